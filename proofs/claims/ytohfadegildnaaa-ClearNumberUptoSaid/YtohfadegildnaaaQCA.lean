import Derived.Deep.Strs
import Derived.Deep.Slices
import Derived.Test.YtohfadegildnaaaQVE
import Derived.Test.YtohfadegildnaaaQYF
import Derived.Test.YtohfadegildnaaaQKA
import Derived.Test.YtohfadegildnaaaQMA
import Derived.Test.YtohfadegildnaaaQMB
import Derived.Test.YtohfadegildnaaaQSB
set_option linter.all false
set_option maxRecDepth 100000
namespace Go.Proofs.Ytohfadegildnaaa
open Go.RowKit
theorem tx5_8 (d g mi pl pc pm cu e:ByteArray):∀ j,j < 5→tx5 mi pl pc pm cu j=tx8 d g mi pl pc pm cu e (j+2):=by
 intro j hj
 obtain rfl | rfl | rfl | rfl | rfl:j=0∨j=1∨j=2∨j=3∨j=4:=by omega
 all_goals rfl
theorem qBI {z:Int} {d g mi pl pc pm cu e:ByteArray} (h:qD1 z (tx8 d g mi pl pc pm cu e)=true):∀ j,j < 5→(tx5 mi pl pc pm cu j).size≤1000:=by
 intro j hj
 rw [tx5_8 d g mi pl pc pm cu e j hj]
 have:=(qAG.1 ((qAA.1 h).1 (j+2) (by omega))).2.1
 omega
end Go.Proofs.Ytohfadegildnaaa

set_option linter.all false
set_option maxRecDepth 100000
namespace Go.Proofs.Ytohfadegildnaaa
open Go.ChangeShapes Go.WideShapes Go.ChangeAt Go.RowKit Go.Deep
end Go.Proofs.Ytohfadegildnaaa

set_option linter.all false
set_option maxRecDepth 100000
namespace Go.Proofs.Ytohfadegildnaaa
open Go.RowKit Go.ChangeShapes Go.WideShapes Go.ChangeAt Go.Deep
theorem array9 {α:Type} {cs:Array α} (h:cs.size=9):∃ x0 x1 x2 x3 x4 x5 x6 x7 x8,cs=#[x0,x1,x2,x3,x4,x5,x6,x7,x8]:=by
 obtain ⟨l⟩:=cs
 match l,h with
 | [x0,x1,x2,x3,x4,x5,x6,x7,x8],_=>exact ⟨x0,x1,x2,x3,x4,x5,x6,x7,x8,rfl⟩
theorem list9 {α:Type} {cs:List α} (h:cs.length=9):∃ x0 x1 x2 x3 x4 x5 x6 x7 x8,cs=[x0,x1,x2,x3,x4,x5,x6,x7,x8]:=by
 match cs,h with
 | [x0,x1,x2,x3,x4,x5,x6,x7,x8],_=>exact ⟨x0,x1,x2,x3,x4,x5,x6,x7,x8,rfl⟩
theorem qBK {H:Type} {enc:TypeId × Value→H} {W:World} {c:Value} {n:Nat} {y:DataW H × List MemPlace}
 (h:DataW.trod enc Try.prog W 0 (fun _=>true) true n 9 [c]=some y):∃ s:ByteArray,c=.string s∧y.1=.lit (.string s.data.toList):=by
 obtain ⟨s,es,rfl,_⟩:=DataW.trod_string Try.underlying9 h
 simp at es
 exact ⟨s,es,rfl⟩
theorem qH4 {H:Type} {enc:TypeId × Value→H} {W:World} {b0:Nat} {r:Reach} {v:Value} {dd:DataW H} {p:List MemPlace}
 (hv:Value.okWide Try.prog W r b0 23 v) (h:DataW.Trod enc Try.prog W 0 (fun _=>true) true 23 v dd p) :
 ∃ z d g mi pl pc pm cu e,v=.agg #[.int .i32 z,.string d,.string g,.string mi,.string pl,.string pc,.string pm,.string cu,.string e]∧(-2147483648≤z∧z≤2147483647) ∧
  ∃ l0:DataW H,dd=.agg [l0,.lit (.string d.data.toList),.lit (.string g.data.toList),.lit (.string mi.data.toList),.lit (.string pl.data.toList),.lit (.string pc.data.toList),.lit (.string pm.data.toList),.lit (.string cu.data.toList),.lit (.string e.data.toList)]:=by
 obtain ⟨cs,xs,n,rfl,hcz,rfl,hlen,hk⟩:=open_flat Try.underlying23 (by kernel_rfl) hv h
 obtain ⟨x0,x1,x2,x3,x4,x5,x6,x7,x8,rfl⟩:=array9 (hcz.trans (by kernel_rfl))
 obtain ⟨y0,y1,y2,y3,y4,y5,y6,y7,y8,rfl⟩:=list9 (hlen.trans (by kernel_rfl))
 obtain ⟨z0,i0,k0⟩:=hk 0 _ x0 rfl rfl
 obtain ⟨z1,i1,k1⟩:=hk 1 _ x1 rfl rfl
 obtain rfl:y1=z1:=Option.some.inj i1
 obtain ⟨s1,rfl,e1⟩:=qBK k1
 obtain ⟨z2,i2,k2⟩:=hk 2 _ x2 rfl rfl
 obtain rfl:y2=z2:=Option.some.inj i2
 obtain ⟨s2,rfl,e2⟩:=qBK k2
 obtain ⟨z3,i3,k3⟩:=hk 3 _ x3 rfl rfl
 obtain rfl:y3=z3:=Option.some.inj i3
 obtain ⟨s3,rfl,e3⟩:=qBK k3
 obtain ⟨z4,i4,k4⟩:=hk 4 _ x4 rfl rfl
 obtain rfl:y4=z4:=Option.some.inj i4
 obtain ⟨s4,rfl,e4⟩:=qBK k4
 obtain ⟨z5,i5,k5⟩:=hk 5 _ x5 rfl rfl
 obtain rfl:y5=z5:=Option.some.inj i5
 obtain ⟨s5,rfl,e5⟩:=qBK k5
 obtain ⟨z6,i6,k6⟩:=hk 6 _ x6 rfl rfl
 obtain rfl:y6=z6:=Option.some.inj i6
 obtain ⟨s6,rfl,e6⟩:=qBK k6
 obtain ⟨z7,i7,k7⟩:=hk 7 _ x7 rfl rfl
 obtain rfl:y7=z7:=Option.some.inj i7
 obtain ⟨s7,rfl,e7⟩:=qBK k7
 obtain ⟨z8,i8,k8⟩:=hk 8 _ x8 rfl rfl
 obtain rfl:y8=z8:=Option.some.inj i8
 obtain ⟨s8,rfl,e8⟩:=qBK k8
 obtain ⟨z,ez,rfl,wz⟩:=DataW.trod_int Try.underlying21 k0
 simp at ez
 subst ez
 exact ⟨z,s1,s2,s3,s4,s5,s6,s7,s8,rfl,i32_range wz,y0.1,by simp only [List.map_cons,List.map_nil,e1,e2,e3,e4,e5,e6,e7,e8]⟩
end Go.Proofs.Ytohfadegildnaaa

set_option linter.all false
set_option maxRecDepth 100000
namespace Go.Proofs.Ytohfadegildnaaa
theorem qF7 (p:Nat→Bool) (s:ByteArray):∀ (cs:List Nat) (f pos:Nat),allC cs=true→(bts s).drop pos=encs cs→s.size≤pos+f→decide (0≤Lib.idxFuncFrom p true s f pos)=cs.any p
 | [],f,pos,_,hd,_=>by
  have hl:=congrArg List.length hd;rw [List.length_drop,qA0] at hl;have:(encs ([]:List Nat)).length=0:=rfl;rw [Lib.idxFuncFrom_end p true s f pos (by omega)];rfl
 | c :: cs,f,pos,hc,hd,hf=>by
  obtain ⟨h1,h2⟩:=qAR.1 hc;have hl:=congrArg List.length hd;have hp:=qBG c;rw [List.length_drop,qA0,qAC,List.length_append] at hl
  rcases f with _ | f
  · omega
  · rw [Lib.idxFuncFrom,if_pos (by omega),qEK,hd,qAC,dec_enc h1]
    have hd2:(bts s).drop (pos+(encN c).length)=encs cs:=by
     rw [← List.drop_drop,hd,qAC,List.drop_append_of_le_length (Nat.le_refl _),List.drop_length,List.nil_append]
    cases hpc:p c
    · rw [if_neg (by decide),List.any_cons,hpc,Bool.false_or]
      exact qF7 p s cs f (pos+(encN c).length) h2 hd2 (by omega)
    · rw [if_pos rfl,List.any_cons,hpc,Bool.true_or,decide_eq_true (by omega)]
theorem idxF_cps (p:Nat→Bool) {s:ByteArray} (h:rst (bts s)=[]):decide (0≤Lib.idxFunc p true s)=(cps (bts s)).any p:=
 qF7 p s (cps (bts s)) s.size 0 (qBT (bts s) (qAF s)).2.1 (by rw [List.drop_zero]; exact qCE (qAF s) h) (by omega)
theorem scan_app {l:List Nat} (hb:∀ b ∈ l,b < 256) (h:rst l=[]) (t:List Nat):cps (l++t)=cps l++cps t∧rst (l++t)=rst t:=by
 have:=qE5 (qBT l hb).2.1 t
 rwa [← qCE hb h] at this
def Vt (t:ByteArray):Prop:=rst (bts t)=[]
theorem qF8 {s t:ByteArray} (hs:Vt s) (ht:Vt t):Vt (s++t)∧cps (bts (s++t))=cps (bts s)++cps (bts t):=by
 have:=scan_app (qAF s) hs (bts t)
 unfold Vt
 rw [qCH]
 exact ⟨this.2.trans ht,this.1⟩
theorem txI_rst {tx:Nat→ByteArray} (hg:∀ j,j < 5→Vt (tx j)):∀ {is:List Itm},is.all mayI=true→rst (txI tx is)=[]
 | [],_=>rfl
 | i :: is,h=>by
  obtain ⟨h1,h2⟩:=(Bool.and_eq_true _ _).mp (by simpa only [List.all_cons] using h:(mayI i && is.all mayI)=true);have ih:=txI_rst hg h2
  show rst (itT tx i++txI tx is)=[]
  obtain ⟨x,hx,rfl⟩ | ⟨j,hj,rfl⟩:=qDM h1
  · rw [qH3,(qEZ hx _).2]; exact ih
  · rw [qF6,(scan_app (qAF _) (hg j hj) _).2]; exact ih
def txtI (tx:Nat→ByteArray) (is:List Itm):ByteArray:=stz (txI tx is)
theorem qBL {tx:Nat→ByteArray} (hg:∀ j,j < 5→Vt (tx j)) (hs:∀ j,j < 5→(tx j).size≤1000) {is:List Itm} (h:is.all mayI=true):Vt (txtI tx is)∧(txtI tx is).size≤1000 * is.length:=by
 have hl:=qFX hs h
 constructor
 · show rst (bts (stz _))=[]
   rw [qAS hl.2]; exact txI_rst hg h
 · rw [txtI,qAK]; exact hl.1
theorem good_vt {z:Int} {d g mi pl pc pm cu e:ByteArray} (h:qD1 z (tx8 d g mi pl pc pm cu e)=true):(∀ j,j < 5→Vt (tx5 mi pl pc pm cu j))∧Vt d∧Vt g∧Vt mi∧Vt pl∧Vt e:=by
 have H:∀ k,k < 8→Vt (tx8 d g mi pl pc pm cu e k):=fun k hk=>(qAG.1 ((qAA.1 h).1 k hk)).2.2
 refine ⟨fun j hj=>?_,H 0 (by omega),H 1 (by omega),H 2 (by omega),H 3 (by omega),H 7 (by omega)⟩
 rw [tx5_8 d g mi pl pc pm cu e j hj]; exact H _ (by omega)
def sfx (s t:ByteArray):Bool:=Lib.hasSuffix s.data.toList t.data.toList
theorem sfx_eq (s t:ByteArray):sfx s t=(decide (t.size≤s.size) && ((s.extract (s.size - t.size) s.size).toList == t.toList)):=by
 have e1:s.data.toList.length=s.size:=by rw [Array.length_toList]; rfl
 have e2:t.data.toList.length=t.size:=by rw [Array.length_toList]; rfl
 rw [qAD,qDL,Bool.eq_iff_iff,Bool.and_eq_true,decide_eq_true_iff,decide_eq_true_iff]
 unfold sfx Lib.hasSuffix
 rw [List.isSuffixOf_iff_suffix,List.suffix_iff_eq_drop,e1,e2]
 have e3:(bts s).drop (s.size - t.size)=bts t↔t.data.toList=s.data.toList.drop (s.size - t.size):=by
  show (s.data.toList.map UInt8.toNat).drop _=t.data.toList.map UInt8.toNat↔_
  rw [← List.map_drop,List.map_inj_right (fun x y h=>UInt8.toNat_inj.1 h)];exact eq_comm
 rw [e3]
 refine ⟨fun h=>⟨?_,h⟩,fun h=>h.2⟩
 have:=congrArg List.length h
 rw [List.length_drop,e1,e2] at this
 omega
def ntk (Z:Nat) (at_ pad:Int) (r:Nat):Bool:=inS Z r || (decide (at_≠0) && decide ((r:Int)=pad))
def nfr (Z:Nat) (at_ pad:Int) (t:ByteArray):Bool:=(cps (bts t)).any (ntk Z at_ pad)
def clr (Z:Nat) (at_ pad:Int) (a b c e D G M P E:ByteArray):Bool:=
 !([a,b,c,e,D,G,M,P,E].any (nfr Z at_ pad)) && (!(decide (at_≠0) && inS Z pad.toNat) && ((!decide (bts a=bts c) || !decide (bts b=bts e)) && (!sfx a D && (!sfx c D && (!decide (bts G=bts D) && !decide (bts P=bts M))))))
end Go.Proofs.Ytohfadegildnaaa
