import Derived.Test.YtohfadegildnaaaQSB
import Derived.Test.YtohfadegildnaaaQCA
import Derived.Test.YtohfadegildnaaaQSD
import Derived.Test.YtohfadegildnaaaQVE
import Derived.Test.YtohfadegildnaaaQNO
set_option linter.all false
set_option maxRecDepth 100000
namespace Go.Proofs.Ytohfadegildnaaa
open Go.RowKit
open Lib (hid)
def cntL (k:Int) (L:List (Option Addr × Nat × Nat × List Itm)) (j:Nat):Nat:=((L.take j).map fun s=>s.2.2.2.countP (ofK k)).sum
theorem cntL_succ {k:Int} {L:List (Option Addr × Nat × Nat × List Itm)} {j:Nat} (h:j < L.length):cntL k L (j+1)=cntL k L j+L[j].2.2.2.countP (ofK k):=by
 unfold cntL
 rw [List.take_succ_eq_append_getElem h,List.map_append,List.sum_append]; simp
theorem cntP_take {P:Itm→Bool} {is:List Itm} {k:Nat} (h:k < is.length):(is.take (k+1)).countP P=(is.take k).countP P+(if P is[k] then 1 else 0):=by
 rw [List.take_succ_eq_append_getElem h,List.countP_append]; simp [List.countP_cons]
set_option maxHeartbeats 4000000 in
theorem signs_c (k:Int) (PV:Array Value) (i0 i1 i3 i4:List Itm) (w:World) (h:Aff w PV i0 i1 i3 i4) :
 Calls Try.prog 18 #[.agg PV,.int .i64 k] w fun x w'=>∃ n:Nat,x=.returned (.int .i64 (n:Int))∧Hid (0 < n↔anyK k i0 i1 i3 i4=true)∧Below w.heap.size w w':=by
 have HAF:=hid h
 obtain ⟨hsz,⟨A0,n0,c0,e0,-,-⟩,⟨A1,n1,c1,e1,-,-⟩,⟨A3,n3,c3,e3,-,-⟩,⟨A4,n4,c4,e4,-,-⟩⟩:=h
 have HE:=hid (And.intro e0 (And.intro e1 (And.intro e3 e4)))
 have hbx0:=BX.new w PV 26
 have HB0:=hid (qB3 w (.cells PV 26))
 have HAW:=hid (HAF.out.below HB0.out)
 clear e0 e1 e3 e4 hsz
 go_enter Try.func18,Try.ntmps18
 go_upto_region 1 with fail
 generalize w.alloc (.cells PV 26)=W at *
 generalize hg:w.heap.size=g at *
 have HGe:=hid hg
 have HLE:=hid (show g≤W.heap.size from hg ▸ HB0.out.size)
 clear hg
 have d0:=(hbx0.c 0).trans HE.out.1
 have d1:=(hbx0.c 1).trans HE.out.2.1
 have d3:=(hbx0.c 3).trans HE.out.2.2.1
 have d4:=(hbx0.c 4).trans HE.out.2.2.2
 have HSL:Hid (Sls (W.alloc (.cells #[.slice A0 n0 c0,.slice A1 n1 c1,.slice A3 n3 c3,.slice A4 n4 c4] 24)) W.heap.size [(A0,n0,c0,i0),(A1,n1,c1,i1),(A3,n3,c3,i3),(A4,n4,c4,i4)]):=hid (by
  obtain ⟨-,⟨X0,m0,l0,f0,g0,z0⟩,⟨X1,m1,l1,f1,g1,z1⟩,⟨X3,m3,l3,f3,g3,z3⟩,⟨X4,m4,l4,f4,g4,z4⟩⟩:=HAW.out;have r0:=HE.out.1.symm.trans f0;have r1:=HE.out.2.1.symm.trans f1;have r3:=HE.out.2.2.1.symm.trans f3;have r4:=HE.out.2.2.2.symm.trans f4;simp only [Option.some.injEq,Value.slice.injEq] at r0 r1 r3 r4;obtain ⟨rfl,rfl,rfl⟩:=r0;obtain ⟨rfl,rfl,rfl⟩:=r1;obtain ⟨rfl,rfl,rfl⟩:=r3;obtain ⟨rfl,rfl,rfl⟩:=r4;have hn:=BX.new W #[.slice A0 n0 c0,.slice A1 n1 c1,.slice A3 n3 c3,.slice A4 n4 c4] 24;have hb:=qB3 W (.cells #[.slice A0 n0 c0,.slice A1 n1 c1,.slice A3 n3 c3,.slice A4 n4 c4] 24);exact ⟨hn.lt,fun j hj=>by
   have:j=0∨j=1∨j=2∨j=3:=by simp at hj; omega
   rcases this with rfl | rfl | rfl | rfl
   · exact ⟨hn.c 0,g0.below hb,z0⟩
   · exact ⟨hn.c 1,g1.below hb,z1⟩
   · exact ⟨hn.c 2,g3.below hb,z3⟩
   · exact ⟨hn.c 3,g4.below hb,z4⟩⟩)
 have HBn:=hid (qB3 W (.cells #[.slice A0 n0 c0,.slice A1 n1 c1,.slice A3 n3 c3,.slice A4 n4 c4] 24))
 have HRES:Hid (0 < cntL k [(A0,n0,c0,i0),(A1,n1,c1,i1),(A3,n3,c3,i3),(A4,n4,c4,i4)] 4↔anyK k i0 i1 i3 i4=true):=hid (by
  have hp:∀ is:List Itm,0 < is.countP (ofK k)↔is.any (ofK k)=true:=fun is=>by rw [List.countP_pos_iff,List.any_eq_true]
  have e:cntL k [(A0,n0,c0,i0),(A1,n1,c1,i1),(A3,n3,c3,i3),(A4,n4,c4,i4)] 4=i0.countP (ofK k)+(i1.countP (ofK k)+(i3.countP (ofK k)+i4.countP (ofK k))):=by simp [cntL]
  rw [e];simp only [anyK,Bool.or_eq_true,← hp];omega)
 clear hbx0
 go_upto_region 3 with fail
 have hgn:W.heap.size < (W.alloc (.cells #[.slice A0 n0 c0,.slice A1 n1 c1,.slice A3 n3 c3,.slice A4 n4 c4] 24)).heap.size:=by simp
 generalize W.alloc (.cells #[.slice A0 n0 c0,.slice A1 n1 c1,.slice A3 n3 c3,.slice A4 n4 c4] 24)=W2 at *
 generalize hL : [(A0,n0,c0,i0),(A1,n1,c1,i1),(A3,n3,c3,i3),(A4,n4,c4,i4)]=L at *
 have hL4:L.length=4:=by rw [← hL]; rfl
 have HL:=hid hL4
 clear hL hL4 d0 d1 d3 d4
 go_loopw [5,19] (fun s5 iv wr=>∃ (j:Nat),j≤4∧iv=.int .i64 (j:Int)∧s5=.int .i64 ((cntL k L j:Nat):Int)∧cntL k L j≤j * 36000000000000∧wr=W2) (fun _ iv _=>4 - (intOf iv).toNat)
 case atStart=>exact ⟨0,by omega,rfl,rfl,Nat.zero_le _,rfl⟩
 case round=>
  obtain ⟨j,hj,rfl,rfl,hcb,hwr⟩:=hrel;obtain rfl:W2=wr:=hwr.symm
  by_cases hlt:j < 4
  · have hjs:j < L.length:=by rw [HL.out]; exact hlt
    obtain ⟨c0,hits,-⟩:=HSL.out.at_ j hjs;have HIT:=hid hits;have HCS:=hid (cntL_succ (k:=k) hjs);have hX2:=hits.2.1;have hXl:=hits.len;clear hits;generalize L[j].1=X1 at *;generalize L[j].2.1=X2 at *;generalize L[j].2.2.1=X3 at *;generalize L[j].2.2.2=is at *;have hcj:cntL k L j≤144000000000000:=by omega
    generalize cntL k L j=cj at *;have HXL:=hid hXl;clear hXl
    go_wp2
    go_loopw [5,8] (fun s5 i8 wq=>∃ (q:Nat),q≤X2∧i8=.int .i64 (q:Int)∧s5=.int .i64 ((cj+(is.take q).countP (ofK k):Nat):Int)∧wq=W2) (fun _ i8 _=>X2 - (intOf i8).toNat)
    case atStart=>exact ⟨0,Nat.zero_le _,rfl,by simp,rfl⟩
    case round=>
     obtain ⟨q,hq,rfl,rfl,hwq⟩:=hrel;obtain rfl:W2=wr:=hwq.symm
     by_cases hqx:q < X2
     · have hqs:q < is.length:=by rw [HXL.out]; exact hqx
       obtain ⟨ad,rfl,hb,k0,k1,-⟩:=HIT.out.at_ hqx;rw [im_eq hqs] at k0 k1;have HT:=hid (cntP_take (P:=ofK k) hqs);have hcnt:(is.take q).countP (ofK k)≤X2:=Nat.le_trans List.countP_le_length (by rw [List.length_take]; omega);have HP:Hid (ofK k is[q]=(is[q].1 == k)):=hid rfl;generalize is[q]=u at *;obtain ⟨ux,uy⟩:=u;dsimp only at *
       by_cases hk:ux=k
       · have g1:(ux == k)=true:=by simpa using hk
         clear hk;generalize (is.take q).countP (ofK k)=cq at *
         go_wp2
         go_roundw
         case rel=>exact ⟨q+1,by omega,by go_num,by rw [HT.out,HP.out,g1]; simp; go_num,by trivial⟩
         case measure=>simp [intOf]; omega
       · have g1:(ux == k)=false:=by simpa using hk
         clear hk;generalize (is.take q).countP (ofK k)=cq at *
         go_wp2
         go_roundw
         case rel=>exact ⟨q+1,by omega,by go_num,by rw [HT.out,HP.out,g1]; simp,by trivial⟩
         case measure=>simp [intOf]; omega
     · obtain rfl:q=X2:=by omega
       have hte:is.take q=is:=List.take_of_length_le (by rw [HXL.out]; exact Nat.le_refl _);have hcnt:is.countP (ofK k)≤q:=Nat.le_trans List.countP_le_length (by rw [HXL.out]; exact Nat.le_refl _);rw [hte];clear hte
       go_wp2
       go_roundw
       case rel=>exact ⟨j+1,by omega,by go_num,by rw [HCS.out],by rw [HCS.out]; omega,by trivial⟩
       case measure=>simp [intOf]; omega
  · obtain rfl:j=4:=by omega
    go_wp2
    go_ret
    exact ⟨_,rfl,HRES,HGe.out ▸ HB0.out.trans (HBn.out.mono HLE.out)⟩
open Go.RowKit Go.ChangeShapes Go.WideShapes Go.ChangeAt Go.Deep
def Ptv (w:World) (PV:Array Value) (p:Pt):Prop:=∃ A0 n0 c0 A1 n1 c1 A3 n3 c3 A4 n4 c4,
 PV=patV (.slice A0 n0 c0) (.slice A1 n1 c1) (.bool p.neg) (.slice A3 n3 c3) (.slice A4 n4 c4) p.num (.int .i64 p.at_) (.int .i32 p.pad) (.int .i64 ((p.width:Nat):Int)) ∧
 Its w A0 n0 p.pre∧Its w A1 n1 p.suf∧Its w A3 n3 p.npre∧Its w A4 n4 p.nsuf
theorem Ptv.below {w w':World} {PV:Array Value} {p:Pt} (h:Ptv w PV p) (hb:Below w.heap.size w w'):Ptv w' PV p:=by
 obtain ⟨A0,n0,c0,A1,n1,c1,A3,n3,c3,A4,n4,c4,e,h0,h1,h3,h4⟩:=h
 exact ⟨A0,n0,c0,A1,n1,c1,A3,n3,c3,A4,n4,c4,e,h0.below hb,h1.below hb,h3.below hb,h4.below hb⟩
end Go.Proofs.Ytohfadegildnaaa

set_option linter.all false
set_option maxRecDepth 100000
namespace Go.Proofs.Ytohfadegildnaaa
open Go.RowKit
section
variable {P:Program} {ops:Array Oper} {Q:Exit→Act→World→Prop} {md:Region.Mode} {S:World→Prop}
theorem ql (i:Nat) {oi:Oper} {r:List Oper} {fuel:Nat} {listed:Array Bool} {a:Act} {w:World} {ty t:TypeId} {x:Operand} {g:Nat} {cs:Array Value} {fr:Nat × Nat} {d:TypeDesc} (hS:S w)
 (hg:∀ w,S w→w.heap[g]? = some (.cells cs t fr)) (hu:P.underlying ty=some d) (hz:(P.info? ty).map (·.size)=some cs.size)
 (h:wpAnyH P md ops Q S fuel (listed.setIfInBounds i true) (a.put oi.dst (.agg cs)) w) (hi:ops.toList.drop i=oi :: r:=by rfl) (ho:oi.op=.load ty x:=by rfl) (hx:a.eval x=.pointer (some ⟨g,0,none⟩):=by rfl)
 (hd:(match d with | .struct _ | .array _ _=>true | _=>false)=true:=by rfl)
 (hs:Region.noSelect ops=true:=by kernel_rfl) (hf:Region.free md ops listed i=true:=by kernel_rfl) (hr:(Region.ready md ops listed).contains i=true:=by kernel_rfl)
 (hQ:∀ c a w,Q (.panic c) (a.put oi.dst (.agg cs)) w→Q (.panic c) a w:=by exact fun _ _ _ h=>h) (hw:Region.wanted oi (yielded ops a.tmps)=true:=by rfl):wpAnyH P md ops Q S (fuel+1) listed a w:=
 qCB i hi hs hf hr hQ hw (fun w' hS'=>qE7 ty x ho g hx t cs fr d (hg w' hS') hu hd hz) hS h
theorem qk (i:Nat) {o:Oper} {r:List Oper} {fuel:Nat} {listed:Array Bool} {a:Act} {w:World} {f:FuncId} {args:Array Value} {v:Value} {R:World→Prop}
 (C:Calls P f args w fun e w'=>e=.returned v∧R w') (hS:∀ w',R w'→S w') (h:∀ w',S w'→R w'→wpAnyH P md ops Q S fuel (listed.setIfInBounds i true) (a.put o.dst v) w')
 (hr:Region.ready md ops listed=[i]:=by kernel_rfl) (ho:ops.toList.drop i=o :: r:=by rfl) (hw:Region.wanted o (yielded ops a.tmps)=true:=by rfl)
 (he:(execOp a.eval o).run P w=.ok (.enter f args) w:=by (go_simp; try with_reducible rfl)):wpAnyH P md ops Q S (fuel+1) listed a w:=by
 refine step_at i hr ho hw fun K hK=>?_
 unfold Oper.wp
 rw [he,Oper.upon_enter]
 refine C.mono ?_
 rintro e w' ⟨rfl,hR⟩
 exact hK _ _ (hS w' hR) fun hS'=>h w' hS' hR
end
end Go.Proofs.Ytohfadegildnaaa
