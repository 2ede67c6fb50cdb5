import Derived.StillTailTactics
import Derived.Test.YtohfadegildnaaaQSB
import Derived.Test.YtohfadegildnaaaQSA
set_option linter.all false
set_option maxRecDepth 100000
namespace Go.Proofs.Ytohfadegildnaaa
open Go.RowKit
theorem qAE {P:Program} {fn:Func} {p q:Tmp} {ty ty2:TypeId} (h:fn.results=#[.cell p ty,.cell q ty2]) (tmps:Array Value) (w:World) (g:Nat) (t:TypeId) (cs:Array Value) (fr:Nat × Nat) (d:TypeDesc)
 (hp:tmps.getD p undef=.pointer (some ⟨g,0,none⟩)) (hg:w.heap[g]? = some (.cells cs t fr))
 (hu:P.underlying ty=some d) (hd:(match d with | .struct _ | .array _ _=>true | _=>false)=true) (hi:(P.info? ty).map (·.size)=some cs.size)
 (g2:Nat) (t2:TypeId) (cs2:Array Value) (fr2:Nat × Nat) (d2:TypeDesc)
 (hp2:tmps.getD q undef=.pointer (some ⟨g2,0,none⟩)) (hg2:w.heap[g2]? = some (.cells cs2 t2 fr2))
 (hu2:P.underlying ty2=some d2) (hd2:(match d2 with | .struct _ | .array _ _=>true | _=>false)=true) (hi2:(P.info? ty2).map (·.size)=some cs2.size) :
 (results fn tmps).run P w=.ok (.tuple #[.agg cs,.agg cs2]) w:=by
 have hp':tmps[p]?.getD undef=.pointer (some ⟨g,0,none⟩):=by simpa using hp
 have hp2':tmps[q]?.getD undef=.pointer (some ⟨g2,0,none⟩):=by simpa using hp2
 simp [results,h,hp',hp2',asAddr,run_loadVar_row w g t ty cs fr d hg hu hd hi,run_loadVar_row w g2 t2 ty2 cs2 fr2 d2 hg2 hu2 hd2 hi2]
theorem qA6 (x y:Value):(Try.prog.info? 29).map (·.size)=some #[x,y].size:=by kernel_rfl
theorem qA9 (e p:Int):(#[Value.int .i64 e,Value.int .i64 p].all (·.oneCell'))=true:=by simp [Value.oneCell']
structure Btw (w:World) (lo hi:Nat) (A:Option Addr) (n c:Nat) (is:List Itm):Prop where
 cp:Cp A n c
 hi_:hi≤w.heap.size
 len:(itsV is).length=n * 2
 rd:0 < n→∃ ad,A=some ad∧lo≤ad.block∧ad.block < hi∧∀ j u,(itsV is)[j]? = some u→w.cell? (ad.add j)=some u
 sm:n≤36000000000000
 ri:∀ i ∈ is,RI i
theorem Btw.its {w:World} {lo hi:Nat} {A:Option Addr} {n c:Nat} {is:List Itm} (h:Btw w lo hi A n c is):Its w A n is:=
 ⟨⟨h.len,fun h0=>by
  obtain ⟨ad,e,-,h2,h3⟩:=h.rd h0;exact ⟨ad,e,Nat.lt_of_lt_of_le h2 h.hi_,h3⟩⟩,h.sm,h.ri⟩
theorem Btw.mono {w:World} {lo hi lo' hi':Nat} {A:Option Addr} {n c:Nat} {is:List Itm} (h:Btw w lo hi A n c is) (h1:lo'≤lo) (h2:hi≤hi') (h3:hi'≤w.heap.size):Btw w lo' hi' A n c is:=
 ⟨h.cp,h3,h.len,fun h0=>by
  obtain ⟨ad,e,a,b,d⟩:=h.rd h0;exact ⟨ad,e,Nat.le_trans h1 a,Nat.lt_of_lt_of_le b h2,d⟩,h.sm,h.ri⟩
theorem Btw.keep {w w':World} {lo hi:Nat} {A:Option Addr} {n c:Nat} {is:List Itm} (h:Btw w lo hi A n c is) (hs:w.heap.size≤w'.heap.size) (hk:∀ k,lo≤k→k < hi→w'.heap[k]? = w.heap[k]?):Btw w' lo hi A n c is:=
 ⟨h.cp,Nat.le_trans h.hi_ hs,h.len,fun h0=>by
  obtain ⟨ad,e,a,b,d⟩:=h.rd h0;refine ⟨ad,e,a,b,fun j u hu=>?_⟩;rw [← d j u hu];unfold World.cell?;rw [qA7,hk _ a b],h.sm,h.ri⟩
theorem Btw.below {w w':World} {lo hi B:Nat} {A:Option Addr} {n c:Nat} {is:List Itm} (h:Btw w lo hi A n c is) (hb:Below B w w') (hB:hi≤B):Btw w' lo hi A n c is:=
 h.keep hb.size fun k _ hk=>hb.block k (Nat.lt_of_lt_of_le hk hB)
theorem Btw.set {w:World} {lo hi:Nat} {A:Option Addr} {n c:Nat} {is:List Itm} (h:Btw w lo hi A n c is) {f:Nat} (hf:f < lo∨hi≤f) (j:Nat) (v:Value):Btw (w.setCell ⟨f,j,none⟩ v) lo hi A n c is:=
 h.keep (by simp) fun k h1 h2=>heap_setCell_other w ⟨f,j,none⟩ k v (by show k≠f; omega)
theorem Btw.row {w:World} {lo hi:Nat} {A:Option Addr} {n c:Nat} {is:List Itm} (h:Btw w lo hi A n c is) {f:Nat} (hf:f < lo∨hi≤f) (cs:Array Value):Btw (w.setRow f cs) lo hi A n c is:=
 h.keep ((Below.refl 0 w).setRow (Nat.zero_le f) cs).size fun k h1 h2=>setRow_other w f k cs (by omega)
theorem Btw.of_own {w:World} {base:Nat} {A:Option Addr} {n c:Nat} {is:List Itm} (h:OwnI w base A n c is):Btw w base w.heap.size A n c is:=by
 have h0:=h.1.1
 refine ⟨?_,Nat.le_refl _,h0,fun hn=>?_,Nat.le_trans h.2.1 (by omega),h.2.2⟩
 · rcases h.1.2 with ⟨e,rfl⟩ | ⟨g',cap,cur,e,_,_,hc,_⟩
   · cases e; exact Cp.nil
   · cases e; exact Cp.some hc
 · rcases h.1.2 with ⟨_,rfl⟩ | ⟨g',cap,cur,e,hb,hg,_⟩
   · exact absurd hn (Nat.lt_irrefl _)
   · cases e
     exact ⟨_,rfl,hb,(Array.getElem?_eq_some_iff.1 hg).1,h.1.cells rfl⟩
section
variable {w W W':World} {g:Nat} {b:Int} {l:Bool} {x y z:Value}
end
theorem Btw.num {w:World} {lo hi:Nat} {A:Option Addr} {n c:Nat} {is:List Itm} (h:Btw w lo hi A n c is):is.length=n:=by
 have:=h.len; rw [qBU] at this; omega
section
variable {w W W':World} {g:Nat} {V2:Array Value} {e p:Int}
end
theorem own_cp {w:World} {base size m c:Nat} {T:TypeId} {A:Option Addr} {xs:List Value} (h:w.ownsRow base T size (.slice A m c) m xs):Cp A m c:=by
 rcases h.2 with ⟨e,rfl⟩ | ⟨g',cap,cur,e,_,_,hc,_⟩
 · cases e; exact Cp.nil
 · cases e; exact Cp.some hc
end Go.Proofs.Ytohfadegildnaaa

set_option linter.all false
set_option maxRecDepth 100000
namespace Go.Proofs.Ytohfadegildnaaa
open Go.RowKit
open Lib (hid)
theorem qFY {W w0:World} {ops:Array Oper} {rest:List Oper} {o:Oper} {a:Act} {Q:Exit→Act→World→Prop} (hgd:o.guard=none) (s x:Operand) (t:TypeId)
 (ho:o.op=.call { callee:=.builtin .append,args:=#[s,x],argTypes:=#[t,t] }) (ht:Try.prog.underlying t=some (.slice 57))
 (base:Nat) (v:Value) (k:Nat) (xs:List Itm) (hs:a.eval s=v) (hown:W.ownsRow base 57 2 v k (itsV xs)) {lo hi:Nat} (A:Option Addr) (m c:Nat) (ys:List Itm)
 (hx:a.eval x=.slice A m c) (hr:Btw W lo hi A m c ys) (hk:k+m≤1000000000000) (hb:Below base w0 W) (hbase:base≤W.heap.size)
 (h:∀ v' w',Hid (w'.ownsRow base 57 2 v' (k+m) (itsV (xs++ys)))→Hid (Below base w0 w')→wpList Try.prog ops Q rest (a.put o.dst v') w') :
 wpList Try.prog ops Q (o :: rest) a W:=by
 obtain ⟨i0,hi,hz0,hz1,hz2⟩:=info_parts itm_info
 have hl:=hr.num
 cases A with
 | none=>
  obtain rfl:c=0:=hr.cp.2 rfl;obtain rfl:m=0:=by have:=hr.cp.1; omega
  have:ys=[]:=List.eq_nil_of_length_eq_zero hl;subst this;refine wpList_append_own_none hgd s x t ho base 57 i0 2 ht hi v k _ hs hown hx ?_;refine h v W ?_ (hid hb);rw [List.append_nil]; exact hid hown
 | some ad=>
  refine wpList_append_own _ hgd s x t ho base 57 i0 _ 2 16 ht hi hz0 hz1 hz2 rfl (by decide) v k _ hs hown ad m c (itsV ys) hx hr.len ?_ ?_ ?_ ?_ hbase ?_
  · intro j u hu
    have hj:0 < m:=by
     have:=(List.getElem?_eq_some_iff.1 hu).1;rw [hr.len] at this; omega
    obtain ⟨ad',e,_,_,hc⟩:=hr.rd hj;obtain rfl:=Option.some.inj e;exact hc j u hu
  · intro u hu
    obtain ⟨t,_,ht⟩:=List.mem_flatMap.1 hu;simp only [itmV,List.mem_cons,List.not_mem_nil,or_false] at ht
    rcases ht with rfl | rfl <;> rfl
  · unfold maxLen; omega
  · omega
  · intro v' w' h1 h2 _
    refine h v' w' ?_ ?_
    · rw [qFL]; exact hid h1
    · exact hid (hb.grown h2 hbase fun j hj=>(hown.lt j hj).1)
section
variable {w W W':World} {g:Nat}
end
theorem qFP (A0 A1 A3 A4:Option Addr) (n0 c0 n1 c1 n3 c3 n4 c4:Nat) (ng:Bool) (p:NF) (a r z:Int) :
 ((patV (.slice A0 n0 c0) (.slice A1 n1 c1) (.bool ng) (.slice A3 n3 c3) (.slice A4 n4 c4) p (.int .i64 a) (.int .i32 r) (.int .i64 z)).all (·.oneCell'))=true:=by
 simp [patV,Value.oneCell']
end Go.Proofs.Ytohfadegildnaaa
