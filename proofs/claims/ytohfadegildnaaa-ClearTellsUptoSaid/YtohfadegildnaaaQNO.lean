import Derived.WalkKit
import Derived.Deep.RegionHeld3
import Derived.Shelf.Strings.FuncGrows
import Derived.Shelf.Strings.Replace
import Derived.Shelf.Strings.Repeat
import Derived.Shelf.Strings.LastIndex
import Derived.Shelf.Strings.Prefix
import Derived.Shelf.Strings.Trim
import Derived.WalkMore
import Derived.Deep.Strs
import Derived.Deep.DeepCutAuto
import Derived.Test.YtohfadegildnaaaRows
import Derived.Test.YtohfadegildnaaaQMC
import Derived.Test.YtohfadegildnaaaQShelf
import Derived.Test.YtohfadegildnaaaQMB
set_option linter.all false
set_option maxRecDepth 100000
namespace Go.Proofs.Ytohfadegildnaaa
open Go.RowKit
section
variable {P:Program} {ops:Array Oper} {Q:Exit→Act→World→Prop} {md:Region.Mode} {S:World→Prop}
theorem qCR {i:Nat} {oi:Oper} {r:List Oper} (hi:ops.toList.drop i=oi :: r):ops[i]? = some oi:=by
 rw [← Array.getElem?_toList,← Nat.add_zero i,← List.getElem?_drop,hi]; rfl
theorem qCB (i:Nat) {oi:Oper} {r:List Oper} {v:Value} {fuel:Nat} {listed:Array Bool} {a:Act} {w:World} (hi:ops.toList.drop i=oi :: r)
 (hs:Region.noSelect ops=true) (hf:Region.free md ops listed i=true) (hr:(Region.ready md ops listed).contains i=true)
 (hQ:∀ c a w,Q (.panic c) (a.put oi.dst v) w→Q (.panic c) a w) (hw:Region.wanted oi (yielded ops a.tmps)=true) (hy:∀ w,S w→(execOp a.eval oi).run P w=.ok (.value v) w) (hS:S w)
 (h:wpAnyH P md ops Q S fuel (listed.setIfInBounds i true) (a.put oi.dst v) w):wpAnyH P md ops Q S (fuel+1) listed a w:=
 wpAnyH_take (qCR hi) hs hf hr hQ (.inl ⟨hw,hy⟩) hS h
theorem skip_at (i:Nat) {oi:Oper} {r:List Oper} {fuel:Nat} {listed:Array Bool} {a:Act} {w:World} (hi:ops.toList.drop i=oi :: r)
 (hs:Region.noSelect ops=true) (hf:Region.free md ops listed i=true) (hr:(Region.ready md ops listed).contains i=true)
 (hQ:∀ c a w,Q (.panic c) (a.put oi.dst undef) w→Q (.panic c) a w) (hw:Region.wanted oi (yielded ops a.tmps)=false) (hS:S w)
 (h:wpAnyH P md ops Q S fuel (listed.setIfInBounds i true) (a.put oi.dst undef) w):wpAnyH P md ops Q S (fuel+1) listed a w:=
 wpAnyH_take (qCR hi) hs hf hr hQ (.inr ⟨hw,rfl⟩) hS h
theorem step_at (i:Nat) {o:Oper} {r:List Oper} {fuel:Nat} {listed:Array Bool} {a:Act} {w:World} (hr:Region.ready md ops listed=[i]) (ho:ops.toList.drop i=o :: r) (hw:Region.wanted o (yielded ops a.tmps)=true)
 (h:∀ K':Act→World→Prop,Shut (∀ a w,S w→(S w→wpAnyH P md ops Q S fuel (listed.setIfInBounds i true) a w)→K' a w)→Oper.wp P o a w K' Q):wpAnyH P md ops Q S (fuel+1) listed a w:=
 wpAnyH_ready hr (by simp) (AllReadyH.cons (qCR ho) (fun K hK=>by rw [if_pos hw]; exact h K hK) AllReadyH.nil)
theorem qs (i:Nat) {oi:Oper} {r:List Oper} {fuel:Nat} {listed:Array Bool} {a:Act} {w:World} (hS:S w)
  (h:wpAnyH P md ops Q S fuel (listed.setIfInBounds i true) (a.put oi.dst undef) w) (hi:ops.toList.drop i=oi :: r:=by rfl)
  (hs:Region.noSelect ops=true:=by kernel_rfl) (hf:Region.free md ops listed i=true:=by kernel_rfl) (hr:(Region.ready md ops listed).contains i=true:=by kernel_rfl)
  (hQ:∀ c a w,Q (.panic c) (a.put oi.dst undef) w→Q (.panic c) a w:=by exact fun _ _ _ h=>h) (hw:Region.wanted oi (yielded ops a.tmps)=false:=by rfl):wpAnyH P md ops Q S (fuel+1) listed a w:=skip_at i hi hs hf hr hQ hw hS h
theorem qp (i:Nat) {o:Oper} {r:List Oper} {fuel:Nat} {listed:Array Bool} {a:Act} {w:World}
  (h:∀ K':Act→World→Prop,Shut (∀ a w,S w→(S w→wpAnyH P md ops Q S fuel (listed.setIfInBounds i true) a w)→K' a w)→Oper.wp P o a w K' Q)
  (hr:Region.ready md ops listed=[i]:=by kernel_rfl) (ho:ops.toList.drop i=o :: r:=by rfl) (hw:Region.wanted o (yielded ops a.tmps)=true:=by rfl):wpAnyH P md ops Q S (fuel+1) listed a w:=step_at i hr ho hw h
theorem qw (i:Nat) {oi:Oper} {r:List Oper} {v:Value} {fuel:Nat} {listed:Array Bool} {a:Act} {w:World} (hS:S w)
  (h:wpAnyH P md ops Q S fuel (listed.setIfInBounds i true) (a.put oi.dst v) w) (hi:ops.toList.drop i=oi :: r:=by rfl)
  (hs:Region.noSelect ops=true:=by kernel_rfl) (hf:Region.free md ops listed i=true:=by kernel_rfl) (hr:(Region.ready md ops listed).contains i=true:=by kernel_rfl)
  (hQ:∀ c a w,Q (.panic c) (a.put oi.dst v) w→Q (.panic c) a w:=by exact fun _ _ _ h=>h) (hw:Region.wanted oi (yielded ops a.tmps)=true:=by rfl)
  (hy:∀ w,S w→(execOp a.eval oi).run P w=.ok (.value v) w:=by
   intro w hSw
   try dsimp only at hSw
   go_simp
   try rw [if_neg (by omega)]
   try rw [if_pos (by omega)]
   try with_reducible rfl):wpAnyH P md ops Q S (fuel+1) listed a w:=qCB i hi hs hf hr hQ hw hy hS h
theorem qt (i:Nat) {oi:Oper} {r:List Oper} {v:Value} {fuel:Nat} {listed:Array Bool} {a:Act} {w:World} (hS:S w)
  (h:wpAnyH P md ops Q S fuel (listed.setIfInBounds i true) (a.put oi.dst v) w) (hi:ops.toList.drop i=oi :: r:=by rfl)
  (hs:Region.noSelect ops=true:=by kernel_rfl) (hf:Region.free md ops listed i=true:=by kernel_rfl) (hr:(Region.ready md ops listed).contains i=true:=by kernel_rfl)
  (hQ:∀ c a w,Q (.panic c) (a.put oi.dst v) w→Q (.panic c) a w:=by exact fun _ _ _ h=>h) (hw:Region.wanted oi (yielded ops a.tmps)=true:=by rfl)
  (hy:∀ w,S w→(execOp a.eval oi).run P w=.ok (.value v) w:=by
   intro w hSw
   try dsimp only at hSw
   go_simp
   try with_reducible rfl):wpAnyH P md ops Q S (fuel+1) listed a w:=qCB i hi hs hf hr hQ hw hy hS h
end
end Go.Proofs.Ytohfadegildnaaa

set_option linter.all false
set_option maxRecDepth 100000
namespace Go.Proofs.Ytohfadegildnaaa
open Go.RowKit
theorem qEW (A:Nat→Bool) (l:List Nat):(l.dropWhile A).length≤l.length:=(List.dropWhile_sublist _).length_le
theorem dw_all {A:Nat→Bool} (l:List Nat):(l.dropWhile A).isEmpty=l.all A:=by
 induction l with
 | nil=>rfl
 | cons x t ih=>
  rw [List.dropWhile_cons,List.all_cons]
  cases A x
  · rfl
  · rw [if_pos rfl,ih]; rfl
section
variable {w0 W:World} {g:Nat} {m:ByteArray} {sc:Bool} {ex wh fr:ByteArray} {pt:Bool} {ba:ByteArray}
end
theorem qB3 (w:World) (o:Obj):Below w.heap.size w (w.alloc o):=(Below.refl _ _).alloc (Nat.le_refl _) _
theorem qBH (s:ByteArray):s.toList.isEmpty=(bts s).isEmpty:=by
 rw [qAO,← qA0]
 cases bts s <;> rfl
end Go.Proofs.Ytohfadegildnaaa
set_option maxRecDepth 100000
namespace Go.Proofs.Ytohfadegildnaaa
open Go.RowKit
theorem up_lt {c:Nat} {l:List Nat} (h:∀ b ∈ l,b < 256):∀ b ∈ upA c l,b < 256:=fun b hb=>h b ((List.takeWhile_sublist _).subset hb)
theorem dn_lt {c:Nat} {l:List Nat} (h:∀ b ∈ l,b < 256):∀ b ∈ dnA c l,b < 256:=fun b hb=>h b ((List.dropWhile_sublist _).subset (List.mem_of_mem_drop hb))
theorem up_len (c:Nat) (l:List Nat):(upA c l).length≤l.length:=(List.takeWhile_sublist _).length_le
theorem dn_len (c:Nat) (l:List Nat):(dnA c l).length≤l.length:=by
 unfold dnA
 rw [List.length_drop]
 have:=qEW (· != c) l
 omega
section
variable {w0 W:World} {r h:Nat} {T:TypeId} {zs vs:Array Value}
end
end Go.Proofs.Ytohfadegildnaaa

set_option linter.all false
set_option maxRecDepth 100000
namespace Go.Proofs.Ytohfadegildnaaa
open Go.RowKit
theorem qA3 (x0 x1 x2 x3 x4:Value) (p:NF) (y0 y1 y2:Value):(Try.prog.info? 26).map (·.size)=some (patV x0 x1 x2 x3 x4 p y0 y1 y2).size:=by
 rw [show (patV x0 x1 x2 x3 x4 p y0 y1 y2).size=20 from rfl]
 kernel_rfl
def patN (p:NF):Array Value:=patV (.slice none 0 0) (.slice none 0 0) (.bool false) (.slice none 0 0) (.slice none 0 0) p (.int .i64 0) (.int .i32 0) (.int .i64 0)
def patZ:Array Value:=#[.slice none 0 0,.slice none 0 0,.bool false,.slice none 0 0,.slice none 0 0,.int .i64 0,.int .i64 0,.int .i64 0,.int .i64 0,.int .i64 0,.int .i64 0,.int .i64 0,.int .i64 0,.string ⟨#[]⟩,.bool false,.int .i64 0,.bool false,.int .i64 0,.int .i32 0,.int .i64 0]
end Go.Proofs.Ytohfadegildnaaa
set_option maxRecDepth 100000
namespace Go.Proofs.Ytohfadegildnaaa
open Go.RowKit
section
variable {P:Program} {ops:Array Oper} {Q:Exit→Act→World→Prop} {md:Region.Mode} {S:World→Prop}
end
theorem _root_.Go.RowKit.Below.setRow {B:Nat} {a w:World} (h:Below B a w) {g:Nat} (hg:B≤g) (cs:Array Value):Below B a (w.setRow g cs):=
 ⟨h.os,h.tape,h.output,by rw [setRow_size]; exact h.size,fun k hk=>(setRow_other w g k cs (by omega)).trans (h.block k hk)⟩
theorem qA8 (p:NF):(patN p).all (·.oneCell')=true:=by simp [patN,patV,Value.oneCell']
section
variable {w0 W:World} {g r h:Nat} {m:ByteArray} {sc:Bool} {ex wh fr:ByteArray} {pt:Bool} {ba:ByteArray} {p:NF}
end
end Go.Proofs.Ytohfadegildnaaa
