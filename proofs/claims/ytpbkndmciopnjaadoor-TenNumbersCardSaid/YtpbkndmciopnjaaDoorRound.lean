/-
  A region that draws its order, in a round of a range over a function: by the laws for regions elsewhere.
-/
import Derived.Deep.RegionHeld3
import Derived.Deep.AppendLies
import Derived.OrdersIn
import Derived.RangeFuncCalls
import Derived.RangeFuncNested
import Derived.Shelf.Abstract
import Derived.Test.YtpbkndmciopnjaaDoorRows
namespace Go.Proofs.YtpbkndmciopnjaaDoor
open Go.RowKit Go.Shelf
/-- Q, but neither a panic nor an end for want of room. -/
def Calm (Q : Exit → Act → World → Prop) : Exit → Act → World → Prop
  | .panic _, _, _ => False
  | .outgrown, _, _ => False
  | e, a, w => Q e a w
theorem Calm.imp {Q : Exit → Act → World → Prop} : ∀ (e : Exit) (a : Act) (w : World), Calm Q e a w → Q e a w := fun e a w h => by
  cases e <;> first | exact h | exact (h : False).elim
theorem Calm.normal {Q : Exit → Act → World → Prop} {a : Act} {w : World} (h : Q .normal a w) : Calm Q .normal a w := h
theorem Calm.lets {Q : Exit → Act → World → Prop} (h : LetsOut (Calm Q)) : False := by
  obtain ⟨a, w, h⟩ := h
  exact h
/-- Not a defer statement. -/
def noDefer (o : Oper) : Bool := match o.op with | .defer _ => false | _ => true
theorem noDefer_spec {o : Oper} (h : noDefer o = true) (c : Call) : o.op ≠ .defer c := fun e => by simp [noDefer, e] at h
section
variable {P : Program} {ops : Array Oper} {Q : Exit → Act → World → Prop} {md : Region.Mode} {l n : Nat}
theorem oper_in {o : Oper} {a : Act} {w : World} {K : Act → World → Prop} (hd : noDefer o = true) (h : o.wp P a w K (Calm Q)) : o.wpIn (Fence.wide.inRound l) n P a w K (Calm Q) := by
  refine ⟨fun _ _ => trivial, ?_⟩
  rw [Oper.semAt_eq _ _ _ (noDefer_spec hd)]
  unfold Oper.wp at h
  generalize (execOp a.eval o).run P w = r at *
  cases r with
  | ok x w' =>
    cases x <;> simp only [Oper.upon, Oper.uponIn] at h ⊢
    case value => exact h
    case skip => exact h
    case defer => exact h
    case enter f args => exact ⟨fun hh => (by cases hh), (callsIn_wide (n := n - 1)).2 (h.mono fun e w'' he => by cases e <;> exact he)⟩
    case row row args => exact ⟨fun hh => (by cases hh), fun c cs _ => let ⟨v, w'', r, s⟩ := h c cs; ⟨v, w'', r, stepsIn_wide.2 s⟩⟩
  | halt x w' => cases x <;> simp only [Oper.upon, Oper.uponIn] at h ⊢; exact h
theorem any_in (hd : ∀ (i : Nat) (o : Oper), ops[i]? = some o → noDefer o = true) : ∀ (fuel : Nat) (listed : Array Bool) (a : Act) (w : World),
    wpAny P md ops (Calm Q) fuel listed a w → wpAnyIn (Fence.wide.inRound l) n P md ops (Calm Q) fuel listed a w
  | 0, _, _, _, h => h
  | fuel + 1, listed, a, w, h => by
    refine ⟨h.1, fun i hi => ?_⟩
    have h1 := h.2 i hi
    unfold wpOp at h1
    unfold wpOpIn
    split
    · rename_i ho
      simp only [ho] at h1
      exact any_in hd fuel _ _ _ h1
    · rename_i o ho
      simp only [ho] at h1
      split
      · rename_i hw
        simp only [hw, if_true] at h1
        rcases h1 with h1 | ⟨_, h1⟩
        · exact Oper.wpIn_mono (fun a w h2 => any_in hd fuel _ a w h2) (oper_in (hd i o ho) h1)
        · exact (Calm.lets h1).elim
      · rename_i hw
        simp only [hw] at h1
        exact ⟨fun _ _ => trivial, any_in hd fuel _ _ _ h1⟩
/-- THE BEGINNING, in a round. -/
theorem wpIn_region_held {id : Nat} {l0 : List Oper} {S : World → Prop} {a : Act} {w : World} (hm : P.follows .mixedOrders = true) (hd : (l0.all noDefer) = true) (hS : S w.drew)
    (h : S w.drew → wpAnyH P .any l0.toArray (Calm Q) S l0.toArray.size (Array.replicate l0.toArray.size false) a w.drew) : (Code.region id l0.toArray true).wpIn (Fence.wide.inRound l) n P Q a w := by
  refine wpIn_mono (wpIn_region_any (Q := Calm Q) hm (any_in (fun i o ho => ?_) _ _ _ _ (wpAny_of_held _ _ _ _ (h hS)))) Calm.imp
  refine List.all_eq_true.1 hd o (List.mem_of_getElem? (i := i) ?_)
  simpa using ho
end
end Go.Proofs.YtpbkndmciopnjaaDoor
