import Derived.Test.YtpbkndmciopnjaaDoorRefC
namespace Go.Proofs.YtpbkndmciopnjaaDoor
open Go.RowKit
/-- Digits as bytes. -/
def asc (os : List Nat) : List Nat := os.map (fun d => 48 + d)
theorem asc_append (a b : List Nat) : asc (a ++ b) = asc a ++ asc b := by simp [asc]
theorem asc_lt (os : List Nat) (h : ∀ d ∈ os, d < 10) : ∀ x ∈ asc os, x < 256 := by
  intro x hx
  obtain ⟨d, hd, rfl⟩ := List.mem_map.1 hx
  have := h d hd
  omega
theorem val_snoc (b : Nat) (os : List Nat) (x : Nat) : val b (os ++ [x]) = val b os + b ^ os.length * x := by simp [val_append, val]
theorem rev_getD_lt (ds : List Nat) (h : ∀ d ∈ ds, d < 10) (k : Nat) : ds.reverse.getD k 0 < 10 :=
  getD_lt 10 (by omega) _ (fun x hx => h x (List.mem_reverse.1 hx)) k
theorem rev_getD_zero (ds : List Nat) (k : Nat) (h : ds.length ≤ k) : ds.reverse.getD k 0 = 0 := by
  rw [List.getD, List.getElem?_eq_none (by simpa using h)]; rfl
/-- turned and Strip, one behind the other. -/
theorem isD_of_asc {s : ByteArray} {os : List Nat} (h : s.data.toList.map UInt8.toNat = (asc os).reverse) (hd : ∀ d ∈ os, d < 10) : IsD s os.reverse := by
  refine ⟨?_, fun d hd' => hd d (List.mem_reverse.1 hd')⟩
  rw [h, asc, List.map_reverse]
end Go.Proofs.YtpbkndmciopnjaaDoor
