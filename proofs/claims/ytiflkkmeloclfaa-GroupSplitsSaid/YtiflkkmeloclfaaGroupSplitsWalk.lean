/-
  GroupSplits: the walk.
-/
import Derived.Test.YtiflkkmeloclfaaMV
import Derived.Test.YtiflkkmeloclfaaGC
set_option maxRecDepth 100000
namespace Go.Proofs.Ytiflkkmeloclfaa
open Go.RowKit
set_option maxHeartbeats 2000000 in
theorem walk_groupSplits (s : ByteArray) (p q : Int) (w : World) (_hs : s.size ≤ maxLen) (hp : -9223372036854775808 ≤ p ∧ p ≤ 9223372036854775807) (hq : -9223372036854775808 ≤ q ∧ q ≤ 9223372036854775807) :
    Calls Try.prog 3 #[.string s, .int .i64 p, .int .i64 q] w fun e w' => e = .returned (.bool true) ∧ Below w.heap.size w w' := by
  by_cases hs : 500 < s.size
  · have g0 : decide ((500 : Int) < (s.size : Int)) = true := decide_eq_true (by omega)
    go_enter Try.func3, Try.ntmps3
    go_wp2_with (first | (go_at_call 7; refine (answers20_c _).mono ?_; rintro e9 w9 ⟨rfl, hb9⟩) | fail)
    go_ret
    exact ⟨rfl, hb9⟩
  have g0 : decide ((500 : Int) < (s.size : Int)) = false := decide_eq_false (by omega)
  have C1 := Lib.hid (gsplit_c s p q w (by omega) hp hq)
  have C2 := Lib.hid (fun W => groups_c s p q W (by omega) hp hq)
  have HL := Lib.hid (splG_pos s p q)
  generalize splG s p q = L at *
  go_enter Try.func3, Try.ntmps3
  go_upto_region 4 with (first
    | (go_at_call 8; refine C1.out.mono ?_; rintro e1 w1 ⟨v1, rfl, ho1, hb1⟩)
    | (go_at_call 9; refine (C2.out _).mono ?_; rintro e2 w2 ⟨v2, rfl, ho2, hb2⟩)
    | fail)
  obtain ⟨A1, c1, rfl⟩ := ho1.out.form
  obtain ⟨A2, c2, rfl⟩ := ho2.out.form
  have hl9 : L.length ≤ 36000000000000 := by have := HL.out.2; omega
  have HT1 := Lib.hid ((Tls.of_own ho1.out hl9).below hb2.out)
  have HT2 := Lib.hid (Tls.of_own ho2.out hl9)
  have HB := Lib.hid (hb1.out.trans (hb2.out.mono hb1.out.size))
  clear ho1 hb1 ho2 hb2 C1 C2
  generalize hn : L.length = n at *
  have HN := Lib.hid hn
  have hn6 : n ≤ 600 := by have := HL.out.2; omega
  clear hn hl9
  have gn : ((n : Int) != (n : Int)) = false := by simp
  go_wp2
  go_loopw [9] (fun iv wr => ∃ (k m : Nat), k ≤ n ∧ iv = .int .i64 (k : Int) ∧ wr = w2.drewN m) (fun iv _ => n - (intOf iv).toNat)
  case atStart => exact ⟨0, 0, Nat.zero_le _, rfl, rfl⟩
  case round =>
    obtain ⟨k, m, hk, rfl, rfl⟩ := hrel
    by_cases hlt : k < n
    · have gi : decide ((k : Int) < (n : Int)) = true := decide_eq_true (by omega)
      have hkl : k < L.length := by rw [HN.out]; exact hlt
      obtain ⟨ad1, rfl, x1⟩ := HT1.out.at_ hlt hkl
      obtain ⟨ad2, rfl, x2⟩ := HT2.out.at_ hlt hkl
      generalize L[k] = x at *
      have gx : (x.toList != x.toList) = false := by simp
      go_wp2
      go_quiet (fail)
      go_wp2
      go_roundw
      case rel => exact ⟨k + 1, _, by omega, by go_num, rfl⟩
      case measure => simp [intOf]; omega
    · obtain rfl : k = n := by omega
      have gi : decide ((k : Int) < (k : Int)) = false := decide_eq_false (by omega)
      go_wp2_with (first | (go_at_call 7; refine (answers20_c _).mono ?_; rintro e9 w9 ⟨rfl, hb9⟩) | fail)
      go_ret
      exact ⟨rfl, ((HB.out.trans ((Below.refl _ _).of_drewN _)).trans (hb9.mono HB.out.size))⟩
end Go.Proofs.Ytiflkkmeloclfaa
