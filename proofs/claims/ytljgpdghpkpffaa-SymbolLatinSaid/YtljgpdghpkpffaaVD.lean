/-
  VD: the document's Sign, Mark, Needs, Items, MayItems, Tokens, SameItems.
-/
import Derived.Test.YtljgpdghpkpffaaTI
import Derived.Test.YtljgpdghpkpffaaVC
set_option maxRecDepth 100000
namespace Go.Proofs.Ytljgpdghpkpffaa
open Go.RowKit
theorem sgK_at (r : Int) : (r = 45 ∧ sgK r = 2) ∨ (r = 43 ∧ sgK r = 3) ∨ (r = 37 ∧ sgK r = 4) ∨ (r = 8240 ∧ sgK r = 5) ∨ (r = 164 ∧ sgK r = 6) ∨ ((r ≠ 45 ∧ r ≠ 43 ∧ r ≠ 37 ∧ r ≠ 8240 ∧ r ≠ 164) ∧ sgK r = 0) := by
  unfold sgK; repeat' split
  all_goals omega
set_option maxHeartbeats 1000000 in
theorem refSign_c (r : Int) (w : World) : Calls Try.prog 42 #[.int .i32 r] w fun e w' => e = .returned (.int .i64 (sgK r)) ∧ w = w' := by
  rcases sgK_at r with ⟨rfl, h⟩ | ⟨rfl, h⟩ | ⟨rfl, h⟩ | ⟨rfl, h⟩ | ⟨rfl, h⟩ | ⟨⟨h1, h2, h3, h4, h5⟩, h⟩
  · rw [h]
    go_enter Try.func42, Try.ntmps42
    go_wp2
    go_ret
    exact ⟨rfl, rfl⟩
  · rw [h]
    go_enter Try.func42, Try.ntmps42
    go_wp2
    go_ret
    exact ⟨rfl, rfl⟩
  · rw [h]
    go_enter Try.func42, Try.ntmps42
    go_wp2
    go_ret
    exact ⟨rfl, rfl⟩
  · rw [h]
    go_enter Try.func42, Try.ntmps42
    go_wp2
    go_ret
    exact ⟨rfl, rfl⟩
  · rw [h]
    go_enter Try.func42, Try.ntmps42
    go_wp2
    go_ret
    exact ⟨rfl, rfl⟩
  · rw [h]
    have g1 : (r == 45) = false := by simpa using h1
    have g2 : (r == 43) = false := by simpa using h2
    have g3 : (r == 37) = false := by simpa using h3
    have g4 : (r == 8240) = false := by simpa using h4
    have g5 : (r == 164) = false := by simpa using h5
    clear h1 h2 h3 h4 h5 h
    go_enter Try.func42, Try.ntmps42
    go_wp2
    go_ret
    exact ⟨rfl, rfl⟩
set_option maxHeartbeats 1000000 in
theorem refMark_c (r : Int) (w : World) : Calls Try.prog 43 #[.int .i32 r] w fun e w' => e = .returned (.bool (mrk r)) ∧ w = w' := by
  rcases hm : mrk r with _ | _
  · have hn : ¬ mrk r = true := by rw [hm]; decide
    rw [mrk_iff] at hn
    have h1 : (r == 35) = false := by simp only [beq_eq_false_iff_ne, ne_eq]; omega
    have h2 : (r == 64) = false := by simp only [beq_eq_false_iff_ne, ne_eq]; omega
    have h3 : (r == 44) = false := by simp only [beq_eq_false_iff_ne, ne_eq]; omega
    have h4 : (r == 46) = false := by simp only [beq_eq_false_iff_ne, ne_eq]; omega
    have h5 : (r == 59) = false := by simp only [beq_eq_false_iff_ne, ne_eq]; omega
    have h6 : (r == 42) = false := by simp only [beq_eq_false_iff_ne, ne_eq]; omega
    by_cases h0 : 48 ≤ r
    · have g0 : decide (48 ≤ r) = true := decide_eq_true h0
      have g1 : decide (r ≤ 57) = false := decide_eq_false (by omega)
      clear hm hn h0
      go_enter Try.func43, Try.ntmps43
      go_wp2
      go_ret
      exact ⟨rfl, rfl⟩
    · have g0 : decide (48 ≤ r) = false := decide_eq_false h0
      clear hm hn h0
      go_enter Try.func43, Try.ntmps43
      go_wp2
      go_ret
      exact ⟨rfl, rfl⟩
  · rcases mrk_iff.1 hm with ⟨h0, h1⟩ | rfl | rfl | rfl | rfl | rfl | rfl
    · have g0 : decide (48 ≤ r) = true := decide_eq_true h0
      have g1 : decide (r ≤ 57) = true := decide_eq_true h1
      clear hm h0 h1
      go_enter Try.func43, Try.ntmps43
      go_wp2
      go_ret
      exact ⟨rfl, rfl⟩
    all_goals
      clear hm
      go_enter Try.func43, Try.ntmps43
      go_wp2
      go_ret
      exact ⟨rfl, rfl⟩
theorem nds_eq (r : Int) : nds r = (((decide (0 < sgK r) || mrk r) || decide (r = 69)) || decide (r = 39)) := by
  have h := sgK_range r
  have h1 : decide (r ∈ ints sgs) = decide (0 < sgK r) := by
    rw [decide_eq_decide, ← sgK_pos]; omega
  have h2 : decide (r ∈ ints oth) = (decide (r = 69) || decide (r = 39)) := by
    rw [oth_cons, ← Bool.decide_or, decide_eq_decide]; simp
  rw [nds, h1, h2, Bool.or_assoc, Bool.or_assoc, Bool.or_assoc]
set_option maxHeartbeats 1000000 in
theorem refNeeds_c (r : Int) (w : World) : Calls Try.prog 37 #[.int .i32 r] w fun e w' => e = .returned (.bool (nds r)) ∧ w = w' := by
  have C1 := Lib.hid (refSign_c r w)
  have C2 := Lib.hid (refMark_c r w)
  rw [nds_eq]
  generalize sgK r = K at *
  generalize mrk r = M at *
  rcases hK : decide (0 < K) with _ | _
  · cases M
    · by_cases h1 : r = 69
      · subst h1
        go_enter Try.func37, Try.ntmps37
        go_wp2_with fail
        refine C1.out.mono ?_
        rintro e w1 ⟨rfl, rfl⟩
        go_wp2_with fail
        refine C2.out.mono ?_
        rintro e w1 ⟨rfl, rfl⟩
        go_wp2
        go_ret
        exact ⟨rfl, rfl⟩
      · have g1 : (r == 69) = false := by simpa using h1
        by_cases h2 : r = 39
        · subst h2
          clear h1
          go_enter Try.func37, Try.ntmps37
          go_wp2_with fail
          refine C1.out.mono ?_
          rintro e w1 ⟨rfl, rfl⟩
          go_wp2_with fail
          refine C2.out.mono ?_
          rintro e w1 ⟨rfl, rfl⟩
          go_wp2
          go_ret
          exact ⟨rfl, rfl⟩
        · have g2 : (r == 39) = false := by simpa using h2
          rw [decide_eq_false h1, decide_eq_false h2]
          clear h1 h2
          go_enter Try.func37, Try.ntmps37
          go_wp2_with fail
          refine C1.out.mono ?_
          rintro e w1 ⟨rfl, rfl⟩
          go_wp2_with fail
          refine C2.out.mono ?_
          rintro e w1 ⟨rfl, rfl⟩
          go_wp2
          go_ret
          exact ⟨rfl, rfl⟩
    · go_enter Try.func37, Try.ntmps37
      go_wp2_with fail
      refine C1.out.mono ?_
      rintro e w1 ⟨rfl, rfl⟩
      go_wp2_with fail
      refine C2.out.mono ?_
      rintro e w1 ⟨rfl, rfl⟩
      go_wp2
      go_ret
      exact ⟨rfl, rfl⟩
  · go_enter Try.func37, Try.ntmps37
    go_wp2_with fail
    refine C1.out.mono ?_
    rintro e w1 ⟨rfl, rfl⟩
    go_wp2
    go_ret
    exact ⟨rfl, rfl⟩
theorem im_ext {is js : List Itm} (hl : is.length = js.length) (h : ∀ j, j < is.length → im is j = im js j) : is = js := by
  apply List.ext_getElem hl
  intro i h1 h2
  have := h i h1
  rwa [im_eq h1, im_eq h2] at this
set_option maxHeartbeats 1000000 in
theorem refMay_c (A : Option Addr) (n c : Nat) (is : List Itm) (w : World) (h : Its w A n is) : Calls Try.prog 12 #[.slice A n c] w fun e w' => e = .returned (.bool (is.all mayI)) ∧ w = w' := by
  have HL := Lib.hid h.len
  have hn := h.2.1
  have H := Lib.hid h
  clear h
  go_enter Try.func12, Try.ntmps12
  go_wp2
  go_loopw [3] (fun iv wr => ∃ (k : Nat), k ≤ n ∧ iv = .int .i64 (k : Int) ∧ (is.take k).all mayI = true ∧ wr = w) (fun iv _ => n - (intOf iv).toNat)
  case atStart => exact ⟨0, Nat.zero_le _, rfl, rfl, rfl⟩
  case round =>
    obtain ⟨k, hk, rfl, hall0, rfl⟩ := hrel
    have HALL := Lib.hid hall0
    clear hall0
    by_cases hlt : k < n
    · obtain ⟨ad, rfl, _, c0, c1, _⟩ := H.out.at_ hlt
      have HS := Lib.hid (im_take_succ is (k := k) (by rw [HL.out]; exact hlt))
      have HMEM := Lib.hid (im_mem (is := is) (k := k) (by rw [HL.out]; exact hlt))
      generalize im is k = i at *
      obtain ⟨a, r⟩ := i
      dsimp only at c0 c1
      have HNO : Hid (mayI (a, r) = false → is.all mayI = false) := Lib.hid fun hm => by
        rw [Bool.eq_false_iff]
        intro ha
        rw [List.all_eq_true.1 ha _ HMEM.out] at hm; cases hm
      have HYES : Hid (mayI (a, r) = true → (is.take (k + 1)).all mayI = true) := Lib.hid fun hm => by
        rw [HS.out, List.all_append, HALL.out]; simp [hm]
      by_cases h1 : a = 1
      · subst h1
        have CZ := Lib.hid (refScalar_c r wr)
        rcases hz : isZ r with _ | _
        · rw [hz] at CZ
          have HV := Lib.hid (HNO.out (by rw [Bool.eq_false_iff]; intro hm; rcases mayI_iff.1 hm with ⟨_, h⟩ | ⟨h, _, _⟩; (rw [hz] at h; cases h); omega))
          clear hz
          go_wp2_with fail
          refine CZ.out.mono ?_
          rintro e w0 ⟨rfl, rfl⟩
          go_wp2
          go_ret
          rw [HV.out]
          exact ⟨rfl, rfl⟩
        · rw [hz] at CZ
          have HV := Lib.hid (HYES.out (mayI_iff.2 (.inl ⟨rfl, hz⟩)))
          clear hz
          go_wp2_with fail
          refine CZ.out.mono ?_
          rintro e w0 ⟨rfl, rfl⟩
          go_wp2
          go_roundw
          case rel => exact ⟨k + 1, by omega, by go_num, HV.out, by first | trivial | rfl⟩
          case measure => simp [intOf]; omega
      · have g1 : (a == 1) = false := by simpa using h1
        by_cases h2 : 2 ≤ a ∧ a ≤ 6 ∧ r = 0
        · obtain ⟨h2, h3, rfl⟩ := h2
          have HV := Lib.hid (HYES.out (mayI_iff.2 (.inr ⟨h2, h3, rfl⟩)))
          have g2 : decide (a < 1) = false := decide_eq_false (by omega)
          have g3 : decide (6 < a) = false := decide_eq_false (by omega)
          have g4 : decide (1 < a) = true := decide_eq_true (by omega)
          clear h1 h2 h3
          go_wp2
          go_roundw
          case rel => exact ⟨k + 1, by omega, by go_num, HV.out, by first | trivial | rfl⟩
          case measure => simp [intOf]; omega
        · have HV := Lib.hid (HNO.out (by rw [Bool.eq_false_iff]; intro hm; rcases mayI_iff.1 hm with ⟨h, _⟩ | h; (exact h1 h); (exact h2 h)))
          by_cases h3 : a < 1
          · have g2 : decide (a < 1) = true := decide_eq_true h3
            clear h1 h2 h3
            go_wp2
            go_ret
            rw [HV.out]
            exact ⟨rfl, rfl⟩
          · have g2 : decide (a < 1) = false := decide_eq_false h3
            by_cases h4 : 6 < a
            · have g3 : decide (6 < a) = true := decide_eq_true h4
              clear h1 h2 h3 h4
              go_wp2
              go_ret
              rw [HV.out]
              exact ⟨rfl, rfl⟩
            · have g3 : decide (6 < a) = false := decide_eq_false h4
              have g4 : decide (1 < a) = true := decide_eq_true (by omega)
              have g5 : (r != 0) = true := by simp only [bne_iff_ne, ne_eq]; omega
              clear h1 h2 h3 h4
              go_wp2
              go_ret
              rw [HV.out]
              exact ⟨rfl, rfl⟩
    · rw [List.take_of_length_le (by rw [HL.out]; omega)] at HALL
      go_wp2
      go_ret
      rw [HALL.out]
      exact ⟨rfl, rfl⟩
end Go.Proofs.Ytljgpdghpkpffaa
