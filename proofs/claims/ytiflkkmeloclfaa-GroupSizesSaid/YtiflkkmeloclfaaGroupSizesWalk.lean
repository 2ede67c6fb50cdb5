/-
  GroupSizes: the walk.
-/
import Derived.Test.YtiflkkmeloclfaaMV
import Derived.Test.YtiflkkmeloclfaaGC
set_option maxRecDepth 100000
namespace Go.Proofs.Ytiflkkmeloclfaa
open Go.RowKit
theorem splG_sizes {s : ByteArray} {P Q : Nat} (hP : 1 ≤ P) (hQ : 1 ≤ Q) (hs : 1 ≤ s.size) : ∃ (L : List ByteArray) (n : Nat), splG s (P : Int) (Q : Int) = L ∧ L.length = n ∧ joinB L ⟨#[]⟩ = bts s ∧
    ((s.size ≤ P ∧ n = 1 ∧ ∃ h0 : 0 < L.length, 1 ≤ L[0].size) ∨
     (∃ (h0 : 0 < L.length) (h1 : n - 1 < L.length), 2 ≤ n ∧ 1 ≤ L[0].size ∧ L[0].size ≤ Q ∧ L[n - 1].size = P ∧ ∀ k (h : k < L.length), 1 ≤ k → k < n - 1 → L[k].size = Q)) := by
  by_cases h : s.size ≤ P
  · refine ⟨[s], 1, splG_one h, rfl, ?_, .inl ⟨h, rfl, by simp, hs⟩⟩
    rw [joinB_nil]; simp
  · obtain ⟨x, ys, z, e1, h1, h2, h3, h4, h5⟩ := splG_form (s := s) hP hQ (by omega)
    refine ⟨_, ys.length + 2, e1, by simp, h5, .inr ⟨by simp, by simp, by omega, h1, h2, ?_, fun k hk h1 h2 => ?_⟩⟩
    · simp [h4]
    · obtain ⟨j, rfl⟩ : ∃ j, k = j + 1 := ⟨k - 1, by omega⟩
      rw [List.getElem_cons_succ, List.getElem_append_left (by omega)]
      exact h3 _ (List.getElem_mem _)
set_option maxHeartbeats 4000000 in
theorem walk_groupSizes (s : ByteArray) (p q : Int) (w : World) (hs : s.size ≤ maxLen) (hp : 0 ≤ p ∧ p ≤ 255) (hq : 0 ≤ q ∧ q ≤ 255) :
    Calls Try.prog 4 #[.string s, .int .u8 p, .int .u8 q] w fun e w' => e = .returned (.bool true) ∧ Below w.heap.size w w' := by
  unfold maxLen at hs
  obtain ⟨P, rfl⟩ : ∃ P : Nat, p = (P : Int) := ⟨p.toNat, by omega⟩
  obtain ⟨Q, rfl⟩ : ∃ Q : Nat, q = (Q : Int) := ⟨q.toNat, by omega⟩
  by_cases hs5 : 500 < s.size
  · have g0 : decide ((500 : Int) < (s.size : Int)) = true := decide_eq_true (by omega)
    go_enter Try.func4, Try.ntmps4
    go_wp2_with (first | (go_at_call 7; refine (answers20_c _).mono ?_; rintro e9 w9 ⟨rfl, hb9⟩) | fail)
    go_ret
    exact ⟨rfl, hb9⟩
  have g0 : decide ((500 : Int) < (s.size : Int)) = false := decide_eq_false (by omega)
  rcases Nat.eq_zero_or_pos P with rfl | hP
  · have g1 : (((0 : Nat) : Int) == 0) = true := rfl
    go_enter Try.func4, Try.ntmps4
    go_wp2_with (first | (go_at_call 7; refine (answers20_c _).mono ?_; rintro e9 w9 ⟨rfl, hb9⟩) | fail)
    go_ret
    exact ⟨rfl, hb9⟩
  have g1 : ((P : Int) == 0) = false := by simp; omega
  rcases Nat.eq_zero_or_pos Q with rfl | hQ
  · have g2 : (((0 : Nat) : Int) == 0) = true := rfl
    go_enter Try.func4, Try.ntmps4
    go_wp2_with (first | (go_at_call 7; refine (answers20_c _).mono ?_; rintro e9 w9 ⟨rfl, hb9⟩) | fail)
    go_ret
    exact ⟨rfl, hb9⟩
  have g2 : ((Q : Int) == 0) = false := by simp; omega
  rcases Nat.eq_zero_or_pos s.size with h0 | hs1
  · obtain rfl : s = ⟨#[]⟩ := bts_inj (List.eq_nil_of_length_eq_zero (by rw [bts_length]; exact h0))
    go_enter Try.func4, Try.ntmps4
    go_wp2_with (first | (go_at_call 7; refine (answers20_c _).mono ?_; rintro e9 w9 ⟨rfl, hb9⟩) | fail)
    go_ret
    exact ⟨rfl, hb9⟩
  have gs : s.toList.isEmpty = false := (by rw [isEmpty_bts]; exact decide_eq_false (by omega))
  have C1 := Lib.hid (gsplit_c s (P : Int) (Q : Int) w (by omega) (by omega) (by omega))
  have HZ := Lib.hid (splG_size s (P := P) (Q := Q) hP)
  have hlp := (splG_pos s (P : Int) (Q : Int)).2
  obtain ⟨L, n, eL, hn, hj, hd⟩ := splG_sizes hP hQ hs1
  rw [eL] at C1 HZ hlp
  have HN := Lib.hid hn
  have hn6 : n ≤ 501 := by omega
  have hjs : stz (joinB L ⟨#[]⟩) = s := by rw [hj, stz_bts]
  have HJ := Lib.hid hjs
  have u1 : IntKind.i64.wrap (P : Int) = (P : Int) := IntWalk.i64_in _ (by omega)
  have u2 : IntKind.i64.wrap (Q : Int) = (Q : Int) := IntWalk.i64_in _ (by omega)
  have gss : (s.toList != s.toList) = false := by simp
  have CJ := Lib.hid (fun (W : World) (A : Option Addr) (c : Nat) (h : Tls W A n L) => (join_c A n c 500 L ⟨#[]⟩ W h (by omega) (fun x hx => Nat.le_trans (HZ.out x hx) (by omega)) (by decide) (by
    have : n * (500 + 0) ≤ 501 * 500 := Nat.mul_le_mul hn6 (by omega)
    exact Nat.le_trans this (by decide))))
  rw [hjs] at CJ
  clear eL hn hj hjs hlp HZ
  rcases hd with ⟨hsP, hn1, h0, hx1⟩ | ⟨h0, h1, hn2, hx1, hxQ, hzP, hmid⟩
  · have f0 : ((n : Int) == 0) = false := by simp; omega
    have f1 : decide ((1 : Int) < (n : Int)) = false := decide_eq_false (by omega)
    have f2 : ((n : Int) == 1) = true := by simp; omega
    have f3 : decide (s.size ≤ P) = true := decide_eq_true (by omega)
    have f5 : decide ((1 : Int) ≤ (L[0].size : Int)) = true := decide_eq_true (by omega)
    have f6 : IntKind.i64.wrap ((n : Int) - 1) = ((n - 1 : Nat) : Int) := by rw [IntWalk.i64_in _ (by omega)]; omega
    have hn1' : n - 1 < n := by omega
    have hN1 : 1 ≤ n := by omega
    have HX1 := Lib.hid hx1
    have HN1 := Lib.hid hn1
    have HSP := Lib.hid hsP
    clear hn1 hsP hx1
    go_enter Try.func4, Try.ntmps4
    go_upto_region 4 with (first
      | (go_at_call 8; refine C1.out.mono ?_; rintro e1 w1 ⟨v1, rfl, ho1, hb1⟩)
      | fail)
    obtain ⟨A1, c1, rfl⟩ := ho1.out.form
    have HT := Lib.hid (Tls.of_own ho1.out (by have := HN.out; omega))
    have HB := Lib.hid hb1.out
    clear ho1 hb1 C1
    rw [HN.out] at HT ⊢
    obtain ⟨ad, rfl, hab, hc⟩ := HT.out.1.2 (by omega)
    have x0 : w1.cell? ad = some (.string L[0]) := hc 0 _ (by rw [txV, List.getElem?_map, List.getElem?_eq_getElem h0]; rfl)
    clear hc
    generalize hxe : L[0] = x at x0 f5 HX1
    clear hxe
    have hm1 : n - 1 ≤ 9223372036854775806 := by omega
    go_upto_region 6 with (first
      | (go_at_call 10; refine (CJ.out w1 (some ad) _ HT.out).mono ?_; rintro e2 w2 ⟨rfl, hb2⟩)
      | fail)
    have HT2 := Lib.hid (HT.out.below hb2.out)
    have HB2 := Lib.hid (HB.out.trans (hb2.out.mono HB.out.size))
    have hab2 := Nat.lt_of_lt_of_le hab hb2.out.size
    have x02 : w2.cell? ad = some (.string x) := (hb2.out.cell (p := ad) hab).trans x0
    clear x0 hb2 HT HB hab
    go_wp2
    go_loopw [8] (fun iv wr => ∃ (k : Nat), 1 ≤ k ∧ k ≤ n ∧ iv = .int .i64 (k : Int) ∧ wr = w2) (fun iv _ => n - (intOf iv).toNat)
    case atStart => exact ⟨1, Nat.le_refl _, by omega, rfl, rfl⟩
    case round =>
      obtain ⟨k, hk1, hk, rfl, rfl⟩ := hrel
      have gi : decide ((k : Int) < ((n - 1 : Nat) : Int)) = false := decide_eq_false (by have := HN1.out; omega)
      have hltn : ¬ k < n - 1 := by have := HN1.out; omega
      go_wp2_with (first
        | (go_at_call 7; refine (answers20_c _).mono ?_; rintro e9 w9 ⟨rfl, hb9⟩; have x09 : w9.cell? ad = some (.string x) := (hb9.cell (p := ad) hab2).trans x02)
        | fail)
      go_ret
      exact ⟨rfl, HB2.out.trans (hb9.mono HB2.out.size)⟩
  · have f0 : ((n : Int) == 0) = false := by simp; omega
    have f1 : decide ((1 : Int) < (n : Int)) = true := decide_eq_true (by omega)
    have f2 : ((n : Int) == 1) = false := by simp; omega
    have f3 : ((L[n - 1].size : Int) != (P : Int)) = false := by simp; omega
    have f4 : decide (L[0].size ≤ Q) = true := decide_eq_true (by omega)
    have HM := Lib.hid hmid
    have f5 : decide ((1 : Int) ≤ (L[0].size : Int)) = true := decide_eq_true (by omega)
    have f6 : IntKind.i64.wrap ((n : Int) - 1) = ((n - 1 : Nat) : Int) := by rw [IntWalk.i64_in _ (by omega)]; omega
    have hn1' : n - 1 < n := by omega
    have hN1 : 1 ≤ n := by omega
    have HX1 := Lib.hid hx1
    have HX2 := Lib.hid hxQ
    clear hx1 hxQ hzP hmid
    go_enter Try.func4, Try.ntmps4
    go_upto_region 4 with (first
      | (go_at_call 8; refine C1.out.mono ?_; rintro e1 w1 ⟨v1, rfl, ho1, hb1⟩)
      | fail)
    obtain ⟨A1, c1, rfl⟩ := ho1.out.form
    have HT := Lib.hid (Tls.of_own ho1.out (by have := HN.out; omega))
    have HB := Lib.hid hb1.out
    clear ho1 hb1 C1
    rw [HN.out] at HT ⊢
    obtain ⟨ad, rfl, hab, hc⟩ := HT.out.1.2 (by omega)
    have x0 : w1.cell? ad = some (.string L[0]) := hc 0 _ (by rw [txV, List.getElem?_map, List.getElem?_eq_getElem h0]; rfl)
    have xz : w1.cell? (ad.add (n - 1)) = some (.string L[n - 1]) := hc (n - 1) _ (by rw [txV, List.getElem?_map, List.getElem?_eq_getElem h1]; rfl)
    clear hc
    generalize hze : L[n - 1] = z at xz f3
    clear hze
    generalize hxe : L[0] = x at x0 f5 HX1 f4 HX2
    clear hxe
    have hm1 : n - 1 ≤ 9223372036854775806 := by omega
    go_upto_region 6 with (first
      | (go_at_call 10; refine (CJ.out w1 (some ad) _ HT.out).mono ?_; rintro e2 w2 ⟨rfl, hb2⟩; have xz2 : w2.cell? (ad.add (n - 1)) = some (.string z) := (hb2.out.cell (p := ad.add (n - 1)) (by rw [block_of_add]; exact hab)).trans xz)
      | fail)
    clear xz2 xz
    have HT2 := Lib.hid (HT.out.below hb2.out)
    have HB2 := Lib.hid (HB.out.trans (hb2.out.mono HB.out.size))
    have hab2 := Nat.lt_of_lt_of_le hab hb2.out.size
    have x02 : w2.cell? ad = some (.string x) := (hb2.out.cell (p := ad) hab).trans x0
    clear x0 hb2 HT HB hab
    go_wp2
    go_loopw [8] (fun iv wr => ∃ (k : Nat), 1 ≤ k ∧ k ≤ n ∧ iv = .int .i64 (k : Int) ∧ wr = w2) (fun iv _ => n - (intOf iv).toNat)
    case atStart => exact ⟨1, Nat.le_refl _, by omega, rfl, rfl⟩
    case round =>
      obtain ⟨k, hk1, hk, rfl, rfl⟩ := hrel
      by_cases hlt : k < n - 1
      · have gi : decide ((k : Int) < ((n - 1 : Nat) : Int)) = true := decide_eq_true (by omega)
        have hkl : k < L.length := by rw [HN.out]; omega
        have hkn : k < n := by omega
        obtain ⟨ad', e, x1⟩ := HT2.out.at_ hkn hkl
        obtain rfl := Option.some.inj e
        have gy : ((L[k].size : Int) != (Q : Int)) = false := by have := HM.out k hkl hk1 hlt; simp; omega
        generalize L[k] = y at *
        go_wp2
        go_roundw
        case rel => exact ⟨k + 1, by omega, by omega, by go_num, by trivial⟩
        case measure => simp [intOf]; omega
      · have gi : decide ((k : Int) < ((n - 1 : Nat) : Int)) = false := decide_eq_false (by omega)
        have hltn : ¬ k < n - 1 := by omega
        go_wp2_with (first
          | (go_at_call 7; refine (answers20_c _).mono ?_; rintro e9 w9 ⟨rfl, hb9⟩; have x09 : w9.cell? ad = some (.string x) := (hb9.cell (p := ad) hab2).trans x02)
          | fail)
        go_ret
        exact ⟨rfl, HB2.out.trans (hb9.mono HB2.out.size)⟩
end Go.Proofs.Ytiflkkmeloclfaa
