/-
  GroupMore: the walk.
-/
import Derived.Test.YtiflkkmeloclfaaMV
import Derived.Test.YtiflkkmeloclfaaGC
set_option maxRecDepth 100000
namespace Go.Proofs.Ytiflkkmeloclfaa
open Go.RowKit
/-- A text of each row, held. -/
def TM (w0 : World) (B : Nat) (a1 a2 : Addr) (x y : ByteArray) (W : World) : Prop :=
  (W.cell? a1 = some (.string x) ∧ W.cell? a2 = some (.string y)) ∧ Hid (a1.block < W.heap.size ∧ a2.block < W.heap.size ∧ Below B w0 W ∧ B ≤ W.heap.size)
theorem TM.keep {w0 : World} {B : Nat} {a1 a2 : Addr} {x y : ByteArray} {W W' : World} (h : TM w0 B a1 a2 x y W) (hb : Below W.heap.size W W') : TM w0 B a1 a2 x y W' := by
  obtain ⟨⟨c0, c1⟩, ht⟩ := h
  obtain ⟨t1, t2, t3, t4⟩ := ht.out
  exact ⟨⟨(hb.cell (p := a1) t1).trans c0, (hb.cell (p := a2) t2).trans c1⟩, Lib.hid ⟨Nat.lt_of_lt_of_le t1 hb.size, Nat.lt_of_lt_of_le t2 hb.size, t3.trans (hb.mono t4), Nat.le_trans t4 hb.size⟩⟩
set_option maxHeartbeats 4000000 in
theorem walk_groupMore (a b : ByteArray) (p q : Int) (w : World) (hsa : a.size ≤ 140737488355328) (hsb : b.size ≤ 140737488355328) (hp : 0 ≤ p ∧ p ≤ 255) (hq : 0 ≤ q ∧ q ≤ 255) :
    Calls Try.prog 6 #[.string a, .string b, .int .u8 p, .int .u8 q] w fun e w' => e = .returned (.bool true) ∧ Below w.heap.size w w' := by
  obtain ⟨P, rfl⟩ : ∃ P : Nat, p = (P : Int) := ⟨p.toNat, by omega⟩
  obtain ⟨Q, rfl⟩ : ∃ Q : Nat, q = (Q : Int) := ⟨q.toNat, by omega⟩
  have u0 : IntKind.i64.wrap ((a.size : Int) + (b.size : Int)) = ((a.size + b.size : Nat) : Int) := by rw [IntWalk.i64_in _ (by omega)]; omega
  by_cases hs5 : 500 < a.size + b.size
  · have g0 : decide ((500 : Int) < ((a.size + b.size : Nat) : Int)) = true := decide_eq_true (by omega)
    go_enter Try.func6, Try.ntmps6
    go_wp2_with (first | (go_at_call 7; refine (answers20_c _).mono ?_; rintro e9 w9 ⟨rfl, hb9⟩) | fail)
    go_ret
    exact ⟨rfl, hb9⟩
  have g0 : decide ((500 : Int) < ((a.size + b.size : Nat) : Int)) = false := decide_eq_false (by omega)
  rcases Nat.eq_zero_or_pos P with rfl | hP
  · have g1 : (((0 : Nat) : Int) == 0) = true := rfl
    go_enter Try.func6, Try.ntmps6
    go_wp2_with (first | (go_at_call 7; refine (answers20_c _).mono ?_; rintro e9 w9 ⟨rfl, hb9⟩) | fail)
    go_ret
    exact ⟨rfl, hb9⟩
  have g1 : ((P : Int) == 0) = false := by simp; omega
  rcases Nat.eq_zero_or_pos b.size with h0 | hs1
  · obtain rfl : b = ⟨#[]⟩ := bts_inj (List.eq_nil_of_length_eq_zero (by rw [bts_length]; exact h0))
    go_enter Try.func6, Try.ntmps6
    go_wp2_with (first | (go_at_call 7; refine (answers20_c _).mono ?_; rintro e9 w9 ⟨rfl, hb9⟩) | fail)
    go_ret
    exact ⟨rfl, hb9⟩
  have gs : b.toList.isEmpty = false := (by rw [isEmpty_bts]; exact decide_eq_false (by omega))
  have hab : (a ++ b).size = a.size + b.size := ByteArray.size_append
  have C1 := Lib.hid (gsplit_c b (P : Int) (Q : Int) w (by omega) (by omega) (by omega))
  have C2 := Lib.hid (fun W => gsplit_c (a ++ b) (P : Int) (Q : Int) W (by omega) (by omega) (by omega))
  have hl1 := (splG_pos b (P : Int) (Q : Int)).2
  have hl2 := (splG_pos (a ++ b) (P : Int) (Q : Int)).2
  have hz := splG_size (a ++ b) (P := P) (Q := Q) hP
  obtain ⟨x, ys, x', zs, e1, e2, hE, hz0⟩ := splG_moreG a b (P := P) (Q := Q) hP hs1
  rw [e1] at C1 hl1
  rw [e2] at C2 hl2 hz
  have hxz := hz x' (by simp)
  generalize hL : x :: ys = L at *
  generalize hK : zs ++ x' :: ys = K at *
  generalize hn : zs.length = n at *
  have hKl : K.length = n + L.length := by rw [← hK, ← hL, ← hn]; simp
  generalize hm : L.length = m at *
  have hm1 : 1 ≤ m := by rw [← hm, ← hL]; simp
  have hx0 : ∃ h : 0 < L.length, L[0] = x := by subst hL; exact ⟨by simp, rfl⟩
  have hxn : ∃ h : n < K.length, K[n] = x' := by subst hK hn; exact ⟨by simp, by simp⟩
  have hall : ∀ k (h1 : k < L.length) (h2 : n + k < K.length), 1 ≤ k → L[k] = K[n + k] := by
    intro k h1 h2 hk
    obtain ⟨j, rfl⟩ : ∃ j, k = j + 1 := ⟨k - 1, by omega⟩
    subst hL hK hn
    rw [List.getElem_append_right (by omega)]
    simp [Nat.add_sub_cancel_left]
  have HA := Lib.hid hall
  have HKl := Lib.hid hKl
  have HM := Lib.hid hm
  have hm6 : m ≤ 501 := by omega
  have hn6 : n ≤ 501 := by omega
  have u1 : IntKind.i64.wrap (P : Int) = (P : Int) := IntWalk.i64_in _ (by omega)
  have u2 : IntKind.i64.wrap (Q : Int) = (Q : Int) := IntWalk.i64_in _ (by omega)
  have u3 : IntKind.i64.wrap (((n + m : Nat) : Int) - (m : Int)) = (n : Int) := by rw [IntWalk.i64_in _ (by omega)]; omega
  have u4 : decide ((n : Int) < 0) = false := decide_eq_false (by omega)
  have CE := Lib.hid (fun W => ends_c x' x W (by omega) hE.1 hE.2)
  have q0 : ¬ 9223372036854775807 < a.size + b.size := by omega
  have HX0 := Lib.hid hx0
  have HXN := Lib.hid hxn
  have HZ0 : Hid (a.size = 0 → n = 0) := Lib.hid fun h => by rw [← hn, hz0 h]; rfl
  clear hall hL hK hn hm e1 e2 hE hz0 hx0 hxn hz hl1 hl2 hxz
  clear hKl hab
  go_enter Try.func6, Try.ntmps6
  go_wp2_with fail
  refine C1.out.mono ?_
  rintro e1 w1 ⟨v1, rfl, ho1, hb1⟩
  go_wp2_with fail
  refine (C2.out _).mono ?_
  rintro e2 w2 ⟨v2, rfl, ho2, hb2⟩
  go_upto_region 4 with fail
  obtain ⟨A1, c1, rfl⟩ := ho1.out.form
  obtain ⟨A2, c2, rfl⟩ := ho2.out.form
  have HT1 := Lib.hid ((Tls.of_own ho1.out (by have := HM.out; omega)).below hb2.out)
  have HT2 := Lib.hid (Tls.of_own ho2.out (by rw [HKl.out]; omega))
  have HB := Lib.hid (hb1.out.trans (hb2.out.mono hb1.out.size))
  clear ho1 hb1 ho2 hb2 C1 C2
  rw [HKl.out] at HT2 ⊢
  rw [HM.out] at HT1 ⊢
  obtain ⟨ad1, rfl, hab1, hc1⟩ := HT1.out.1.2 (by omega)
  obtain ⟨ad2, rfl, hab2, hc2⟩ := HT2.out.1.2 (by omega)
  have HS : Hid (TM w w.heap.size ad1 (ad2.add n) x x' w2) := Lib.hid ⟨⟨hc1 0 _ (by obtain ⟨h, e⟩ := HX0.out; rw [txV, List.getElem?_map, List.getElem?_eq_getElem h, e]; rfl), hc2 n _ (by obtain ⟨h, e⟩ := HXN.out; rw [txV, List.getElem?_map, List.getElem?_eq_getElem h, e]; rfl)⟩, Lib.hid ⟨hab1, by rw [block_of_add]; exact hab2, HB.out, HB.out.size⟩⟩
  clear hc1 hc2 hab1 hab2
  go_wp2
  go_loopw [12] (fun iv wr => ∃ (k j : Nat), 1 ≤ k ∧ k ≤ m ∧ iv = .int .i64 (k : Int) ∧ wr = w2.drewN j) (fun iv _ => m - (intOf iv).toNat)
  case atStart => exact ⟨1, 0, Nat.le_refl _, hm1, rfl, rfl⟩
  case round =>
    obtain ⟨k, j, hk1, hk, rfl, rfl⟩ := hrel
    by_cases hlt : k < m
    · have gi : decide ((k : Int) < (m : Int)) = true := decide_eq_true (by omega)
      have hkl : k < L.length := by rw [HM.out]; exact hlt
      have hkK : n + k < K.length := by rw [HKl.out, Nat.add_lt_add_iff_left]; exact hlt
      have hnk : n + k < n + m := by omega
      obtain ⟨ad1', e1, x1⟩ := HT1.out.at_ hlt hkl
      obtain rfl := Option.some.inj e1
      obtain ⟨ad2', e2, x2⟩ := HT2.out.at_ hnk hkK
      obtain rfl := Option.some.inj e2
      rw [← HA.out k hkl hkK hk1] at x2
      have u5 : IntKind.i64.wrap ((n : Int) + (k : Int)) = ((n + k : Nat) : Int) := by rw [IntWalk.i64_in _ (by omega)]; omega
      generalize L[k] = z at *
      have gx : (z.toList != z.toList) = false := by simp
      go_wp2
      go_quiet (fail)
      go_wp2
      go_roundw
      case rel => exact ⟨k + 1, _, by omega, by omega, by go_num, rfl⟩
      case measure => simp [intOf]; omega
    · obtain rfl : k = m := by omega
      have gi : decide ((k : Int) < (k : Int)) = false := decide_eq_false (by omega)
      have hnn : (n : Int) < (n : Int) + (k : Int) := by omega
      have hn0 : (0 : Int) ≤ (n : Int) := by omega
      have hk0 : 0 < k := hk1
      have hS := HS.out.keep ((Below.refl w2.heap.size w2).of_drewN j)
      generalize w2.drewN j = W at *
      by_cases ha : a.size = 0
      · obtain rfl : a = ⟨#[]⟩ := bts_inj (List.eq_nil_of_length_eq_zero (by rw [bts_length]; exact ha))
        have gn : ((n : Int) == 0) = true := by have := HZ0.out ha; simp; omega
        have hS := hS.keep (Below.refl _ W).drew
        go_wp2
        refine wp_region_held_drew (S := (fun W' => TM w w.heap.size ad1 (ad2.add n) x x' W')) (by kernel_rfl) (hS) (fun hHeld => ?_)
        refine qc (he := by (go_simp; try with_reducible rfl)) 0 (answers20_c _) (fun W' h => TM.keep hHeld h) fun W9 hHeld _ => ?_
        try simp only [Act.put, List.setIfInBounds_toArray, List.set_cons_zero, List.set_cons_succ]
        refine' qt 1 hHeld ?_
        try simp only [Act.put, List.setIfInBounds_toArray, List.set_cons_zero, List.set_cons_succ]
        refine' qt 2 hHeld ?_
        try simp only [Act.put, List.setIfInBounds_toArray, List.set_cons_zero, List.set_cons_succ]
        refine' qt (v := .bool false) 3 hHeld ?_ (hy := by intro w hSw; clear hSw; go_simp)
        try simp only [Act.put, List.setIfInBounds_toArray, List.set_cons_zero, List.set_cons_succ]
        refine' qt 4 hHeld ?_
        try simp only [Act.put, List.setIfInBounds_toArray, List.set_cons_zero, List.set_cons_succ]
        refine' qt 5 hHeld ?_
        try simp only [Act.put, List.setIfInBounds_toArray, List.set_cons_zero, List.set_cons_succ]
        refine' qt 6 hHeld ?_
        try simp only [Act.put, List.setIfInBounds_toArray, List.set_cons_zero, List.set_cons_succ]
        refine' qt 7 hHeld ?_
        try simp only [Act.put, List.setIfInBounds_toArray, List.set_cons_zero, List.set_cons_succ]
        refine' qt 8 hHeld ?_
        try simp only [Act.put, List.setIfInBounds_toArray, List.set_cons_zero, List.set_cons_succ]
        refine' qt 9 hHeld ?_
        try simp only [Act.put, List.setIfInBounds_toArray, List.set_cons_zero, List.set_cons_succ]
        refine' qt 10 hHeld ?_
        try simp only [Act.put, List.setIfInBounds_toArray, List.set_cons_zero, List.set_cons_succ]
        refine' qt 11 hHeld ?_
        try simp only [Act.put, List.setIfInBounds_toArray, List.set_cons_zero, List.set_cons_succ]
        refine' qt 12 hHeld ?_
        try simp only [Act.put, List.setIfInBounds_toArray, List.set_cons_zero, List.set_cons_succ]
        refine' qt (v := .string x') 13 hHeld ?_ (hy := by intro w hSw; have h1 := hSw.1.2; clear hSw; go_simp)
        try simp only [Act.put, List.setIfInBounds_toArray, List.set_cons_zero, List.set_cons_succ]
        refine' qt 14 hHeld ?_
        try simp only [Act.put, List.setIfInBounds_toArray, List.set_cons_zero, List.set_cons_succ]
        refine' qt 15 hHeld ?_
        try simp only [Act.put, List.setIfInBounds_toArray, List.set_cons_zero, List.set_cons_succ]
        refine' qt (v := .string x) 16 hHeld ?_ (hy := by intro w hSw; have h1 := hSw.1.1; clear hSw; go_simp)
        try simp only [Act.put, List.setIfInBounds_toArray, List.set_cons_zero, List.set_cons_succ]
        refine qc (he := by (go_simp; try with_reducible rfl)) 17 ((CE.out _).mono fun e W8 h => ⟨h.1, h.2⟩) (fun W' h => by subst h; exact hHeld) fun W9 hHeld _ => ?_
        try simp only [Act.put, List.setIfInBounds_toArray, List.set_cons_zero, List.set_cons_succ]
        refine' qt 18 hHeld ?_
        try simp only [Act.put, List.setIfInBounds_toArray, List.set_cons_zero, List.set_cons_succ]
        refine' qt 19 hHeld ?_
        try simp only [Act.put, List.setIfInBounds_toArray, List.set_cons_zero, List.set_cons_succ]
        refine wpAnyH_done (by kernel_rfl) ?_ _
        go_wp2
        go_ret
        exact ⟨rfl, hHeld.2.out.2.2.1⟩
      · have ga : a.toList.isEmpty = false := (by rw [isEmpty_bts]; exact decide_eq_false ha)
        have ga2 : (!a.toList.isEmpty) = true := by rw [ga]; rfl
        have hS := hS.keep (Below.refl _ W).drew
        go_wp2
        refine wp_region_held_drew (S := (fun W' => TM w w.heap.size ad1 (ad2.add n) x x' W')) (by kernel_rfl) (hS) (fun hHeld => ?_)
        refine qc (he := by (go_simp; try with_reducible rfl)) 0 (answers20_c _) (fun W' h => TM.keep hHeld h) fun W9 hHeld _ => ?_
        try simp only [Act.put, List.setIfInBounds_toArray, List.set_cons_zero, List.set_cons_succ]
        refine' qt 1 hHeld ?_
        try simp only [Act.put, List.setIfInBounds_toArray, List.set_cons_zero, List.set_cons_succ]
        refine' qt 2 hHeld ?_
        try simp only [Act.put, List.setIfInBounds_toArray, List.set_cons_zero, List.set_cons_succ]
        refine' qt (v := .bool true) 3 hHeld ?_ (hy := by intro w hSw; clear hSw; go_simp)
        try simp only [Act.put, List.setIfInBounds_toArray, List.set_cons_zero, List.set_cons_succ]
        refine' qt 4 hHeld ?_
        try simp only [Act.put, List.setIfInBounds_toArray, List.set_cons_zero, List.set_cons_succ]
        refine qs 5 hHeld ?_
        try simp only [Act.put, List.setIfInBounds_toArray, List.set_cons_zero, List.set_cons_succ]
        refine qs 6 hHeld ?_
        try simp only [Act.put, List.setIfInBounds_toArray, List.set_cons_zero, List.set_cons_succ]
        refine' qt 7 hHeld ?_
        try simp only [Act.put, List.setIfInBounds_toArray, List.set_cons_zero, List.set_cons_succ]
        refine' qt 8 hHeld ?_
        try simp only [Act.put, List.setIfInBounds_toArray, List.set_cons_zero, List.set_cons_succ]
        refine' qt 9 hHeld ?_
        try simp only [Act.put, List.setIfInBounds_toArray, List.set_cons_zero, List.set_cons_succ]
        refine' qt 10 hHeld ?_
        try simp only [Act.put, List.setIfInBounds_toArray, List.set_cons_zero, List.set_cons_succ]
        refine' qt 11 hHeld ?_
        try simp only [Act.put, List.setIfInBounds_toArray, List.set_cons_zero, List.set_cons_succ]
        refine' qt 12 hHeld ?_
        try simp only [Act.put, List.setIfInBounds_toArray, List.set_cons_zero, List.set_cons_succ]
        refine' qt (v := .string x') 13 hHeld ?_ (hy := by intro w hSw; have h1 := hSw.1.2; clear hSw; go_simp)
        try simp only [Act.put, List.setIfInBounds_toArray, List.set_cons_zero, List.set_cons_succ]
        refine' qt 14 hHeld ?_
        try simp only [Act.put, List.setIfInBounds_toArray, List.set_cons_zero, List.set_cons_succ]
        refine' qt 15 hHeld ?_
        try simp only [Act.put, List.setIfInBounds_toArray, List.set_cons_zero, List.set_cons_succ]
        refine' qt (v := .string x) 16 hHeld ?_ (hy := by intro w hSw; have h1 := hSw.1.1; clear hSw; go_simp)
        try simp only [Act.put, List.setIfInBounds_toArray, List.set_cons_zero, List.set_cons_succ]
        refine qc (he := by (go_simp; try with_reducible rfl)) 17 ((CE.out _).mono fun e W8 h => ⟨h.1, h.2⟩) (fun W' h => by subst h; exact hHeld) fun W9 hHeld _ => ?_
        try simp only [Act.put, List.setIfInBounds_toArray, List.set_cons_zero, List.set_cons_succ]
        refine' qt 18 hHeld ?_
        try simp only [Act.put, List.setIfInBounds_toArray, List.set_cons_zero, List.set_cons_succ]
        refine' qt 19 hHeld ?_
        try simp only [Act.put, List.setIfInBounds_toArray, List.set_cons_zero, List.set_cons_succ]
        refine wpAnyH_done (by kernel_rfl) ?_ _
        go_wp2
        go_ret
        exact ⟨rfl, hHeld.2.out.2.2.1⟩
end Go.Proofs.Ytiflkkmeloclfaa
