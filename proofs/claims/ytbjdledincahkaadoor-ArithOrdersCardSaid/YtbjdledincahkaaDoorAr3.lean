/-
  Ar3: arith.Sub, arith.Mul; sums and products by value.
-/
import Derived.Test.YtbjdledincahkaaDoorAr2
namespace Go.Proofs.YtbjdledincahkaaDoor
open Go.RowKit

set_option maxHeartbeats 1600000 in
set_option maxRecDepth 100000 in
theorem sub0_c (B : Nat) (n m : Bool) (s t : ByteArray) (e f : Int) (N M X Y : Nat) (k : Int) (i j : Nat) (w : World) (h : DA B s e N) (h' : DA B t f M) (hk : min e f = k) (hi : e - k = (i : Int)) (hj : f - k = (j : Int)) (hX : N * 10 ^ i = X) (hY : M * 10 ^ j = Y) (hB : B ≤ 30000) (hx : (decs X).length ≤ 4950) (hy : (decs Y).length ≤ 4950) (hP : Pw w) :
    Calls Tryd.prog 12 #[.agg #[.bool n, .string s, .int .i64 e], .agg #[.bool m, .string t, .int .i64 f]] w fun r w' => r = .returned (.agg #[.bool (zneg (sv n X + sv (!m) Y)), .string (zstr (sv n X + sv (!m) Y)), .int .i64 (zexp (sv n X + sv (!m) Y) k)]) ∧ Below w.heap.size w w' := by
  have HF := Lib.hid (fun w hP => add0_c B n (!m) s t e f N M X Y k i j w h h' hk hi hj hX hY hB hx hy hP)
  have HK := Lib.hid (kept4_two w (.bool n) (.string s) (.int .i64 e) (.bool (!m)) (.string t) (.int .i64 f) (.bool false) (.string ⟨#[]⟩) (.int .i64 0) 23 23 hP)
  clear h h' hk hi hj hX hY hB hx hy hP
  go_enter Tryd.func12, Tryd.ntmps12
  go_wp2_with fail
  refine (HF.out _ HK.out.1.1).mono ?_
  rintro r w1 ⟨rfl, hb⟩
  have hk := HK.out.keep hb
  obtain ⟨x, y, z, d0, d1, d2, f0, f1, f2, hz⟩ := hk.2.1
  have HK1 := Lib.hid hk
  clear HK hk hb
  go_wp2
  exact bodyPost_ret (by simp [results, Tryd.results12, go_sem, d0, d1, d2]) rfl
    ⟨rfl, (HK1.out.store _ _ _).1.2.1⟩

set_option maxHeartbeats 4000000 in
set_option maxRecDepth 100000 in
theorem mul0_c (B : Nat) (n m : Bool) (s t : ByteArray) (e f : Int) (N M : Nat) (w : World) (h : DA B s e N) (h' : DA B t f M) (hB : B ≤ 30000) (hx : (decs (N * M)).length ≤ 4990) (hP : Pw w) :
    Calls Tryd.prog 14 #[.agg #[.bool n, .string s, .int .i64 e], .agg #[.bool m, .string t, .int .i64 f]] w fun r w' => r = .returned (.agg #[.bool (zneg (sv n N * sv m M)), .string (zstr (sv n N * sv m M)), .int .i64 (zexp (sv n N * sv m M) (e + f))]) ∧ Below w.heap.size w w' := by
  have HF := Lib.hid (h.mono hB)
  have HF' := Lib.hid (h'.mono hB)
  have hi3 : -60000 ≤ e + f ∧ e + f ≤ 60000 := by have := h.lo; have := h'.lo; have := h.hi; have := h'.hi; omega
  have HB1 := Lib.hid hi3.1
  have HB2 := Lib.hid hi3.2
  have hw : IntKind.i64.wrap (e + f) = e + f := IntWalk.i64_in _ (by omega)
  have HM1 := Lib.hid (fun m (hm : (digs 1000000000 N).length = m) => (show m ≤ 100000000 by have := digs_len_decs h.declen; omega))
  have HM2 := Lib.hid (fun m' (hm : (digs 1000000000 M).length = m') => (show m' ≤ 100000000 by have := digs_len_decs h'.declen; omega))
  have HNL := Lib.hid hx
  have HK := Lib.hid (kept4_two w (.bool n) (.string s) (.int .i64 e) (.bool m) (.string t) (.int .i64 f) (.bool false) (.string ⟨#[]⟩) (.int .i64 0) 23 23 hP)
  rw [sv_mul2, ← pneg_sv, zstr_sv, zexp_sv]
  clear h h' hx hB hi3 hP
  go_enter Tryd.func14, Tryd.ntmps14
  go_wp2
  have hS : Sd4 w [(w.heap.size, .bool n, .string s, .int .i64 (e)), (w.heap.size + 1, .bool m, .string t, .int .i64 (f))] (w.heap.size + 1 + 1) _ := .of (HK.out).drew
  go_region_held3 (fun w' => (((w'.cell? ⟨w.heap.size, 0, none⟩ = some (.bool n) ∧ w'.cell? ⟨w.heap.size, 1, none⟩ = some (.string s) ∧ w'.cell? ⟨w.heap.size, 2, none⟩ = some (.int .i64 (e))) ∧ (w'.cell? ⟨w.heap.size + 1, 0, none⟩ = some (.bool m) ∧ w'.cell? ⟨w.heap.size + 1, 1, none⟩ = some (.string t) ∧ w'.cell? ⟨w.heap.size + 1, 2, none⟩ = some (.int .i64 (f))) ∧ True) ∧ (w'.cell? ⟨w.heap.size + 1 + 1, 0, none⟩ = some (rd w' (w.heap.size + 1 + 1) 0) ∧ w'.cell? ⟨w.heap.size + 1 + 1, 1, none⟩ = some (rd w' (w.heap.size + 1 + 1) 1) ∧ w'.cell? ⟨w.heap.size + 1 + 1, 2, none⟩ = some (rd w' (w.heap.size + 1 + 1) 2) ∧ w'.frozen? ⟨w.heap.size + 1 + 1, 0, none⟩ = false ∧ w'.frozen? ⟨w.heap.size + 1 + 1, 1, none⟩ = false ∧ w'.frozen? ⟨w.heap.size + 1 + 1, 2, none⟩ = false)) ∧ Hid (Kept4 w [(w.heap.size, .bool n, .string s, .int .i64 (e)), (w.heap.size + 1, .bool m, .string t, .int .i64 (f))] (w.heap.size + 1 + 1) w')) (first | exact hS | exact Sd4.store (w0 := w) (L := [(w.heap.size, .bool n, .string s, .int .i64 (e)), (w.heap.size + 1, .bool m, .string t, .int .i64 (f))]) (g := w.heap.size + 1 + 1) hS _ _ _)
    (first
      | (go_at_call 33; refine (decCoef_c _ _ _ _ _ _ (by first | exact HF.out | exact HF'.out) (Sd4.pw (w0 := w) (L := [(w.heap.size, .bool n, .string s, .int .i64 (e)), (w.heap.size + 1, .bool m, .string t, .int .i64 (f))]) (g := w.heap.size + 1 + 1) (by assumption))).mono ?_; rintro r w1 ⟨A1, m1, c1, rfl, ho1, hb⟩; have hS := Sd4.keep (w0 := w) (L := [(w.heap.size, .bool n, .string s, .int .i64 (e)), (w.heap.size + 1, .bool m, .string t, .int .i64 (f))]) (g := w.heap.size + 1 + 1) (by assumption) hb; (try (have HO2 := Lib.hid (HO1.out.below hb); have HL2 := HL1; clear HO1 HL1)); have HO1 := Lib.hid ho1.limbs; have HL1 := Lib.hid (show m1 ≤ 100000000 by first | exact HM1.out _ ho1.len | exact HM2.out _ ho1.len); clear ho1; clear hb)
      | (go_at_call 32; refine (natMul_n _ _ _ _ _ _ N M _ HO2.out HO1.out HL2.out HL1.out).mono ?_; rintro r w1 ⟨A3, m3, c3, rfl, ho3, hb⟩; have hS := Sd4.keep (w0 := w) (L := [(w.heap.size, .bool n, .string s, .int .i64 (e)), (w.heap.size + 1, .bool m, .string t, .int .i64 (f))]) (g := w.heap.size + 1 + 1) (by assumption) hb; have HO3 := Lib.hid ho3.limbs; have HL3 := Lib.hid (show m3 ≤ 100000000 by have h1 := digs_len_decs HNL.out; rw [ho3.len] at h1; exact Nat.le_trans h1 (by omega)); clear ho3; clear hb)
      | (go_at_call 23; refine (decimal_c 60000 _ A3 m3 c3 _ (e + f) _ HO3.out HL3.out HNL.out HB1.out HB2.out (by omega) (Sd4.pw (w0 := w) (L := [(w.heap.size, .bool n, .string s, .int .i64 (e)), (w.heap.size + 1, .bool m, .string t, .int .i64 (f))]) (g := w.heap.size + 1 + 1) (by assumption))).mono ?_; rintro r w1 ⟨rfl, hb⟩; have hS := Sd4.keep (w0 := w) (L := [(w.heap.size, .bool n, .string s, .int .i64 (e)), (w.heap.size + 1, .bool m, .string t, .int .i64 (f))]) (g := w.heap.size + 1 + 1) (by assumption) hb; clear hb))
  rename_i hHeld
  clear hHeld
  clear hw
  obtain ⟨⟨-, ⟨d0, d1, d2, f0, f1, f2⟩⟩, hk⟩ := hS
  go_wp2
  exact bodyPost_ret (by simp [results, Tryd.results14, go_sem, d0, d1, d2] <;> rfl) rfl
    ⟨rfl, (hk.out.store _ _ _).1.2.1⟩

theorem atE_two (n : Bool) (N : Nat) (e k : Int) {m : Int} (h1 : k ≤ m) (h2 : m ≤ e) : atE n N e k = atE n N e m * (10 ^ (m - k).toNat : Nat) := by
  have := atE_finer n N e m (m - k).toNat h2
  rwa [show m - ((m - k).toNat : Int) = k by omega] at this
theorem decs_atE {n : Bool} {N : Nat} {e k m : Int} (h1 : k ≤ m) (_h2 : m ≤ e) : (decs (N * 10 ^ (e - m).toNat)).length ≤ (decs (atE n N e k).natAbs).length := by
  refine decs_length_le ?_
  rw [atE, sv_natAbs]
  exact Nat.mul_le_mul_left _ (Nat.pow_le_pow_right (by omega) (by omega))
theorem mul_swap4 (a b x y : Int) : a * x * (b * y) = a * b * (x * y) := by
  rw [Int.mul_assoc, Int.mul_assoc, Int.mul_left_comm x b y]
theorem add_min {e f k : Int} {n m : Bool} {N M : Nat} (h1 : k ≤ e) (h2 : k ≤ f) :
    ∃ (p : Int) (i j : Nat), min e f = p ∧ e - p = (i : Int) ∧ f - p = (j : Int) ∧ k ≤ p ∧ (zneg (sv n (N * 10 ^ i) + sv m (M * 10 ^ j)) = zneg (atE n N e k + atE m M f k) ∧
      zstr (sv n (N * 10 ^ i) + sv m (M * 10 ^ j)) = zstr (atE n N e k + atE m M f k) ∧ zexp (sv n (N * 10 ^ i) + sv m (M * 10 ^ j)) p = zexp (atE n N e k + atE m M f k) k) ∧ i = (e - p).toNat ∧ j = (f - p).toNat := by
  refine ⟨min e f, (e - min e f).toNat, (f - min e f).toNat, rfl, by omega, by omega, by omega, ?_, rfl, rfl⟩
  have hs := z_same (Z := atE n N e (min e f) + atE m M f (min e f)) (Z' := atE n N e k + atE m M f k) (m := min e f) (m' := k) (min e f - k).toNat (by omega)
    (by rw [atE_two n N e k (m := min e f) (by omega) (by omega), atE_two m M f k (m := min e f) (by omega) (by omega), Int.add_mul])
  exact ⟨hs.1.symm, hs.2.1.symm, hs.2.2.symm⟩
theorem add_d {k : Int} {n m : Bool} {s t : ByteArray} {e f V W Z : Int} {w : World} (h : DV k n s e V) (h' : DV k m t f W) (hZ : V + W = Z) (hP : Pw w) :
    Calls Tryd.prog 10 #[.agg #[.bool n, .string s, .int .i64 e], .agg #[.bool m, .string t, .int .i64 f]] w fun r w' => r = .returned (.agg #[.bool (zneg Z), .string (zstr Z), .int .i64 (zexp Z k)]) ∧ Below w.heap.size w w' := by
  obtain ⟨⟨N, hd, rfl⟩, h1, h2, h3⟩ := h
  obtain ⟨⟨M, hd', rfl⟩, h1', h2', h3'⟩ := h'
  subst hZ
  obtain ⟨p, i, j, hp, hi, hj, hkp, ⟨e1, e2, e3⟩, hi2, hj2⟩ := add_min (n := n) (m := m) (N := N) (M := M) h1 h1'
  have := add0_c 30000 n m s t e f N M _ _ p i j w hd hd' hp hi hj rfl rfl (by omega) (by rw [hi2]; exact Nat.le_trans (decs_atE (n := n) hkp (by omega)) (by omega)) (by rw [hj2]; exact Nat.le_trans (decs_atE (n := m) hkp (by omega)) (by omega)) hP
  rwa [e1, e2, e3] at this
theorem sub_d {k : Int} {n m : Bool} {s t : ByteArray} {e f V W Z : Int} {w : World} (h : DV k n s e V) (h' : DV k m t f W) (hZ : V - W = Z) (hP : Pw w) :
    Calls Tryd.prog 12 #[.agg #[.bool n, .string s, .int .i64 e], .agg #[.bool m, .string t, .int .i64 f]] w fun r w' => r = .returned (.agg #[.bool (zneg Z), .string (zstr Z), .int .i64 (zexp Z k)]) ∧ Below w.heap.size w w' := by
  obtain ⟨⟨N, hd, rfl⟩, h1, h2, h3⟩ := h
  obtain ⟨⟨M, hd', rfl⟩, h1', h2', h3'⟩ := h'
  subst hZ
  obtain ⟨p, i, j, hp, hi, hj, hkp, ⟨e1, e2, e3⟩, hi2, hj2⟩ := add_min (n := n) (m := !m) (N := N) (M := M) h1 h1'
  have := sub0_c 30000 n m s t e f N M _ _ p i j w hd hd' hp hi hj rfl rfl (by omega) (by rw [hi2]; exact Nat.le_trans (decs_atE (n := n) hkp (by omega)) (by omega)) (by rw [hj2]; exact Nat.le_trans (decs_atE (n := m) hkp (by omega)) (by omega)) hP
  rw [e1, e2, e3, atE_turn, ← Int.sub_eq_add_neg] at this
  exact this
theorem mul_z {n m : Bool} {N M : Nat} {e f k k' : Int} (h1 : k ≤ e) (h2 : k' ≤ f) :
    zneg (sv n N * sv m M) = zneg (atE n N e k * atE m M f k') ∧ zstr (sv n N * sv m M) = zstr (atE n N e k * atE m M f k') ∧ zexp (sv n N * sv m M) (e + f) = zexp (atE n N e k * atE m M f k') (k + k') := by
  have hs := z_same (Z := sv n N * sv m M) (Z' := atE n N e k * atE m M f k') (m := e + f) (m' := k + k') ((e - k).toNat + (f - k').toNat) (by omega)
    (by rw [atE, atE, sv_mul, sv_mul, mul_swap4, Nat.pow_add, Int.natCast_mul])
  exact ⟨hs.1.symm, hs.2.1.symm, hs.2.2.symm⟩
theorem mul_d {k k' : Int} {n m : Bool} {s t : ByteArray} {e f V W Z K : Int} {w : World} (h : DV k n s e V) (h' : DV k' m t f W) (hZ : V * W = Z) (hK : k + k' = K) (hl : (decs Z.natAbs).length ≤ 4900) (hP : Pw w) :
    Calls Tryd.prog 14 #[.agg #[.bool n, .string s, .int .i64 e], .agg #[.bool m, .string t, .int .i64 f]] w fun r w' => r = .returned (.agg #[.bool (zneg Z), .string (zstr Z), .int .i64 (zexp Z K)]) ∧ Below w.heap.size w w' := by
  obtain ⟨⟨N, hd, rfl⟩, h1, h2, h3⟩ := h
  obtain ⟨⟨M, hd', rfl⟩, h1', h2', h3'⟩ := h'
  subst hZ hK
  obtain ⟨e1, e2, e3⟩ := mul_z (n := n) (m := m) (N := N) (M := M) h1 h1'
  have hnm : (decs (N * M)).length ≤ 4900 := by
    refine Nat.le_trans (decs_length_le ?_) hl
    rw [Int.natAbs_mul, atE, atE, sv_natAbs, sv_natAbs]
    exact Nat.mul_le_mul (Nat.le_mul_of_pos_right _ (pow_pos10 _)) (Nat.le_mul_of_pos_right _ (pow_pos10 _))
  have := mul0_c 30000 n m s t e f N M w hd hd' (by omega) (by omega) hP
  rwa [e1, e2, e3] at this

end Go.Proofs.YtbjdledincahkaaDoor
