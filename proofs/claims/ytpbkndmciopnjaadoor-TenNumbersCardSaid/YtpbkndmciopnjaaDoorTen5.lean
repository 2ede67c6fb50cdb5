import Derived.Test.YtpbkndmciopnjaaDoorTen4
import Derived.Test.YtpbkndmciopnjaaDoorOwn
namespace Go.Proofs.YtpbkndmciopnjaaDoor
open Go.RowKit
theorem le_div9 {k : Nat} : k / 9 * 9 ≤ k := Nat.div_mul_le_self k 9
set_option maxHeartbeats 2000000 in
set_option maxRecDepth 100000 in
theorem tenShift_c (A : Option Addr) (n c : Nat) (xs : List Nat) (z : Int) (k : Nat) (w : World) (h : Limbs w A n xs) (gx : ∀ x ∈ xs, x < 1000000000) (hn : n ≤ 100000000) (hz : max z 0 = (k : Int)) (hk : k ≤ 65536) (hP : Pw w) :
    Calls Tryd.prog 20 #[.slice A n c, .int .i64 z] w fun e w' => ∃ A' m c', e = .returned (.slice A' m c') ∧ OwnS w' w.heap.size A' m c' (digs 1000000000 (val 1000000000 xs * 10 ^ k)) ∧ Below w.heap.size w w' := by
  obtain ⟨i0, hi, hz0, hz1, hz2⟩ := info_parts u32_info
  obtain ⟨b, hb⟩ : ∃ b : Nat, b = k % 9 := ⟨_, rfl⟩
  obtain ⟨a, ha⟩ : ∃ a : Nat, a = k / 9 := ⟨_, rfl⟩
  have hpw := hP b (by omega)
  have hpw9 := pow_lt9 b (by omega)
  have CS0 := small_c A n c xs (10 ^ b) 0 w h gx (by omega) hpw9 (by omega)
  have hlen := digs_len_mono (u := val 1000000000 xs * 10 ^ b + 0) (v := 1000000000 ^ (n + 1) - 1) (by
    have h1 := val_lt 1000000000 xs gx
    rw [h.len] at h1
    have h2 : val 1000000000 xs * 10 ^ b ≤ val 1000000000 xs * 1000000000 := Nat.mul_le_mul_left _ (by omega)
    have h3 : 1000000000 ^ (n + 1) = 1000000000 ^ n * 1000000000 := Nat.pow_succ ..
    omega)
  have hlen2 := digs_len9' (v := 1000000000 ^ (n + 1) - 1) (k := n + 1) (by have := Nat.pow_pos (n := n + 1) (show 0 < 1000000000 by omega); omega)
  have hsv := shift_val (val 1000000000 xs) k
  rw [← ha, ← hb] at hsv
  have HSV := Lib.hid hsv
  have HLEN := Lib.hid (Nat.le_trans hlen hlen2)
  generalize hPW : 10 ^ b = PW at *
  have CS : Calls Tryd.prog 27 #[.slice A n c, .int .u32 (PW : Int), .int .u32 0] w _ := CS0
  have HCS := Lib.hid CS
  have hbI : (k : Int) % 9 = (b : Int) := by omega
  have hb9 : (b : Int) < 9 := by omega
  have haI : (k : Int) / 9 = (a : Int) := by omega
  have ha1 : a ≤ 7282 := by omega
  clear hsv hlen hlen2 hPW CS0 CS ha hb h gx
  go_enter Tryd.func20, Tryd.ntmps20
  go_wp2_with fail
  refine HCS.out.mono ?_
  rintro e w1 ⟨A1, m1, c1, rfl, ho1, hb1⟩
  have HO1 := Lib.hid ho1
  have HB1 := Lib.hid hb1
  have hm1 : m1 ≤ n + 1 := by rw [← ho1.len]; exact HLEN.out
  clear ho1 hb1 HCS
  go_wp2_with (at_make; refine wpList_make_full _ rfl _ _ 22 rfl w1.heap.size 39 i0 (.int .u32 0) 1 Tryd.underlying22 hi hz0 hz1 _ _ _ _ a rfl rfl ?b0 ?b1 ?b2 ?b3 (Nat.le_refl _) ?_)
  case b0 => omega
  case b1 => omega
  case b2 => rw [hz2]; omega
  case b3 => unfold maxLen; omega
  intro w2 hown hgrow
  rw [made_u32] at hown
  have hb2 : Below w1.heap.size w1 w2 := (Below.refl _ _).grown hgrow (Nat.le_refl _) (fun k hk => by cases hk)
  have HR := Lib.hid (HO1.out.limbs.below hb2)
  have HB2 := Lib.hid hb2
  have HOW := Lib.hid hown
  have hsz := hb2.size
  clear hown hgrow hb2
  go_wp2_with (at_builtin; go_must (refine wpList_app_limbs rfl (.tmp 18) (.tmp 19) _ rfl Tryd.underlying22 w1.heap.size _ a _ rfl HOW.out _ m1 c1 _ rfl HR.out (by omega) HB2.out hsz ?_))
  intro v' w3 ho3 hb3
  obtain ⟨A3, c3, rfl⟩ := own_form ho3.out
  have hg9 := digs_lt 1000000000 (by omega) (val 1000000000 xs * PW + 0)
  have hall : ∀ x ∈ List.replicate a 0 ++ digs 1000000000 (val 1000000000 xs * PW + 0), x < 1000000000 := fun x hx => by
    rcases List.mem_append.1 hx with hx | hx
    · rw [List.eq_of_mem_replicate hx]; omega
    · exact hg9 x hx
  have CT := trim_c A3 (a + m1) c3 _ w3 (show Limbs w3 A3 (a + m1) (List.replicate a 0 ++ digs 1000000000 (val 1000000000 xs * PW + 0)) from ⟨Reads.of_own ho3.out, by omega, fun x hx => by have := hall x hx; omega⟩) (by omega)
  rw [trim_eq_digs 1000000000 (by omega) _ hall, HSV.out] at CT
  have HCT := Lib.hid CT
  clear CT hall hg9
  go_wp2_with fail
  refine HCT.out.mono ?_
  rintro e w4 ⟨A4, m4, c4, rfl, ho4, hb4⟩
  have HO4 := Lib.hid ho4
  have hsz3 : w.heap.size ≤ w3.heap.size := Nat.le_trans HB1.out.size (Nat.le_trans (by simp) hb3.out.size)
  have HB4 := Lib.hid ((HB1.out.trans (hb3.out.mono HB1.out.size)).trans (hb4.mono hsz3))
  clear ho4 hb4 HCT
  go_wp2
  go_ret
  exact ⟨_, _, _, rfl, HO4.out.weaken hsz3, HB4.out⟩
end Go.Proofs.YtpbkndmciopnjaaDoor
