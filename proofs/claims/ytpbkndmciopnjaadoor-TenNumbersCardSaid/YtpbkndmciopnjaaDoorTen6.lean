import Derived.Test.YtpbkndmciopnjaaDoorTen5
namespace Go.Proofs.YtpbkndmciopnjaaDoor
open Go.RowKit
theorem OwnS.cap {w : World} {base m c : Nat} {A : Option Addr} {ys : List Nat} (h : OwnS w base A m c ys) : m ≤ c := by
  rcases Nat.eq_zero_or_pos m with h0 | h0
  · omega
  · obtain ⟨g, cap, e, _, _, h1, _⟩ := own_pos h.1 h0
    simp only [Value.slice.injEq] at e
    omega
set_option maxHeartbeats 2000000 in
set_option maxRecDepth 100000 in
theorem tenCut_c (A : Option Addr) (n c : Nat) (xs : List Nat) (z : Int) (k : Nat) (w : World) (h : Limbs w A n xs) (gx : ∀ x ∈ xs, x < 1000000000) (hn : n ≤ 100000000) (hc : n ≤ c) (hz : max z 0 = (k : Int)) (hk : k ≤ 65536) (hP : Pw w) :
    Calls Tryd.prog 19 #[.slice A n c, .int .i64 z] w fun e w' => ∃ A1 m1 c1 A2 m2 c2, e = .returned (.tuple #[.slice A1 m1 c1, .slice A2 m2 c2]) ∧
      OwnS w' w.heap.size A1 m1 c1 (digs 1000000000 (val 1000000000 xs / 10 ^ k)) ∧ OwnS w' w.heap.size A2 m2 c2 (digs 1000000000 (val 1000000000 xs % 10 ^ k)) ∧ Below w.heap.size w w' := by
  obtain ⟨i0, hi, hz0, hz1, hz2⟩ := info_parts u32_info
  obtain ⟨b, hb⟩ : ∃ b : Nat, b = k % 9 := ⟨_, rfl⟩
  obtain ⟨a, ha⟩ : ∃ a : Nat, a = k / 9 := ⟨_, rfl⟩
  have hl := h.len
  have haI : (k : Int) / 9 = (a : Int) := by omega
  by_cases hbig : n ≤ a
  · have hlt := cut_big gx k (by omega)
    have CT := trim_c A n c xs w h (by omega)
    rw [trim_eq_digs 1000000000 (by omega) _ gx] at CT
    have HCT := Lib.hid CT
    have HLT := Lib.hid hlt
    clear CT hlt h gx hl ha hb
    go_enter Tryd.func19, Tryd.ntmps19
    go_wp2_with fail
    refine HCT.out.mono ?_
    rintro e w1 ⟨A1, m1, c1, rfl, ho1, hb1⟩
    have HO1 := Lib.hid ho1
    have HB1 := Lib.hid hb1
    clear ho1 hb1 HCT
    go_wp2
    go_ret2
    refine ⟨_, _, _, _, _, _, rfl, ?_, ?_, HB1.out⟩
    · rw [Nat.div_eq_of_lt HLT.out, digs_zero]; exact ownS_nil _ _
    · rw [Nat.mod_eq_of_lt HLT.out]; exact HO1.out
  · have hpw := hP b (by omega)
    have hG := hP.blk
    have hpw9 := pow_lt9 b (by omega)
    have hpp := pow_pos10 b
    have hcr := cut_r gx k (by omega)
    have hcq := cut_q (val 1000000000 xs) k
    rw [← val_drop gx] at hcq
    rw [← ha, ← hb] at hcr hcq
    obtain ⟨ad, rfl, hab, _⟩ := h.at_ (k := 0) (by omega)
    have hcut := Reads.cut h.1 (k := a) (cap := c) (by omega) hc
    rw [if_neg (by omega), Nat.mul_one, Option.map_some] at hcut
    have hcutL : Limbs w (some (ad.add a)) (n - a) (xs.drop a) := ⟨by simpa [u32s] using hcut, by omega, fun x hx => by have := gx x (List.mem_of_mem_drop hx); omega⟩
    generalize hPW : 10 ^ b = PW at *
    have CS := divSmall_c (some (ad.add a)) (n - a) (c - a) (xs.drop a) PW w.drew hcutL (fun x hx => gx x (List.mem_of_mem_drop hx)) (by omega) hpp hpw9
    have hmod := Nat.mod_lt (val 1000000000 (xs.drop a)) hpp
    rw [hcq] at CS
    generalize val 1000000000 (xs.drop a) % PW = R at *
    have HCS := Lib.hid CS
    have HCR := Lib.hid hcr
    have H := Lib.hid h
    have GX := Lib.hid gx
    have HL := Lib.hid hl
    have hbI : (k : Int) % 9 = (b : Int) := by omega
    have hb9 : (b : Int) < 9 := by omega
    have han : a < n := by omega
    have hac : a ≤ c := by omega
    have hanI : (a : Int) ≤ (n : Int) := by omega
    have hncI : (n : Int) ≤ (c : Int) := by omega
    have hacI : (a : Int) ≤ (c : Int) := by omega
    have hane : ¬ c = a := by omega
    clear CS hcr h gx hl hcq hcut hcutL ha hb hPW hbig
    go_enter Tryd.func19, Tryd.ntmps19
    go_wp2
    have hpwd : w.drew.cell? ⟨0, b, none⟩ = some (.int .u32 (PW : Int)) := hpw
    have q1 : IntKind.i64.wrap ((k : Int) % 9) = (b : Int) := by rw [hbI]; exact IntWalk.i64_in _ (by omega)
    have q2 : (k : Int).tmod 9 = (b : Int) := by rw [← hbI]; rfl
    go_region_held3 (fun w' => w'.cell? ⟨0, b, none⟩ = some (.int .u32 (PW : Int))) (go_keep)
      ((go_at_call 26; refine HCS.out.mono ?_; rintro e w1 ⟨A1, m1, c1, rfl, ho1, hb1⟩; have hpw1 : w1.cell? ⟨0, b, none⟩ = some (.int .u32 (PW : Int)) := (hb1.cell (p := ⟨0, b, none⟩) hG).trans hpw; have HO1 := Lib.hid ho1; have HB1 := Lib.hid hb1; clear ho1 hb1))
    rename_i hHeld
    clear hHeld q1 q2 hpw1 hpwd hpw
    have hsz1 : w.heap.size ≤ w1.heap.size := HB1.out.size
    have HA1 := Lib.hid (show (a : Int) + 1 = ((a + 1 : Nat) : Int) by omega)
    go_wp2_with (at_make; refine wpList_make_full _ rfl _ _ 22 rfl w1.heap.size 39 i0 (.int .u32 0) 1 Tryd.underlying22 hi hz0 hz1 _ _ _ _ (a + 1) rfl rfl ?b0 ?b1 ?b2 ?b3 (Nat.le_refl _) ?_)
    case b0 => have := HA1.out; omega
    case b1 => have := HA1.out; omega
    case b2 => rw [hz2]; omega
    case b3 => unfold maxLen; omega
    intro w2 hown hgrow
    rw [made_u32] at hown
    have hb2 : Below w1.heap.size w1 w2 := (Below.refl _ _).grown hgrow (Nat.le_refl _) (fun k hk => by cases hk)
    have HBW := Lib.hid ((Below.refl w.heap.size w).drew.trans HB1.out)
    have H1 := Lib.hid ((H.out.below HBW.out).below hb2)
    have HQ := Lib.hid (HO1.out.keep hb2 rfl)
    have HB := Lib.hid (own_blk hown)
    have hlt2 : w1.heap.size < w2.heap.size := (Array.getElem?_eq_some_iff.1 (own_blk hown).1).1
    clear hown hgrow
    go_wp2_with (refine wpList_copy_splice rfl (.tmp 34) (.tmp 37) _ _ rfl 39 Tryd.underlying22 (by rw [hi]; simp [hz1]) _ (some ad) _ (a + 1) a c rfl rfl w1.heap.size 0 (u32s (List.replicate (a + 1) 0)) 39 HB.out.1 (u32s (xs.take a)) ?c1 ?c2 ?c3 (u32_one _) w1.heap.size w1 hb2 (Nat.le_refl _) ?_)
    case c1 => simp only [u32s_length, List.length_take, HL.out, Nat.min_def]; split <;> split <;> omega
    case c2 =>
      intro hp
      obtain ⟨ad', e1, hb, hcell⟩ := H1.out.1.2 (by omega)
      obtain rfl : ad = ad' := by simpa using e1
      intro j v hv
      refine hcell j v ?_
      rw [u32s_get] at hv ⊢
      rw [List.getElem?_take] at hv
      split at hv
      · exact hv
      · simp at hv
    case c3 => simp [u32s_length, HL.out]; omega
    intro w3 hh hb3
    have esp : splice (u32s (List.replicate (a + 1) 0)) 0 (u32s (xs.take a)) = u32s (xs.take a ++ [0]) := by
      have hla : (u32s (xs.take a)).length = a := by simp [u32s_length, HL.out]; omega
      rw [u32s_append]
      simp only [splice, List.take_zero, List.nil_append, Nat.zero_add, hla]
      congr 1
      simp [u32s]
    rw [esp] at hh
    have hO3 : w3.ownsRow w1.heap.size 39 1 (.slice (some ⟨w1.heap.size, 0, none⟩) (a + 1) (a + 1)) (a + 1) (u32s (xs.take a ++ [0])) :=
      own_of_blk hh.out (Nat.le_refl _) (by simp [u32s_length, HL.out]; omega) (by unfold maxLen; omega)
    have hc0 := own_at hO3 (j := a) (by omega)
    have hf0 := hO3.frozenAt a
    have hcv : w3.cell? ⟨w1.heap.size, a, none⟩ = some (.int .u32 (((xs.take a ++ [0]).getD a 0 : Nat) : Int)) := hc0
    generalize (xs.take a ++ [0]).getD a 0 = U at *
    have HO3 := Lib.hid hO3
    have HB3 := Lib.hid hb3
    clear hh hO3 hc0 HB H1 HCS hbI haI hane hncI hacI hanI esp hb2
    generalize hg1 : w1.heap.size = g1 at *
    have Hg1 := Lib.hid hg1
    clear hg1
    have hOS := (HO3.out.stored a (.int .u32 (R : Int))).1
    have hset : (xs.take a ++ [0]).set a R = xs.take a ++ [R] := by
      rw [List.set_append_right _ _ (by rw [List.length_take]; omega), List.length_take, HL.out, Nat.min_eq_left (by omega), Nat.sub_self]
      rfl
    rw [← u32s_set, hset] at hOS
    have hBS := HB3.out.setCell (p := ⟨g1, a, none⟩) (Nat.le_refl _) (.int .u32 (R : Int))
    have hall : ∀ x ∈ xs.take a ++ [R], x < 1000000000 := fun x hx => by
      rcases List.mem_append.1 hx with hx | hx
      · exact GX.out x (List.mem_of_mem_take hx)
      · rw [List.mem_singleton.1 hx]; omega
    have CT := trim_own g1 (a + 1) _ _ w1 _ hOS (by omega) hBS Hg1.out hall HCR.out
    have HCT := Lib.hid CT
    clear CT hall hset hOS hBS hb3
    go_wp2_with (go_at_call 22; refine HCT.out.mono ?_; rintro e w5 ⟨A5, m5, c5, rfl, ho5, hb5⟩; have HO5 := Lib.hid ho5; have HB5 := Lib.hid hb5; clear ho5 hb5 HCT)
    go_ret2
    refine ⟨_, _, _, _, _, _, rfl, HO1.out.keep HB5.out Hg1.out.symm, HO5.out.weaken hsz1, HBW.out.trans (HB5.out.mono hsz1)⟩
end Go.Proofs.YtpbkndmciopnjaaDoor
