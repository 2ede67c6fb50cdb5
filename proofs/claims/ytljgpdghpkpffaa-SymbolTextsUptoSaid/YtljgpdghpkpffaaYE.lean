/-
  YE: which symbols are good, by the program and by the document.
-/
import Derived.Test.YtljgpdghpkpffaaUE
import Derived.Test.YtljgpdghpkpffaaUI
import Derived.Test.YtljgpdghpkpffaaYD
set_option maxRecDepth 100000
namespace Go.Proofs.Ytljgpdghpkpffaa
open Go.RowKit
/-- May a symbol have the text? -/
def goodT (t : ByteArray) : Bool := decide (t.size ≠ 0) && decide (t.size ≤ 16) && decide (rst (bts t) = [])
theorem goodT_iff {t : ByteArray} : goodT t = true ↔ t.size ≠ 0 ∧ t.size ≤ 16 ∧ rst (bts t) = [] := by simp [goodT, and_assoc]
/-- The eight texts. -/
def tx8 (d g mi pl pc pm cu e : ByteArray) (k : Nat) : ByteArray := [d, g, mi, pl, pc, pm, cu, e].getD k ⟨#[]⟩
def gd8 (tx : Nat → ByteArray) (k : Nat) : Prop := ∀ j, j < k → goodT (tx j) = true
theorem gd8_succ {tx : Nat → ByteArray} {k : Nat} (h : gd8 tx k) (hk : goodT (tx k) = true) : gd8 tx (k + 1) := fun j hj => by
  rcases Nat.lt_or_ge j k with h' | h'
  · exact h j h'
  · obtain rfl : j = k := by omega
    exact hk
/-- Are symbols good? -/
def goodS (z : Int) (tx : Nat → ByteArray) : Bool := (List.range 8).all (fun k => goodT (tx k)) && sysZ z
theorem goodS_no {z : Int} {tx : Nat → ByteArray} {k : Nat} (hk : k < 8) (h : goodT (tx k) = false) : goodS z tx = false := by
  rw [goodS, Bool.and_eq_false_iff]
  left
  rw [List.all_eq_false]
  exact ⟨k, List.mem_range.2 hk, by rw [h]; decide⟩
theorem goodS_yes {z : Int} {tx : Nat → ByteArray} (h : gd8 tx 8) : goodS z tx = sysZ z := by
  rw [goodS, show (List.range 8).all (fun k => goodT (tx k)) = true from List.all_eq_true.2 fun k hk => h k (List.mem_range.1 hk), Bool.true_and]
theorem goodS_iff {z : Int} {tx : Nat → ByteArray} : goodS z tx = true ↔ gd8 tx 8 ∧ sysZ z = true := by
  rw [goodS, Bool.and_eq_true, List.all_eq_true]
  exact ⟨fun h => ⟨fun k hk => h.1 k (List.mem_range.2 hk), h.2⟩, fun h => ⟨fun k hk => h.1 k (List.mem_range.1 hk), h.2⟩⟩
set_option maxHeartbeats 2000000 in
theorem symFits_c (t : ByteArray) (w : World) : Calls Try.prog 17 #[.string t] w fun e w' => e = .returned (.bool (goodT t)) ∧ Hid (Below w.heap.size w w') := by
  generalize hb : goodT t = B
  have HBd := Lib.hid hb
  clear hb
  have HE := Lib.hid (isEmpty_bts t)
  rcases Nat.eq_zero_or_pos t.size with h0 | h0
  · have e1 : t.toList.isEmpty = true := by rw [HE.out]; exact decide_eq_true h0
    have e2 : (!t.toList.isEmpty) = false := by rw [e1]; rfl
    have hB : false = B := by rw [← HBd.out, goodT, show decide (t.size ≠ 0) = false from decide_eq_false (by omega)]; rfl
    subst hB
    clear HE HBd h0
    go_enter Try.func17, Try.ntmps17
    go_wp2
    go_ret
    exact ⟨rfl, Lib.hid (Below.refl _ _)⟩
  · have e1 : t.toList.isEmpty = false := by rw [HE.out]; exact decide_eq_false (by omega)
    have e2 : (!t.toList.isEmpty) = true := by rw [e1]; rfl
    by_cases h16 : t.size ≤ 16
    · have g1 : decide ((t.size : Int) ≤ 16) = true := decide_eq_true (by omega)
      have CB := Lib.hid (utfBad_c t w (by omega))
      have HZ := Lib.hid (badZ_neg (l := bts t))
      have HBB : Hid (decide (badZ (bts t) < 0) = B) := Lib.hid (by rw [← HBd.out, goodT, show decide (t.size ≠ 0) = true from decide_eq_true (by omega), show decide (t.size ≤ 16) = true from decide_eq_true h16, Bool.true_and, Bool.true_and]; exact decide_eq_decide.2 HZ.out)
      generalize badZ (bts t) = bz at *
      clear HE HBd h0 h16 HZ
      rcases hz : decide (bz < 0) with _ | _
      · obtain rfl : false = B := hz.symm.trans HBB.out
        clear HBB
        go_enter Try.func17, Try.ntmps17
        go_wp2_with (first
          | (go_at_call 30; refine CB.out.mono ?_; rintro e w1 ⟨rfl, hb1⟩)
          | (with_reducible go_skip)
          | fail)
        go_ret
        exact ⟨rfl, Lib.hid hb1⟩
      · obtain rfl : true = B := hz.symm.trans HBB.out
        clear HBB
        go_enter Try.func17, Try.ntmps17
        go_wp2_with (first
          | (go_at_call 30; refine CB.out.mono ?_; rintro e w1 ⟨rfl, hb1⟩)
          | (with_reducible go_skip)
          | fail)
        go_ret
        exact ⟨rfl, Lib.hid hb1⟩
    · have g1 : decide ((t.size : Int) ≤ 16) = false := decide_eq_false (by omega)
      have hB : false = B := by rw [← HBd.out, goodT, show decide (t.size ≤ 16) = false from decide_eq_false h16]; simp
      subst hB
      clear HE HBd h0 h16
      go_enter Try.func17, Try.ntmps17
      go_wp2
      go_ret
      exact ⟨rfl, Lib.hid (Below.refl _ _)⟩
def arr8 (d g mi pl pc pm cu e : ByteArray) : Value := .agg #[.string d, .string g, .string mi, .string pl, .string pc, .string pm, .string cu, .string e]
set_option maxHeartbeats 2000000 in
theorem symTexts_c (z : Int) (d g mi pl pc pm cu e : ByteArray) (w : World) :
    Calls Try.prog 16 #[.agg #[.int .i32 z, .string d, .string g, .string mi, .string pl, .string pc, .string pm, .string cu, .string e]] w fun e' w' =>
    e' = .returned (arr8 d g mi pl pc pm cu e) ∧ Hid (Below w.heap.size w w') := by
  unfold arr8
  have HN := Lib.hid (BX.new (w.alloc (.cells #[.int .i32 z, .string d, .string g, .string mi, .string pl, .string pc, .string pm, .string cu, .string e] 23)) #[.string d, .string g, .string mi, .string pl, .string pc, .string pm, .string cu, .string e] 38)
  have HB := Lib.hid (((Below.refl w.heap.size w).alloc (Nat.le_refl _) (.cells #[.int .i32 z, .string d, .string g, .string mi, .string pl, .string pc, .string pm, .string cu, .string e] 23)).alloc (by rw [World.size_alloc]; exact Nat.le_succ _) (.cells #[.string d, .string g, .string mi, .string pl, .string pc, .string pm, .string cu, .string e] 38))
  go_enter Try.func16, Try.ntmps16
  go_wp2
  rw [World.size_alloc] at HN
  generalize (w.alloc (.cells #[.int .i32 z, .string d, .string g, .string mi, .string pl, .string pc, .string pm, .string cu, .string e] 23)).alloc (.cells #[.string d, .string g, .string mi, .string pl, .string pc, .string pm, .string cu, .string e] 38) = W2 at *
  have d0 := HN.out.c 0
  have d1 := HN.out.c 1
  have d2 := HN.out.c 2
  have d3 := HN.out.c 3
  have d4 := HN.out.c 4
  have d5 := HN.out.c 5
  have d6 := HN.out.c 6
  have d7 := HN.out.c 7
  exact bodyPost_ret (v := .agg #[.string d, .string g, .string mi, .string pl, .string pc, .string pm, .string cu, .string e]) (by simp [results, Try.results16, go_sem, d0, d1, d2, d3, d4, d5, d6, d7]) rfl ⟨rfl, HB⟩
theorem arr_at (d g mi pl pc pm cu e : ByteArray) {k : Nat} (hk : k < 8) (W : World) : (Instr.index 38 (arr8 d g mi pl pc pm cu e) (.int .i64 (k : Int))).run Try.prog W = .ok (.string (tx8 d g mi pl pc pm cu e k)) W := by
  unfold arr8
  obtain rfl | rfl | rfl | rfl | rfl | rfl | rfl | rfl : k = 0 ∨ k = 1 ∨ k = 2 ∨ k = 3 ∨ k = 4 ∨ k = 5 ∨ k = 6 ∨ k = 7 := by omega
  all_goals kernel_rfl
set_option maxHeartbeats 2000000 in
theorem symGood_c (z : Int) (d g mi pl pc pm cu e : ByteArray) (w : World) (hz : -2147483648 ≤ z ∧ z ≤ 2147483647) :
    Calls Try.prog 9 #[.agg #[.int .i32 z, .string d, .string g, .string mi, .string pl, .string pc, .string pm, .string cu, .string e]] w fun e' w' =>
    e' = .returned (.bool (goodS z (tx8 d g mi pl pc pm cu e))) ∧ Hid (Below w.heap.size w w') := by
  generalize hb : goodS z (tx8 d g mi pl pc pm cu e) = B
  have HBd := Lib.hid hb
  clear hb
  have HX := Lib.hid (BX.new w #[.int .i32 z, .string d, .string g, .string mi, .string pl, .string pc, .string pm, .string cu, .string e] 23)
  have HB0 := Lib.hid ((Below.refl w.heap.size w).alloc (Nat.le_refl _) (.cells #[.int .i32 z, .string d, .string g, .string mi, .string pl, .string pc, .string pm, .string cu, .string e] 23))
  have HGW := Lib.hid HB0.out.size
  have CT := Lib.hid (fun W => symTexts_c z d g mi pl pc pm cu e W)
  have HAT := Lib.hid (fun k hk W => arr_at d g mi pl pc pm cu e (k := k) hk W)
  have CD := Lib.hid (fun W => digitGood_c z W hz)
  generalize arr8 d g mi pl pc pm cu e = AR at *
  go_enter Try.func9, Try.ntmps9
  go_upto_region 1 with fail
  generalize w.alloc (.cells #[.int .i32 z, .string d, .string g, .string mi, .string pl, .string pc, .string pm, .string cu, .string e] 23) = W0 at *
  generalize hG : w.heap.size = G at *
  have HG := Lib.hid hG
  clear hG
  have d0 := HX.out.c 0
  have d1 := HX.out.c 1
  have d2 := HX.out.c 2
  have d3 := HX.out.c 3
  have d4 := HX.out.c 4
  have d5 := HX.out.c 5
  have d6 := HX.out.c 6
  have d7 := HX.out.c 7
  have d8 := HX.out.c 8
  go_wp2_with (first
    | (go_at_call 16; refine (CT.out _).mono ?_; rintro e1 w1 ⟨rfl, hb1⟩)
    | fail)
  have HX1 := Lib.hid (HX.out.below hb1.out HX.out.lt)
  have HB1 := Lib.hid (HB0.out.trans (hb1.out.mono HGW.out))
  have HGW1 := Lib.hid (Nat.lt_of_lt_of_le HX.out.lt hb1.out.size)
  clear d0 d1 d2 d3 d4 d5 d6 d7 d8 HX HB0 hb1 CT
  go_loopw [7] (fun iv wr => ∃ k : Nat, k ≤ 8 ∧ iv = .int .i64 (k : Int) ∧ gd8 (tx8 d g mi pl pc pm cu e) k ∧ Below w1.heap.size w1 wr) (fun iv _ => 8 - (intOf iv).toNat)
  case atStart => exact ⟨0, by omega, rfl, fun j hj => absurd hj (by omega), Below.refl _ _⟩
  case round =>
    obtain ⟨k, hk, rfl, hgd, hb0⟩ := hrel
    have HGd := Lib.hid hgd
    have HB := Lib.hid hb0
    clear hgd hb0
    by_cases hlt : k < 8
    · have gi : decide ((k : Int) < 8) = true := decide_eq_true (by omega)
      have ha := HAT.out k hlt wr
      have CF := Lib.hid (symFits_c (tx8 d g mi pl pc pm cu e k) wr)
      rcases hgk : goodT (tx8 d g mi pl pc pm cu e k) with _ | _
      · rw [hgk] at CF
        obtain rfl : false = B := (goodS_no hlt hgk).symm.trans HBd.out
        clear hgk
        go_wp2_with (first
          | (go_at_call 17; refine CF.out.mono ?_; rintro e2 w2 ⟨rfl, hb2⟩)
          | fail)
        go_ret
        exact ⟨rfl, Lib.hid (by rw [HG.out]; exact HB1.out.trans ((HB.out.trans (hb2.out.mono HB.out.size)).mono (Nat.le_of_lt HGW1.out)))⟩
      · rw [hgk] at CF
        have HG2 := Lib.hid (gd8_succ HGd.out hgk)
        clear hgk
        go_wp2_with (first
          | (go_at_call 17; refine CF.out.mono ?_; rintro e2 w2 ⟨rfl, hb2⟩)
          | fail)
        go_roundw
        case rel => exact ⟨k + 1, by omega, by go_num, HG2.out, HB.out.trans (hb2.out.mono HB.out.size)⟩
        case measure => simp [intOf]; omega
    · obtain rfl : k = 8 := by omega
      have gi : decide ((8 : Int) < 8) = false := rfl
      have HS := Lib.hid ((goodS_yes (z := z) HGd.out).symm.trans HBd.out)
      have d0 := (HX1.out.below HB.out HX1.out.lt).c 0
      clear hlt
      go_wp2_with (first
        | (go_at_call 18; refine (CD.out _).mono ?_; rintro e2 w2 ⟨rfl, rfl⟩)
        | fail)
      go_ret
      exact ⟨by rw [HS.out]; rfl, Lib.hid (by rw [HG.out]; exact HB1.out.trans (HB.out.mono (Nat.le_of_lt HGW1.out)))⟩
theorem row_at (d g mi pl pc pm cu e : ByteArray) {k : Nat} (hk : k < 8) : (#[.string d, .string g, .string mi, .string pl, .string pc, .string pm, .string cu, .string e] : Array Value)[k]? = some (.string (tx8 d g mi pl pc pm cu e k)) := by
  obtain rfl | rfl | rfl | rfl | rfl | rfl | rfl | rfl : k = 0 ∨ k = 1 ∨ k = 2 ∨ k = 3 ∨ k = 4 ∨ k = 5 ∨ k = 6 ∨ k = 7 := by omega
  all_goals rfl
theorem goodT_no0 {t : ByteArray} (h : t.size = 0) : goodT t = false := by rw [goodT, show decide (t.size ≠ 0) = false from decide_eq_false (by omega)]; rfl
theorem goodT_no1 {t : ByteArray} (h : 16 < t.size) : goodT t = false := by rw [goodT, show decide (t.size ≤ 16) = false from decide_eq_false (by omega)]; simp
theorem goodT_no2 {t : ByteArray} (h : 0 ≤ badZ (bts t)) : goodT t = false := by
  rw [goodT, show decide (rst (bts t) = []) = false from decide_eq_false fun e => by have := badZ_neg.2 e; omega]; simp
theorem goodT_yes {t : ByteArray} (h0 : t.size ≠ 0) (h1 : t.size ≤ 16) (h2 : badZ (bts t) < 0) : goodT t = true := goodT_iff.2 ⟨h0, h1, badZ_neg.1 h2⟩
theorem sysZ_neg {z : Int} (h : z < 0) : sysZ z = false := by rw [sysZ]; exact decide_eq_false (by omega)
set_option maxHeartbeats 4000000 in
theorem refGood18_c (z : Int) (d g mi pl pc pm cu e : ByteArray) (w : World) (hz : -2147483648 ≤ z ∧ z ≤ 2147483647) (hs : ∀ k, k < 8 → (tx8 d g mi pl pc pm cu e k).size ≤ 10000000000) :
    Calls Try.prog 10 #[.agg #[.int .i32 z, .string d, .string g, .string mi, .string pl, .string pc, .string pm, .string cu, .string e]] w fun e' w' =>
    e' = .returned (.bool (goodS z (tx8 d g mi pl pc pm cu e))) ∧ Hid (Below w.heap.size w w') := by
  generalize hb : goodS z (tx8 d g mi pl pc pm cu e) = B
  have HBd := Lib.hid hb
  clear hb
  have HX := Lib.hid (BX.alloc (BX.new w #[.int .i32 z, .string d, .string g, .string mi, .string pl, .string pc, .string pm, .string cu, .string e] 23) (.cells #[.string d, .string g, .string mi, .string pl, .string pc, .string pm, .string cu, .string e] 9))
  have HN := Lib.hid (BX.new (w.alloc (.cells #[.int .i32 z, .string d, .string g, .string mi, .string pl, .string pc, .string pm, .string cu, .string e] 23)) #[.string d, .string g, .string mi, .string pl, .string pc, .string pm, .string cu, .string e] 9)
  have HB0 := Lib.hid (((Below.refl w.heap.size w).alloc (Nat.le_refl _) (.cells #[.int .i32 z, .string d, .string g, .string mi, .string pl, .string pc, .string pm, .string cu, .string e] 23)).alloc (by rw [World.size_alloc]; exact Nat.le_succ _) (.cells #[.string d, .string g, .string mi, .string pl, .string pc, .string pm, .string cu, .string e] 9))
  rw [World.size_alloc] at HN
  have CD := Lib.hid (fun W => refZero_c z W hz)
  go_enter Try.func10, Try.ntmps10
  go_wp2
  generalize (w.alloc (.cells #[.int .i32 z, .string d, .string g, .string mi, .string pl, .string pc, .string pm, .string cu, .string e] 23)).alloc (.cells #[.string d, .string g, .string mi, .string pl, .string pc, .string pm, .string cu, .string e] 9) = W0 at *
  have HGW := Lib.hid (Nat.le_of_lt HX.out.lt)
  generalize hG : w.heap.size = G at *
  have HG := Lib.hid hG
  clear hG
  go_loopw [25] (fun iv wr => ∃ k : Nat, k ≤ 8 ∧ iv = .int .i64 (k : Int) ∧ gd8 (tx8 d g mi pl pc pm cu e) k ∧ Below W0.heap.size W0 wr) (fun iv _ => 8 - (intOf iv).toNat)
  case atStart => exact ⟨0, by omega, rfl, fun j hj => absurd hj (by omega), Below.refl _ _⟩
  case round =>
    obtain ⟨k, hk, rfl, hgd, hb0⟩ := hrel
    have HGd := Lib.hid hgd
    have HB := Lib.hid hb0
    clear hgd hb0
    by_cases hlt : k < 8
    · have gi : decide ((k : Int) < 8) = true := decide_eq_true (by omega)
      have ha := ((HN.out.below HB.out HN.out.lt).c k).trans (row_at d g mi pl pc pm cu e hlt)
      have CF := Lib.hid (refRunes_c (tx8 d g mi pl pc pm cu e k) wr (hs k hlt))
      have HE := Lib.hid (isEmpty_bts (tx8 d g mi pl pc pm cu e k))
      have HNo := Lib.hid (goodS_no (z := z) (tx := tx8 d g mi pl pc pm cu e) hlt)
      have HSc := Lib.hid (gd8_succ (tx := tx8 d g mi pl pc pm cu e) (k := k) HGd.out)
      generalize tx8 d g mi pl pc pm cu e k = t at *
      have H0 := Lib.hid (goodT_no0 (t := t))
      have H1 := Lib.hid (goodT_no1 (t := t))
      have H2 := Lib.hid (goodT_no2 (t := t))
      have HY := Lib.hid (goodT_yes (t := t))
      generalize badZ (bts t) = bz at *
      rcases Nat.eq_zero_or_pos t.size with h0 | h0
      · have e1 : t.toList.isEmpty = true := by rw [HE.out]; exact decide_eq_true h0
        obtain rfl : false = B := (HNo.out (H0.out h0)).symm.trans HBd.out
        clear HE h0 H0 H1 H2 HY HNo HSc
        go_wp2_with (first
          | (go_at_call 19; refine CF.out.mono ?_; rintro e2 w2 ⟨A2, m2, c2, rfl, ho2, hb2⟩)
          | (with_reducible go_skip)
          | fail)
        go_ret
        exact ⟨rfl, Lib.hid (by rw [HG.out]; exact HB0.out.trans ((HB.out.trans (hb2.mono HB.out.size)).mono HGW.out))⟩
      · have e1 : t.toList.isEmpty = false := by rw [HE.out]; exact decide_eq_false (by omega)
        by_cases h16 : 16 < t.size
        · have g1 : decide ((16 : Int) < (t.size : Int)) = true := decide_eq_true (by omega)
          obtain rfl : false = B := (HNo.out (H1.out h16)).symm.trans HBd.out
          clear HE h0 H0 H1 H2 HY HNo HSc h16
          go_wp2_with (first
            | (go_at_call 19; refine CF.out.mono ?_; rintro e2 w2 ⟨A2, m2, c2, rfl, ho2, hb2⟩)
            | (with_reducible go_skip)
            | fail)
          go_ret
          exact ⟨rfl, Lib.hid (by rw [HG.out]; exact HB0.out.trans ((HB.out.trans (hb2.mono HB.out.size)).mono HGW.out))⟩
        · have g1 : decide ((16 : Int) < (t.size : Int)) = false := decide_eq_false (by omega)
          by_cases hbz : 0 ≤ bz
          · have g2 : decide (0 ≤ bz) = true := decide_eq_true hbz
            obtain rfl : false = B := (HNo.out (H2.out hbz)).symm.trans HBd.out
            clear HE h0 H0 H1 H2 HY HNo HSc h16 hbz
            go_wp2_with (first
              | (go_at_call 19; refine CF.out.mono ?_; rintro e2 w2 ⟨A2, m2, c2, rfl, ho2, hb2⟩)
              | (with_reducible go_skip)
              | fail)
            go_ret
            exact ⟨rfl, Lib.hid (by rw [HG.out]; exact HB0.out.trans ((HB.out.trans (hb2.mono HB.out.size)).mono HGW.out))⟩
          · have g2 : decide (0 ≤ bz) = false := decide_eq_false hbz
            have HSd := Lib.hid (HSc.out (HY.out (by omega) (by omega) (by omega)))
            clear HE h0 H0 H1 H2 HY HNo HSc h16 hbz
            go_wp2_with (first
              | (go_at_call 19; refine CF.out.mono ?_; rintro e2 w2 ⟨A2, m2, c2, rfl, ho2, hb2⟩)
              | (with_reducible go_skip)
              | fail)
            go_roundw
            case rel => exact ⟨k + 1, by omega, by go_num, HSd.out, HB.out.trans (hb2.mono HB.out.size)⟩
            case measure => simp [intOf]; omega
    · obtain rfl : k = 8 := by omega
      have gi : decide ((8 : Int) < 8) = false := rfl
      have HS := Lib.hid ((goodS_yes (z := z) HGd.out).symm.trans HBd.out)
      have d0 := (HX.out.below HB.out HX.out.lt).c 0
      clear hlt
      by_cases hz0 : 0 ≤ z
      · have g3 : decide (0 ≤ z) = true := decide_eq_true hz0
        clear hz0
        go_wp2_with (first
          | (go_at_call 20; refine (CD.out _).mono ?_; rintro e2 w2 ⟨rfl, rfl⟩)
          | (with_reducible go_skip)
          | fail)
        go_ret
        exact ⟨by rw [HS.out]; rfl, Lib.hid (by rw [HG.out]; exact HB0.out.trans (HB.out.mono HGW.out))⟩
      · have g3 : decide (0 ≤ z) = false := decide_eq_false hz0
        obtain rfl : false = B := (sysZ_neg (by omega)).symm.trans HS.out
        clear hz0
        go_wp2_with (first
          | (with_reducible go_skip)
          | fail)
        go_ret
        exact ⟨rfl, Lib.hid (by rw [HG.out]; exact HB0.out.trans (HB.out.mono HGW.out))⟩
end Go.Proofs.Ytljgpdghpkpffaa
