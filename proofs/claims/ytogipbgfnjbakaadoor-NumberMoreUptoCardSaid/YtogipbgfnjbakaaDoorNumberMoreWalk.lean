/-
  NumberMore, walked.
-/
import Derived.Test.YtogipbgfnjbakaaDoorNZ
import Derived.Test.YtogipbgfnjbakaaDoorNX
set_option maxRecDepth 100000
namespace Go.Proofs.YtogipbgfnjbakaaDoor
open Go.RowKit
set_option maxHeartbeats 16000000 in
theorem walk_numberMore (s : ByteArray) (k : Int) (w : World) (hs : s.size ≤ 1048576) (hk : 0 ≤ k ∧ k ≤ 255) (hM : Mw w) :
    Calls Tryd.prog 6 #[.string s, .int .u8 k] w fun e w' => e = .returned (.bool true) ∧ Below w.heap.size w w' := by
  obtain ⟨kn, rfl⟩ : ∃ kn : Nat, k = (kn : Int) := ⟨k.toNat, by omega⟩
  have hkn : kn ≤ 255 := by omega
  have P1 := Lib.hid (fun W => refNum_c s W (by omega))
  have HN := Lib.hid (show numZ (bts s) = ((numZ (bts s)).1, (numZ (bts s)).2) from rfl)
  generalize (numZ (bts s)).1 = p at *
  generalize (numZ (bts s)).2 = e at *
  have HA := Lib.hid (fun W (h : Mw W) => answers15_c W h)
  have HM := Lib.hid hM
  clear hM hk
  go_enter Tryd.func6, Tryd.ntmps6
  go_upto_region 2 with (first
    | (go_at_call 13; refine (P1.out _).mono ?_; rintro e w1 ⟨rfl, hb⟩; have HB := Lib.hid hb; clear hb)
    | (refine wpList_store_row rfl 24 _ _ rfl w1.heap.size (patN p) rfl rfl 24 patZ (BX.new w1 patZ _) (pat_size ..) rfl (pat_cells _) ?_)
    | fail)
  have hbx : BX ((w1.alloc (.cells patZ 24)).setRow w1.heap.size (patN p)) w1.heap.size (patN p) 24 := st_new
  have HB : Hid (Below w.heap.size w ((w1.alloc (.cells patZ 24)).setRow w1.heap.size (patN p))) := Lib.hid (st_below HB.out HB.out.size)
  change Code.wp _ _ _ _ ((w1.alloc (.cells patZ 24)).setRow w1.heap.size (patN p))
  generalize (w1.alloc (.cells patZ 24)).setRow w1.heap.size (patN p) = W1 at *
  generalize w1.heap.size = a at *
  clear P1
  by_cases h4 : 400 < s.size
  · have g4 : decide ((400 : Int) < (s.size : Int)) = true := decide_eq_true (by omega)
    go_wp2_with (first
      | go_skip
      | (go_at_call 8; refine (HA.out _ (HM.out.below HB.out)).mono ?_; rintro e w2 ⟨rfl, hb⟩)
      | fail)
    go_ret
    exact ⟨rfl, HB.out.trans (hb.mono HB.out.size)⟩
  · have g4 : decide ((400 : Int) < (s.size : Int)) = false := decide_eq_false (by omega)
    by_cases he : e = 0
    · subst he
      have hok := okN_of HN.out
      have hsh := pr_shorter HN.out
      rw [bts_length] at hsh
      have hl1 : (stz (prN p 0)).size ≤ 400 := by rw [stz_size]; omega
      have T1 : Hid (∀ W, Mw W → Calls Tryd.prog 9 #[.agg (patN p), .int .i64 0] W fun e w' => e = .returned (.string (stz (prN p 0))) ∧ Below W.heap.size W w') := Lib.hid (fun W h => print_c _ _ _ _ _ _ _ _ p 0 W h hok (by decide))
      have T3 : Hid (∀ W, Mw W → Calls Tryd.prog 9 #[.agg (patN p), .int .i64 (-1)] W fun e w' => e = .returned (.string (stz (prN p 0))) ∧ Below W.heap.size W w') := Lib.hid (fun W h => print_c _ _ _ _ _ _ _ _ p (-1) W h hok (by decide))
      have T2 : Hid (∀ W, Mw W → Calls Tryd.prog 9 #[.agg (patN p), .int .i64 (kn : Int)] W fun e w' => e = .returned (.string (stz (prN p kn))) ∧ Below W.heap.size W w') := Lib.hid (fun W h => by
        have := print_c (.slice none 0 0) (.slice none 0 0) (.bool false) (.slice none 0 0) (.slice none 0 0) (.int .i64 0) (.int .i32 0) (.int .i64 0) p (kn : Int) W h hok (by omega)
        rwa [Int.toNat_natCast] at this)
      have h14 : (patN p)[14]? = some (.bool p.sci) := rfl
      have hsz : (Tryd.prog.info? 24).map (·.size) = some (patN p).size := pat_size ..
      have hpr : stz (prN p kn) = stz (if p.sci then [] else List.replicate kn 35) ++ stz (prN p 0) := by
        rw [← stz_append]
        cases e : p.sci
        · rw [if_neg (by decide), ← pr_more hok e]
        · rw [if_pos rfl, List.nil_append, pr_sci e]
      rw [hpr] at T2
      clear hpr hok hsh HN
      generalize stz (prN p 0) = T0 at *
      generalize p.sci = sc at *
      generalize patN p = PV at *
      clear p
      go_upto_region 5 with (first
        | (refine wpList_load_row rfl 24 _ rfl a rfl 24 PV (0, 0) _ hbx Tryd.underlying24 rfl hsz ?_)
        | (go_at_call 9; with_reducible refine (T1.out _ (HM.out.below HB.out)).mono ?_; rintro e w2 ⟨rfl, hb⟩; have HB := Lib.hid (HB.out.trans (hb.mono HB.out.size)); have hbx := hbx.below hb hbx.lt; clear hb)
        | fail)
      clear T1
      have c14 := (hbx.c 14).trans h14
      cases sc
      · rw [if_neg (by decide)] at T2
        have HK : Hid ((stz (List.replicate kn 35)).size ≤ 255) := Lib.hid (by rw [stz_size, List.length_replicate]; exact hkn)
        go_wp2
        go_loopw [8, 9] (fun uv iv wr => ∃ (i : Nat) (u : ByteArray), i ≤ kn ∧ iv = .int .i64 (i : Int) ∧ uv = .string u ∧ u = stz (List.replicate i 35) ∧ u.size = i ∧ wr = w2) (fun _ iv _ => kn - (intOf iv).toNat)
        case atStart => exact ⟨0, ⟨#[]⟩, Nat.zero_le _, rfl, rfl, rfl, rfl, rfl⟩
        case round =>
          obtain ⟨i, u, hi, rfl, rfl, hu0, hus, rfl⟩ := hrel
          have HU := Lib.hid hu0
          clear hu0
          by_cases hlt : i < kn
          · have g1 : decide ((i : Int) < (kn : Int)) = true := decide_eq_true (by omega)
            go_wp2
            go_roundw
            case rel =>
              refine ⟨i + 1, _, by omega, by go_num, rfl, ?_, ?_, by first | trivial | rfl⟩
              · rw [HU.out, show (⟨#[35]⟩ : ByteArray) = stz [35] from rfl, ← stz_append, List.replicate_succ']
              · rw [ByteArray.size_append, hus]; rfl
            case measure => simp [intOf]; omega
          · obtain rfl : i = kn := by omega
            have g1 : decide ((i : Int) < (i : Int)) = false := decide_eq_false (by omega)
            rw [← HU.out] at T2
            clear HK
            go_wp2_with (first
              | go_skip
              | (go_at_call 8; refine (HA.out _ (HM.out.below HB.out)).mono ?_; rintro e w6 ⟨rfl, hb⟩; have HB := Lib.hid (HB.out.trans (hb.mono HB.out.size)); have hbx := hbx.below hb hbx.lt; clear hb)
              | (refine wpList_load_row_g 24 (Operand.tmp 5) rfl a rfl 24 PV (0, 0) _ hbx Tryd.underlying24 rfl hsz rfl rfl rfl rfl ?_)
              | (go_at_call 9; with_reducible refine (T2.out _ (HM.out.below HB.out)).mono ?_; rintro e w7 ⟨rfl, hb⟩; have HB := Lib.hid (HB.out.trans (hb.mono HB.out.size)); have hbx := hbx.below hb hbx.lt; clear hb)
              | (go_at_call 9; with_reducible refine (T3.out _ (HM.out.below HB.out)).mono ?_; rintro e w8 ⟨rfl, hb⟩; have HB := Lib.hid (HB.out.trans (hb.mono HB.out.size)); have hbx := hbx.below hb hbx.lt; clear hb)
              | fail)
            go_ret
            exact ⟨rfl, HB.out⟩
      · rw [if_pos rfl, show stz [] = (⟨#[]⟩ : ByteArray) from rfl] at T2
        go_wp2
        go_loopw [8, 9] (fun uv iv wr => iv = .int .i64 0 ∧ uv = .string ⟨#[]⟩ ∧ wr = w2) (fun _ _ _ => 0)
        case atStart => exact ⟨rfl, rfl, rfl⟩
        case round =>
          obtain ⟨rfl, rfl, rfl⟩ := hrel
          by_cases h0 : 0 < kn
          · skip
            go_wp2_with (first
              | go_skip
              | (go_at_call 8; refine (HA.out _ (HM.out.below HB.out)).mono ?_; rintro e w6 ⟨rfl, hb⟩; have HB := Lib.hid (HB.out.trans (hb.mono HB.out.size)); have hbx := hbx.below hb hbx.lt; clear hb)
              | (refine wpList_load_row_g 24 (Operand.tmp 5) rfl a rfl 24 PV (0, 0) _ hbx Tryd.underlying24 rfl hsz rfl rfl rfl rfl ?_)
              | (go_at_call 9; with_reducible refine (T2.out _ (HM.out.below HB.out)).mono ?_; rintro e w7 ⟨rfl, hb⟩; have HB := Lib.hid (HB.out.trans (hb.mono HB.out.size)); have hbx := hbx.below hb hbx.lt; clear hb)
              | (go_at_call 9; with_reducible refine (T3.out _ (HM.out.below HB.out)).mono ?_; rintro e w8 ⟨rfl, hb⟩; have HB := Lib.hid (HB.out.trans (hb.mono HB.out.size)); have hbx := hbx.below hb hbx.lt; clear hb)
              | fail)
            go_ret
            exact ⟨rfl, HB.out⟩
          · skip
            go_wp2_with (first
              | go_skip
              | (go_at_call 8; refine (HA.out _ (HM.out.below HB.out)).mono ?_; rintro e w6 ⟨rfl, hb⟩; have HB := Lib.hid (HB.out.trans (hb.mono HB.out.size)); have hbx := hbx.below hb hbx.lt; clear hb)
              | (refine wpList_load_row_g 24 (Operand.tmp 5) rfl a rfl 24 PV (0, 0) _ hbx Tryd.underlying24 rfl hsz rfl rfl rfl rfl ?_)
              | (go_at_call 9; with_reducible refine (T2.out _ (HM.out.below HB.out)).mono ?_; rintro e w7 ⟨rfl, hb⟩; have HB := Lib.hid (HB.out.trans (hb.mono HB.out.size)); have hbx := hbx.below hb hbx.lt; clear hb)
              | (go_at_call 9; with_reducible refine (T3.out _ (HM.out.below HB.out)).mono ?_; rintro e w8 ⟨rfl, hb⟩; have HB := Lib.hid (HB.out.trans (hb.mono HB.out.size)); have hbx := hbx.below hb hbx.lt; clear hb)
              | fail)
            go_ret
            exact ⟨rfl, HB.out⟩
    · obtain ⟨j, rfl⟩ : ∃ j, e = j + 1 := ⟨e - 1, by omega⟩
      have hne : (((j + 1 : Nat) : Int) != 0) = true := by simp only [bne_iff_ne, ne_eq]; omega
      go_wp2_with (first
        | go_skip
        | (go_at_call 8; refine (HA.out _ (HM.out.below HB.out)).mono ?_; rintro e w2 ⟨rfl, hb⟩)
        | fail)
      go_ret
      exact ⟨rfl, HB.out.trans (hb.mono HB.out.size)⟩
end Go.Proofs.YtogipbgfnjbakaaDoor
