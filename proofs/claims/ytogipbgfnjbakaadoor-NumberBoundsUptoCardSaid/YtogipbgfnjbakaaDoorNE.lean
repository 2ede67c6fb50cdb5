/-
  NE: the document's cut, Strip, count, rows, rep.
-/
import Derived.Test.YtogipbgfnjbakaaDoorND
set_option maxRecDepth 100000
namespace Go.Proofs.YtogipbgfnjbakaaDoor
open Go.RowKit
theorem beqN (a b : Nat) : (((a : Nat) : Int) == ((b : Nat) : Int)) = decide (a = b) := by
  by_cases h : a = b
  · subst h; simp
  · rw [decide_eq_false h, beq_eq_false_iff_ne]; omega
theorem bts_at {s : ByteArray} {k : Nat} (hk : k < s.size) : ∃ hl : k < (bts s).length, (bts s)[k] = s[k].toNat := by
  have hl : k < (bts s).length := by rw [bts_length]; exact hk
  refine ⟨hl, ?_⟩
  have := bts_get s k hk
  rwa [List.getD, List.getElem?_eq_getElem hl] at this
theorem bts_split {s : ByteArray} {k : Nat} (hk : k < s.size) : bts s = (bts s).take k ++ s[k].toNat :: (bts s).drop (k + 1) := by
  obtain ⟨hl, e⟩ := bts_at hk
  conv => lhs; rw [← List.take_append_drop k (bts s), List.drop_eq_getElem_cons hl, e]
theorem bts_take_succ {s : ByteArray} {k : Nat} (hk : k < s.size) : (bts s).take (k + 1) = (bts s).take k ++ [s[k].toNat] := by
  obtain ⟨hl, e⟩ := bts_at hk
  rw [List.take_succ_eq_append_getElem hl, e]
theorem bts_take_all (s : ByteArray) : (bts s).take s.size = bts s := List.take_of_length_le (by rw [bts_length]; exact Nat.le_refl _)
set_option maxHeartbeats 1000000 in
theorem refCut_c (s : ByteArray) (c : Nat) (w : World) (hs : s.size ≤ 10000000000) : Calls Tryd.prog 22 #[.string s, .int .u8 (c : Int)] w fun e w' =>
    e = .returned (.tuple #[.string (stz (upA c (bts s))), .string (stz (dnA c (bts s))), .bool ((bts s).any (· == c))]) ∧ ∃ m, w' = w.drewN m := by
  go_enter Tryd.func22, Tryd.ntmps22
  go_wp2
  go_loopw [7] (fun iv wr => ∃ k : Nat, k ≤ s.size ∧ iv = .int .i64 (k : Int) ∧ wr = w ∧ ∀ x ∈ (bts s).take k, x ≠ c) (fun iv _ => s.size - (intOf iv).toNat)
  case atStart => exact ⟨0, Nat.zero_le _, rfl, rfl, fun x hx => by simp at hx⟩
  case round =>
    obtain ⟨k, hk, rfl, rfl, hall0⟩ := hrel
    have HA := Lib.hid hall0
    clear hall0
    by_cases hlt : k < s.size
    · have HSP := Lib.hid (bts_split hlt)
      have HTS := Lib.hid (bts_take_succ hlt)
      by_cases hc : s[k].toNat = c
      · have g1 : (((s[k].toNat : Nat) : Int) == (c : Int)) = true := by rw [beqN]; exact decide_eq_true hc
        have HC := Lib.hid hc
        have HV := Lib.hid (show stz (upA c (bts s)) = s.extract 0 k ∧ stz (dnA c (bts s)) = s.extract (k + 1) s.size ∧ (bts s).any (· == c) = true by
          have e := HSP.out
          rw [hc] at e
          obtain ⟨e1, e2⟩ := tw_split (b := (bts s).drop (k + 1)) HA.out
          refine ⟨(eq_stz ?_).symm, (eq_stz ?_).symm, ?_⟩
          · rw [bts_upto, e, e1, ← e]
          · rw [bts_from, e, e2, ← e]
          · rw [e]; simp)
        clear hc
        go_wp2
        go_quiet (fail)
        go_wp2
        go_ret3
        rw [HV.out.1, HV.out.2.1, HV.out.2.2]
        exact ⟨rfl, _, rfl⟩
      · have g1 : (((s[k].toNat : Nat) : Int) == (c : Int)) = false := by rw [beqN]; exact decide_eq_false hc
        have HC := Lib.hid hc
        clear hc
        go_wp2
        go_roundw
        case rel =>
          refine ⟨k + 1, by omega, by go_num, by first | trivial | rfl, fun x hx => ?_⟩
          rw [HTS.out] at hx
          rcases List.mem_append.1 hx with hx | hx
          · exact HA.out x hx
          · rw [List.mem_singleton] at hx; subst hx; exact HC.out
        case measure => simp [intOf]; omega
    · have hke : k = s.size := by omega
      subst hke
      rw [bts_take_all] at HA
      have HV := Lib.hid (tw_all HA.out)
      go_wp2
      go_ret3
      rw [HV.out.1, HV.out.2.1, HV.out.2.2, stz_bts]
      exact ⟨rfl, 0, rfl⟩
theorem z48_iff {x : Nat} : z48 x = true ↔ x = 48 := by simp [z48]
theorem bts_drop {s : ByteArray} {k : Nat} (hk : k < s.size) : (bts s).drop k = s[k].toNat :: (bts s).drop (k + 1) := by
  obtain ⟨hl, e⟩ := bts_at hk
  rw [List.drop_eq_getElem_cons hl, e]
theorem strip_at {s : ByteArray} {k : Nat} (hk : k < s.size) (ha : ∀ x ∈ (bts s).take k, z48 x = true) (hn : s[k].toNat ≠ 48) : (bts s).dropWhile z48 = (bts s).drop k := by
  conv => lhs; rw [← List.take_append_drop k (bts s)]
  rw [dw_app ha, bts_drop hk, dw_head]
  intro c hc
  rw [List.head?_cons] at hc
  cases hc
  rw [Bool.eq_false_iff]
  exact fun e => hn (z48_iff.1 e)
set_option maxHeartbeats 1000000 in
theorem refStrip13_c (s : ByteArray) (w : World) (hs : s.size ≤ 10000000000) : Calls Tryd.prog 23 #[.string s] w fun e w' =>
    e = .returned (.string (stz ((bts s).dropWhile z48))) ∧ w = w' := by
  go_enter Tryd.func23, Tryd.ntmps23
  go_wp2
  go_loopw [0] (fun sv wr => ∃ (k : Nat) (t : ByteArray), k ≤ s.size ∧ sv = .string t ∧ bts t = (bts s).drop k ∧ wr = w ∧ ∀ x ∈ (bts s).take k, z48 x = true) (fun sv _ => match sv with | .string t => t.size | _ => 0)
  case atStart => exact ⟨0, s, Nat.zero_le _, rfl, by simp, rfl, fun x hx => by simp at hx⟩
  case round =>
    obtain ⟨k, t, hk, rfl, ht0, rfl, hall0⟩ := hrel
    have HT := Lib.hid ht0
    have HA := Lib.hid hall0
    have hts : t.size + k = s.size := by
      have := congrArg List.length ht0
      rw [bts_length, List.length_drop, bts_length] at this
      omega
    clear hall0 ht0
    by_cases h0 : 0 < t.size
    · have g0 : decide ((0 : Int) < (t.size : Int)) = true := decide_eq_true (by omega)
      have hks : k < s.size := by omega
      have hx : t[0].toNat = s[k].toNat := by
        obtain ⟨h1, e1⟩ := bts_at h0
        obtain ⟨h2, e2⟩ := bts_at hks
        rw [← e1, ← e2]
        have e := congrArg (fun l => l[0]?) HT.out
        rw [List.getElem?_drop, List.getElem?_eq_getElem h1, List.getElem?_eq_getElem (by omega)] at e
        simpa using e
      have HSP := Lib.hid (bts_split hks)
      have HTS := Lib.hid (bts_take_succ hks)
      by_cases hz : t[0].toNat = 48
      · have g1 : (((t[0].toNat : Nat) : Int) == 48) = true := by simp only [beq_iff_eq]; omega
        have HZ := Lib.hid (show s[k].toNat = 48 by omega)
        clear hz hx
        go_wp2
        go_roundw
        case rel =>
          refine ⟨k + 1, _, by omega, rfl, ?_, by first | trivial | rfl, fun x hx => ?_⟩
          · rw [bts_from, HT.out, List.drop_drop]
          · rw [HTS.out] at hx
            rcases List.mem_append.1 hx with hx | hx
            · exact HA.out x hx
            · rw [List.mem_singleton] at hx; subst hx; exact z48_iff.2 HZ.out
        case measure =>
          show (t.extract 1 t.size).size < t.size
          rw [ByteArray.size_extract]; omega
      · have g1 : (((t[0].toNat : Nat) : Int) == 48) = false := by simp only [beq_eq_false_iff_ne, ne_eq]; omega
        have HV := Lib.hid (show stz ((bts s).dropWhile z48) = t from (eq_stz (by rw [strip_at hks HA.out (by omega), HT.out])).symm)
        clear hz hx
        go_wp2
        go_ret
        rw [HV.out]
        exact ⟨rfl, rfl⟩
    · have g0 : decide ((0 : Int) < (t.size : Int)) = false := decide_eq_false (by omega)
      have hke : k = s.size := by omega
      subst hke
      rw [bts_take_all] at HA
      have HV := Lib.hid (show stz ((bts s).dropWhile z48) = t by
        refine (eq_stz ?_).symm
        rw [dw_nil HA.out, HT.out, List.drop_of_length_le (by rw [bts_length]; exact Nat.le_refl _)])
      go_wp2
      go_ret
      rw [HV.out]
      exact ⟨rfl, rfl⟩
/-- A sort of characters: c itself, or digits for 0. -/
def clsC (c x : Nat) : Bool := x == c || (c == 48 && dg x)
theorem clsC_48 : clsC 48 = dg := by
  funext x
  by_cases h : x = 48
  · subst h; rfl
  · simp [clsC, h]
theorem clsC_ne {c : Nat} (h : c ≠ 48) : clsC c = (· == c) := by funext x; simp [clsC, h]
theorem dg_iff {x : Nat} : dg x = true ↔ 48 ≤ x ∧ x ≤ 57 := by simp [dg]
theorem take_count {s : ByteArray} {k : Nat} (hk : k < s.size) (A : Nat → Bool) : ((bts s).take (k + 1)).countP A = ((bts s).take k).countP A + (if A s[k].toNat then 1 else 0) := by
  rw [bts_take_succ hk, List.countP_append, List.countP_singleton]
set_option maxHeartbeats 1000000 in
theorem refCount_c (s : ByteArray) (c : Nat) (w : World) (hs : s.size ≤ 10000000000) : Calls Tryd.prog 24 #[.string s, .int .u8 (c : Int)] w fun e w' =>
    e = .returned (.int .i64 (((bts s).countP (clsC c) : Nat) : Int)) ∧ w = w' := by
  go_enter Tryd.func24, Tryd.ntmps24
  go_wp2
  go_loopw [5, 6] (fun nv iv wr => ∃ k n : Nat, k ≤ s.size ∧ n ≤ k ∧ iv = .int .i64 (k : Int) ∧ nv = .int .i64 (n : Int) ∧ n = ((bts s).take k).countP (clsC c) ∧ wr = w) (fun _ iv _ => s.size - (intOf iv).toNat)
  case atStart => exact ⟨0, 0, Nat.zero_le _, Nat.zero_le _, rfl, rfl, rfl, rfl⟩
  case round =>
    obtain ⟨k, n, hk, hnk, rfl, rfl, hn0, rfl⟩ := hrel
    have HN := Lib.hid hn0
    clear hn0
    by_cases hlt : k < s.size
    · have HTC := Lib.hid (take_count hlt (clsC c))
      by_cases h1 : s[k].toNat = c
      · have g1 : (((s[k].toNat : Nat) : Int) == (c : Int)) = true := by rw [beqN]; exact decide_eq_true h1
        have HC := Lib.hid (show clsC c s[k].toNat = true by rw [h1]; simp [clsC])
        clear h1
        go_wp2
        go_roundw
        case rel => exact ⟨k + 1, n + 1, by omega, by omega, by go_num, by go_num, by rw [HTC.out, HC.out, ← HN.out]; rfl, by first | trivial | rfl⟩
        case measure => simp [intOf]; omega
      · have g1 : (((s[k].toNat : Nat) : Int) == (c : Int)) = false := by rw [beqN]; exact decide_eq_false h1
        by_cases h2 : c = 48
        · subst h2
          have g1' : (((s[k].toNat : Nat) : Int) == 48) = false := g1
          clear g1
          by_cases h3 : 48 ≤ s[k].toNat
          · have g3 : decide ((48 : Int) ≤ ((s[k].toNat : Nat) : Int)) = true := decide_eq_true (by omega)
            by_cases h4 : s[k].toNat ≤ 57
            · have g4 : decide (((s[k].toNat : Nat) : Int) ≤ 57) = true := decide_eq_true (by omega)
              have HC := Lib.hid (show clsC 48 s[k].toNat = true by rw [clsC_48]; exact dg_iff.2 ⟨h3, h4⟩)
              clear h1 h3 h4
              go_wp2
              go_roundw
              case rel => exact ⟨k + 1, n + 1, by omega, by omega, by go_num, by go_num, by rw [HTC.out, HC.out, ← HN.out]; rfl, by first | trivial | rfl⟩
              case measure => simp [intOf]; omega
            · have g4 : decide (((s[k].toNat : Nat) : Int) ≤ 57) = false := decide_eq_false (by omega)
              have HC := Lib.hid (show clsC 48 s[k].toNat = false by rw [clsC_48, Bool.eq_false_iff]; intro e; have := dg_iff.1 e; omega)
              clear h1 h3 h4
              go_wp2
              go_roundw
              case rel => exact ⟨k + 1, n, by omega, by omega, by go_num, rfl, by rw [HTC.out, HC.out, ← HN.out]; rfl, by first | trivial | rfl⟩
              case measure => simp [intOf]; omega
          · have g3 : decide ((48 : Int) ≤ ((s[k].toNat : Nat) : Int)) = false := decide_eq_false (by omega)
            have HC := Lib.hid (show clsC 48 s[k].toNat = false by rw [clsC_48, Bool.eq_false_iff]; intro e; have := dg_iff.1 e; omega)
            clear h1 h3
            go_wp2
            go_roundw
            case rel => exact ⟨k + 1, n, by omega, by omega, by go_num, rfl, by rw [HTC.out, HC.out, ← HN.out]; rfl, by first | trivial | rfl⟩
            case measure => simp [intOf]; omega
        · have g2 : ((c : Int) == 48) = false := by simp only [beq_eq_false_iff_ne, ne_eq]; omega
          have HC := Lib.hid (show clsC c s[k].toNat = false by rw [clsC_ne h2]; simpa using h1)
          clear h1 h2
          go_wp2
          go_roundw
          case rel => exact ⟨k + 1, n, by omega, by omega, by go_num, rfl, by rw [HTC.out, HC.out, ← HN.out]; rfl, by first | trivial | rfl⟩
          case measure => simp [intOf]; omega
    · have hke : k = s.size := by omega
      subst hke
      rw [bts_take_all] at HN
      go_wp2
      go_ret
      rw [← HN.out]
      exact ⟨rfl, rfl⟩
end Go.Proofs.YtogipbgfnjbakaaDoor
