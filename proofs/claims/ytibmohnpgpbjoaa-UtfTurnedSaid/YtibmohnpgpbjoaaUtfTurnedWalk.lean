/-
  UtfTurned: the walk.
-/
import Derived.Test.YtibmohnpgpbjoaaUE
set_option maxRecDepth 100000
namespace Go.Proofs.Ytibmohnpgpbjoaa
open Go.RowKit
/-- '[]byte(s)': a new row of its bytes. -/
theorem conv_bytes (s : ByteArray) (w : World) : ∃ c w1, (convert 9 38 (.string s)).run Try.prog w = .ok (.slice (some ⟨w.heap.size, 0, none⟩) s.size c) w1 ∧ s.size ≤ c ∧
    (∀ j, j < s.size → w1.cell? ⟨w.heap.size, j, none⟩ = some (.int .u8 (((bts s).getD j 0 : Nat) : Int)) ∧ w1.frozen? ⟨w.heap.size, j, none⟩ = false) ∧ Below w.heap.size w w1 ∧ w.heap.size < w1.heap.size := by
  have hr := run_bytes_of_string (P := Try.prog) w 9 38 5 s Try.underlying9 Try.underlying38 Try.underlying5
  have hc := grownCap_ge w s.size 0 5
  refine ⟨_, _, hr, hc, fun j hj => ?_, ((Below.refl _ _).drew).alloc (Nat.le_refl _) _, ?_⟩
  · have hj2 : j < s.data.size := hj
    have hsz : j < (bytesRow s (grownCap w s.size 0 5)).size := by
      have := (Array.getElem?_eq_some_iff.1 (bytesRow_at s (grownCap w s.size 0 5) j hj2)).1
      exact this
    refine ⟨?_, ?_⟩
    · show (w.drew.alloc _).cell? ⟨w.drew.heap.size, j, none⟩ = _
      rw [World.cell?_alloc_mark, bytesRow_at s _ j hj2, bts_get s j hj]
      rfl
    · show (w.drew.alloc _).frozen? ⟨w.drew.heap.size, j, none⟩ = _
      rw [World.frozen?_alloc_mark]
      have : ¬ (bytesRow s (grownCap w s.size 0 5)).size ≤ j := by omega
      simp [this]
  · show w.heap.size < (w.heap.push _).size
    rw [Array.size_push]; omega
theorem xor_u8 (a b : Nat) (ha : a < 256) (hb : b < 256) : bits .xor .u8 (a : Int) (b : Int) = ((a ^^^ b : Nat) : Int) ∧ a ^^^ b < 256 ∧ (b ≠ 0 → a ^^^ b ≠ a) := by
  have hx : a ^^^ b < 2 ^ 8 := Nat.xor_lt_two_pow (by omega) (by omega)
  have h1 : (BitVec.ofInt 8 (a : Int)).toNat = a := by
    rw [BitVec.ofInt_natCast, BitVec.toNat_ofNat]; exact Nat.mod_eq_of_lt (by omega)
  have h2 : (BitVec.ofInt 8 (b : Int)).toNat = b := by
    rw [BitVec.ofInt_natCast, BitVec.toNat_ofNat]; exact Nat.mod_eq_of_lt (by omega)
  refine ⟨?_, by omega, fun hb0 e => hb0 ?_⟩
  · show IntKind.u8.wrap ((BitVec.ofInt 8 (a : Int) ^^^ BitVec.ofInt 8 (b : Int)).toNat : Int) = _
    rw [BitVec.toNat_xor, h1, h2, IntKind.wrap_u8]
    omega
  · have h3 : a ^^^ (a ^^^ b) = b := by rw [← Nat.xor_assoc, Nat.xor_self, Nat.zero_xor]
    rw [e, Nat.xor_self] at h3
    exact h3.symm
/-- 'string(b)' where b's cells are the bytes xs. -/
theorem conv_cells {w : World} {g n c : Nat} {xs : List Nat} (hl : xs.length = n) (hx : ∀ x ∈ xs, x < 256) (hc : ∀ j, j < n → w.cell? ⟨g, j, none⟩ = some (.int .u8 ((xs.getD j 0 : Nat) : Int))) :
    (convert 38 9 (.slice (some ⟨g, 0, none⟩) n c)).run Try.prog w = .ok (.string (stz xs)) w := by
  have hr := run_convert_bytes_arg (P := Try.prog) w 38 5 Try.underlying38 Try.underlying5 g 0 n c (xs.map fun (x : Nat) => (x : Int)) (by simpa using hl)
    (fun i hi => by
      rw [Nat.zero_add, hc i (by omega)]
      simp [List.getD, List.getElem?_eq_getElem (show i < xs.length by omega)]) 9 Try.underlying9
  rw [hr]
  congr 2
  refine eq_stz ?_
  rw [bts, strOfNums_data, List.map_map, List.map_map]
  conv => rhs; rw [← List.map_id xs]
  refine List.map_congr_left fun x hx' => ?_
  have := hx x hx'
  simp only [Function.comp, Int.toNat_natCast, UInt8.toNat_ofNat', id]
  omega
set_option maxHeartbeats 4000000 in
theorem walk_utfTurned (s : ByteArray) (at_ by_ : Int) (w : World) (hs : s.size ≤ maxLen) (ha : 0 ≤ at_ ∧ at_ ≤ 65535) (hy : 0 ≤ by_ ∧ by_ ≤ 255) :
    Calls Try.prog 6 #[.string s, .int .u16 at_, .int .u8 by_] w fun e w' => e = .returned (.bool true) ∧ Below w.heap.size w w' := by
  unfold maxLen at hs
  by_cases h0 : s.size = 0
  · have hi : (s.size : Int) = 0 := by omega
    go_enter Try.func6, Try.ntmps6
    go_wp2_with fail
    refine (answers11_c _).mono ?_
    rintro e w1 ⟨rfl, hb⟩
    go_wp2
    go_ret
    exact ⟨rfl, hb⟩
  by_cases h1 : 500 < s.size
  · go_enter Try.func6, Try.ntmps6
    go_wp2_with fail
    refine (answers11_c _).mono ?_
    rintro e w1 ⟨rfl, hb⟩
    go_wp2
    go_ret
    exact ⟨rfl, hb⟩
  by_cases h2 : by_ = 0
  · subst h2
    go_enter Try.func6, Try.ntmps6
    go_wp2_with fail
    refine (answers11_c _).mono ?_
    rintro e w1 ⟨rfl, hb⟩
    go_wp2
    go_ret
    exact ⟨rfl, hb⟩
  have hd1 : ((s.size : Int) == 0) = false := by rw [beq_eq_false_iff_ne]; omega
  have hd2 : (by_ == 0) = false := by rw [beq_eq_false_iff_ne]; omega
  obtain ⟨k, hk⟩ : ∃ k : Nat, at_ % (s.size : Int) = (k : Int) := ⟨(at_ % (s.size : Int)).toNat, (Int.toNat_of_nonneg (Int.emod_nonneg at_ (show (s.size : Int) ≠ 0 by omega))).symm⟩
  have hks : k < s.size := by
    have := Int.emod_lt_of_pos at_ (show (0 : Int) < (s.size : Int) by omega)
    omega
  have hk2 : at_.tmod (s.size : Int) = (k : Int) := by rw [Int.tmod_eq_emod_of_nonneg (by omega)]; exact hk
  obtain ⟨c, w1, hcv, hcap, hcell, hbel, hgw⟩ := conv_bytes s w
  obtain ⟨hck, hfk⟩ := hcell k hks
  have HC := Lib.hid hcell
  have HB := Lib.hid hbel
  have HG := Lib.hid hgw
  have hki : (k : Int) < (s.size : Int) := by omega
  clear hcell hbel hgw hfk
  have hfk := (HC.out k hks).2
  obtain ⟨by1, rfl⟩ : ∃ n : Nat, by_ = (n : Int) := ⟨by_.toNat, by omega⟩
  have hb0 : (bts s).getD k 0 < 256 := by rw [bts_get s k hks]; exact s[k].toNat_lt
  obtain ⟨hx1, hx2, hx3⟩ := xor_u8 ((bts s).getD k 0) by1 hb0 (by omega)
  have hx4 := hx3 (by omega)
  generalize hX : (bts s).getD k 0 ^^^ by1 = X at *
  obtain ⟨xs, hxs⟩ : ∃ xs, xs = (bts s).set k X := ⟨_, rfl⟩
  have hxl : xs.length = s.size := by rw [hxs, List.length_set, bts_length]
  have hxlt : ∀ x ∈ xs, x < 256 := by
    intro x hx
    rw [hxs] at hx
    rcases List.mem_or_eq_of_mem_set hx with h | h
    · exact bts_lt s x h
    · rw [h]; exact hx2
  have hxne : bts s ≠ xs := by
    intro e
    have h := congrArg (fun l => l.getD k 0) e
    simp only [hxs, List.getD, List.getElem?_set_self (show k < (bts s).length by rw [bts_length]; exact hks), Option.getD_some] at h
    exact hx4 h.symm
  have hzx : (stz xs).size = s.size := by rw [stz_size, hxl]
  have hcx : ∀ j, j < s.size → (w1.setCell ⟨w.heap.size, k, none⟩ (.int .u8 (X : Int))).cell? ⟨w.heap.size, j, none⟩ = some (.int .u8 ((xs.getD j 0 : Nat) : Int)) := by
    intro j hj
    by_cases hjk : j = k
    · subst hjk
      rw [World.cell?_setCell_same _ _ _ hck]
      rw [hxs, List.getD, List.getElem?_set_self (by rw [bts_length]; exact hks)]
      rfl
    · rw [World.cell?_setCell_other _ _ _ _ (fun e => hjk (congrArg Addr.off e).symm), (HC.out j hj).1, hxs, List.getD, List.getD, List.getElem?_set_ne (fun e => hjk e.symm)]
  have HCX := Lib.hid hcx
  have HXL := Lib.hid hxl
  have HXT := Lib.hid hxlt
  have HNE := Lib.hid hxne
  have hc1 := Lib.hid (fun W => utfRunes_c s W (by omega))
  have hc2 := Lib.hid (fun W => utfRunes_c (stz xs) W (by omega))
  rw [bts_stz HXT.out] at hc2
  have hpl1 := pts_len (bts_lt s)
  have hpl2 := pts_len HXT.out
  have HINJ := Lib.hid (show rgt (bts s) = true → rgt xs = true → pts (bts s) ≠ pts xs by
    intro h1 h2 e
    have h1' : rst (bts s) = [] := of_decide_eq_true h1
    have h2' : rst xs = [] := of_decide_eq_true h2
    rw [(rgt_true h1').2, (rgt_true h2').2] at e
    exact HNE.out (cps_inj (bts_lt s) HXT.out h1' h2' e))
  have HB2 := Lib.hid (HB.out.setCell (p := ⟨w.heap.size, k, none⟩) (Nat.le_refl _) (.int .u8 (X : Int)))
  have hws : (w1.setCell ⟨w.heap.size, k, none⟩ (.int .u8 (X : Int))).heap.size = w1.heap.size := World.size_setCell _ _ _
  clear hxs hxl hxlt hxne hcx hX hx3 HC HB hx4
  generalize rgt (bts s) = R1 at *
  generalize rgt xs = R2 at *
  generalize pts (bts s) = cs at *
  generalize pts xs = ds at *
  generalize (bts s).getD k 0 = b0 at *
  generalize hg : w.heap.size = g at *
  have Hg := Lib.hid hg
  clear hg
  go_enter Try.func6, Try.ntmps6
  go_wp2_with fail
  generalize hW2 : w1.setCell ⟨g, k, none⟩ (.int .u8 (X : Int)) = w2 at *
  clear hW2
  refine (hc1.out _).mono ?_
  rintro e w3 ⟨A3, m3, c3, rfl, ho3, hb3⟩
  have hm3 : m3 = cs.length := by rw [← ho3.len, ints_length]
  subst hm3
  have B3 := Lib.hid (HB2.out.trans (hb3.mono (by have h1 := HB2.out.size; have h2 := Hg.out; omega)))
  have R3 := Lib.hid ho3.rns
  have hcv3 := conv_cells (w := w3) (c := c) HXL.out HXT.out (fun j hj => (hb3.cell (p := ⟨g, j, none⟩) (show g < _ by have := HG.out; omega)).trans (HCX.out j hj))
  clear ho3 hb3
  go_wp2_with fail
  refine (hc2.out _).mono ?_
  rintro e w4 ⟨A4, m4, c4, rfl, ho4, hb4⟩
  have hm4 : m4 = ds.length := by rw [← ho4.len, ints_length]
  subst hm4
  have B4 := Lib.hid (B3.out.trans (hb4.mono (by have h1 := B3.out.size; have h2 := Hg.out; omega)))
  have R34 := Lib.hid (R3.out.below hb4)
  have R4 := Lib.hid ho4.rns
  clear ho4 hb4 R3
  go_wp2_with fail
  refine (answers11_c _).mono ?_
  rintro e w5 ⟨rfl, hb5⟩
  have B5 := Lib.hid (B4.out.trans (hb5.mono (by have h1 := B4.out.size; have h2 := Hg.out; omega)))
  replace R34 := Lib.hid (R34.out.below hb5)
  replace R4 := Lib.hid (R4.out.below hb5)
  clear hb5
  rcases R1 with _ | _
  · go_wp2
    go_ret
    exact ⟨rfl, B5.out⟩
  rcases R2 with _ | _
  · go_wp2
    go_ret
    exact ⟨rfl, B5.out⟩
  have hne := HINJ.out rfl rfl
  go_wp2_with fail
  refine (sameR_c A3 A4 _ c3 _ c4 _ _ _ R34.out R4.out).mono ?_
  rw [decide_eq_false (fun e => hne (ints_inj e))]
  rintro e w6 ⟨rfl, hb6⟩
  have B6 := Lib.hid (B5.out.trans (hb6.mono (by have h1 := B5.out.size; have h2 := Hg.out; omega)))
  clear hb6
  go_wp2
  go_ret
  exact ⟨rfl, B6.out⟩
end Go.Proofs.Ytibmohnpgpbjoaa
