/-
  KD: RefA, RefB, RefC, RefD, RefE, RefF, RefG, RefH, RefI, Ans1, Ans2, Args.
-/
import Derived.IntWalk
import Derived.Test.YtijalgngcbifgaaDoorKC
import Derived.Test.YtijalgngcbifgaaDoorKA
/- RefA -/
namespace Go.Proofs.YtijalgngcbifgaaDoor
open Go.RowKit
set_option maxHeartbeats 400000 in
theorem strip_big (s : ByteArray) (ds : List Nat) (w : World) (h : IsD s ds) (hs : s.size ≤ 1000000000000000) :
    Calls Tryd.prog 31 #[.string s] w fun e w' => ∃ s', e = .returned (.string s') ∧ IsD s' (decs (dval ds)) ∧ w = w' := by
  have hl := Lib.hid h.size
  have H := Lib.hid h
  clear h
  go_enter Tryd.func31, Tryd.ntmps31
  go_wp2
  go_loop [3] (fun i => ∃ k : Nat, k ≤ s.size ∧ i = .int .i64 k ∧ ∀ j, j < k → ds.getD j 0 = 0) (fun i => s.size - (intOf i).toNat)
  case atStart => exact ⟨0, Nat.zero_le _, rfl, fun j hj => absurd hj (by omega)⟩
  case round =>
    obtain ⟨k, hk, rfl, hall0⟩ := hrel
    have hall := Lib.hid hall0
    clear hall0
    by_cases hlt : k < s.size
    · have hb := H.out.at_ hlt
      have HB := Lib.hid hb
      clear hb
      go_wp2
      · have hd : (((s[k].toNat : Nat) : Int) == 48) = true := by assumption
        go_round
        case rel =>
          refine ⟨k + 1, by omega, by go_num, fun j hj => ?_⟩
          rcases Nat.lt_or_ge j k with hjk | hjk
          · exact hall.out j hjk
          · obtain rfl : j = k := by omega
            have h1 := HB.out
            have h2 : ((s[j].toNat : Nat) : Int) = 48 := by simpa using hd
            omega
        case measure => simp [intOf]; omega
      · have hd : (((s[k].toNat : Nat) : Int) == 48) = false := by assumption
        go_ret
        refine ⟨_, rfl, ?_, rfl⟩
        have e : decs (dval ds) = (ds.take s.size).drop k := by
          rw [← stripZ_eq ds H.out.2, List.take_of_length_le (by rw [hl.out]; exact Nat.le_refl _)]
          refine stripZ_drop ds k hall.out (fun _ => ?_)
          have h1 := HB.out
          have h2 : ¬ ((s[k].toNat : Nat) : Int) = 48 := by simpa using hd
          omega
        rw [e]
        exact H.out.cut k s.size
    · obtain rfl : k = s.size := by omega
      go_wp2
      go_ret
      refine ⟨_, rfl, ?_, rfl⟩
      have e : decs (dval ds) = (ds.take s.size).drop s.size := by
        rw [← stripZ_eq ds H.out.2, List.take_of_length_le (by rw [hl.out]; exact Nat.le_refl _)]
        exact stripZ_drop ds s.size hall.out (fun hh => by have := hl.out; omega)
      rw [e, List.drop_eq_nil_of_le (by simp; omega)]
      exact IsD.nil
theorem strip_c (s : ByteArray) (ds : List Nat) (w : World) (h : IsD s ds) (hs : s.size ≤ 1000000000) :
    Calls Tryd.prog 31 #[.string s] w fun e w' => ∃ s', e = .returned (.string s') ∧ IsD s' (decs (dval ds)) ∧ w = w' := strip_big s ds w h (by omega)
set_option maxHeartbeats 400000 in
theorem less_c (s t : ByteArray) (a b : Nat) (w : World) (h : IsD s (decs a)) (h' : IsD t (decs b)) :
    Calls Tryd.prog 37 #[.string s, .string t] w fun e w' => e = .returned (.bool (decide (a < b))) ∧ w = w' := by
  have H := Lib.hid h
  have H' := Lib.hid h'
  clear h h'
  by_cases hne : s.size = t.size
  · have hb : (((s.size : Nat) : Int) != (t.size : Int)) = false := by simp; omega
    have hlen : (decs a).length = (decs b).length := by rw [← H.out.size, ← H'.out.size, hne]
    have HL := Lib.hid hlen
    clear hne hlen
    go_enter Tryd.func37, Tryd.ntmps37
    go_wp2
    go_ret
    refine ⟨?_, rfl⟩
    have e := bytesLess_digits s.toList t.toList (decs a) (decs b) H.out.list H'.out.list H.out.2 H'.out.2 HL.out
    rw [dval_decs, dval_decs] at e
    rw [← e]; rfl
  · have hb : (((s.size : Nat) : Int) != (t.size : Int)) = true := by simp; omega
    go_enter Tryd.func37, Tryd.ntmps37
    go_wp2
    go_ret
    refine ⟨?_, rfl⟩
    have e : decide (s.size < t.size) = decide (a < b) := by
      have h1 := H.out.size
      have h2 := H'.out.size
      rcases Nat.lt_or_gt_of_ne hne with hh | hh
      · have := decs_length_lt (a := a) (b := b) (by omega)
        simp [hh, this]
      · have := decs_length_lt (a := b) (b := a) (by omega)
        have h3 : ¬ a < b := by omega
        have h4 : ¬ s.size < t.size := by omega
        simp [h3, h4]
    rw [← e]; rfl
end Go.Proofs.YtijalgngcbifgaaDoor
/- RefB -/
namespace Go.Proofs.YtijalgngcbifgaaDoor
open Go.RowKit
end Go.Proofs.YtijalgngcbifgaaDoor
/- RefC -/
namespace Go.Proofs.YtijalgngcbifgaaDoor
open Go.RowKit
theorem rev_take_succ (xs : List Nat) (k : Nat) (hk : k < xs.length) : xs.reverse.take (k + 1) = xs.reverse.take k ++ [xs.getD (xs.length - 1 - k) 0] := by
  rw [List.take_succ_eq_append_getElem (by simpa using hk)]
  simp [List.getD, List.getElem?_eq_getElem (show xs.length - 1 - k < xs.length by omega)]
end Go.Proofs.YtijalgngcbifgaaDoor
/- RefD -/
namespace Go.Proofs.YtijalgngcbifgaaDoor
open Go.RowKit
/-- Digits as bytes. -/
def asc (os : List Nat) : List Nat := os.map (fun d => 48 + d)
theorem asc_append (a b : List Nat) : asc (a ++ b) = asc a ++ asc b := by simp [asc]
theorem asc_lt (os : List Nat) (h : ∀ d ∈ os, d < 10) : ∀ x ∈ asc os, x < 256 := by
  intro x hx
  obtain ⟨d, hd, rfl⟩ := List.mem_map.1 hx
  have := h d hd
  omega
theorem val_snoc (b : Nat) (os : List Nat) (x : Nat) : val b (os ++ [x]) = val b os + b ^ os.length * x := by simp [val_append, val]
theorem rev_getD_lt (ds : List Nat) (h : ∀ d ∈ ds, d < 10) (k : Nat) : ds.reverse.getD k 0 < 10 :=
  getD_lt 10 (by omega) _ (fun x hx => h x (List.mem_reverse.1 hx)) k
theorem rev_getD_zero (ds : List Nat) (k : Nat) (h : ds.length ≤ k) : ds.reverse.getD k 0 = 0 := by
  rw [List.getD, List.getElem?_eq_none (by simpa using h)]; rfl
/-- turned and Strip, one behind the other. -/
theorem isD_of_asc {s : ByteArray} {os : List Nat} (h : s.data.toList.map UInt8.toNat = (asc os).reverse) (hd : ∀ d ∈ os, d < 10) : IsD s os.reverse := by
  refine ⟨?_, fun d hd' => hd d (List.mem_reverse.1 hd')⟩
  rw [h, asc, List.map_reverse]
end Go.Proofs.YtijalgngcbifgaaDoor
/- RefE -/
namespace Go.Proofs.YtijalgngcbifgaaDoor
open Go.RowKit
end Go.Proofs.YtijalgngcbifgaaDoor
/- RefF -/
namespace Go.Proofs.YtijalgngcbifgaaDoor
open Go.RowKit
set_option maxHeartbeats 800000 in
set_option maxRecDepth 100000 in
theorem number_c (s : ByteArray) (ds : List Nat) (w : World) (h : IsD s ds) (hs : s.size ≤ 100000000) :
    Calls Tryd.prog 19 #[.string s] w fun e w' => ∃ A m c, e = .returned (.slice A m c) ∧ OwnS w' w.heap.size A m c (digs 1000000000 (dval ds)) ∧ Below w.heap.size w w' := by
  have H := Lib.hid h
  clear h
  generalize hV : dval ds = V
  have HVV := Lib.hid hV
  clear hV
  generalize hg : w.heap.size = g at *
  have Hg := Lib.hid hg
  clear hg
  go_enter Tryd.func19, Tryd.ntmps19
  go_wp2_with fail
  refine (strip_c s ds w H.out (by omega)).mono ?_
  rintro e w' ⟨s0, rfl, hs0, rfl⟩
  rw [HVV.out] at hs0
  have HS0 := Lib.hid hs0
  have hs0z : s0.size ≤ 100000000 := by
    rw [HS0.out.size, ← HVV.out]
    have := decs_dval_length ds H.out.2
    have := H.out.size
    omega
  clear hs0
  go_wp2_with fail
  go_loopw [0, 3, 4, 5, 6] (fun sv v _ _ _ wr => ∃ (k V' : Nat) (s1 : ByteArray) (os : List Nat), sv = .string s1 ∧ IsD s1 (decs V') ∧ s1.size ≤ 100000000 ∧ k ≤ 100000000 - s1.size ∧
      wr.ownsRow g 46 1 v k (u32s os) ∧ (∀ x ∈ os, x < 1000000000) ∧ os ++ digs 1000000000 V' = digs 1000000000 V ∧ Below g w wr) (fun sv _ _ _ _ _ => strLen sv)
  case atStart => exact ⟨0, V, s0, [], rfl, HS0.out, hs0z, by omega, World.ownsRow_nil _ _ _ _, by simp, rfl, Below.refl _ _⟩
  case round =>
    obtain ⟨k, V', s1, os, rfl, hs1, hs1z, hk, hown0, hos0, hv0, hb0⟩ := hrel
    have HS := Lib.hid hs1
    have HLEN := Lib.hid hs1.size
    have HO := Lib.hid hown0
    have HOS := Lib.hid hos0
    have HV := Lib.hid hv0
    have HB := Lib.hid hb0
    have hsz : g ≤ wr.heap.size := by have := hb0.size; have e := Hg.out; omega
    clear hs1 hown0 hos0 hv0 hb0
    by_cases hpos : 0 < s1.size
    · have HF := Lib.hid (show max (0 : Int) ((s1.size : Int) - 9) = ((s1.size - 9 : Nat) : Int) by omega)
      have hf1 : s1.size - 9 ≤ s1.size := by omega
      generalize hf0 : s1.size - 9 = f at HF hf1
      have hf2 : s1.size ≤ f + 9 := by omega
      have HF0 := Lib.hid hf0
      clear hf0
      go_wp2_with fail
      rw [HF.out]
      obtain ⟨wo, rfl⟩ : ∃ wo : World, wo = wr := ⟨_, rfl⟩
      go_loop [5, 6] (fun n i => ∃ (j N : Nat), f ≤ j ∧ j ≤ s1.size ∧ i = .int .i64 (j : Int) ∧ n = .int .u32 (N : Int) ∧ N < 10 ^ (j - f) ∧ N = dval (((decs V').drop f).take (j - f))) (fun _ i => s1.size - (intOf i).toNat)
      case atStart => exact ⟨f, 0, by omega, by omega, rfl, rfl, by simp, by simp [dval, val]⟩
      case round =>
        obtain ⟨j, N, hj1, hj2, rfl, rfl, hN, hNv⟩ := hrel
        have HN := Lib.hid hN
        have HNV := Lib.hid hNv
        have hN10 : N < 1000000000 := Nat.lt_of_lt_of_le hN (Nat.pow_le_pow_right (by omega) (show j - f ≤ 9 by omega))
        clear hN hNv
        by_cases hlt : j < s1.size
        · have hb := HS.out.at_ hlt
          have hN9 : N < 100000000 := Nat.lt_of_lt_of_le HN.out (Nat.pow_le_pow_right (by omega) (show j - f ≤ 8 by omega))
          have hd10 : (decs V').getD j 0 < 10 := getD_lt 10 (by omega) _ (decs_lt V') j
          have hstep : dval (((decs V').drop f).take (j + 1 - f)) = dval (((decs V').drop f).take (j - f)) * 10 + (decs V').getD j 0 := by
            rw [show j + 1 - f = (j - f) + 1 by omega, take_snoc_getD _ _ (by rw [List.length_drop]; have := HLEN.out; omega), dval_snoc]
            congr 1
            rw [List.getD, List.getElem?_drop, List.getD]
            congr 2; omega
          generalize (decs V').getD j 0 = D at hb hd10 hstep
          have HBb := Lib.hid hb
          have HST := Lib.hid hstep
          clear hb hstep
          go_wp2
          go_round
          case rel =>
            have e1 := HBb.out
            refine ⟨j + 1, N * 10 + D, by omega, by omega, by go_num, by congr 1; omega, ?_, ?_⟩
            · have e2 := HN.out
              rw [show j + 1 - f = (j - f) + 1 by omega, Nat.pow_succ]
              omega
            · rw [HST.out, ← HNV.out]
          case measure => simp [intOf]; omega
        · obtain rfl : j = s1.size := by omega
          go_wp2_with (at_builtin; go_must (refine wpList_app_u32 rfl (.tmp 31) (.tmp 33) _ rfl Tryd.underlying28 g u3 k _ rfl HO.out _ rfl N (by omega) (by omega) HB.out hsz ?_))
          intro v' w' ho1 hb1
          go_wp2
          have hL := HLEN.out
          have hF := HF0.out
          have hV0 : V' ≠ 0 := by
            intro e
            rw [e, decs_zero, List.length_nil] at hL
            omega
          have hcut := HS.out.cut 0 f
          rw [List.drop_zero, ← hF, hL, decs_take V' 9, ← hL, hF] at hcut
          have hN2 : N = V' % 10 ^ 9 := by
            rw [HNV.out, List.take_of_length_le (by rw [List.length_drop]; omega), ← hF, hL, decs_drop V' 9]
          go_roundw
          case rel =>
            refine ⟨k + 1, V' / 10 ^ 9, _, os ++ [N], rfl, hcut, ?_, ?_, ho1.out, ?_, ?_, hb1.out⟩
            · rw [ByteArray.size_extract]; omega
            · rw [ByteArray.size_extract]; omega
            · intro x hx
              rcases List.mem_append.1 hx with hx | hx
              · exact HOS.out x hx
              · rw [List.mem_singleton.1 hx]; exact hN10
            · rw [← HV.out, digs_pos (by omega) hV0, hN2, List.append_assoc]
              rfl
          case measure =>
            have hlt' : f < s1.size := by omega
            simp only [strLen, ByteArray.size_extract]
            exact Nat.lt_of_le_of_lt (Nat.le_trans (Nat.sub_le _ _) (Nat.min_le_left _ _)) hlt'
    · go_wp2
      go_ret
      have hL := HLEN.out
      have hV0 : V' = 0 := (decs_length_zero V').1 (by omega)
      obtain ⟨A, c, hA⟩ := own_form HO.out
      have e1 := HV.out
      rw [hV0, digs_zero, List.append_nil] at e1
      subst hA
      refine ⟨A, k, c, rfl, ⟨by rw [← e1]; exact HO.out, by omega, fun x hx => ?_⟩, HB.out⟩
      have := digs_lt 1000000000 (by omega) V x hx
      omega
end Go.Proofs.YtijalgngcbifgaaDoor
/- RefG -/
namespace Go.Proofs.YtijalgngcbifgaaDoor
open Go.RowKit
/-- Whole numbers as values. -/
def i64s (xs : List Nat) : List Value := xs.map fun (x : Nat) => Value.int .i64 (x : Int)
theorem i64s_length (xs : List Nat) : (i64s xs).length = xs.length := by simp [i64s]
theorem i64s_get (xs : List Nat) (k : Nat) : (i64s xs)[k]? = (xs[k]?).map fun (x : Nat) => Value.int .i64 (x : Int) := by simp [i64s]
theorem i64s_set (zs : List Nat) (k x : Nat) : i64s (zs.set k x) = (i64s zs).set k (.int .i64 (x : Int)) := by simp [i64s, List.map_set]
theorem i64_info : (Tryd.prog.info? 3).map (fun i => (i.zero, i.size, i.bytes)) = some (some (.int .i64 0), 1, 8) := by kernel_rfl
theorem made_i64 (k : Nat) : (madeCells #[Value.int .i64 0] k).toList = i64s (List.replicate k 0) := by
  simp only [madeCells, i64s, List.map_replicate, Array.toList_map, Array.toList_range]
  rw [List.eq_replicate_iff]
  refine ⟨by simp, fun b hb => ?_⟩
  obtain ⟨x, _, rfl⟩ := List.mem_map.1 hb
  have : x % (#[Value.int .i64 0] : Array Value).size = 0 := Nat.mod_one x
  rw [this]; rfl
theorem own_at64 {w : World} {base g N : Nat} {zs : List Nat} (h : w.ownsRow base 3 1 (.slice (some ⟨g, 0, none⟩) N N) N (i64s zs)) {j : Nat} (hj : j < N) : w.cell? ⟨g, j, none⟩ = some (.int .i64 ((zs.getD j 0 : Nat) : Int)) := by
  have hl : zs.length = N := by have := h.1; simpa [i64s_length] using this
  rw [h.cellAt j (by omega), i64s_get, List.getElem?_eq_getElem (by omega)]
  simp [List.getD, List.getElem?_eq_getElem (show j < zs.length by omega)]
theorem still_of {P : Program} {f : FuncId} {args : Array Value} {w : World} {v : Value} (h : Calls P f args w fun e w' => e = .returned v ∧ w = w') : Calls P f args w fun e w' => e = .returned v ∧ w' = w :=
  h.mono fun _ _ ⟨h1, h2⟩ => ⟨h1, h2.symm⟩
theorem dig_prod {X Y : Nat} (hx : X < 10) (hy : Y < 10) : X * Y ≤ 81 := Nat.mul_le_mul (show X ≤ 9 by omega) (show Y ≤ 9 by omega)
theorem times_step (o k V0 y x z v v' T : Nat) (hs : v' + 10 ^ (o + k) * z = v + 10 ^ (o + k) * (z + y * x)) (hv : v = V0 + 10 ^ o * (y * T)) : v' = V0 + 10 ^ o * (y * (T + 10 ^ k * x)) := by
  have := row_step 10 o k V0 y x z 0 (z + y * x) 0 v v' T hs (by simpa using hv) (by rw [Nat.mul_comm]; omega)
  simpa using this
end Go.Proofs.YtijalgngcbifgaaDoor
/- RefH -/
namespace Go.Proofs.YtijalgngcbifgaaDoor
open Go.RowKit
theorem dval_take_succ (ds : List Nat) (k : Nat) (h : k < ds.length) : dval (ds.take (k + 1)) = dval (ds.take k) * 10 + ds.getD k 0 := by rw [take_snoc_getD ds k h, dval_snoc]
theorem IsD.nonempty {s : ByteArray} {n : Nat} (h : IsD s (decs n)) (hn : 0 < n) : s.toList.isEmpty = false := by
  have h1 := h.size
  have h2 : (decs n).length ≠ 0 := fun e => by have := (decs_length_zero n).1 e; omega
  rcases hl : s.toList with _ | ⟨x, r⟩
  · have := h.list
    rw [hl] at this
    simp at this
    exact absurd (by rw [this]; rfl) h2
  · rfl
theorem take_one (ds : List Nat) (k : Nat) (h : k < ds.length) : (ds.take (k + 1)).drop k = [ds.getD k 0] := by
  rw [take_snoc_getD ds k h, List.drop_append_of_le_length (by simp; omega), List.drop_eq_nil_of_le (by simp; omega)]
  rfl
/-- One digit of a division on paper. -/
theorem over_step {D b Q R n d T : Nat} (hD : D = b * Q + R) (hT : T = R * 10 + d) (hn : n = T / b) : D * 10 + d = b * (Q * 10 + n) + T % b := by
  subst hn
  have hm := Nat.div_add_mod T b
  rw [Nat.mul_add, ← Nat.mul_assoc]
  subst hT
  omega
end Go.Proofs.YtijalgngcbifgaaDoor
/- RefI -/
namespace Go.Proofs.YtijalgngcbifgaaDoor
open Go.RowKit
theorem getD_map_mod (xs : List Nat) (k : Nat) : (xs.map (· % 1000000000)).getD k 0 = xs.getD k 0 % 1000000000 := by
  rw [List.getD, List.getD, List.getElem?_map]
  cases xs[k]? <;> rfl
theorem map_mod_id {xs : List Nat} (h : ∀ x ∈ xs, x < 1000000000) : xs.map (· % 1000000000) = xs := by
  conv => rhs; rw [← List.map_id xs]
  exact List.map_congr_left fun x hx => Nat.mod_eq_of_lt (h x hx)

end Go.Proofs.YtijalgngcbifgaaDoor
/- Ans1 -/
namespace Go.Proofs.YtijalgngcbifgaaDoor
open Go.RowKit
theorem limbs_new (w : World) (x : Nat) (hx : x < 4294967296) (E : Int) (hE : E = (x : Int)) : Limbs (w.alloc (.cells #[.int .u32 E] 46)) (some ⟨w.heap.size, 0, none⟩) 1 [x] := by
  subst hE
  refine ⟨⟨rfl, fun _ => ⟨_, rfl, by simp, ?_⟩⟩, by omega, by simpa using hx⟩
  exact cells_one w (.int .u32 (x : Int)) 46
theorem base_two : digs 1000000000 (val 1000000000 [999999999] + val 1000000000 [1]) = [0, 1] := by
  have h := trim_eq_digs 1000000000 (by omega) [0, 1] (by intro x hx; simp at hx; omega)
  have e : val 1000000000 [0, 1] = val 1000000000 [999999999] + val 1000000000 [1] := by simp only [val]
  rw [e] at h
  rw [← h]; rfl
theorem base_one : digs 1000000000 (val 1000000000 [0, 1] - val 1000000000 [1]) = [999999999] := by
  have h := trim_eq_digs 1000000000 (by omega) [999999999] (by intro x hx; simp at hx; omega)
  have e : val 1000000000 [999999999] = val 1000000000 [0, 1] - val 1000000000 [1] := by simp only [val]
  rw [e] at h
  rw [← h]; rfl
theorem base_lt : ∀ x ∈ [999999999], x < 1000000000 := by intro x hx; simp at hx; omega
theorem base_lt1 : ∀ x ∈ [1], x < 1000000000 := by intro x hx; simp at hx; omega
theorem base_lt2 : ∀ x ∈ [0, 1], x < 1000000000 := by intro x hx; simp at hx; omega
end Go.Proofs.YtijalgngcbifgaaDoor
/- Ans2 -/
namespace Go.Proofs.YtijalgngcbifgaaDoor
open Go.RowKit
/-- A list of limbs as an argument: its slice value's parts and what it reads. -/
structure Arg where
  A : Option Addr
  n : Nat
  c : Nat
  xs : List Nat
def Arg.v (t : Arg) : Value := .slice t.A t.n t.c
def Arg.fine (t : Arg) : Bool := decide (t.n ≤ 60) && t.xs.all (fun x => decide (x ≤ 999999999))
theorem Arg.fine_true {t : Arg} (h : t.fine = true) : t.n ≤ 60 ∧ ∀ x ∈ t.xs, x < 1000000000 := by
  simp only [Arg.fine, Bool.and_eq_true, decide_eq_true_eq, List.all_eq_true] at h
  exact ⟨h.1, fun x hx => by have := h.2 x hx; omega⟩
end Go.Proofs.YtijalgngcbifgaaDoor
/- Args -/
namespace Go.Proofs.YtijalgngcbifgaaDoor
open Go.RowKit
/-- Limbs that are a number of at most k limbs. -/
def Arg.fineL (k : Nat) (t : Arg) : Bool := decide (t.n ≤ k) && t.xs.all (fun x => decide (x ≤ 999999999))
theorem Arg.fineL_true {k : Nat} {t : Arg} (h : t.fineL k = true) : t.n ≤ k ∧ ∀ x ∈ t.xs, x < 1000000000 := by
  simp only [Arg.fineL, Bool.and_eq_true, decide_eq_true_eq, List.all_eq_true] at h
  exact ⟨h.1, fun x hx => by have := h.2 x hx; omega⟩
theorem limbs_cells2 (w : World) (x y : Nat) (hx : x < 4294967296) (hy : y < 4294967296) : Limbs (w.alloc (.cells #[.int .u32 (x : Int), .int .u32 (y : Int)] 46)) (some ⟨w.heap.size, 0, none⟩) 2 [x, y] := by
  refine ⟨⟨rfl, fun _ => ⟨_, rfl, by simp, ?_⟩⟩, by omega, by simp [hx, hy]⟩
  intro j u hu
  rcases j with _ | _ | j
  · rw [show (⟨w.heap.size, 0, none⟩ : Addr).add 0 = ⟨w.heap.size, 0, none⟩ by simp [Addr.add], World.cell?_alloc_at _ _ _ _ rfl]
    exact hu
  · rw [show (⟨w.heap.size, 0, none⟩ : Addr).add 1 = ⟨w.heap.size, 1, none⟩ by simp [Addr.add], World.cell?_alloc_at _ _ _ _ rfl]
    exact hu
  · simp [u32s] at hu
theorem limbs_none (W : World) : Limbs W none 0 [] := ⟨Reads.none_, by omega, by simp⟩
end Go.Proofs.YtijalgngcbifgaaDoor
