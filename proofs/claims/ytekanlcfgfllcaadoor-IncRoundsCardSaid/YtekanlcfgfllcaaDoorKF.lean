/-
  KF: Ten1, Ten2, Ten3, Ten4, Ten5, Ten6, Ten7, Ten8, Ten9, TenLaid.
-/
import Derived.StillTailTactics
import Derived.Lib.OthersKept
import Derived.RangeFuncCalls
import Derived.Lib.LaidU8
import Derived.Test.YtekanlcfgfllcaaDoorKA
import Derived.Test.YtekanlcfgfllcaaDoorKE
import Derived.Test.YtekanlcfgfllcaaDoorKD
/- Ten1 -/
set_option maxRecDepth 100000
namespace Go.Proofs.YtekanlcfgfllcaaDoor
open Go.RowKit
/-- The table of powers reads as its text lays it. -/
def Pw (w : World) : Prop := ∀ i, i < 9 → w.cell? ⟨0, i, none⟩ = some (.int .u32 ((10 ^ i : Nat) : Int))
theorem Pw.blk {w : World} (h : Pw w) : 0 < w.heap.size := World.block_lt_of_cell? w ⟨0, 0, none⟩ (h 0 (by omega))
theorem Pw.below' {w w' : World} {B : Nat} (h : Pw w) (hb : Below B w w') (hB : 0 < B) : Pw w' := fun i hi => (hb.cell (p := ⟨0, i, none⟩) hB).trans (h i hi)
theorem Pw.below {w w' : World} (h : Pw w) (hb : Below w.heap.size w w') : Pw w' := h.below' hb h.blk
theorem Pw.drew {w : World} (h : Pw w) : Pw w.drew := h
end Go.Proofs.YtekanlcfgfllcaaDoor
/- Ten2 -/
namespace Go.Proofs.YtekanlcfgfllcaaDoor
open Go.RowKit
set_option maxHeartbeats 800000 in
theorem trimByte_c (s : ByteArray) (ds : List Nat) (w : World) (h : IsD s ds) (hs : s.size ≤ 1000000000000) :
    Calls Tryd.prog 83 #[.string s, .int .u8 48] w fun e w' => ∃ s', e = .returned (.string s') ∧ IsD s' (stripZ ds) ∧ w = w' := by
  have H := Lib.hid h
  clear h
  go_enter Tryd.func83, Tryd.ntmps83
  go_wp2
  go_loop [0] (fun v => ∃ (t : ByteArray) (es : List Nat), v = .string t ∧ IsD t es ∧ stripZ es = stripZ ds ∧ t.size ≤ 1000000000000) (fun v => strLen v)
  case atStart => exact ⟨s, ds, rfl, H.out, rfl, hs⟩
  case round =>
    obtain ⟨t, es, rfl, ht0, hz0, htl⟩ := hrel
    have HZ := Lib.hid hz0
    rcases es with _ | ⟨d, r⟩
    · have hsz : t.size = 0 := ht0.size
      have HT := Lib.hid ht0
      clear ht0 hz0
      go_wp2
      go_ret
      exact ⟨t, rfl, by rw [← HZ.out]; exact HT.out, rfl⟩
    · have hsz : t.size = r.length + 1 := ht0.size
      have hpos : 0 < t.size := by omega
      have hpos1 : 1 ≤ t.size := by omega
      have hb := ht0.at_ hpos
      simp only [List.getD_cons_zero] at hb
      have HT := Lib.hid ht0
      have HSZ := Lib.hid hsz
      have HB := Lib.hid hb
      clear ht0 hz0 hsz hb
      by_cases hd : d = 0
      · have hd1 : (((t[0].toNat : Nat) : Int) == 48) = true := by have := HB.out; simp; omega
        go_wp2
        go_round
        case rel =>
          refine ⟨_, r, rfl, ?_, ?_, ?_⟩
          · have h1 := HT.out.cut 1 t.size
            rw [List.take_of_length_le (by rw [HT.out.size]; exact Nat.le_refl _)] at h1
            exact h1
          · rw [← HZ.out, hd]; simp [stripZ]
          · simp; omega
        case measure => simp [strLen]; omega
      · have hd1 : (((t[0].toNat : Nat) : Int) == 48) = false := by have := HB.out; simp; omega
        go_wp2
        go_ret
        refine ⟨t, rfl, ?_, rfl⟩
        rw [← HZ.out, show stripZ (d :: r) = d :: r by simp [stripZ, hd]]
        exact HT.out
set_option maxHeartbeats 800000 in
set_option maxRecDepth 100000 in
theorem trimLeft_c (s : ByteArray) (ds : List Nat) (w : World) (h : IsD s ds) (hs : s.size ≤ 1000000000000) :
    Calls Tryd.prog 59 #[.string s, .string ⟨#[48]⟩] w fun e w' => ∃ s', e = .returned (.string s') ∧ IsD s' (stripZ ds) ∧ w = w' := by
  rcases ds with _ | ⟨d, r⟩
  · obtain rfl := IsD.ext h IsD.nil
    clear h
    go_enter Tryd.func59, Tryd.ntmps59
    go_wp2
    go_ret
    exact ⟨_, rfl, IsD.nil, rfl⟩
  · have hne : s.toList ≠ [] := fun e => by
      have h1 := h.list
      rw [e] at h1
      simp at h1
    have hb1 : (!s.toList.isEmpty) = true := by
      cases hh : s.toList with
      | nil => exact absurd hh hne
      | cons => rfl
    have CT := trimByte_c s (d :: r) w h hs
    have HCT := Lib.hid CT
    have hb2 : s.toList.isEmpty = false := by
      cases hh : s.toList with
      | nil => exact absurd hh hne
      | cons => rfl
    clear CT h hs hne
    go_enter Tryd.func59, Tryd.ntmps59
    go_wp2_with (go_at_call 83; refine HCT.out.mono ?_; rintro e w' ⟨s', rfl, hs', rfl⟩; have HS := Lib.hid hs'; clear hs')
    go_ret
    exact ⟨s', rfl, HS.out, rfl⟩
end Go.Proofs.YtekanlcfgfllcaaDoor
/- Ten3 -/
namespace Go.Proofs.YtekanlcfgfllcaaDoor
open Go.RowKit
/-- Digits, or 0 if there are none. -/
def orZero (ds : List Nat) : List Nat := if ds = [] then [0] else ds
theorem orZero_nil : orZero [] = [0] := rfl
theorem orZero_cons {d : Nat} {r : List Nat} : orZero (d :: r) = d :: r := rfl
theorem isD_zero : IsD ⟨#[48]⟩ [0] := ⟨rfl, by simp⟩
theorem asc_zeros (k : Nat) : (List.replicate k 48) = (List.replicate k 0).map (fun d => 48 + d) := by simp
set_option maxHeartbeats 800000 in
theorem zeros_c (k : Nat) (w : World) (hk : k ≤ 100000000) :
    Calls Tryd.prog 32 #[.int .i64 (k : Int)] w fun e w' => ∃ s', e = .returned (.string s') ∧ IsD s' (List.replicate k 0) ∧ Below w.heap.size w w' := by
  generalize hg : w.heap.size = g at *
  have Hg := Lib.hid hg
  clear hg
  go_enter Tryd.func32, Tryd.ntmps32
  go_wp2
  go_loopw [3, 4] (fun v i wr => ∃ j : Nat, j ≤ k ∧ i = .int .i64 (j : Int) ∧ wr.ownsRow g 5 1 v j (u8s (List.replicate j 48)) ∧ Below g w wr) (fun _ i _ => k - (intOf i).toNat)
  case atStart => exact ⟨0, Nat.zero_le _, rfl, World.ownsRow_nil _ _ _ _, Below.refl _ _⟩
  case round =>
    obtain ⟨j, hj, rfl, hown0, hb0⟩ := hrel
    have HO := Lib.hid hown0
    have HB := Lib.hid hb0
    have hsz : g ≤ wr.heap.size := by have := hb0.size; have e := Hg.out; omega
    clear hown0 hb0
    by_cases hlt : j < k
    · go_wp2_with (at_builtin; go_must (refine wpList_app_u8 rfl (.tmp 10) (.tmp 11) _ rfl Tryd.underlying79 g u3 j _ rfl HO.out _ rfl 48 (by omega) (by omega) HB.out hsz ?_))
      intro v' w' ho1 hb1
      go_wp2
      go_roundw
      case rel =>
        refine ⟨j + 1, by omega, by go_num, ?_, hb1.out⟩
        rw [List.replicate_succ']
        exact ho1.out
      case measure => simp [intOf]; omega
    · obtain rfl : j = k := by omega
      obtain ⟨s', hc, hs'⟩ := conv_own HO.out (fun x hx => by rw [List.eq_of_mem_replicate hx]; omega)
      have HS := Lib.hid hs'
      clear hs'
      go_wp2
      go_ret
      refine ⟨s', rfl, ⟨?_, fun d hd => ?_⟩, HB.out⟩
      · rw [HS.out, asc_zeros]
      · rw [List.eq_of_mem_replicate hd]; omega
end Go.Proofs.YtekanlcfgfllcaaDoor
/- Ten4 -/
namespace Go.Proofs.YtekanlcfgfllcaaDoor
open Go.RowKit
/-- The bytes of a text, less 48. -/
def bdigs (s : ByteArray) : List Nat := s.data.toList.map fun b => b.toNat - 48
theorem bdigs_length (s : ByteArray) : (bdigs s).length = s.size := by simp [bdigs]
theorem bdigs_get (s : ByteArray) (k : Nat) (hk : k < s.size) : (bdigs s).getD k 0 = s[k].toNat - 48 := by
  have hk' : k < s.data.toList.length := by simpa using hk
  simp only [bdigs, List.getD, List.getElem?_map, List.getElem?_eq_getElem hk', Option.map_some, Option.getD_some]
  rfl
theorem bdigs_of {s : ByteArray} {ds : List Nat} (h : IsD s ds) : bdigs s = ds := by
  have h1 := congrArg (List.map (fun x => x - 48)) h.1
  simp only [List.map_map] at h1
  rw [bdigs, show (fun b : UInt8 => b.toNat - 48) = (fun x => x - 48) ∘ UInt8.toNat from rfl, h1]
  conv => rhs; rw [← List.map_id ds]
  exact List.map_congr_left fun x _ => by simp
/-- Is it a digit? -/
def digB (b : UInt8) : Bool := decide (48 ≤ b.toNat) && decide (b.toNat ≤ 57)
theorem digB_true {b : UInt8} (h : digB b = true) : 48 ≤ b.toNat ∧ b.toNat ≤ 57 := by simpa [digB] using h
theorem digB_false {b : UInt8} (h : digB b = false) : b.toNat < 48 ∨ 57 < b.toNat := by
  simp only [digB, Bool.and_eq_false_iff, decide_eq_false_iff_not] at h
  omega
/-- What Number answers. -/
def TenNum (s : ByteArray) (w : World) (e : Ending) (w' : World) : Prop :=
  Below w.heap.size w w' ∧ ((0 < s.size ∧ (∀ j (h : j < s.size), digB s[j] = true) ∧ ∃ A m c, e = .returned (.tuple #[.slice A m c, .bool true]) ∧ OwnS w' w.heap.size A m c (digs 1000000000 (dval (bdigs s)))) ∨
    ((s.size = 0 ∨ ∃ j, ∃ h : j < s.size, digB s[j] = false) ∧ e = .returned (.tuple #[.slice none 0 0, .bool false])))
theorem bdigs_lt {s : ByteArray} (h : ∀ j (h : j < s.size), digB s[j] = true) : ∀ d ∈ bdigs s, d < 10 := by
  intro d hd
  obtain ⟨j, hj, rfl⟩ := List.mem_iff_getElem.1 hd
  have hj' : j < s.size := by rw [← bdigs_length]; exact hj
  have h1 := bdigs_get s j hj'
  have h2 := digB_true (h j hj')
  rw [List.getD, List.getElem?_eq_getElem hj] at h1
  simp at h1
  omega
set_option maxHeartbeats 2000000 in
set_option maxRecDepth 100000 in
theorem tenNumber_c (s : ByteArray) (w : World) (hs : s.size ≤ 1000000000) (hP : Pw w) :
    Calls Tryd.prog 46 #[.string s] w (TenNum s w) := by
  obtain ⟨i0, hi, hz0, hz1, hz2⟩ := info_parts u32_info
  by_cases he : s.size = 0
  · have e0 : s = ⟨#[]⟩ := IsD.ext (ds := []) ⟨by simp [List.eq_nil_of_length_eq_zero (show s.data.toList.length = 0 by simpa using he)], by simp⟩ IsD.nil
    subst e0
    clear hs hP
    go_enter Tryd.func46, Tryd.ntmps46
    go_wp2
    go_ret2
    exact ⟨Below.refl _ _, .inr ⟨.inl he, rfl⟩⟩
  · have hpos : 0 < s.size := by omega
    have hne : s.toList.isEmpty = false := by
      cases hh : s.toList with
      | nil =>
        rw [ByteArray.toList_eq] at hh
        have h2 : s.data.toList.length = 0 := by rw [hh]; rfl
        have h3 : s.size = s.data.toList.length := rfl
        omega
      | cons => rfl
    have hb1 : (!s.toList.isEmpty) = true := by rw [hne]; rfl
    obtain ⟨N, hN⟩ : ∃ N : Nat, N = s.size / 9 + 1 := ⟨_, rfl⟩
    have hN1 : N ≤ 200000000 := by omega
    have HNI := Lib.hid (show (s.size : Int) / 9 + 1 = (N : Int) by omega)
    have HN := Lib.hid hN
    have HPW := Lib.hid hP
    clear hN hP he
    go_enter Tryd.func46, Tryd.ntmps46
    go_wp2_with (at_make; refine wpList_make_full _ rfl _ _ 39 rfl w.heap.size 49 i0 (.int .u32 0) 1 Tryd.underlying39 hi hz0 hz1 _ _ _ _ N rfl rfl ?b0 ?b1 ?b2 ?b3 (Nat.le_refl _) ?_)
    case b0 => have := HNI.out; omega
    case b1 => have := HNI.out; omega
    case b2 => rw [hz2]; omega
    case b3 => unfold maxLen; omega
    rw [HNI.out]
    intro w1 hown hgrow
    rw [made_u32] at hown
    have hb1 : Below w.heap.size w w1 := (Below.refl _ _).grown hgrow (Nat.le_refl _) (fun k hk => by cases hk)
    have hgs : w.heap.size < w1.heap.size := (Array.getElem?_eq_some_iff.1 (own_blk hown).1).1
    have W0 := Lib.hid hown
    have HB1 := Lib.hid hb1
    clear hown hb1 hgrow
    generalize hg : w.heap.size = g at *
    have Hg := Lib.hid hg
    clear hg
    have hG : 0 < g := by have := HPW.out.blk; have := Hg.out; omega
    go_wp2
    generalize hq : w1.heap.size = q at *
    have Hq := Lib.hid hq
    clear hq
    go_loopw [5] (fun _ wr => ∃ (k : Nat) (zs : List Nat), k ≤ s.size ∧ (∀ j (h : j < s.size), j < k → digB s[j] = true) ∧ wr.heap[q]? = some (.stringIter s k) ∧ zs = chunks (placed (bdigs s) k) N ∧
        wr.ownsRow g 49 1 (.slice (some ⟨g, 0, none⟩) N N) N (u32s zs) ∧ Below g w wr) (fun _ wr => s.size - wr.iterPos q)
    case atStart =>
      refine ⟨0, List.replicate N 0, Nat.zero_le _, fun j _ hj => absurd hj (by omega), ?_, ?_, ?_, ?_⟩
      · rw [← Hq.out]; exact heap_alloc_new w1 _
      · rw [placed_zero, chunks_zero]
      · exact W0.out.alloc _
      · exact HB1.out.alloc (by rw [Hq.out]; omega) _
    case round =>
      obtain ⟨k, zs, hk, hall0, hit0, hzs0, hown0, hb0⟩ := hrel
      have HALL := Lib.hid hall0
      have HIT := Lib.hid hit0
      have HZS := Lib.hid hzs0
      have HO := Lib.hid hown0
      have HB := Lib.hid hb0
      have hpos0 : wr.iterPos q = k := by simp [World.iterPos, hit0]
      have HPOS := Lib.hid hpos0
      have hgq : q < wr.heap.size := (Array.getElem?_eq_some_iff.1 hit0).1
      clear hall0 hit0 hzs0 hown0 hb0 hpos0
      by_cases hlt : k < s.size
      · rcases hdb : digB s[k] with _ | _
        · have hnx := Lib.run_next_any_at (P := Tryd.prog) wr q s k 0 HIT.out hlt
          have hr : (Utf8.decode s k).1 < 48 ∨ 57 < (Utf8.decode s k).1 := by
            by_cases ha : s[k].toNat < 128
            · rw [decode_ascii s k hlt ha]
              have := digB_false hdb
              simp only
              omega
            · have := (decode_high s k hlt (by omega)).1
              omega
          have HBQ := Lib.hid (Lib.below_iterAt HB.out (k := q) (by omega) s (k + (Utf8.decode s k).2))
          have HDB := Lib.hid hdb
          clear hdb
          generalize (Utf8.decode s k).1 = R at *
          generalize (Utf8.decode s k).2 = D at *
          rcases hr with hr | hr
          · go_wp2
            go_ret2
            exact ⟨by rw [Hg.out]; exact HBQ.out, .inr ⟨.inr ⟨k, hlt, HDB.out⟩, rfl⟩⟩
          · have hr1 : ¬ R < 48 := by omega
            go_wp2
            go_ret2
            exact ⟨by rw [Hg.out]; exact HBQ.out, .inr ⟨.inr ⟨k, hlt, HDB.out⟩, rfl⟩⟩
        · have hd := digB_true hdb
          have hnx := Lib.run_next_ascii_at (P := Tryd.prog) wr q s k 0 HIT.out hlt (by omega)
          have hdk : (bdigs s).getD k 0 = s[k].toNat - 48 := bdigs_get s k hlt
          have hdl := bdigs_length s
          have hps := placed_succ (bdigs s) k (by rw [hdl]; exact hlt)
          have hpl := placed_length (bdigs s) k (by rw [hdl]; exact hk)
          rw [hdl] at hps hpl
          rw [hdk] at hps
          have hd10 : ∀ j, j < k + 1 → (bdigs s).getD j 0 < 10 := fun j hj => by
            have hjs : j < s.size := by omega
            rw [bdigs_get s j hjs]
            have : digB s[j] = true := by
              rcases Nat.lt_or_ge j k with h | h
              · exact HALL.out j hjs h
              · obtain rfl : j = k := by omega
                exact hdb
            have := digB_true this
            omega
          have hcl := chunk_lt (placed (bdigs s) k) (placed_lt (bdigs s) k fun j hj => hd10 j (by omega)) ((s.size - 1 - k) / 9)
          have hcl' := chunk_lt (placed (bdigs s) (k + 1)) (placed_lt (bdigs s) (k + 1) hd10) ((s.size - 1 - k) / 9)
          rw [hps.1, chunk_set _ _ _ (by rw [hpl]; omega) hps.2, if_pos rfl] at hcl'
          have hcs := chunks_set (placed (bdigs s) k) (s.size - 1 - k) (s[k].toNat - 48) N (by rw [hpl]; omega) hps.2
          rw [← hps.1] at hcs
          have hcg := chunks_getD (placed (bdigs s) k) N ((s.size - 1 - k) / 9) (by have := HN.out; omega)
          rw [← HZS.out] at hcs hcg
          generalize chunk (placed (bdigs s) k) ((s.size - 1 - k) / 9) = Z at *
          obtain ⟨p, hp⟩ : ∃ p : Nat, p = s.size - 1 - k := ⟨_, rfl⟩
          rw [← hp] at hps hcl' hcs hcg
          have HBQ := Lib.below_iterAt HB.out (k := q) (by omega) s (k + 1)
          have HITQ := Lib.iterAt_heap wr q s k (k + 1) HIT.out
          have HOQ := own_kept_lt HO.out (Lib.below_iterAt (Below.refl q wr) (k := q) (Nat.le_refl _) s (k + 1)) (fun j hj => by simp [Value.ownBlock] at hj; omega)
          generalize wr.iterAt q s (k + 1) = wi at *
          have hpN : p / 9 < N := by have := HN.out; omega
          have hcell := own_at HOQ hpN
          rw [hcg] at hcell
          have hfr := HOQ.frozenAt (p / 9)
          have hpw := (HPW.out.below' HBQ hG) (p % 9) (Nat.mod_lt _ (by omega))
          have hpw9 := pow_lt9 (p % 9) (Nat.mod_lt _ (by omega))
          obtain ⟨d, hdd⟩ : ∃ d : Nat, d = s[k].toNat - 48 := ⟨_, rfl⟩
          rw [← hdd] at hcl' hcs
          have hmul : 10 ^ (p % 9) * d ≤ 999999999 := by omega
          obtain ⟨PW, hPW⟩ : ∃ PW : Nat, PW = 10 ^ (p % 9) := ⟨_, rfl⟩
          rw [← hPW] at hpw hpw9 hmul hcl' hcs
          have hmulI : (d : Int) * (PW : Int) ≤ 999999999 := by rw [← Int.natCast_mul, Nat.mul_comm]; omega
          have HPS := Lib.hid hps
          have HCS := Lib.hid hcs
          have HITQ' := Lib.hid HITQ
          have HOQ' := Lib.hid HOQ
          have HBQ' := Lib.hid HBQ
          have HDB := Lib.hid hdb
          clear hps hcs HITQ HOQ HBQ hdb hdl hdk hcg hPW hpl hd10
          generalize s[k].toNat = r at *
          go_wp2
          rw [show (s.size : Int) - 1 - (k : Int) = (p : Int) by omega]
          obtain ⟨a, ha⟩ : ∃ a : Nat, a = p / 9 := ⟨_, rfl⟩
          obtain ⟨b, hb⟩ : ∃ b : Nat, b = p % 9 := ⟨_, rfl⟩
          rw [← ha] at hpN hcell hfr
          rw [← hb] at hpw
          have q1 : IntKind.i64.wrap ((p : Int) / 9) = (a : Int) := by
            rw [show (p : Int) / 9 = (a : Int) by omega]; exact IntWalk.i64_in _ (by omega)
          have q2 : (p : Int).tmod 9 = (b : Int) := by rw [hb]; rfl
          have q3 : (a : Int) < (N : Int) := by omega
          have q4 : (b : Int) < 9 := by omega
          have q5 : IntKind.i32.wrap ((r : Int) - 48) = (d : Int) := by rw [show (r : Int) - 48 = (d : Int) by omega]; exact IntWalk.i32_in _ (by omega)
          have q6 : IntKind.u32.wrap (d : Int) = (d : Int) := IntWalk.u32_in _ (by omega)
          have q7 : IntKind.u32.wrap ((d : Int) * (PW : Int)) = (d : Int) * (PW : Int) := IntWalk.u32_in _ ⟨by rw [← Int.natCast_mul]; omega, by omega⟩
          have q8 : IntKind.u32.wrap ((Z : Int) + (d : Int) * (PW : Int)) = (Z : Int) + (d : Int) * (PW : Int) := IntWalk.u32_in _ ⟨by rw [← Int.natCast_mul]; omega, by omega⟩
          have HA := Lib.hid ha
          have HP := Lib.hid hp
          have HDD := Lib.hid hdd
          have HHD := Lib.hid hd
          clear hp ha hb hdd hd hmul hcl' hnx
          go_still_tail 15, (by kernel_rfl)
          clear q1 q2 q3 q4 q5 q6 q7 q8
          go_wp2
          go_roundw
          case rel =>
            have hcast : (Z : Int) + (d : Int) * (PW : Int) = ((Z + PW * d : Nat) : Int) := by rw [Nat.mul_comm]; simp
            refine ⟨k + 1, zs.set a (Z + PW * d), by omega, fun j hj hjk => ?_, ?_, ?_, ?_, ?_⟩
            · rcases Nat.lt_or_ge j k with h | h
              · exact HALL.out j hj h
              · obtain rfl : j = k := by omega
                exact HDB.out
            · exact (Below.heap_setCell _ _ _ q (show q ≠ g by omega)).trans HITQ'.out
            · rw [HA.out]; exact HCS.out.symm
            · rw [u32s_set, hcast]
              exact (World.ownsRow.stored (w := wi.drew) HOQ'.out a _).1
            · exact HBQ'.out.drew.setCell (Nat.le_refl _) _
          case measure =>
            have e1 : (wi.setCell ⟨g, a, none⟩ (.int .u32 ((Z : Int) + (d : Int) * (PW : Int)))).drew.iterPos q = k + 1 := by
              have e2 : (wi.setCell ⟨g, a, none⟩ (.int .u32 ((Z : Int) + (d : Int) * (PW : Int)))).drew.heap[q]? = some (.stringIter s (k + 1)) :=
                (Below.heap_setCell _ _ _ q (show q ≠ g by omega)).trans HITQ'.out
              simp [World.iterPos, e2]
            rw [e1, HPOS.out]
            omega
      · have hks : s.size = k := by omega
        have hnx := Lib.run_next_end_at (P := Tryd.prog) wr q s k 0 HIT.out hlt
        have hlb : ∀ d ∈ bdigs s, d < 10 := bdigs_lt fun j hj => HALL.out j hj (by omega)
        have hzl : ∀ z ∈ zs, z < 1000000000 := by
          rw [HZS.out]
          refine chunks_lt _ (placed_lt _ _ fun j hj => ?_) _
          have hj' : j < (bdigs s).length := by rw [bdigs_length]; omega
          rw [List.getD, List.getElem?_eq_getElem hj']
          exact hlb _ (List.getElem_mem hj')
        have hzv : val 1000000000 zs = dval (bdigs s) := by
          rw [HZS.out, chunks_val N _ (by rw [placed_length _ _ (by rw [bdigs_length]; omega), bdigs_length]; have := HN.out; omega)]
          rw [show k = (bdigs s).length by rw [bdigs_length]; omega, placed_all]
          rfl
        have CT := trim_own g N zs _ w wr HO.out (by omega) HB.out Hg.out hzl hzv
        have HCT := Lib.hid CT
        have HKS := Lib.hid hks
        clear CT hzl hzv hlb hks
        go_wp2_with (go_at_call 47; refine HCT.out.mono ?_; rintro e w' ⟨A', m, c', rfl, ho, hb⟩; have HO2 := Lib.hid ho; have HB2 := Lib.hid hb; clear ho hb HCT)
        go_ret2
        exact ⟨by rw [Hg.out]; exact HB2.out, .inl ⟨hpos, fun j hj => HALL.out j hj (by have := HKS.out; omega), _, _, _, rfl, by rw [Hg.out]; exact HO2.out⟩⟩
theorem tenNumber_ok (s : ByteArray) (ds : List Nat) (w : World) (h : IsD s ds) (hs : s.size ≤ 1000000000) (h0 : 0 < s.size) (hP : Pw w) :
    Calls Tryd.prog 46 #[.string s] w fun e w' => ∃ A m c, e = .returned (.tuple #[.slice A m c, .bool true]) ∧ OwnS w' w.heap.size A m c (digs 1000000000 (dval ds)) ∧ Below w.heap.size w w' := by
  refine (tenNumber_c s w hs hP).mono ?_
  rintro e w' ⟨hb, ⟨_, _, A, m, c, rfl, ho⟩ | ⟨hz | ⟨j, hj, hf⟩, _⟩⟩
  · rw [bdigs_of h] at ho
    exact ⟨A, m, c, rfl, ho, hb⟩
  · omega
  · have h1 := h.at_ hj
    have hjd : j < ds.length := by rw [← h.size]; exact hj
    have h2 : ds.getD j 0 < 10 := by rw [List.getD, List.getElem?_eq_getElem hjd]; exact h.2 _ (List.getElem_mem hjd)
    have h3 := digB_false hf
    omega
end Go.Proofs.YtekanlcfgfllcaaDoor
/- Ten5 -/
namespace Go.Proofs.YtekanlcfgfllcaaDoor
open Go.RowKit
theorem le_div9 {k : Nat} : k / 9 * 9 ≤ k := Nat.div_mul_le_self k 9
set_option maxHeartbeats 2000000 in
set_option maxRecDepth 100000 in
theorem tenShift_c (A : Option Addr) (n c : Nat) (xs : List Nat) (z : Int) (k : Nat) (w : World) (h : Limbs w A n xs) (gx : ∀ x ∈ xs, x < 1000000000) (hn : n ≤ 100000000) (hz : max z 0 = (k : Int)) (hk : k ≤ 65536) (hP : Pw w) :
    Calls Tryd.prog 20 #[.slice A n c, .int .i64 z] w fun e w' => ∃ A' m c', e = .returned (.slice A' m c') ∧ OwnS w' w.heap.size A' m c' (digs 1000000000 (val 1000000000 xs * 10 ^ k)) ∧ Below w.heap.size w w' := by
  obtain ⟨i0, hi, hz0, hz1, hz2⟩ := info_parts u32_info
  obtain ⟨b, hb⟩ : ∃ b : Nat, b = k % 9 := ⟨_, rfl⟩
  obtain ⟨a, ha⟩ : ∃ a : Nat, a = k / 9 := ⟨_, rfl⟩
  have hpw := hP b (by omega)
  have hpw9 := pow_lt9 b (by omega)
  have CS0 := small_c A n c xs (10 ^ b) 0 w h gx (by omega) hpw9 (by omega)
  have hlen := digs_len_mono (u := val 1000000000 xs * 10 ^ b + 0) (v := 1000000000 ^ (n + 1) - 1) (by
    have h1 := val_lt 1000000000 xs gx
    rw [h.len] at h1
    have h2 : val 1000000000 xs * 10 ^ b ≤ val 1000000000 xs * 1000000000 := Nat.mul_le_mul_left _ (by omega)
    have h3 : 1000000000 ^ (n + 1) = 1000000000 ^ n * 1000000000 := Nat.pow_succ ..
    omega)
  have hlen2 := digs_len9' (v := 1000000000 ^ (n + 1) - 1) (k := n + 1) (by have := Nat.pow_pos (n := n + 1) (show 0 < 1000000000 by omega); omega)
  have hsv := shift_val (val 1000000000 xs) k
  rw [← ha, ← hb] at hsv
  have HSV := Lib.hid hsv
  have HLEN := Lib.hid (Nat.le_trans hlen hlen2)
  generalize hPW : 10 ^ b = PW at *
  have CS : Calls Tryd.prog 25 #[.slice A n c, .int .u32 (PW : Int), .int .u32 0] w _ := CS0
  have HCS := Lib.hid CS
  have hbI : (k : Int) % 9 = (b : Int) := by omega
  have hb9 : (b : Int) < 9 := by omega
  have haI : (k : Int) / 9 = (a : Int) := by omega
  have ha1 : a ≤ 7282 := by omega
  clear hsv hlen hlen2 hPW CS0 CS ha hb h gx
  go_enter Tryd.func20, Tryd.ntmps20
  go_wp2_with fail
  refine HCS.out.mono ?_
  rintro e w1 ⟨A1, m1, c1, rfl, ho1, hb1⟩
  have HO1 := Lib.hid ho1
  have HB1 := Lib.hid hb1
  have hm1 : m1 ≤ n + 1 := by rw [← ho1.len]; exact HLEN.out
  clear ho1 hb1 HCS
  go_wp2_with (at_make; refine wpList_make_full _ rfl _ _ 39 rfl w1.heap.size 49 i0 (.int .u32 0) 1 Tryd.underlying39 hi hz0 hz1 _ _ _ _ a rfl rfl ?b0 ?b1 ?b2 ?b3 (Nat.le_refl _) ?_)
  case b0 => omega
  case b1 => omega
  case b2 => rw [hz2]; omega
  case b3 => unfold maxLen; omega
  intro w2 hown hgrow
  rw [made_u32] at hown
  have hb2 : Below w1.heap.size w1 w2 := (Below.refl _ _).grown hgrow (Nat.le_refl _) (fun k hk => by cases hk)
  have HR := Lib.hid (HO1.out.limbs.below hb2)
  have HB2 := Lib.hid hb2
  have HOW := Lib.hid hown
  have hsz := hb2.size
  clear hown hgrow hb2
  go_wp2_with (at_builtin; go_must (refine wpList_app_limbs rfl (.tmp 18) (.tmp 19) _ rfl Tryd.underlying39 w1.heap.size _ a _ rfl HOW.out _ m1 c1 _ rfl HR.out (by omega) HB2.out hsz ?_))
  intro v' w3 ho3 hb3
  obtain ⟨A3, c3, rfl⟩ := own_form ho3.out
  have hg9 := digs_lt 1000000000 (by omega) (val 1000000000 xs * PW + 0)
  have hall : ∀ x ∈ List.replicate a 0 ++ digs 1000000000 (val 1000000000 xs * PW + 0), x < 1000000000 := fun x hx => by
    rcases List.mem_append.1 hx with hx | hx
    · rw [List.eq_of_mem_replicate hx]; omega
    · exact hg9 x hx
  have CT := trim_c A3 (a + m1) c3 _ w3 (show Limbs w3 A3 (a + m1) (List.replicate a 0 ++ digs 1000000000 (val 1000000000 xs * PW + 0)) from ⟨Reads.of_own ho3.out, by omega, fun x hx => by have := hall x hx; omega⟩) (by omega)
  rw [trim_eq_digs 1000000000 (by omega) _ hall, HSV.out] at CT
  have HCT := Lib.hid CT
  clear CT hall hg9
  go_wp2_with fail
  refine HCT.out.mono ?_
  rintro e w4 ⟨A4, m4, c4, rfl, ho4, hb4⟩
  have HO4 := Lib.hid ho4
  have hsz3 : w.heap.size ≤ w3.heap.size := Nat.le_trans HB1.out.size (Nat.le_trans (by simp) hb3.out.size)
  have HB4 := Lib.hid ((HB1.out.trans (hb3.out.mono HB1.out.size)).trans (hb4.mono hsz3))
  clear ho4 hb4 HCT
  go_wp2
  go_ret
  exact ⟨_, _, _, rfl, HO4.out.weaken hsz3, HB4.out⟩
end Go.Proofs.YtekanlcfgfllcaaDoor
/- Ten6 -/
namespace Go.Proofs.YtekanlcfgfllcaaDoor
open Go.RowKit
theorem OwnS.cap {w : World} {base m c : Nat} {A : Option Addr} {ys : List Nat} (h : OwnS w base A m c ys) : m ≤ c := by
  rcases Nat.eq_zero_or_pos m with h0 | h0
  · omega
  · obtain ⟨g, cap, e, _, _, h1, _⟩ := own_pos h.1 h0
    simp only [Value.slice.injEq] at e
    omega
set_option maxHeartbeats 2000000 in
set_option maxRecDepth 100000 in
theorem tenCut_c (A : Option Addr) (n c : Nat) (xs : List Nat) (z : Int) (k : Nat) (w : World) (h : Limbs w A n xs) (gx : ∀ x ∈ xs, x < 1000000000) (hn : n ≤ 100000000) (hc : n ≤ c) (hz : max z 0 = (k : Int)) (hk : k ≤ 65536) (hP : Pw w) :
    Calls Tryd.prog 63 #[.slice A n c, .int .i64 z] w fun e w' => ∃ A1 m1 c1 A2 m2 c2, e = .returned (.tuple #[.slice A1 m1 c1, .slice A2 m2 c2]) ∧
      OwnS w' w.heap.size A1 m1 c1 (digs 1000000000 (val 1000000000 xs / 10 ^ k)) ∧ OwnS w' w.heap.size A2 m2 c2 (digs 1000000000 (val 1000000000 xs % 10 ^ k)) ∧ Below w.heap.size w w' := by
  obtain ⟨i0, hi, hz0, hz1, hz2⟩ := info_parts u32_info
  obtain ⟨b, hb⟩ : ∃ b : Nat, b = k % 9 := ⟨_, rfl⟩
  obtain ⟨a, ha⟩ : ∃ a : Nat, a = k / 9 := ⟨_, rfl⟩
  have hl := h.len
  have haI : (k : Int) / 9 = (a : Int) := by omega
  by_cases hbig : n ≤ a
  · have hlt := cut_big gx k (by omega)
    have CT := trim_c A n c xs w h (by omega)
    rw [trim_eq_digs 1000000000 (by omega) _ gx] at CT
    have HCT := Lib.hid CT
    have HLT := Lib.hid hlt
    clear CT hlt h gx hl ha hb
    go_enter Tryd.func63, Tryd.ntmps63
    go_wp2_with fail
    refine HCT.out.mono ?_
    rintro e w1 ⟨A1, m1, c1, rfl, ho1, hb1⟩
    have HO1 := Lib.hid ho1
    have HB1 := Lib.hid hb1
    clear ho1 hb1 HCT
    go_wp2
    go_ret2
    refine ⟨_, _, _, _, _, _, rfl, ?_, ?_, HB1.out⟩
    · rw [Nat.div_eq_of_lt HLT.out, digs_zero]; exact ownS_nil _ _
    · rw [Nat.mod_eq_of_lt HLT.out]; exact HO1.out
  · have hpw := hP b (by omega)
    have hG := hP.blk
    have hpw9 := pow_lt9 b (by omega)
    have hpp := pow_pos10 b
    have hcr := cut_r gx k (by omega)
    have hcq := cut_q (val 1000000000 xs) k
    rw [← val_drop gx] at hcq
    rw [← ha, ← hb] at hcr hcq
    obtain ⟨ad, rfl, hab, _⟩ := h.at_ (k := 0) (by omega)
    have hcut := Reads.cut h.1 (k := a) (cap := c) (by omega) hc
    rw [if_neg (by omega), Nat.mul_one, Option.map_some] at hcut
    have hcutL : Limbs w (some (ad.add a)) (n - a) (xs.drop a) := ⟨by simpa [u32s] using hcut, by omega, fun x hx => by have := gx x (List.mem_of_mem_drop hx); omega⟩
    generalize hPW : 10 ^ b = PW at *
    have CS := divSmall_c (some (ad.add a)) (n - a) (c - a) (xs.drop a) PW w.drew hcutL (fun x hx => gx x (List.mem_of_mem_drop hx)) (by omega) hpp hpw9
    have hmod := Nat.mod_lt (val 1000000000 (xs.drop a)) hpp
    rw [hcq] at CS
    generalize val 1000000000 (xs.drop a) % PW = R at *
    have HCS := Lib.hid CS
    have HCR := Lib.hid hcr
    have H := Lib.hid h
    have GX := Lib.hid gx
    have HL := Lib.hid hl
    have hbI : (k : Int) % 9 = (b : Int) := by omega
    have hb9 : (b : Int) < 9 := by omega
    have han : a < n := by omega
    have hac : a ≤ c := by omega
    have hanI : (a : Int) ≤ (n : Int) := by omega
    have hncI : (n : Int) ≤ (c : Int) := by omega
    have hacI : (a : Int) ≤ (c : Int) := by omega
    have hane : ¬ c = a := by omega
    clear CS hcr h gx hl hcq hcut hcutL ha hb hPW hbig
    go_enter Tryd.func63, Tryd.ntmps63
    go_wp2
    have hpwd : w.drew.cell? ⟨0, b, none⟩ = some (.int .u32 (PW : Int)) := hpw
    have q1 : IntKind.i64.wrap ((k : Int) % 9) = (b : Int) := by rw [hbI]; exact IntWalk.i64_in _ (by omega)
    have q2 : (k : Int).tmod 9 = (b : Int) := by rw [← hbI]; rfl
    go_region_held3 (fun w' => w'.cell? ⟨0, b, none⟩ = some (.int .u32 (PW : Int))) (go_keep)
      ((go_at_call 49; refine HCS.out.mono ?_; rintro e w1 ⟨A1, m1, c1, rfl, ho1, hb1⟩; have hpw1 : w1.cell? ⟨0, b, none⟩ = some (.int .u32 (PW : Int)) := (hb1.cell (p := ⟨0, b, none⟩) hG).trans hpw; have HO1 := Lib.hid ho1; have HB1 := Lib.hid hb1; clear ho1 hb1))
    rename_i hHeld
    clear hHeld q1 q2 hpw1 hpwd hpw
    have hsz1 : w.heap.size ≤ w1.heap.size := HB1.out.size
    have HA1 := Lib.hid (show (a : Int) + 1 = ((a + 1 : Nat) : Int) by omega)
    go_wp2_with (at_make; refine wpList_make_full _ rfl _ _ 39 rfl w1.heap.size 49 i0 (.int .u32 0) 1 Tryd.underlying39 hi hz0 hz1 _ _ _ _ (a + 1) rfl rfl ?b0 ?b1 ?b2 ?b3 (Nat.le_refl _) ?_)
    case b0 => have := HA1.out; omega
    case b1 => have := HA1.out; omega
    case b2 => rw [hz2]; omega
    case b3 => unfold maxLen; omega
    intro w2 hown hgrow
    rw [made_u32] at hown
    have hb2 : Below w1.heap.size w1 w2 := (Below.refl _ _).grown hgrow (Nat.le_refl _) (fun k hk => by cases hk)
    have HBW := Lib.hid ((Below.refl w.heap.size w).drew.trans HB1.out)
    have H1 := Lib.hid ((H.out.below HBW.out).below hb2)
    have HQ := Lib.hid (HO1.out.keep hb2 rfl)
    have HB := Lib.hid (own_blk hown)
    have hlt2 : w1.heap.size < w2.heap.size := (Array.getElem?_eq_some_iff.1 (own_blk hown).1).1
    clear hown hgrow
    go_wp2_with (refine wpList_copy_splice rfl (.tmp 34) (.tmp 37) _ _ rfl 49 Tryd.underlying39 (by rw [hi]; simp [hz1]) _ (some ad) _ (a + 1) a c rfl rfl w1.heap.size 0 (u32s (List.replicate (a + 1) 0)) 49 HB.out.1 (u32s (xs.take a)) ?c1 ?c2 ?c3 (u32_one _) w1.heap.size w1 hb2 (Nat.le_refl _) ?_)
    case c1 => simp only [u32s_length, List.length_take, HL.out, Nat.min_def]; split <;> split <;> omega
    case c2 =>
      intro hp
      obtain ⟨ad', e1, hb, hcell⟩ := H1.out.1.2 (by omega)
      obtain rfl : ad = ad' := by simpa using e1
      intro j v hv
      refine hcell j v ?_
      rw [u32s_get] at hv ⊢
      rw [List.getElem?_take] at hv
      split at hv
      · exact hv
      · simp at hv
    case c3 => simp [u32s_length, HL.out]; omega
    intro w3 hh hb3
    have esp : splice (u32s (List.replicate (a + 1) 0)) 0 (u32s (xs.take a)) = u32s (xs.take a ++ [0]) := by
      have hla : (u32s (xs.take a)).length = a := by simp [u32s_length, HL.out]; omega
      rw [u32s_append]
      simp only [splice, List.take_zero, List.nil_append, Nat.zero_add, hla]
      congr 1
      simp [u32s]
    rw [esp] at hh
    have hO3 : w3.ownsRow w1.heap.size 49 1 (.slice (some ⟨w1.heap.size, 0, none⟩) (a + 1) (a + 1)) (a + 1) (u32s (xs.take a ++ [0])) :=
      own_of_blk hh.out (Nat.le_refl _) (by simp [u32s_length, HL.out]; omega) (by unfold maxLen; omega)
    have hc0 := own_at hO3 (j := a) (by omega)
    have hf0 := hO3.frozenAt a
    have hcv : w3.cell? ⟨w1.heap.size, a, none⟩ = some (.int .u32 (((xs.take a ++ [0]).getD a 0 : Nat) : Int)) := hc0
    generalize (xs.take a ++ [0]).getD a 0 = U at *
    have HO3 := Lib.hid hO3
    have HB3 := Lib.hid hb3
    clear hh hO3 hc0 HB H1 HCS hbI haI hane hncI hacI hanI esp hb2
    generalize hg1 : w1.heap.size = g1 at *
    have Hg1 := Lib.hid hg1
    clear hg1
    have hOS := (HO3.out.stored a (.int .u32 (R : Int))).1
    have hset : (xs.take a ++ [0]).set a R = xs.take a ++ [R] := by
      rw [List.set_append_right _ _ (by rw [List.length_take]; omega), List.length_take, HL.out, Nat.min_eq_left (by omega), Nat.sub_self]
      rfl
    rw [← u32s_set, hset] at hOS
    have hBS := HB3.out.setCell (p := ⟨g1, a, none⟩) (Nat.le_refl _) (.int .u32 (R : Int))
    have hall : ∀ x ∈ xs.take a ++ [R], x < 1000000000 := fun x hx => by
      rcases List.mem_append.1 hx with hx | hx
      · exact GX.out x (List.mem_of_mem_take hx)
      · rw [List.mem_singleton.1 hx]; omega
    have CT := trim_own g1 (a + 1) _ _ w1 _ hOS (by omega) hBS Hg1.out hall HCR.out
    have HCT := Lib.hid CT
    clear CT hall hset hOS hBS hb3
    go_wp2_with (go_at_call 47; refine HCT.out.mono ?_; rintro e w5 ⟨A5, m5, c5, rfl, ho5, hb5⟩; have HO5 := Lib.hid ho5; have HB5 := Lib.hid hb5; clear ho5 hb5 HCT)
    go_ret2
    refine ⟨_, _, _, _, _, _, rfl, HO1.out.keep HB5.out Hg1.out.symm, HO5.out.weaken hsz1, HBW.out.trans (HB5.out.mono hsz1)⟩
end Go.Proofs.YtekanlcfgfllcaaDoor
/- Ten7 -/
namespace Go.Proofs.YtekanlcfgfllcaaDoor
open Go.RowKit Go.Shelf
attribute [local go_sem] Oper.semAt_some
/-- What a round keeps: what lay below g, and each row of limbs. -/
def KeptR (g : Nat) (W W' : World) : Prop := Below g W W' ∧ ∀ (k : Nat) cs fz, W.heap[k]? = some (Obj.cells cs 49 fz) → W'.heap[k]? = some (Obj.cells cs 49 fz)
theorem KeptR.refl (g : Nat) (W : World) : KeptR g W W := ⟨Below.refl _ _, fun _ _ _ h => h⟩
theorem KeptR.trans {g : Nat} {A B C : World} (h : KeptR g A B) (k : KeptR g B C) : KeptR g A C := ⟨h.1.trans k.1, fun j cs fz hj => k.2 j cs fz (h.2 j cs fz hj)⟩
theorem keptR_b {g : Nat} {w : World} (hn : g ≤ w.heap.size) (W : World) (l : Nat) (o o' : Obj) (hl : w.heap.size ≤ l) (h : W.heap[l]? = some o) (h1 : o.isCells = false) (h2 : o.isWalk = false) : KeptR g W (W.putObj l o') :=
  ⟨belowK_b hn W l o o' hl h h1 h2, fun k cs fz hk => (World.putObj_heap_other (fun e => by subst e; rw [h] at hk; cases hk; cases h1)).trans hk⟩
theorem own_keptR {g base n : Nat} {W W' : World} {v : Value} {xs : List Value} (h : W.ownsRow base 49 1 v n xs) (hk : KeptR g W W') : W'.ownsRow base 49 1 v n xs := by
  refine ⟨h.1, ?_⟩
  rcases h.2 with h' | ⟨gb, cap, cur, h1, h2, h3, h4⟩
  · exact .inl h'
  · exact .inr ⟨gb, cap, cur, h1, h2, hk.2 _ _ _ h3, h4⟩
theorem grown_of_below {W W' : World} {B : Nat} (h : Below B W W') (hB : B = W.heap.size) : W.grownBy W' none := by
  subst hB
  exact ⟨h.os, h.tape, h.output, h.size, fun k hk _ => h.block k hk⟩
set_option maxRecDepth 100000 in
set_option maxHeartbeats 2000000 in
/-- fromEnd's closure. -/
theorem end1_c (m : Nat) (l Bs g : Nat) (A : Option Addr) (n c : Nat) (xs : List Nat) (hn : n ≤ 1000000000)
    (J Jx : List (Pl (tz xs)) → World → Prop) (W : World) (hJ : AbidesFrom W.heap.size J)
    (hY : ∀ pre x W, J pre W → pre.length < tz xs → YieldAt Fence.wide (m - 1) Tryd.prog l #[.int .u32 (((trim xs).getD x.1 0 : Nat) : Int)] W fun e W' =>
      (e = .returned (.bool true) ∧ J (pre ++ [x]) W' ∧ KeptR g W W') ∨ (e = .returned (.bool false) ∧ Jx (pre ++ [x]) W'))
    (hBs : Boxed W Bs 39 (.slice A n c)) (hR : Limbs W A n xs) (h0 : J [] W) :
    CallsIn Fence.wide m Tryd.prog 82 #[.func (.yield l) #[] #[], .pointer (some ⟨Bs, 0, none⟩)] W fun e W' => (∃ v, e = .returned v) ∧
      ((∃ ys, ys.map (·.1) = downTo (tz xs) (tz xs) ∧ J ys W') ∨ (∃ pre, True ∧ Jx pre W')) := by
  have CT := trim_c A n c xs W hR hn
  have hbs0 := hBs.cell
  have hT : tz xs ≤ 1000000000 := by
    have := tz_le xs
    rw [hR.len] at this
    omega
  have HCT := Lib.hid CT
  have HJ := Lib.hid hJ
  have H0 := Lib.hid h0
  clear hR hBs CT hJ h0
  refine callsIn_of_wp Tryd.func82 rfl trivial ?_ rfl
  simp only [Tryd.ntmps82, List.size_toArray, List.length_cons, List.length_nil, Nat.reduceAdd, Nat.reduceSub, Array.replicate_succ, Array.replicate_zero, List.push_toArray, List.append_toArray, List.nil_append, List.cons_append]
  gi_wp2
  refine ⟨trivial, fun h => (by cases h), (callsIn_wide.2 HCT.out).mono ?_⟩
  rintro e W1 ⟨A1, m1, c1, rfl, ho1, hb1⟩
  obtain rfl : m1 = tz xs := by rw [← ho1.len, trim_length]
  have HO1 := Lib.hid ho1
  have HB1 := Lib.hid hb1
  have HJ1 := Lib.hid (HJ.out [] W W1 none H0.out (grown_of_below hb1 rfl) (fun r e => by cases e))
  clear ho1 hb1 HCT hbs0
  generalize hys : trim xs = ys at *
  have HYS := Lib.hid hys
  clear hys
  generalize tz xs = T at *
  gi_wp2
  gi_loopw [4] (fun i wr => ∃ (z : Int) (k : Nat) (pre : List (Pl T)), k ≤ T ∧ z = (T : Int) - 1 - (k : Int) ∧ i = .int .i64 z ∧ pre.map (·.1) = downTo T k ∧ J pre wr ∧ KeptR g W1 wr)
    (fun i _ => (intOf i + 1).toNat)
  case atStart => exact ⟨_, 0, [], Nat.zero_le _, by omega, rfl, rfl, HJ1.out, KeptR.refl _ _⟩
  case round =>
    obtain ⟨z, k, pre, hk, hz, rfl, hpre0, hJs, hnx0⟩ := hrel
    have HP := Lib.hid hpre0
    have HB := Lib.hid hnx0
    clear hpre0 hnx0
    by_cases hlt : k < T
    · obtain ⟨i, hi⟩ : ∃ i : Nat, i = T - 1 - k := ⟨_, rfl⟩
      obtain rfl : z = (i : Int) := by omega
      have hin : i < T := by omega
      have HI := Lib.hid hi
      clear hz hi
      have hlen : pre.length < T := by
        have := congrArg List.length HP.out
        simp [downTo] at this
        omega
      have hbnd : ys.getD i 0 < 4294967296 := by
        have hi' : i < ys.length := by rw [HO1.out.len]; exact hin
        rw [List.getD, List.getElem?_eq_getElem hi']
        exact HO1.out.2.2 _ (List.getElem_mem hi')
      obtain ⟨ad, rfl, hb, hc⟩ := reads_at (Reads.of_own (own_keptR HO1.out.1 HB.out)) hin
      obtain ⟨fn, tmps, assign, body, hy, hRo⟩ := hY pre ⟨i, hin⟩ wr hJs hlen
      dsimp only at hy
      generalize ys.getD i 0 = X at *
      gi_wp2
      refine ⟨fun h => (by cases h), hRo.mono ?_⟩
      rintro e W3 (⟨rfl, hJ3, hk3⟩ | ⟨rfl, hJx3⟩)
      · have HB3 := Lib.hid (HB.out.trans hk3)
        clear hk3
        gi_wp2
        go_roundw
        case rel => exact ⟨_, k + 1, pre ++ [⟨i, hin⟩], by omega, by have := HI.out; omega, rfl, by rw [downTo_succ, List.map_append, HP.out, ← HI.out]; rfl, hJ3, HB3.out⟩
        case measure => simp [intOf]
      · gi_wp2
        refine bodyPost_ret (results_none rfl _ _ _) rfl ?_
        exact ⟨⟨_, rfl⟩, .inr ⟨_, trivial, hJx3⟩⟩
    · obtain rfl : k = T := by omega
      obtain rfl : z = -1 := by omega
      clear hz
      gi_wp2
      go_end0
      exact ⟨⟨_, rfl⟩, .inl ⟨_, HP.out, hJs⟩⟩
/-- fromEnd(a) hands back a value that goes through all limbs from above. -/
theorem end_stops (m : Nat) (Bs g : Nat) (A : Option Addr) (n c : Nat) (xs : List Nat) (hn : n ≤ 1000000000) (w : World) (hBs : Boxed w Bs 39 (.slice A n c)) (hR : Limbs w A n xs) :
    SeqStopsK Fence.wide m Tryd.prog 82 #[.pointer (some ⟨Bs, 0, none⟩)] (fun x : Pl (tz xs) => #[Value.int .u32 (((trim xs).getD x.1 0 : Nat) : Int)]) (KeptR g)
      (fun ys => ys.map (·.1) = downTo (tz xs) (tz xs)) (fun _ => True) (tz xs) w := fun l J Jx W hW hJ _ hY h0 =>
  end1_c m l Bs g A n c xs hn J Jx W hJ hY ((hW.block Bs hBs.lt).trans hBs) (hR.below hW) h0
set_option maxHeartbeats 1000000 in
theorem fromEnd_c (A : Option Addr) (n c : Nat) (w : World) :
    Calls Tryd.prog 58 #[.slice A n c] w fun e w' => e = .returned (.func (.func 82) #[] #[.pointer (some ⟨w.heap.size, 0, none⟩)]) ∧ w.alloc (.cells #[.slice A n c] 39) = w' := by
  go_enter Tryd.func58, Tryd.ntmps58
  go_wp2
  go_ret
  exact ⟨rfl, rfl⟩
end Go.Proofs.YtekanlcfgfllcaaDoor
/- Ten8 -/
namespace Go.Proofs.YtekanlcfgfllcaaDoor
open Go.RowKit Go.Shelf
attribute [local go_sem] Oper.semAt_some
theorem keptR_box {g B : Nat} {W : World} {t : TypeId} {v : Value} (h : Boxed W B t v) (ht : t ≠ 49) (hg : g ≤ B) (u : Value) : KeptR g W (W.setCell ⟨B, 0, none⟩ u) :=
  ⟨(Below.refl g W).setCell (p := ⟨B, 0, none⟩) hg u, fun k cs fz hk => (Below.heap_setCell _ _ _ k (fun e => by
    subst e
    rw [show W.heap[k]? = _ from h] at hk
    simp only [Option.some.injEq, Obj.cells.injEq] at hk
    exact ht hk.2.1)).trans hk⟩
end Go.Proofs.YtekanlcfgfllcaaDoor
/- Ten9 -/
namespace Go.Proofs.YtekanlcfgfllcaaDoor
open Go.RowKit Go.Shelf
attribute [local go_sem] Oper.semAt_some
/-- 'out = append(out, ..)', out in a box, in a row that holds no limbs: rows of limbs stay. -/
theorem keptR_appended {W w1 : World} {n₀ B : Nat} {t e : TypeId} {v v' : Value} {k m : Nat} {xs ys : List Value} {tmp : Obj}
    (hv : Boxed W B t v) (ht : t ≠ 49) (he : e ≠ 49) (hrow : W.ownsRow n₀ e 1 v k xs) (hn₀ : n₀ ≤ W.heap.size) (hB : n₀ ≤ B)
    (_hown' : w1.ownsRow n₀ e 1 v' m ys) (hgrow : (W.alloc tmp).grownBy w1 v.ownBlock) : KeptR n₀ W (w1.setCell ⟨B, 0, none⟩ v') := by
  refine ⟨?_, fun j cs fz hj => ?_⟩
  · refine (((Below.refl n₀ W).alloc hn₀ tmp).grown hgrow (by simp; omega) fun j ej => (hrow.lt j ej).1).setCell (p := ⟨B, 0, none⟩) hB v'
  · have hlt := (Array.getElem?_eq_some_iff.1 hj).1
    refine (Below.heap_setCell _ _ _ j (fun e' => ?_)).trans ((hgrow.block j (by simp; omega) (fun e' => ?_)).trans ((Below.heap_alloc W tmp j hlt).trans hj))
    · subst e'
      rw [show W.heap[j]? = _ from hv] at hj
      simp only [Option.some.injEq, Obj.cells.injEq] at hj
      exact ht hj.2.1
    · rcases hrow.2 with ⟨rfl, _⟩ | ⟨gb, cap, cur, rfl, _, hgb, _⟩
      · simp [Value.ownBlock] at e'
      · obtain rfl : gb = j := by simpa [Value.ownBlock] using e'.symm
        rw [hgb] at hj
        simp only [Option.some.injEq, Obj.cells.injEq] at hj
        exact he hj.2.1
set_option maxHeartbeats 2000000 in
set_option maxRecDepth 100000 in
theorem tenDigits_c (A : Option Addr) (n c : Nat) (xs : List Nat) (w : World) (h : Limbs w A n xs) (gx : ∀ x ∈ xs, x < 1000000000) (hn : n ≤ 100000000) (hP : Pw w) :
    Calls Tryd.prog 29 #[.slice A n c] w fun e w' => ∃ s', e = .returned (.string s') ∧ IsD s' (orZero (decs (val 1000000000 xs))) ∧ Below w.heap.size w w' := by
  obtain ⟨i0, hi, hz0, hz1, hz2⟩ := info_parts u8_info
  have H := Lib.hid h
  have GX := Lib.hid gx
  have HPW := Lib.hid hP
  clear h gx hP
  refine callsIn_wide.1 (callsIn_of_wp_marks (n := 6) Tryd.func29 rfl trivial ?_ rfl)
  refine wpIn_wide.2 ?_
  simp only [Tryd.ntmps29, List.size_toArray, List.length_cons, List.length_nil, Nat.reduceAdd, Nat.reduceSub, Array.replicate_succ, Array.replicate_zero, List.push_toArray, List.append_toArray, List.nil_append, List.cons_append]
  go_wp2_with (at_make; refine wpList_make_own _ rfl _ _ 79 rfl w.heap.size 5 i0 (.int .u8 0) 1 Tryd.underlying79 hi hz0 hz1 _ _ _ (9 * n) rfl rfl ?b1 ?b2 ?b3 (Nat.le_refl _) ?_)
  case b1 => omega
  case b2 => rw [hz2]; omega
  case b3 => unfold maxLen; omega
  intro w1 hown hgrow
  have hb1 : Below w.heap.size w w1 := (Below.refl _ _).grown hgrow (Nat.le_refl _) (fun k hk => by cases hk)
  have hgs : w.heap.size < w1.heap.size := (hown.lt (w.heap.size) rfl).2
  have HO := Lib.hid hown
  have HB1 := Lib.hid hb1
  clear hown hb1 hgrow
  go_wp2_with (go_at_call 58; refine (fromEnd_c _ _ _ _).mono ?_; rintro e w' ⟨rfl, rfl⟩)
  obtain ⟨g, hg⟩ : ∃ g : Nat, w.heap.size = g := ⟨_, rfl⟩
  obtain ⟨q, hq⟩ : ∃ q : Nat, w1.heap.size = q := ⟨_, rfl⟩
  rw [hg] at hgs HO HB1
  rw [hq] at hgs
  obtain ⟨W1, hW1⟩ : ∃ W1 : World, w1.alloc (.cells #[.slice (some ⟨g, 0, none⟩) 0 (9 * n)] 79) = W1 := ⟨_, rfl⟩
  obtain ⟨W2, hW2⟩ : ∃ W2 : World, W1.alloc (.cells #[.slice A n c] 39) = W2 := ⟨_, rfl⟩
  have s1 : W1.heap.size = q + 1 := by rw [← hW1, World.size_alloc, hq]
  have s2 : W2.heap.size = q + 2 := by rw [← hW2, World.size_alloc, s1]
  have bN : Boxed W2 q 79 (.slice (some ⟨g, 0, none⟩) 0 (9 * n)) := by
    rw [← hW2]
    refine Boxed.alloc ?_ _
    rw [← hW1, ← hq]
    exact Boxed.new _ _ _
  have bS : Boxed W2 (q + 1) 39 (.slice A n c) := by rw [← hW2, ← s1]; exact Boxed.new _ _ _
  have hO2 : W2.ownsRow g 5 1 (.slice (some ⟨g, 0, none⟩) 0 (9 * n)) 0 [] := by rw [← hW2, ← hW1]; exact (HO.out.alloc _).alloc _
  have hB2 : Below g w W2 := by
    rw [← hW2, ← hW1]
    exact (HB1.out.alloc (by omega) _).alloc (by simp; omega) _
  have hL2 : Limbs W2 A n xs := H.out.below (by rw [hg]; exact hB2)
  have hG : 0 < g := by rw [← hg]; exact HPW.out.blk
  have hys : ∀ x ∈ trim xs, x < 1000000000 := fun x hx => GX.out x (List.mem_of_mem_take hx)
  have hyl := trim_length xs
  have hyv := val_trim 1000000000 xs
  have htz : tz xs ≤ 100000000 := by have := tz_le xs; rw [H.out.len] at this; omega
  have hst := end_stops 5 (q + 1) g A n c xs (by omega) W2 bS hL2
  generalize trim xs = ys at *
  generalize tz xs = T at *
  rw [hq, hg, hW1, hW2]
  clear hW1 hW2
  refine (wpIn_wide (n := 6)).1 ?_
  refine wpIn_rangeFunc_ownG (n := 6) rfl (by omega) (gf := 82) (lb := #[.pointer (some ⟨q + 1, 0, none⟩)]) rfl trivial (enters_of Tryd.func82 (by kernel_rfl) rfl)
    hst KeptR.trans (keptR_b (by omega)) (Below.refl _ _) (fun _ => rfl)
    (fun pre W => (∃ v, Boxed W q 79 v ∧ W.ownsRow g 5 1 v (9 * pre.length) (u8s (asc (limbDs ys (pre.map (·.1))))) ∧ True) ∧ Below g w W)
    (fun _ _ _ => False)
    (OwnFrom.and (Own.from (holdsRow_own g q 79 5 1 (fun pre : List (Pl T) => 9 * pre.length) (fun pre => u8s (asc (limbDs ys (pre.map (·.1))))) (fun _ _ => True)) _) (ownFrom_below (by omega) (by omega)))
    (fun _ _ _ _ _ hs _ _ => hs)
    ⟨⟨_, bN, hO2, trivial⟩, hB2⟩
    (fun x => { tmps := #[.slice A n c, undef, .string { data := #[] }, .pointer (some ⟨q, 0, none⟩), .int .u32 ((ys.getD x.1 0 : Nat) : Int), undef, undef, .slice A n c, .int .i64 (n : Int), .int .i64 (9 * (n : Int)),
      .slice (some ⟨g, 0, none⟩) 0 (9 * n), .slice A n c, .func (.func 82) #[] #[.pointer (some ⟨q + 1, 0, none⟩)], .int .u32 ((ys.getD x.1 0 : Nat) : Int), undef,
      undef, undef, undef, undef, undef, undef, undef, undef, undef, undef, undef, undef, undef, undef, undef, undef, undef, undef, undef, undef, undef], defers := [] }) ?assign ?body ?done ?stop
  case assign =>
    intro l x W K hK
    gi_wp2
    simpa using hK
  case body =>
    rintro l pre ⟨i, hin⟩ W ⟨⟨v0, b1, ho, -⟩, hb⟩ hpl
    dsimp only
    have hx := getD_lt 1000000000 (by omega) ys hys i
    have hsn := limbDs_snoc ys (pre.map (·.1)) i
    rw [show [i] = [(⟨i, hin⟩ : Pl T)].map (·.1) from rfl, ← List.map_append] at hsn
    have hplT : pre.length ≤ 100000000 := by omega
    have hdl := limbDs_lt ys (pre.map (·.1))
    have HSN := Lib.hid hsn
    have HDL := Lib.hid hdl
    clear hsn hdl
    generalize limbDs ys (pre.map (·.1)) = ds at *
    generalize ys.getD i 0 = X at *
    have HX := Lib.hid hx
    have B1 := Lib.hid b1
    have HO1 := Lib.hid ho
    have HB := Lib.hid hb
    clear hx b1 ho hb hys hyl hyv hst bN bS hO2 hB2 hL2 HO HB1
    gi_wp2
    gi_loopw [14] (fun iv wr => ∃ (k : Nat) (v : Value), k ≤ 9 ∧ iv = .int .i64 (k : Int) ∧ Boxed wr q 79 v ∧ wr.ownsRow g 5 1 v (9 * pre.length + k) (u8s (asc (ds ++ nineK X k))) ∧ Below g w wr ∧
        KeepsFrom W2.heap.size W wr ∧ KeptR g W wr) (fun iv _ => 9 - (intOf iv).toNat)
    case atStart => exact ⟨0, v0, by omega, rfl, B1.out, by rw [show nineK X 0 = [] from rfl, List.append_nil]; exact HO1.out, HB.out, KeepsFrom.refl _ _, KeptR.refl _ _⟩
    case round =>
      obtain ⟨k, v, hk, rfl, b2, ho2, hb2, hk2, hr2⟩ := hrel
      have B2 := Lib.hid b2
      have HO2 := Lib.hid ho2
      have HB2 := Lib.hid hb2
      have HK2 := Lib.hid hk2
      have HR2 := Lib.hid hr2
      clear b2 ho2 hb2 hk2 hr2
      by_cases hk9 : k < 9
      · obtain ⟨j, hj⟩ : ∃ j : Nat, j = 8 - k := ⟨_, rfl⟩
        have hpw := (HPW.out.below' HB2.out hG) j (by omega)
        have hpw9 := pow_lt9 j (by omega)
        have hpp := pow_pos10 j
        have hns := nineK_succ X k
        rw [← hj] at hns
        obtain ⟨PW, hPW⟩ : ∃ PW : Nat, 10 ^ j = PW := ⟨_, rfl⟩
        rw [hPW] at hpw hpw9 hpp hns
        have hxb := HX.out
        obtain ⟨Y, hY⟩ : ∃ Y : Nat, X / PW = Y := ⟨_, rfl⟩
        rw [hY] at hns
        have hYb : Y < 1000000000 := by rw [← hY]; exact Nat.lt_of_le_of_lt (Nat.div_le_self _ _) hxb
        have HNS := Lib.hid hns
        have hjI : (8 : Int) - (k : Int) = (j : Int) := by omega
        clear hns hPW
        gi_wp2
        have hwd : wr.drew.cell? ⟨0, j, none⟩ = some (.int .u32 (PW : Int)) := hpw
        have hbx : wr.drew.cell? ⟨q, 0, none⟩ = some v := B2.out.cell
        obtain ⟨D, hD⟩ : ∃ D : Nat, Y % 10 = D := ⟨_, rfl⟩
        have q1 : IntKind.i64.wrap (8 - (k : Int)) = (j : Int) := by rw [hjI]; exact IntWalk.i64_in _ (by omega)
        have q2 : IntKind.u32.wrap ((X : Int) / (PW : Int)) = (Y : Int) := by rw [show (X : Int) / (PW : Int) = (Y : Int) by rw [← hY]; exact (Int.natCast_ediv X PW).symm]; exact IntWalk.u32_in _ (by omega)
        have q3 : IntKind.u32.wrap ((Y : Int) % 10) = (D : Int) := by rw [show (Y : Int) % 10 = (D : Int) by omega]; exact IntWalk.u32_in _ (by omega)
        have q3' : (Y : Int).tmod 10 = (D : Int) := by rw [← hD]; rfl
        have q2' : (X : Int).tdiv (PW : Int) = (Y : Int) := by rw [← hY]; rfl
        have hDb : D < 10 := by omega
        have q4 : IntKind.u32.wrap (48 + (D : Int)) = 48 + (D : Int) := IntWalk.u32_in _ (by omega)
        have q5 : IntKind.u8.wrap (48 + (D : Int)) = 48 + (D : Int) := IntWalk.u8_in _ (by omega)
        have q6 : ¬ (PW = 0) := by omega
        have q9 : IntKind.u32.wrap (Y : Int) = (Y : Int) := IntWalk.u32_in _ (by omega)
        have q10 : IntKind.u32.wrap (D : Int) = (D : Int) := IntWalk.u32_in _ (by omega)
        have q7 : (0 : Int) ≤ (j : Int) := by omega
        have q8 : (j : Int) < 9 := by omega
        have HY := Lib.hid hY
        have HD := Lib.hid hD
        have HJ := Lib.hid hj
        rw [hD] at HNS
        clear hY hD hj hpw hjI hpw9 hpp hxb hYb hg hq s1 htz hpl
        refine wpIn_region_held (S := fun w' => w'.cell? ⟨0, j, none⟩ = some (.int .u32 (PW : Int))) (by kernel_rfl) (by kernel_rfl) hwd ?_
        intro hHeld
        refine' wpAnyH_take (i := 1) (v := _) rfl (by kernel_rfl) (by kernel_rfl) (by kernel_rfl) (fun _ _ _ h => h) (Or.inl ⟨by rfl, ?yh1⟩) hHeld ?rh1
        case yh1 =>
          intro w hSw
          try dsimp only at hSw
          go_simp
          try with_reducible rfl
        try simp only [Act.put, List.setIfInBounds_toArray]
        refine' wpAnyH_take (i := 2) (v := _) rfl (by kernel_rfl) (by kernel_rfl) (by kernel_rfl) (fun _ _ _ h => h) (Or.inl ⟨by rfl, ?yh2⟩) hHeld ?rh2
        case yh2 =>
          intro w hSw
          try dsimp only at hSw
          go_simp
          try with_reducible rfl
        try simp only [Act.put]
        refine' wpAnyH_take (i := 3) (v := _) rfl (by kernel_rfl) (by kernel_rfl) (by kernel_rfl) (fun _ _ _ h => h) (Or.inl ⟨by rfl, ?yh3⟩) hHeld ?rh3
        case yh3 =>
          intro w hSw
          try dsimp only at hSw
          go_simp
          try with_reducible rfl
        try simp only [Act.put]
        refine' wpAnyH_take (i := 4) (v := _) rfl (by kernel_rfl) (by kernel_rfl) (by kernel_rfl) (fun _ _ _ h => h) (Or.inl ⟨by rfl, ?yh4⟩) hHeld ?rh4
        case yh4 =>
          intro w hSw
          try dsimp only at hSw
          go_simp
          try with_reducible rfl
        try simp only [Act.put]
        refine' wpAnyH_take (i := 5) (v := _) rfl (by kernel_rfl) (by kernel_rfl) (by kernel_rfl) (fun _ _ _ h => h) (Or.inl ⟨by rfl, ?yh5⟩) hHeld ?rh5
        case yh5 =>
          intro w hSw
          try dsimp only at hSw
          go_simp
          try with_reducible rfl
        try simp only [Act.put]
        refine' wpAnyH_take (i := 6) (v := _) rfl (by kernel_rfl) (by kernel_rfl) (by kernel_rfl) (fun _ _ _ h => h) (Or.inl ⟨by rfl, ?yh6⟩) hHeld ?rh6
        case yh6 =>
          intro w hSw
          try dsimp only at hSw
          go_simp
          try with_reducible rfl
        try simp only [Act.put]
        refine' wpAnyH_take (i := 7) (v := _) rfl (by kernel_rfl) (by kernel_rfl) (by kernel_rfl) (fun _ _ _ h => h) (Or.inl ⟨by rfl, ?yh7⟩) hHeld ?rh7
        case yh7 =>
          intro w hSw
          try dsimp only at hSw
          go_simp
          try with_reducible rfl
        try simp only [Act.put]
        refine' wpAnyH_take (i := 8) (v := _) rfl (by kernel_rfl) (by kernel_rfl) (by kernel_rfl) (fun _ _ _ h => h) (Or.inl ⟨by rfl, ?yh8⟩) hHeld ?rh8
        case yh8 =>
          intro w hSw
          try dsimp only at hSw
          go_simp
          try with_reducible rfl
        try simp only [Act.put]
        refine' wpAnyH_take (i := 9) (v := _) rfl (by kernel_rfl) (by kernel_rfl) (by kernel_rfl) (fun _ _ _ h => h) (Or.inl ⟨by rfl, ?yh9⟩) hHeld ?rh9
        case yh9 =>
          intro w hSw
          try dsimp only at hSw
          go_simp
          try with_reducible rfl
        try simp only [Act.put]
        have hbd : Boxed wr.drew q 79 v := B2.out
        have hod : wr.drew.ownsRow g 5 1 v (9 * pre.length + k) (u8s (asc (ds ++ nineK X k))) := HO2.out
        have hbx2 : (wr.drew.alloc (.cells #[.int .u8 (48 + (D : Int))] 5)).cell? ⟨q, 0, none⟩ = some v := (hbd.alloc _).cell
        have hszd : g ≤ wr.drew.heap.size := by have h1 := B2.out.lt; change g ≤ wr.heap.size; omega
        have HBD := Lib.hid hbd
        have HOD := Lib.hid hod
        have HSD := Lib.hid hszd
        have hszw : g ≤ wr.heap.size := hszd
        have hbx3 : (wr.alloc (.cells #[.int .u8 (48 + (D : Int))] 5)).cell? ⟨q, 0, none⟩ = some v := hbx2
        clear hbd hod hszd
        refine wpAnyH_ready (rs := [0, 10]) (by kernel_rfl) (by simp) ?_
        refine AllReadyH.cons rfl (fun K hK => ?_) ?_
        · go_simp
          refine hK.out _ _ ?_ (fun hHeld => ?_)
          · exact hHeld
          clear hK K
          try simp only [Act.put, List.setIfInBounds_toArray, List.set_cons_zero, List.set_cons_succ]
          refine wpAnyH_ready (rs := [10]) (by kernel_rfl) (by simp) ?_
          refine AllReadyH.cons rfl (fun K hK => ?_) ?_
          · go_simp
            refine hK.out _ _ ?_ (fun hHeld => ?_)
            · exact (World.cell?_alloc_some _ _ _ (Option.isSome_iff_exists.2 ⟨_, hHeld⟩)).trans hHeld
            clear hK K
            try simp only [Act.put, List.setIfInBounds_toArray, List.set_cons_zero, List.set_cons_succ]
            refine wpAnyH_ready (rs := [11]) (by kernel_rfl) (by simp) ?_
            refine AllReadyH.cons rfl (fun K hK => ?_) ?_
            · refine step_append_lies _ (by rfl) (.tmp 17) (.tmp 27) _ (by rfl) g 5 i0 (.int .u8 0) 1 1 Tryd.underlying79 hi hz0 hz1 hz2 rfl (by decide) v _ _ (by rfl) (HOD.out.alloc _) ⟨wr.drew.heap.size, 0, none⟩ 1 1 [.int .u8 (48 + (D : Int))] (by rfl) (by rfl) (cells_one wr.drew _ _) (by simp [Value.oneCell']) (by omega) (by unfold maxLen; omega) (by omega) (by simp; omega) _ rfl ?_
              intro g' cap w1 hown1 hgrow hat hlt
              refine hK.out _ _ ?_ (fun hHeld => ?_)
              · exact (hgrow.cell_far ⟨0, j, none⟩ (World.block_lt_of_cell? _ _ hHeld) (fun e => by have := (HOD.out.lt _ e.symm).1; change g ≤ 0 at this; omega)).trans hHeld
              clear hK K
              try simp only [Act.put, List.setIfInBounds_toArray]
              obtain ⟨hv1, hv2, hr2, hk2, hb2⟩ := HBD.out.appended (by decide) HOD.out HSD.out (by omega) hown1 hgrow
              have hrr := keptR_appended HBD.out (by decide) (by decide) HOD.out HSD.out (by omega) hown1 hgrow
              have hc1 := hv1.cell
              have hf1 := hv1.frozen
              have HV2 := Lib.hid hv2
              have HR3 := Lib.hid hr2
              have HK3 := Lib.hid hk2
              have HB3 := Lib.hid hb2
              have HRR := Lib.hid hrr
              clear hv1 hv2 hr2 hk2 hb2 hrr hown1 hgrow hat
              refine wpAnyH_ready (rs := [12]) (by kernel_rfl) (by simp) ?_
              refine AllReadyH.cons rfl (fun K hK => ?_) ?_
              · go_simp
                refine hK.out _ _ ?_ (fun hHeld => ?_)
                · exact (World.cell?_setCell_far _ ⟨q, 0, none⟩ ⟨0, j, none⟩ _ (by simp; omega)).trans hHeld
                clear hK K
                try simp only [Act.put, List.setIfInBounds_toArray, List.set_cons_zero, List.set_cons_succ]
                refine wpAnyH_done (by kernel_rfl) ?_ _
                refine Calm.normal ?_
                clear q1 q2 q3 q3' q2' q4 q5 q6 q7 q8 q9 q10 hc1 hf1 hHeld hlt
                gi_wp2
                go_roundw
                case rel =>
                  refine ⟨k + 1, _, by omega, by go_num, HV2.out, ?_, HB2.out.drew.trans HB3.out, HK2.out.trans (((KeepsOthers.drew _).trans HK3.out).from _), HR2.out.trans ⟨(Below.refl g wr).drew.trans HRR.out.1, HRR.out.2⟩⟩
                  rw [HNS.out, ← List.append_assoc, asc_append, u8s_append]
                  exact HR3.out
                case measure => simp [intOf]; omega
              exact AllReadyH.nil
            exact AllReadyH.nil
          exact AllReadyH.nil
        refine AllReadyH.cons rfl (fun K hK => ?_) ?_
        · go_simp
          refine hK.out _ _ ?_ (fun hHeld => ?_)
          · exact (World.cell?_alloc_some _ _ _ (Option.isSome_iff_exists.2 ⟨_, hHeld⟩)).trans hHeld
          clear hK K
          try simp only [Act.put, List.setIfInBounds_toArray, List.set_cons_zero, List.set_cons_succ]
          refine wpAnyH_ready (rs := [0]) (by kernel_rfl) (by simp) ?_
          refine AllReadyH.cons rfl (fun K hK => ?_) ?_
          · go_simp
            refine hK.out _ _ ?_ (fun hHeld => ?_)
            · exact hHeld
            clear hK K
            try simp only [Act.put, List.setIfInBounds_toArray, List.set_cons_zero, List.set_cons_succ]
            refine wpAnyH_ready (rs := [11]) (by kernel_rfl) (by simp) ?_
            refine AllReadyH.cons rfl (fun K hK => ?_) ?_
            · refine step_append_lies _ (by rfl) (.tmp 17) (.tmp 27) _ (by rfl) g 5 i0 (.int .u8 0) 1 1 Tryd.underlying79 hi hz0 hz1 hz2 rfl (by decide) v _ _ (by rfl) (HOD.out.alloc _) ⟨wr.drew.heap.size, 0, none⟩ 1 1 [.int .u8 (48 + (D : Int))] (by rfl) (by rfl) (cells_one wr.drew _ _) (by simp [Value.oneCell']) (by omega) (by unfold maxLen; omega) (by omega) (by simp; omega) _ rfl ?_
              intro g' cap w1 hown1 hgrow hat hlt
              refine hK.out _ _ ?_ (fun hHeld => ?_)
              · exact (hgrow.cell_far ⟨0, j, none⟩ (World.block_lt_of_cell? _ _ hHeld) (fun e => by have := (HOD.out.lt _ e.symm).1; change g ≤ 0 at this; omega)).trans hHeld
              clear hK K
              try simp only [Act.put, List.setIfInBounds_toArray]
              obtain ⟨hv1, hv2, hr2, hk2, hb2⟩ := HBD.out.appended (by decide) HOD.out HSD.out (by omega) hown1 hgrow
              have hrr := keptR_appended HBD.out (by decide) (by decide) HOD.out HSD.out (by omega) hown1 hgrow
              have hc1 := hv1.cell
              have hf1 := hv1.frozen
              have HV2 := Lib.hid hv2
              have HR3 := Lib.hid hr2
              have HK3 := Lib.hid hk2
              have HB3 := Lib.hid hb2
              have HRR := Lib.hid hrr
              clear hv1 hv2 hr2 hk2 hb2 hrr hown1 hgrow hat
              refine wpAnyH_ready (rs := [12]) (by kernel_rfl) (by simp) ?_
              refine AllReadyH.cons rfl (fun K hK => ?_) ?_
              · go_simp
                refine hK.out _ _ ?_ (fun hHeld => ?_)
                · exact (World.cell?_setCell_far _ ⟨q, 0, none⟩ ⟨0, j, none⟩ _ (by simp; omega)).trans hHeld
                clear hK K
                try simp only [Act.put, List.setIfInBounds_toArray, List.set_cons_zero, List.set_cons_succ]
                refine wpAnyH_done (by kernel_rfl) ?_ _
                refine Calm.normal ?_
                clear q1 q2 q3 q3' q2' q4 q5 q6 q7 q8 q9 q10 hc1 hf1 hHeld hlt
                gi_wp2
                go_roundw
                case rel =>
                  refine ⟨k + 1, _, by omega, by go_num, HV2.out, ?_, HB2.out.drew.trans HB3.out, HK2.out.trans (((KeepsOthers.drew _).trans HK3.out).from _), HR2.out.trans ⟨(Below.refl g wr).drew.trans HRR.out.1, HRR.out.2⟩⟩
                  rw [HNS.out, ← List.append_assoc, asc_append, u8s_append]
                  exact HR3.out
                case measure => simp [intOf]; omega
              exact AllReadyH.nil
            exact AllReadyH.nil
          exact AllReadyH.nil
        exact AllReadyH.nil
      · obtain rfl : k = 9 := by omega
        gi_wp2
        refine ⟨HK2.out, HR2.out, ⟨v, B2.out, ?_, trivial⟩, HB2.out⟩
        rw [HSN.out, show 9 * (pre ++ [(⟨i, hin⟩ : Pl T)]).length = 9 * pre.length + 9 by simp; omega]
        exact HO2.out
  case done =>
    rintro D zs W hD hzs ⟨⟨v0, b1, ho, -⟩, hb⟩ hK
    have hzl : zs.length = T := by
      have := congrArg List.length hzs
      simpa [downTo] using this
    rw [hzs, hzl] at ho
    have hdv := limbDs_all ys T hyl hys
    rw [hyv] at hdv
    have hdl := limbDs_lt ys (downTo T T)
    have hdn := limbDs_length ys (downTo T T)
    rw [show (downTo T T).length = T by simp [downTo]] at hdn
    generalize limbDs ys (downTo T T) = ds at *
    have hc1 := b1.cell
    have HOW := Lib.hid ho
    obtain ⟨s1', hconv, hsd⟩ := conv_own ho (asc_lt ds hdl)
    have hIs : IsD s1' ds := ⟨hsd, hdl⟩
    have CT := trimLeft_c s1' ds W hIs (by rw [hIs.size]; omega)
    rw [stripZ_eq ds hdl, hdv] at CT
    have HCT := Lib.hid CT
    have HK := Lib.hid hK
    have HB := Lib.hid hb
    have HB1 := Lib.hid b1
    clear CT hIs hsd hdl hdv hdn hzl hzs hK hb b1 ho hys hyl hyv hst bN bS hO2 hB2 hL2 HO hG
    go_wp2_with fail
    refine HCT.out.mono ?_
    rintro e w' ⟨s', rfl, hs', rfl⟩
    have HBE := fun (o : Obj) => Lib.hid (HB.out.trans (belowK_b (w := W2) (by omega) _ D _ o hD HK.out rfl rfl))
    rcases hdd : decs (val 1000000000 xs) with _ | ⟨d, r⟩
    · rw [hdd] at hs'
      obtain rfl := IsD.ext hs' IsD.nil
      have HDD := Lib.hid hdd
      clear hs' hdd
      go_wp2
      refine ⟨by simp, .inl ⟨_, _, rfl, run_takeDeferred HK.out, ?_⟩⟩
      exact ⟨_, results_tmp rfl _ _ _, _, rfl, by rw [HDD.out]; exact isD_zero, by rw [hg]; exact (HBE _).out⟩
    · rw [hdd] at hs'
      have hne : s'.toList ≠ [] := fun e => by
        have h1 := hs'.list
        rw [e] at h1
        simp at h1
      have hb2 : s'.toList.isEmpty = false := by
        cases hh : s'.toList with
        | nil => exact absurd hh hne
        | cons => rfl
      have hb3 : (!s'.toList.isEmpty) = true := by rw [hb2]; rfl
      have HS := Lib.hid hs'
      have HDD := Lib.hid hdd
      clear hs' hdd hne
      go_wp2
      refine ⟨by simp, .inl ⟨_, _, rfl, run_takeDeferred HK.out, ?_⟩⟩
      exact ⟨_, results_tmp rfl _ _ _, _, rfl, by rw [HDD.out]; exact HS.out, by rw [hg]; exact (HBE _).out⟩
  case stop =>
    rintro D c pre W _ _ h _
    exact h.elim
end Go.Proofs.YtekanlcfgfllcaaDoor
/- TenLaid -/
/-
  What the rows' condition on the listed variables gives the walks: the table of powers.
-/
namespace Go.Proofs.YtekanlcfgfllcaaDoor
open Go.RowKit
theorem powers_named : Tryd.prog.globalNamed "figurehead/ten.powers" = some 0 := by kernel_rfl
theorem powers_type : (Tryd.prog.globals[0]?).map (·.type) = some 63 := by kernel_rfl
theorem powers_c32 : Tryd.prog.cellsOf 49 = 1 := by kernel_rfl
theorem powers_c9 : Tryd.prog.cellsOf 63 = 9 := by kernel_rfl
theorem pw_of_laid {l : List (String × DataW Unit)} {W : World} (h : laidMet Tryd.prog l W) (hm : ("figurehead/ten.powers", Lib.tabData .u32 [1, 10, 100, 1000, 10000, 100000, 1000000, 10000000, 100000000]) ∈ l) : Pw W := by
  obtain ⟨g, t, cs, fuel, p, h1, h2, h3, h4⟩ := Lib.laidMet.reads h hm
  obtain rfl := Option.some.inj (powers_named.symm.trans h1)
  obtain rfl := Option.some.inj (powers_type.symm.trans h2)
  have hcs := Lib.cells_of_tab Tryd.underlying63 Tryd.underlying49 powers_c32 powers_c9 h4
  intro i hi
  have hc := World.var?_cell powers_named h3 i
  rw [← Array.getElem?_toList, hcs] at hc
  rw [hc]
  obtain rfl | rfl | rfl | rfl | rfl | rfl | rfl | rfl | rfl : i = 0 ∨ i = 1 ∨ i = 2 ∨ i = 3 ∨ i = 4 ∨ i = 5 ∨ i = 6 ∨ i = 7 ∨ i = 8 := by omega
  all_goals rfl
end Go.Proofs.YtekanlcfgfllcaaDoor
