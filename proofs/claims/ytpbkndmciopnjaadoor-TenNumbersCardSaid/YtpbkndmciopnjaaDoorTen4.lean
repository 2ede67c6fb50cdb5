import Derived.Test.YtpbkndmciopnjaaDoorTen3
namespace Go.Proofs.YtpbkndmciopnjaaDoor
open Go.RowKit
/-- The bytes of a text, less 48. -/
def bdigs (s : ByteArray) : List Nat := s.data.toList.map fun b => b.toNat - 48
theorem bdigs_length (s : ByteArray) : (bdigs s).length = s.size := by simp [bdigs]
theorem bdigs_get (s : ByteArray) (k : Nat) (hk : k < s.size) : (bdigs s).getD k 0 = s[k].toNat - 48 := by
  have hk' : k < s.data.toList.length := by simpa using hk
  simp only [bdigs, List.getD, List.getElem?_map, List.getElem?_eq_getElem hk', Option.map_some, Option.getD_some]
  rfl
theorem bdigs_of {s : ByteArray} {ds : List Nat} (h : IsD s ds) : bdigs s = ds := by
  have h1 := congrArg (List.map (fun x => x - 48)) h.1
  simp only [List.map_map] at h1
  rw [bdigs, show (fun b : UInt8 => b.toNat - 48) = (fun x => x - 48) ∘ UInt8.toNat from rfl, h1]
  conv => rhs; rw [← List.map_id ds]
  exact List.map_congr_left fun x _ => by simp
/-- Is it a digit? -/
def digB (b : UInt8) : Bool := decide (48 ≤ b.toNat) && decide (b.toNat ≤ 57)
theorem digB_true {b : UInt8} (h : digB b = true) : 48 ≤ b.toNat ∧ b.toNat ≤ 57 := by simpa [digB] using h
theorem digB_false {b : UInt8} (h : digB b = false) : b.toNat < 48 ∨ 57 < b.toNat := by
  simp only [digB, Bool.and_eq_false_iff, decide_eq_false_iff_not] at h
  omega
/-- What Number answers. -/
def TenNum (s : ByteArray) (w : World) (e : Ending) (w' : World) : Prop :=
  Below w.heap.size w w' ∧ ((0 < s.size ∧ (∀ j (h : j < s.size), digB s[j] = true) ∧ ∃ A m c, e = .returned (.tuple #[.slice A m c, .bool true]) ∧ OwnS w' w.heap.size A m c (digs 1000000000 (dval (bdigs s)))) ∨
    ((s.size = 0 ∨ ∃ j, ∃ h : j < s.size, digB s[j] = false) ∧ e = .returned (.tuple #[.slice none 0 0, .bool false])))
theorem bdigs_lt {s : ByteArray} (h : ∀ j (h : j < s.size), digB s[j] = true) : ∀ d ∈ bdigs s, d < 10 := by
  intro d hd
  obtain ⟨j, hj, rfl⟩ := List.mem_iff_getElem.1 hd
  have hj' : j < s.size := by rw [← bdigs_length]; exact hj
  have h1 := bdigs_get s j hj'
  have h2 := digB_true (h j hj')
  rw [List.getD, List.getElem?_eq_getElem hj] at h1
  simp at h1
  omega
set_option maxHeartbeats 2000000 in
set_option maxRecDepth 100000 in
theorem tenNumber_c (s : ByteArray) (w : World) (hs : s.size ≤ 1000000000) (hP : Pw w) :
    Calls Tryd.prog 11 #[.string s] w (TenNum s w) := by
  obtain ⟨i0, hi, hz0, hz1, hz2⟩ := info_parts u32_info
  by_cases he : s.size = 0
  · have e0 : s = ⟨#[]⟩ := IsD.ext (ds := []) ⟨by simp [List.eq_nil_of_length_eq_zero (show s.data.toList.length = 0 by simpa using he)], by simp⟩ IsD.nil
    subst e0
    clear hs hP
    go_enter Tryd.func11, Tryd.ntmps11
    go_wp2
    go_ret2
    exact ⟨Below.refl _ _, .inr ⟨.inl he, rfl⟩⟩
  · have hpos : 0 < s.size := by omega
    have hne : s.toList.isEmpty = false := by
      cases hh : s.toList with
      | nil =>
        rw [ByteArray.toList_eq] at hh
        have h2 : s.data.toList.length = 0 := by rw [hh]; rfl
        have h3 : s.size = s.data.toList.length := rfl
        omega
      | cons => rfl
    have hb1 : (!s.toList.isEmpty) = true := by rw [hne]; rfl
    obtain ⟨N, hN⟩ : ∃ N : Nat, N = s.size / 9 + 1 := ⟨_, rfl⟩
    have hN1 : N ≤ 200000000 := by omega
    have HNI := Lib.hid (show (s.size : Int) / 9 + 1 = (N : Int) by omega)
    have HN := Lib.hid hN
    have HPW := Lib.hid hP
    clear hN hP he
    go_enter Tryd.func11, Tryd.ntmps11
    go_wp2_with (at_make; refine wpList_make_full _ rfl _ _ 22 rfl w.heap.size 39 i0 (.int .u32 0) 1 Tryd.underlying22 hi hz0 hz1 _ _ _ _ N rfl rfl ?b0 ?b1 ?b2 ?b3 (Nat.le_refl _) ?_)
    case b0 => have := HNI.out; omega
    case b1 => have := HNI.out; omega
    case b2 => rw [hz2]; omega
    case b3 => unfold maxLen; omega
    rw [HNI.out]
    intro w1 hown hgrow
    rw [made_u32] at hown
    have hb1 : Below w.heap.size w w1 := (Below.refl _ _).grown hgrow (Nat.le_refl _) (fun k hk => by cases hk)
    have hgs : w.heap.size < w1.heap.size := (Array.getElem?_eq_some_iff.1 (own_blk hown).1).1
    have W0 := Lib.hid hown
    have HB1 := Lib.hid hb1
    clear hown hb1 hgrow
    generalize hg : w.heap.size = g at *
    have Hg := Lib.hid hg
    clear hg
    have hG : 0 < g := by have := HPW.out.blk; have := Hg.out; omega
    go_wp2
    generalize hq : w1.heap.size = q at *
    have Hq := Lib.hid hq
    clear hq
    go_loopw [5] (fun _ wr => ∃ (k : Nat) (zs : List Nat), k ≤ s.size ∧ (∀ j (h : j < s.size), j < k → digB s[j] = true) ∧ wr.heap[q]? = some (.stringIter s k) ∧ zs = chunks (placed (bdigs s) k) N ∧
        wr.ownsRow g 39 1 (.slice (some ⟨g, 0, none⟩) N N) N (u32s zs) ∧ Below g w wr) (fun _ wr => s.size - wr.iterPos q)
    case atStart =>
      refine ⟨0, List.replicate N 0, Nat.zero_le _, fun j _ hj => absurd hj (by omega), ?_, ?_, ?_, ?_⟩
      · rw [← Hq.out]; exact heap_alloc_new w1 _
      · rw [placed_zero, chunks_zero]
      · exact W0.out.alloc _
      · exact HB1.out.alloc (by rw [Hq.out]; omega) _
    case round =>
      obtain ⟨k, zs, hk, hall0, hit0, hzs0, hown0, hb0⟩ := hrel
      have HALL := Lib.hid hall0
      have HIT := Lib.hid hit0
      have HZS := Lib.hid hzs0
      have HO := Lib.hid hown0
      have HB := Lib.hid hb0
      have hpos0 : wr.iterPos q = k := by simp [World.iterPos, hit0]
      have HPOS := Lib.hid hpos0
      have hgq : q < wr.heap.size := (Array.getElem?_eq_some_iff.1 hit0).1
      clear hall0 hit0 hzs0 hown0 hb0 hpos0
      by_cases hlt : k < s.size
      · rcases hdb : digB s[k] with _ | _
        · have hnx := Lib.run_next_any_at (P := Tryd.prog) wr q s k 0 HIT.out hlt
          have hr : (Utf8.decode s k).1 < 48 ∨ 57 < (Utf8.decode s k).1 := by
            by_cases ha : s[k].toNat < 128
            · rw [decode_ascii s k hlt ha]
              have := digB_false hdb
              simp only
              omega
            · have := (decode_high s k hlt (by omega)).1
              omega
          have HBQ := Lib.hid (Lib.below_iterAt HB.out (k := q) (by omega) s (k + (Utf8.decode s k).2))
          have HDB := Lib.hid hdb
          clear hdb
          generalize (Utf8.decode s k).1 = R at *
          generalize (Utf8.decode s k).2 = D at *
          rcases hr with hr | hr
          · go_wp2
            go_ret2
            exact ⟨by rw [Hg.out]; exact HBQ.out, .inr ⟨.inr ⟨k, hlt, HDB.out⟩, rfl⟩⟩
          · have hr1 : ¬ R < 48 := by omega
            go_wp2
            go_ret2
            exact ⟨by rw [Hg.out]; exact HBQ.out, .inr ⟨.inr ⟨k, hlt, HDB.out⟩, rfl⟩⟩
        · have hd := digB_true hdb
          have hnx := Lib.run_next_ascii_at (P := Tryd.prog) wr q s k 0 HIT.out hlt (by omega)
          have hdk : (bdigs s).getD k 0 = s[k].toNat - 48 := bdigs_get s k hlt
          have hdl := bdigs_length s
          have hps := placed_succ (bdigs s) k (by rw [hdl]; exact hlt)
          have hpl := placed_length (bdigs s) k (by rw [hdl]; exact hk)
          rw [hdl] at hps hpl
          rw [hdk] at hps
          have hd10 : ∀ j, j < k + 1 → (bdigs s).getD j 0 < 10 := fun j hj => by
            have hjs : j < s.size := by omega
            rw [bdigs_get s j hjs]
            have : digB s[j] = true := by
              rcases Nat.lt_or_ge j k with h | h
              · exact HALL.out j hjs h
              · obtain rfl : j = k := by omega
                exact hdb
            have := digB_true this
            omega
          have hcl := chunk_lt (placed (bdigs s) k) (placed_lt (bdigs s) k fun j hj => hd10 j (by omega)) ((s.size - 1 - k) / 9)
          have hcl' := chunk_lt (placed (bdigs s) (k + 1)) (placed_lt (bdigs s) (k + 1) hd10) ((s.size - 1 - k) / 9)
          rw [hps.1, chunk_set _ _ _ (by rw [hpl]; omega) hps.2, if_pos rfl] at hcl'
          have hcs := chunks_set (placed (bdigs s) k) (s.size - 1 - k) (s[k].toNat - 48) N (by rw [hpl]; omega) hps.2
          rw [← hps.1] at hcs
          have hcg := chunks_getD (placed (bdigs s) k) N ((s.size - 1 - k) / 9) (by have := HN.out; omega)
          rw [← HZS.out] at hcs hcg
          generalize chunk (placed (bdigs s) k) ((s.size - 1 - k) / 9) = Z at *
          obtain ⟨p, hp⟩ : ∃ p : Nat, p = s.size - 1 - k := ⟨_, rfl⟩
          rw [← hp] at hps hcl' hcs hcg
          have HBQ := Lib.below_iterAt HB.out (k := q) (by omega) s (k + 1)
          have HITQ := Lib.iterAt_heap wr q s k (k + 1) HIT.out
          have HOQ := own_kept_lt HO.out (Lib.below_iterAt (Below.refl q wr) (k := q) (Nat.le_refl _) s (k + 1)) (fun j hj => by simp [Value.ownBlock] at hj; omega)
          generalize wr.iterAt q s (k + 1) = wi at *
          have hpN : p / 9 < N := by have := HN.out; omega
          have hcell := own_at HOQ hpN
          rw [hcg] at hcell
          have hfr := HOQ.frozenAt (p / 9)
          have hpw := (HPW.out.below' HBQ hG) (p % 9) (Nat.mod_lt _ (by omega))
          have hpw9 := pow_lt9 (p % 9) (Nat.mod_lt _ (by omega))
          obtain ⟨d, hdd⟩ : ∃ d : Nat, d = s[k].toNat - 48 := ⟨_, rfl⟩
          rw [← hdd] at hcl' hcs
          have hmul : 10 ^ (p % 9) * d ≤ 999999999 := by omega
          obtain ⟨PW, hPW⟩ : ∃ PW : Nat, PW = 10 ^ (p % 9) := ⟨_, rfl⟩
          rw [← hPW] at hpw hpw9 hmul hcl' hcs
          have hmulI : (d : Int) * (PW : Int) ≤ 999999999 := by rw [← Int.natCast_mul, Nat.mul_comm]; omega
          have HPS := Lib.hid hps
          have HCS := Lib.hid hcs
          have HITQ' := Lib.hid HITQ
          have HOQ' := Lib.hid HOQ
          have HBQ' := Lib.hid HBQ
          have HDB := Lib.hid hdb
          clear hps hcs HITQ HOQ HBQ hdb hdl hdk hcg hPW hpl hd10
          generalize s[k].toNat = r at *
          go_wp2
          rw [show (s.size : Int) - 1 - (k : Int) = (p : Int) by omega]
          obtain ⟨a, ha⟩ : ∃ a : Nat, a = p / 9 := ⟨_, rfl⟩
          obtain ⟨b, hb⟩ : ∃ b : Nat, b = p % 9 := ⟨_, rfl⟩
          rw [← ha] at hpN hcell hfr
          rw [← hb] at hpw
          have q1 : IntKind.i64.wrap ((p : Int) / 9) = (a : Int) := by
            rw [show (p : Int) / 9 = (a : Int) by omega]; exact IntWalk.i64_in _ (by omega)
          have q2 : (p : Int).tmod 9 = (b : Int) := by rw [hb]; rfl
          have q3 : (a : Int) < (N : Int) := by omega
          have q4 : (b : Int) < 9 := by omega
          have q5 : IntKind.i32.wrap ((r : Int) - 48) = (d : Int) := by rw [show (r : Int) - 48 = (d : Int) by omega]; exact IntWalk.i32_in _ (by omega)
          have q6 : IntKind.u32.wrap (d : Int) = (d : Int) := IntWalk.u32_in _ (by omega)
          have q7 : IntKind.u32.wrap ((d : Int) * (PW : Int)) = (d : Int) * (PW : Int) := IntWalk.u32_in _ ⟨by rw [← Int.natCast_mul]; omega, by omega⟩
          have q8 : IntKind.u32.wrap ((Z : Int) + (d : Int) * (PW : Int)) = (Z : Int) + (d : Int) * (PW : Int) := IntWalk.u32_in _ ⟨by rw [← Int.natCast_mul]; omega, by omega⟩
          have HA := Lib.hid ha
          have HP := Lib.hid hp
          have HDD := Lib.hid hdd
          have HHD := Lib.hid hd
          clear hp ha hb hdd hd hmul hcl' hnx
          go_still_tail 15, (by kernel_rfl)
          clear q1 q2 q3 q4 q5 q6 q7 q8
          go_wp2
          go_roundw
          case rel =>
            have hcast : (Z : Int) + (d : Int) * (PW : Int) = ((Z + PW * d : Nat) : Int) := by rw [Nat.mul_comm]; simp
            refine ⟨k + 1, zs.set a (Z + PW * d), by omega, fun j hj hjk => ?_, ?_, ?_, ?_, ?_⟩
            · rcases Nat.lt_or_ge j k with h | h
              · exact HALL.out j hj h
              · obtain rfl : j = k := by omega
                exact HDB.out
            · exact (Below.heap_setCell _ _ _ q (show q ≠ g by omega)).trans HITQ'.out
            · rw [HA.out]; exact HCS.out.symm
            · rw [u32s_set, hcast]
              exact (World.ownsRow.stored (w := wi.drew) HOQ'.out a _).1
            · exact HBQ'.out.drew.setCell (Nat.le_refl _) _
          case measure =>
            have e1 : (wi.setCell ⟨g, a, none⟩ (.int .u32 ((Z : Int) + (d : Int) * (PW : Int)))).drew.iterPos q = k + 1 := by
              have e2 : (wi.setCell ⟨g, a, none⟩ (.int .u32 ((Z : Int) + (d : Int) * (PW : Int)))).drew.heap[q]? = some (.stringIter s (k + 1)) :=
                (Below.heap_setCell _ _ _ q (show q ≠ g by omega)).trans HITQ'.out
              simp [World.iterPos, e2]
            rw [e1, HPOS.out]
            omega
      · have hks : s.size = k := by omega
        have hnx := Lib.run_next_end_at (P := Tryd.prog) wr q s k 0 HIT.out hlt
        have hlb : ∀ d ∈ bdigs s, d < 10 := bdigs_lt fun j hj => HALL.out j hj (by omega)
        have hzl : ∀ z ∈ zs, z < 1000000000 := by
          rw [HZS.out]
          refine chunks_lt _ (placed_lt _ _ fun j hj => ?_) _
          have hj' : j < (bdigs s).length := by rw [bdigs_length]; omega
          rw [List.getD, List.getElem?_eq_getElem hj']
          exact hlb _ (List.getElem_mem hj')
        have hzv : val 1000000000 zs = dval (bdigs s) := by
          rw [HZS.out, chunks_val N _ (by rw [placed_length _ _ (by rw [bdigs_length]; omega), bdigs_length]; have := HN.out; omega)]
          rw [show k = (bdigs s).length by rw [bdigs_length]; omega, placed_all]
          rfl
        have CT := trim_own g N zs _ w wr HO.out (by omega) HB.out Hg.out hzl hzv
        have HCT := Lib.hid CT
        have HKS := Lib.hid hks
        clear CT hzl hzv hlb hks
        go_wp2_with (go_at_call 22; refine HCT.out.mono ?_; rintro e w' ⟨A', m, c', rfl, ho, hb⟩; have HO2 := Lib.hid ho; have HB2 := Lib.hid hb; clear ho hb HCT)
        go_ret2
        exact ⟨by rw [Hg.out]; exact HB2.out, .inl ⟨hpos, fun j hj => HALL.out j hj (by have := HKS.out; omega), _, _, _, rfl, by rw [Hg.out]; exact HO2.out⟩⟩
theorem tenNumber_ok (s : ByteArray) (ds : List Nat) (w : World) (h : IsD s ds) (hs : s.size ≤ 1000000000) (h0 : 0 < s.size) (hP : Pw w) :
    Calls Tryd.prog 11 #[.string s] w fun e w' => ∃ A m c, e = .returned (.tuple #[.slice A m c, .bool true]) ∧ OwnS w' w.heap.size A m c (digs 1000000000 (dval ds)) ∧ Below w.heap.size w w' := by
  refine (tenNumber_c s w hs hP).mono ?_
  rintro e w' ⟨hb, ⟨_, _, A, m, c, rfl, ho⟩ | ⟨hz | ⟨j, hj, hf⟩, _⟩⟩
  · rw [bdigs_of h] at ho
    exact ⟨A, m, c, rfl, ho, hb⟩
  · omega
  · have h1 := h.at_ hj
    have hjd : j < ds.length := by rw [← h.size]; exact hj
    have h2 : ds.getD j 0 < 10 := by rw [List.getD, List.getElem?_eq_getElem hjd]; exact h.2 _ (List.getElem_mem hjd)
    have h3 := digB_false hf
    omega
end Go.Proofs.YtpbkndmciopnjaaDoor
