/-
  TD: token's contracts: split, Scan.
-/
import Derived.Test.YtbmgdheljnbmpaaTC
set_option maxRecDepth 100000
namespace Go.Proofs.Ytbmgdheljnbmpaa
open Go.RowKit
/-- What is left of a right text from p on. -/
def Rem (s : ByteArray) (p : Nat) (cs : List Nat) : Prop := p ≤ s.size ∧ (bts s).drop p = encs cs ∧ allC cs = true
theorem Rem.zero {s : ByteArray} (h : rst (bts s) = []) : Rem s 0 (cps (bts s)) := ⟨Nat.zero_le _, scan_right (bts_lt s) h, (scan_spec _ (bts_lt s)).2.1⟩
theorem Rem.len {s : ByteArray} {p : Nat} {cs : List Nat} (h : Rem s p cs) : p + (encs cs).length = s.size := by
  have := congrArg List.length h.2.1
  rw [List.length_drop, bts_length] at this
  have := h.1
  omega
theorem Rem.none {s : ByteArray} {p : Nat} (h : Rem s p []) : ¬ p < s.size := by
  have := h.len
  rw [encs_nil] at this
  simp at this; omega
theorem Rem.some {s : ByteArray} {p : Nat} {c : Nat} {cs : List Nat} (h : Rem s p (c :: cs)) :
    isC c = true ∧ Rem s (p + (encN c).length) cs ∧ Utf8.decode s p = (c, (encN c).length) ∧ p < s.size ∧ 1 ≤ (encN c).length := by
  obtain ⟨h1, h2⟩ := allC_cons.1 h.2.2
  have hl := h.len
  have hp := encN_pos c
  rw [encs_cons, List.length_append] at hl
  refine ⟨h1, ⟨by omega, ?_, h2⟩, ?_, by omega, hp⟩
  · rw [← List.drop_drop, h.2.1, encs_cons, List.drop_append_of_le_length (Nat.le_refl _), List.drop_length, List.nil_append]
  · rw [decode_bts, h.2.1, encs_cons, dec_enc h1]
theorem encs_39 {cs : List Nat} {l : List Nat} (h : encs cs = 39 :: l) : ∃ cs', cs = 39 :: cs' ∧ encs cs' = l := by
  cases cs with
  | nil => cases h
  | cons c cs =>
    rw [encs_cons] at h
    rcases encN_cases c with ⟨_, e⟩ | ⟨_, _, e⟩ | ⟨_, _, e⟩ | ⟨_, e⟩ <;> rw [e] at h <;> simp only [List.cons_append, List.nil_append, List.cons.injEq] at h
    · obtain ⟨rfl, h⟩ := h; exact ⟨cs, rfl, h⟩
    all_goals (exfalso; omega)
/-- Two '. -/
def twoS : ByteArray := ⟨#[39, 39]⟩
theorem bts_two : bts twoS = [39, 39] := rfl
theorem Rem.two {s : ByteArray} {p : Nat} {cs : List Nat} (h : Rem s p cs) : pfx twoS (s.extract p s.size) = true ↔ ∃ cs', cs = 39 :: 39 :: cs' := by
  rw [pfx_iff, bts_from, h.2.1, bts_two]
  constructor
  · rintro ⟨r, hr⟩
    obtain ⟨c1, rfl, h1⟩ := encs_39 hr
    obtain ⟨c2, rfl, _⟩ := encs_39 h1
    exact ⟨c2, rfl⟩
  · rintro ⟨cs', rfl⟩
    exact ⟨encs cs', by rw [encs_cons, encs_cons]; rfl⟩
/-- How far a scan is: F in the end, L till now, at p, what is ahead of nx is done, cs to come, quotes stand open at o. -/
def St (F : List Tok × Int) (L : List Tok) (p nx : Nat) (cs : List Nat) (o : Int) : Prop :=
  (nx ≤ p ∧ F = (L ++ (scn cs p o).1, (scn cs p o).2)) ∨ (nx = p + 1 ∧ ∃ cs', cs = 39 :: cs' ∧ F = (L ++ (scn cs' (p + 1) o).1, (scn cs' (p + 1) o).2))
section
variable {F : List Tok × Int} {L : List Tok} {p nx : Nat} {cs : List Nat} {o : Int}
theorem St.zero (cs : List Nat) : St (scn cs 0 (-1)) [] 0 0 cs (-1) := .inl ⟨Nat.le_refl _, by rw [List.nil_append]⟩
theorem St.end_ (h : St F L p nx [] o) : F = (L, o) := by
  rcases h with ⟨_, h⟩ | ⟨_, cs', h, _⟩
  · rw [h, scn_nil, List.append_nil]
  · cases h
theorem St.skip {c : Nat} (h : St F L p nx (c :: cs) o) (hp : p < nx) : c = 39 ∧ St F L (p + 1) nx cs o := by
  rcases h with ⟨h, _⟩ | ⟨h1, cs', h, h2⟩
  · omega
  · cases h
    exact ⟨rfl, .inl ⟨by omega, h2⟩⟩
theorem St.pair (h : St F L p nx (39 :: 39 :: cs) o) (hp : nx ≤ p) : St F (L ++ [(39, true, (p : Int))]) (p + 1) (p + 2) (39 :: cs) o := by
  rcases h with ⟨_, h⟩ | ⟨h, _⟩
  · refine .inr ⟨rfl, cs, rfl, ?_⟩
    rw [h, scn_two, List.append_assoc]; rfl
  · omega
theorem St.opens (h : St F L p nx (39 :: cs) o) (hp : nx ≤ p) (hc : cs.head? ≠ some 39) (ho : o < 0) : St F L (p + 1) nx cs (p : Int) := by
  rcases h with ⟨_, h⟩ | ⟨h, _⟩
  · refine .inl ⟨by omega, ?_⟩
    rw [h, scn_one hc, if_pos ho]
  · omega
theorem St.close (h : St F L p nx (39 :: cs) o) (hp : nx ≤ p) (hc : cs.head? ≠ some 39) (ho : ¬ o < 0) : St F L (p + 1) nx cs (-1) := by
  rcases h with ⟨_, h⟩ | ⟨h, _⟩
  · refine .inl ⟨by omega, ?_⟩
    rw [h, scn_one hc, if_neg ho]
  · omega
theorem St.other {c : Nat} (h : St F L p nx (c :: cs) o) (hp : nx ≤ p) (hc : c ≠ 39) : St F (L ++ [((c : Int), decide (0 ≤ o), (p : Int))]) (p + (encN c).length) nx cs o := by
  rcases h with ⟨_, h⟩ | ⟨h, _⟩
  · refine .inl ⟨by omega, ?_⟩
    rw [h, scn_else hc, List.append_assoc]; rfl
  · omega
end
theorem not_pair {cs : List Nat} (h : ¬ ∃ cs', 39 :: cs = 39 :: 39 :: cs') : cs.head? ≠ some 39 := by
  intro e
  cases cs with
  | nil => cases e
  | cons c cs => cases e; exact h ⟨cs, rfl⟩
set_option maxHeartbeats 2000000 in
theorem split_c (s : ByteArray) (w : World) (hs : s.size ≤ 10000000000) (hr : rst (bts s) = []) : Calls Try.prog 31 #[.string s] w fun e w' =>
    ∃ A m c, e = .returned (.tuple #[.slice A m c, .int .i64 (scn (cps (bts s)) 0 (-1)).2]) ∧ Hid (w'.ownsRow w.heap.size 59 1 (.slice A m c) m (((scn (cps (bts s)) 0 (-1)).1.take 401).map pcV)) ∧ Hid (Below w.heap.size w w') := by
  have R0 := Lib.hid (Rem.zero hr)
  have S0 := Lib.hid (St.zero (cps (bts s)))
  generalize scn (cps (bts s)) 0 (-1) = F at *
  generalize cps (bts s) = cs0 at *
  clear hr
  generalize hg : w.heap.size = g at *
  have Hg := Lib.hid hg
  clear hg
  have B0 := Lib.hid (show Below g w w by rw [← Hg.out]; exact Below.refl _ _)
  go_enter Try.func31, Try.ntmps31
  go_wp2
  rw [Hg.out]
  go_loopw [2, 3, 4] (fun v ov nv wr => ∃ (p nx : Nat) (cs : List Nat) (L : List Tok) (o : Int) (m : Nat), Rem s p cs ∧ St F L p nx cs o ∧ ov = .int .i64 o ∧ nv = .int .i64 (nx : Int) ∧ wr.heap[g]? = some (.stringIter s p) ∧
    wr.ownsRow g 59 1 v m ((L.take 401).map pcV) ∧ Below g w wr) (fun _ _ _ wr => s.size - wr.iterPos g)
  case atStart =>
    refine ⟨0, 0, cs0, [], -1, 0, R0.out, S0.out, rfl, rfl, ?_, World.ownsRow_nil _ _ _ _, B0.out.alloc (by rw [Hg.out]; exact Nat.le_refl _) _⟩
    rw [← Hg.out]; exact heap_alloc_new w _
  case round =>
    obtain ⟨p, nx, cs, L, o, m, hr0, hs0, rfl, rfl, hit0, ho0, hb0⟩ := hrel
    have HR := Lib.hid hr0
    have HS := Lib.hid hs0
    have HIT := Lib.hid hit0
    have HO := Lib.hid ho0
    have HB := Lib.hid hb0
    have hple := hr0.1
    have hpos0 : wr.iterPos g = p := by simp [World.iterPos, hit0]
    have HPOS := Lib.hid hpos0
    have hgq : g < wr.heap.size := (Array.getElem?_eq_some_iff.1 hit0).1
    clear hr0 hs0 hit0 ho0 hb0 hpos0
    cases cs with
    | nil =>
      have hlt := HR.out.none
      have hnx := Lib.run_next_end_at (P := Try.prog) wr g s p 0 HIT.out hlt
      go_wp2
      go_ret2
      obtain ⟨A, c, hA⟩ := own_form HO.out
      subst hA
      rw [HS.out.end_]
      exact ⟨A, m, c, rfl, HO, HB⟩
    | cons c cs =>
      obtain ⟨hc, hr1, hd, hlt, hl1⟩ := HR.out.some
      have hnx := Lib.run_next_any_at (P := Try.prog) wr g s p 0 HIT.out hlt
      rw [hd] at hnx
      have HR1 := Lib.hid hr1
      have HBQ := Lib.hid (Lib.below_iterAt HB.out (Nat.le_refl g) s (p + (encN c).length))
      have HITQ := Lib.hid (Lib.iterAt_heap wr g s p (p + (encN c).length) HIT.out)
      have HOQ := Lib.hid (own_iterAt HO.out HIT.out (p + (encN c).length))
      have hqs : g < (wr.iterAt g s (p + (encN c).length)).heap.size := by rw [Lib.iterAt_size]; omega
      have hcle := isC_le hc
      clear hr1 hd
      by_cases hsk : p < nx
      · obtain ⟨h39, hs1⟩ := HS.out.skip hsk
        have HS1 := Lib.hid hs1
        subst h39
        have hL : (encN 39).length = 1 := rfl
        rw [hL] at hnx HR1 HBQ HITQ HOQ hqs
        clear hs1 hL
        generalize hW : wr.iterAt g s (p + 1) = W at *
        have HW := Lib.hid hW
        clear hW
        go_wp2
        go_roundw
        case rel =>
          refine ⟨p + 1, nx, cs, L, o, m, HR1.out, HS1.out, rfl, rfl, ?_, HOQ.out.alloc _, HBQ.out.alloc (Nat.le_of_lt hqs) _⟩
          rw [heap_alloc_old W _ hqs]; exact HITQ.out
        case measure =>
          have e1 : (W.alloc (.cells #[.int .i32 39, .int .i64 (p : Int)] 63)).iterPos g = p + 1 := by simp only [World.iterPos]; rw [heap_alloc_old W _ hqs, HITQ.out]
          rw [HPOS.out, e1]; omega
      · have hnp : nx ≤ p := Nat.le_of_not_lt hsk
        have hez : (s.extract p s.size).size ≤ 1000000000000000 := by rw [ByteArray.size_extract]; omega
        by_cases hpair : ∃ cs', c :: cs = 39 :: 39 :: cs'
        · have hpf : pfx ⟨#[39, 39]⟩ (s.extract p s.size) = true := HR.out.two.2 hpair
          obtain ⟨cs', hcs⟩ := hpair
          cases hcs
          have HS1 := Lib.hid (HS.out.pair hnp)
          have hL : (encN 39).length = 1 := rfl
          rw [hL] at hnx HR1 HBQ HITQ HOQ hqs
          clear hL
          generalize hW : wr.iterAt g s (p + 1) = W at *
          have HW := Lib.hid hW
          clear hW
          have HOA := Lib.hid (HOQ.out.alloc (.cells #[.int .i32 39, .int .i64 (p : Int)] 63))
          have HBA := Lib.hid (HBQ.out.alloc (Nat.le_of_lt hqs) (.cells #[.int .i32 39, .int .i64 (p : Int)] 63))
          have HITA := Lib.hid (show (W.alloc (.cells #[.int .i32 39, .int .i64 (p : Int)] 63)).heap[g]? = some (.stringIter s (p + 1)) by rw [heap_alloc_old W _ hqs]; exact HITQ.out)
          have hqa : g < (W.alloc (.cells #[.int .i32 39, .int .i64 (p : Int)] 63)).heap.size := by simp; omega
          go_wp2_with fail
          refine (hasPrefix_c (s.extract p s.size) ⟨#[39, 39]⟩ _ hez (by decide)).mono ?_
          rintro e w1 ⟨rfl, rfl⟩
          rw [hpf]
          go_wp2_with fail
          refine (keep_c _ w g u2 m L (39, true, (p : Int)) 65 _ rfl HOA.out (Nat.le_of_lt hqa) HBA.out).mono ?_
          rintro e w2 ⟨v2, m2, rfl, h1, h2, h3⟩
          have HIT2 := Lib.hid ((h3.out g hqa (own_iter_ne HOA.out HITA.out)).trans HITA.out)
          clear h3
          go_wp2
          go_roundw
          case rel => exact ⟨p + 1, (p + 2), (39 :: cs'), L ++ [(39, true, (p : Int))], o, m2, HR1.out, HS1.out, rfl, by go_num, HIT2.out, h1.out, h2.out⟩
          case measure =>
            have e1 : w2.iterPos g = p + 1 := by simp only [World.iterPos]; rw [HIT2.out]
            rw [HPOS.out, e1]; omega
        · have hpf : pfx ⟨#[39, 39]⟩ (s.extract p s.size) = false := by
            rw [Bool.eq_false_iff]; exact fun h => hpair (HR.out.two.1 h)
          by_cases hc39 : c = 39
          · subst hc39
            have hh := not_pair hpair
            by_cases hneg : o < 0
            · have hdo : decide (o < 0) = true := decide_eq_true hneg
              have HS1 := Lib.hid (HS.out.opens hnp hh hneg)
              have hL : (encN 39).length = 1 := rfl
              rw [hL] at hnx HR1 HBQ HITQ HOQ hqs
              clear hL
              generalize hW : wr.iterAt g s (p + 1) = W at *
              have HW := Lib.hid hW
              clear hW
              have HOA := Lib.hid (HOQ.out.alloc (.cells #[.int .i32 39, .int .i64 (p : Int)] 63))
              have HBA := Lib.hid (HBQ.out.alloc (Nat.le_of_lt hqs) (.cells #[.int .i32 39, .int .i64 (p : Int)] 63))
              have HITA := Lib.hid (show (W.alloc (.cells #[.int .i32 39, .int .i64 (p : Int)] 63)).heap[g]? = some (.stringIter s (p + 1)) by rw [heap_alloc_old W _ hqs]; exact HITQ.out)
              have hqa : g < (W.alloc (.cells #[.int .i32 39, .int .i64 (p : Int)] 63)).heap.size := by simp; omega
              go_wp2_with fail
              refine (hasPrefix_c (s.extract p s.size) ⟨#[39, 39]⟩ _ hez (by decide)).mono ?_
              rintro e w1 ⟨rfl, rfl⟩
              rw [hpf]
              go_wp2
              go_roundw
              case rel => exact ⟨p + 1, nx, cs, L, (p : Int), m, HR1.out, HS1.out, rfl, rfl, HITA.out, HOA.out, HBA.out⟩
              case measure =>
                have e1 : (W.alloc (.cells #[.int .i32 39, .int .i64 (p : Int)] 63)).iterPos g = p + 1 := by simp only [World.iterPos]; rw [HITA.out]
                rw [HPOS.out, e1]; omega
            · have hdo : decide (o < 0) = false := decide_eq_false hneg
              have HS1 := Lib.hid (HS.out.close hnp hh hneg)
              have hL : (encN 39).length = 1 := rfl
              rw [hL] at hnx HR1 HBQ HITQ HOQ hqs
              clear hL
              generalize hW : wr.iterAt g s (p + 1) = W at *
              have HW := Lib.hid hW
              clear hW
              have HOA := Lib.hid (HOQ.out.alloc (.cells #[.int .i32 39, .int .i64 (p : Int)] 63))
              have HBA := Lib.hid (HBQ.out.alloc (Nat.le_of_lt hqs) (.cells #[.int .i32 39, .int .i64 (p : Int)] 63))
              have HITA := Lib.hid (show (W.alloc (.cells #[.int .i32 39, .int .i64 (p : Int)] 63)).heap[g]? = some (.stringIter s (p + 1)) by rw [heap_alloc_old W _ hqs]; exact HITQ.out)
              have hqa : g < (W.alloc (.cells #[.int .i32 39, .int .i64 (p : Int)] 63)).heap.size := by simp; omega
              go_wp2_with fail
              refine (hasPrefix_c (s.extract p s.size) ⟨#[39, 39]⟩ _ hez (by decide)).mono ?_
              rintro e w1 ⟨rfl, rfl⟩
              rw [hpf]
              go_wp2
              go_roundw
              case rel => exact ⟨p + 1, nx, cs, L, (-1), m, HR1.out, HS1.out, rfl, rfl, HITA.out, HOA.out, HBA.out⟩
              case measure =>
                have e1 : (W.alloc (.cells #[.int .i32 39, .int .i64 (p : Int)] 63)).iterPos g = p + 1 := by simp only [World.iterPos]; rw [HITA.out]
                rw [HPOS.out, e1]; omega
          · have hb39 : ((c : Int) == 39) = false := by simp; omega
            have HS1 := Lib.hid (HS.out.other hnp hc39)
            generalize hLc : (encN c).length = LC at *
            generalize hW : wr.iterAt g s (p + LC) = W at *
            have HW := Lib.hid hW
            clear hW
            by_cases hq : 0 ≤ o
            · have hdo : decide (0 ≤ o) = true := decide_eq_true hq
              rw [hdo] at HS1
              have HOA := Lib.hid (HOQ.out.alloc (.cells #[.int .i32 (c : Int), .int .i64 (p : Int)] 63))
              have HBA := Lib.hid (HBQ.out.alloc (Nat.le_of_lt hqs) (.cells #[.int .i32 (c : Int), .int .i64 (p : Int)] 63))
              have HITA := Lib.hid (show (W.alloc (.cells #[.int .i32 (c : Int), .int .i64 (p : Int)] 63)).heap[g]? = some (.stringIter s (p + LC)) by rw [heap_alloc_old W _ hqs]; exact HITQ.out)
              have hqa : g < (W.alloc (.cells #[.int .i32 (c : Int), .int .i64 (p : Int)] 63)).heap.size := by simp; omega
              go_wp2_with fail
              refine (hasPrefix_c (s.extract p s.size) ⟨#[39, 39]⟩ _ hez (by decide)).mono ?_
              rintro e w1 ⟨rfl, rfl⟩
              rw [hpf]
              go_wp2_with fail
              refine (keep_c _ w g u2 m L ((c : Int), true, (p : Int)) 65 _ rfl HOA.out (Nat.le_of_lt hqa) HBA.out).mono ?_
              rintro e w2 ⟨v2, m2, rfl, h1, h2, h3⟩
              have HIT2 := Lib.hid ((h3.out g hqa (own_iter_ne HOA.out HITA.out)).trans HITA.out)
              clear h3
              go_wp2
              go_roundw
              case rel => exact ⟨p + LC, nx, cs, L ++ [((c : Int), true, (p : Int))], o, m2, HR1.out, HS1.out, rfl, rfl, HIT2.out, h1.out, h2.out⟩
              case measure =>
                have e1 : w2.iterPos g = p + LC := by simp only [World.iterPos]; rw [HIT2.out]
                rw [HPOS.out, e1]; omega
            · have hdo : decide (0 ≤ o) = false := decide_eq_false hq
              rw [hdo] at HS1
              have HOA := Lib.hid (HOQ.out.alloc (.cells #[.int .i32 (c : Int), .int .i64 (p : Int)] 63))
              have HBA := Lib.hid (HBQ.out.alloc (Nat.le_of_lt hqs) (.cells #[.int .i32 (c : Int), .int .i64 (p : Int)] 63))
              have HITA := Lib.hid (show (W.alloc (.cells #[.int .i32 (c : Int), .int .i64 (p : Int)] 63)).heap[g]? = some (.stringIter s (p + LC)) by rw [heap_alloc_old W _ hqs]; exact HITQ.out)
              have hqa : g < (W.alloc (.cells #[.int .i32 (c : Int), .int .i64 (p : Int)] 63)).heap.size := by simp; omega
              go_wp2_with fail
              refine (hasPrefix_c (s.extract p s.size) ⟨#[39, 39]⟩ _ hez (by decide)).mono ?_
              rintro e w1 ⟨rfl, rfl⟩
              rw [hpf]
              go_wp2_with fail
              refine (keep_c _ w g u2 m L ((c : Int), false, (p : Int)) 63 _ rfl HOA.out (Nat.le_of_lt hqa) HBA.out).mono ?_
              rintro e w2 ⟨v2, m2, rfl, h1, h2, h3⟩
              have HIT2 := Lib.hid ((h3.out g hqa (own_iter_ne HOA.out HITA.out)).trans HITA.out)
              clear h3
              go_wp2
              go_roundw
              case rel => exact ⟨p + LC, nx, cs, L ++ [((c : Int), false, (p : Int))], o, m2, HR1.out, HS1.out, rfl, rfl, HIT2.out, h1.out, h2.out⟩
              case measure =>
                have e1 : w2.iterPos g = p + LC := by simp only [World.iterPos]; rw [HIT2.out]
                rw [HPOS.out, e1]; omega
end Go.Proofs.Ytbmgdheljnbmpaa
