/-
  UE: the contracts of the document's Runes and Text, and of answers.
-/
import Derived.Test.YtfppieafdkdheaaUD
set_option maxRecDepth 100000
namespace Go.Proofs.Ytfppieafdkdheaa
open Go.RowKit
theorem refFirst_c (s : ByteArray) (w : World) (hs : s.size ≤ 1000000000000000) :
    Calls Try.prog 17 #[.string s] w fun e w' => e = .returned (.tuple #[.int .i32 (fstP (bts s)).1, .int .i64 (fstP (bts s)).2]) ∧ Below w.heap.size w w' := by
  by_cases he : s.size = 0
  · have h0 : bts s = [] := List.eq_nil_of_length_eq_zero (by rw [bts_length]; exact he)
    have hem : s.toList.isEmpty = true := by rw [isEmpty_bts]; exact decide_eq_true he
    have HV := Lib.hid (show fstP (bts s) = (0, 0) by rw [h0, fstP_none fstN_nil])
    clear h0
    go_enter Try.func17, Try.ntmps17
    go_wp2
    go_ret2
    rw [HV.out]
    exact ⟨rfl, Below.refl _ _⟩
  · have hp : 0 < s.size := by omega
    have hb : (bts s).getD 0 0 < 256 := by rw [bts_get s 0 hp]; exact s[0].toNat_lt
    by_cases h1 : (bts s).getD 0 0 < 128
    · exact first_1 s w hs hp h1
    by_cases h2 : 192 ≤ (bts s).getD 0 0
    · by_cases h3 : (bts s).getD 0 0 < 224
      · exact first_2 s w hs hp h2 h3
      by_cases h4 : (bts s).getD 0 0 < 240
      · exact first_3 s w hs hp (by omega) h4
      by_cases h5 : (bts s).getD 0 0 < 248
      · exact first_4 s w hs hp (by omega) h5
      · have HV := Lib.hid (fstP_none (fst_klass (bts_lt s) (klass_0 (.inr (by omega)))))
        have hne : s.toList.isEmpty = false := by rw [isEmpty_bts]; exact decide_eq_false he
        have hb0 : s[0].toNat = (bts s).getD 0 0 := (bts_get s 0 hp).symm
        generalize (bts s).getD 0 0 = b at *
        have g1 : ¬ (b : Int) < 128 := by omega
        have g2 : (192 : Int) ≤ (b : Int) := by omega
        have g3 : ¬ (b : Int) < 224 := by omega
        have g4 : ¬ (b : Int) < 240 := by omega
        have g5 : ¬ (b : Int) < 248 := by omega
        have g6 : (240 : Int) ≤ (b : Int) := by omega
        have g7 : (224 : Int) ≤ (b : Int) := by omega
        go_enter Try.func17, Try.ntmps17
        go_wp2
        go_ret2
        rw [HV.out]
        exact ⟨rfl, Below.refl _ _⟩
    · have HV := Lib.hid (fstP_none (fst_klass (bts_lt s) (klass_0 (.inl ⟨by omega, by omega⟩))))
      have hne : s.toList.isEmpty = false := by rw [isEmpty_bts]; exact decide_eq_false he
      have hb0 : s[0].toNat = (bts s).getD 0 0 := (bts_get s 0 hp).symm
      generalize (bts s).getD 0 0 = b at *
      have g1 : ¬ (b : Int) < 128 := by omega
      have g2 : ¬ (192 : Int) ≤ (b : Int) := by omega
      have g6 : ¬ (240 : Int) ≤ (b : Int) := by omega
      have g7 : ¬ (224 : Int) ≤ (b : Int) := by omega
      go_enter Try.func17, Try.ntmps17
      go_wp2
      go_ret2
      rw [HV.out]
      exact ⟨rfl, Below.refl _ _⟩
theorem nats_take_succ (zs : List Int) (k : Nat) (hk : k < zs.length) : nats (zs.take (k + 1)) = nats (zs.take k) ++ [(zs.getD k 0).toNat] := by
  rw [nats, List.take_succ_eq_append_getElem hk, List.map_append, List.getD, List.getElem?_eq_getElem hk]
  rfl
theorem all_take {zs : List Int} (h : zs.all isZ = true) (k : Nat) : (zs.take k).all isZ = true := List.all_eq_true.2 fun z hz => List.all_eq_true.1 h z (List.mem_of_mem_take hz)
set_option maxHeartbeats 1000000 in
theorem refText_c (A : Option Addr) (n c : Nat) (zs : List Int) (w : World) (h : Rns w A n zs) (hn : n ≤ 1000000000) (hz : zs.all isZ = true) : Calls Try.prog 21 #[.slice A n c] w fun e w' =>
    e = .returned (.string (stz (encs (nats zs)))) ∧ Below w.heap.size w w' := by
  have HL := Lib.hid h.len
  have H := Lib.hid h
  have HZ := Lib.hid hz
  clear h hz
  generalize hg : w.heap.size = g at *
  have Hg := Lib.hid hg
  clear hg
  have B0 := Lib.hid (show Below g w w by rw [← Hg.out]; exact Below.refl _ _)
  go_enter Try.func21, Try.ntmps21
  go_wp2
  go_loopw [3, 4] (fun v iv wr => ∃ (k : Nat) (bs : List Nat), k ≤ n ∧ iv = .int .i64 (k : Int) ∧ bs = encs (nats (zs.take k)) ∧ wr.ownsRow g 5 1 v bs.length (u8s bs) ∧ Below g w wr) (fun _ iv _ => n - (intOf iv).toNat)
  case atStart => exact ⟨0, [], Nat.zero_le _, rfl, rfl, World.ownsRow_nil _ _ _ _, B0.out⟩
  case round =>
    obtain ⟨k, bs, hk, rfl, hbs0, ho0, hb0⟩ := hrel
    have HBS := Lib.hid hbs0
    have HO := Lib.hid ho0
    have HB := Lib.hid hb0
    have hgs : g ≤ wr.heap.size := by have := hb0.size; have := Hg.out; omega
    have hbl : bs.length ≤ 4 * k := by
      rw [hbs0]
      refine Nat.le_trans (encs_len4 _) ?_
      rw [nats, List.length_map, List.length_take]
      omega
    have HR := Lib.hid (H.out.below (w' := wr) (by rw [Hg.out]; exact hb0))
    clear hbs0 ho0 hb0
    by_cases hlt : k < n
    · obtain ⟨ad, rfl, _, hc, _, _⟩ := HR.out.at_ hlt
      have hzk : isZ (zs.getD k 0) = true := List.all_eq_true.1 HZ.out _ (getD_mem (by rw [HL.out]; exact hlt))
      have HST := Lib.hid (nats_take_succ zs k (by rw [HL.out]; exact hlt))
      have hnn := (isZ_iff.1 hzk).1
      obtain ⟨x, hx⟩ : ∃ x : Nat, zs.getD k 0 = (x : Int) := ⟨(zs.getD k 0).toNat, by omega⟩
      rw [hx, Int.toNat_natCast] at HST
      rw [hx] at hc hzk
      rw [isZ_nat] at hzk
      have HXC := Lib.hid hzk
      clear hx hzk hnn
      go_wp2_with fail
      refine (refBytes_c x _ HXC.out).mono ?_
      rintro e w1 ⟨A1, m1, c1, rfl, ho1, hm1, hb1⟩
      have HB1 := Lib.hid (HB.out.trans (hb1.mono hgs))
      have HO1 := Lib.hid (own_kept HO.out hb1 rfl)
      have HOB := Lib.hid ho1
      have hgs1 : g ≤ w1.heap.size := by have := hb1.size; omega
      have hm1p : 0 < m1 := by rw [hm1]; exact encN_pos x
      have hm14 : m1 ≤ 4 := by rw [hm1]; exact encN_le x
      have HM1 := Lib.hid hm1
      clear ho1 hb1 hm1
      go_wp2_with (at_builtin; go_must (refine wpList_app_bytes rfl (.tmp 11) (.tmp 16) _ rfl Try.underlying31 g u3 bs.length _ rfl HO1.out A1 m1 c1 _ _ rfl HOB.out hm1p (by omega) HB1.out hgs1 ?_))
      intro v' w' ho2 hb2
      go_wp2
      go_roundw
      case rel =>
        refine ⟨k + 1, bs ++ encN x, by omega, by go_num, ?_, ?_, hb2.out⟩
        · rw [HST.out, encs_append, encs_one, ← HBS.out]
        · rw [List.length_append, ← HM1.out]; exact ho2.out
      case measure => simp [intOf]; omega
    · have hall : bs = encs (nats zs) := by rw [HBS.out, List.take_of_length_le (by rw [HL.out]; omega)]
      have hcv := conv_own_stz HO.out (by rw [hall]; exact encs_lt (allC_nats HZ.out))
      rw [hall] at hcv
      clear hall
      go_wp2
      go_ret
      exact ⟨rfl, HB.out⟩
end Go.Proofs.Ytfppieafdkdheaa
