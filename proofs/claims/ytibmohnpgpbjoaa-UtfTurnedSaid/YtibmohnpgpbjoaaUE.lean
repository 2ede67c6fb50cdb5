/-
  UE: the contracts of the document's Runes and Text, and of answers.
-/
import Derived.Test.YtibmohnpgpbjoaaUD
set_option maxRecDepth 100000
namespace Go.Proofs.Ytibmohnpgpbjoaa
open Go.RowKit
theorem refFirst_c (s : ByteArray) (w : World) (hs : s.size ≤ 1000000000000000) :
    Calls Try.prog 19 #[.string s] w fun e w' => e = .returned (.tuple #[.int .i32 (fstP (bts s)).1, .int .i64 (fstP (bts s)).2]) ∧ Below w.heap.size w w' := by
  by_cases he : s.size = 0
  · have h0 : bts s = [] := List.eq_nil_of_length_eq_zero (by rw [bts_length]; exact he)
    have hem : s.toList.isEmpty = true := by rw [isEmpty_bts]; exact decide_eq_true he
    have HV := Lib.hid (show fstP (bts s) = (0, 0) by rw [h0, fstP_none fstN_nil])
    clear h0
    go_enter Try.func19, Try.ntmps19
    go_wp2
    go_ret2
    rw [HV.out]
    exact ⟨rfl, Below.refl _ _⟩
  · have hp : 0 < s.size := by omega
    have hb : (bts s).getD 0 0 < 256 := by rw [bts_get s 0 hp]; exact s[0].toNat_lt
    by_cases h1 : (bts s).getD 0 0 < 128
    · exact first_1 s w hs hp h1
    by_cases h2 : 192 ≤ (bts s).getD 0 0
    · by_cases h3 : (bts s).getD 0 0 < 224
      · exact first_2 s w hs hp h2 h3
      by_cases h4 : (bts s).getD 0 0 < 240
      · exact first_3 s w hs hp (by omega) h4
      by_cases h5 : (bts s).getD 0 0 < 248
      · exact first_4 s w hs hp (by omega) h5
      · have HV := Lib.hid (fstP_none (fst_klass (bts_lt s) (klass_0 (.inr (by omega)))))
        have hne : s.toList.isEmpty = false := by rw [isEmpty_bts]; exact decide_eq_false he
        have hb0 : s[0].toNat = (bts s).getD 0 0 := (bts_get s 0 hp).symm
        generalize (bts s).getD 0 0 = b at *
        have g1 : ¬ (b : Int) < 128 := by omega
        have g2 : (192 : Int) ≤ (b : Int) := by omega
        have g3 : ¬ (b : Int) < 224 := by omega
        have g4 : ¬ (b : Int) < 240 := by omega
        have g5 : ¬ (b : Int) < 248 := by omega
        have g6 : (240 : Int) ≤ (b : Int) := by omega
        have g7 : (224 : Int) ≤ (b : Int) := by omega
        go_enter Try.func19, Try.ntmps19
        go_wp2
        go_ret2
        rw [HV.out]
        exact ⟨rfl, Below.refl _ _⟩
    · have HV := Lib.hid (fstP_none (fst_klass (bts_lt s) (klass_0 (.inl ⟨by omega, by omega⟩))))
      have hne : s.toList.isEmpty = false := by rw [isEmpty_bts]; exact decide_eq_false he
      have hb0 : s[0].toNat = (bts s).getD 0 0 := (bts_get s 0 hp).symm
      generalize (bts s).getD 0 0 = b at *
      have g1 : ¬ (b : Int) < 128 := by omega
      have g2 : ¬ (192 : Int) ≤ (b : Int) := by omega
      have g6 : ¬ (240 : Int) ≤ (b : Int) := by omega
      have g7 : ¬ (224 : Int) ≤ (b : Int) := by omega
      go_enter Try.func19, Try.ntmps19
      go_wp2
      go_ret2
      rw [HV.out]
      exact ⟨rfl, Below.refl _ _⟩
set_option maxHeartbeats 1000000 in
theorem refRunes_c (s : ByteArray) (w : World) (hs : s.size ≤ 10000000000) : Calls Try.prog 9 #[.string s] w fun e w' =>
    ∃ A m c, e = .returned (.tuple #[.slice A m c, .int .i64 (badZ (bts s))]) ∧ OwnR w' w.heap.size A m c (ints (pts (bts s))) ∧ Below w.heap.size w w' := by
  generalize hg : w.heap.size = g at *
  have Hg := Lib.hid hg
  clear hg
  have B0 := Lib.hid (show Below g w w by rw [← Hg.out]; exact Below.refl _ _)
  go_enter Try.func9, Try.ntmps9
  go_wp2
  go_loopw [4, 5, 6, 7] (fun v pv _ _ wr => ∃ (p : Nat) (cs : List Nat), Upto s p cs ∧ pv = .int .i64 (p : Int) ∧ wr.ownsRow g 21 1 v cs.length (i32s (ints cs)) ∧ Below g w wr) (fun _ pv _ _ _ => s.size - (intOf pv).toNat)
  case atStart => exact ⟨0, [], Upto.zero s, rfl, World.ownsRow_nil _ _ _ _, B0.out⟩
  case round =>
    obtain ⟨p, cs, hu0, rfl, ho0, hb0⟩ := hrel
    have HU := Lib.hid hu0
    have HO := Lib.hid ho0
    have HB := Lib.hid hb0
    have hple := hu0.1
    have hcl := hu0.count
    have hgs : g ≤ wr.heap.size := by have := hb0.size; have := Hg.out; omega
    clear hu0 ho0 hb0
    by_cases hlt : p < s.size
    · have hez : (s.extract p s.size).size ≤ 1000000000000000 := by rw [ByteArray.size_extract]; omega
      have HC := Lib.hid (refFirst_c (s.extract p s.size) wr hez)
      rw [bts_from] at HC
      rcases hf : fstN ((bts s).drop p) with _ | c
      · rw [fstP_none hf] at HC
        have HF := Lib.hid hf
        clear hf
        go_wp2_with fail
        refine HC.out.mono ?_
        rintro e w1 ⟨rfl, hb⟩
        have HB1 := Lib.hid (HB.out.trans (hb.mono hgs))
        clear hb HC
        go_wp2
        go_ret2
        obtain ⟨_, hne, hbad⟩ := HU.out.here hlt HF.out
        rw [hbad, (rgt_false hne).2]
        exact ⟨_, _, _, rfl, ownR_nil _ _, HB1.out⟩
      · obtain ⟨hc, hu1, _, hw1⟩ := HU.out.step hf
        rw [fstP_some hf] at HC
        have HU1 := Lib.hid hu1
        have hple1 := hu1.1
        have hcle := isC_le hc
        clear hu1 hf
        have hnz : ¬ ((encN c).length : Int) = 0 := by omega
        generalize hL : (encN c).length = L at *
        go_wp2_with fail
        refine HC.out.mono ?_
        rintro e w1 ⟨rfl, hb⟩
        have HB1 := Lib.hid (HB.out.trans (hb.mono hgs))
        have HO1 := Lib.hid (own_kept HO.out hb rfl)
        have hgs1 : g ≤ w1.heap.size := by have := hb.size; omega
        clear hb HC
        go_wp2_with (at_builtin; go_must (refine wpList_app_i32 rfl (.tmp 22) (.tmp 24) _ rfl Try.underlying23 g u4 cs.length _ rfl HO1.out _ rfl (c : Int) rfl (by omega) HB1.out hgs1 ?_))
        intro v' w' ho1 hb1 _
        go_wp2
        go_roundw
        case rel =>
          refine ⟨_, _, HU1.out, by go_num, ?_, hb1.out⟩
          rw [ints_append, List.length_append]; exact ho1.out
        case measure => simp [intOf]; omega
    · go_wp2
      go_ret2
      obtain ⟨A, c, hA⟩ := own_form HO.out
      subst hA
      have hE := HU.out.end_ hlt
      rw [hE.2.2, (rgt_true hE.2.1).2, hE.1]
      refine ⟨A, _, c, rfl, ⟨HO.out, by omega, fun z hz => ?_⟩, HB.out⟩
      have := ints_range HU.out.2.1 z hz
      omega
theorem nats_take_succ (zs : List Int) (k : Nat) (hk : k < zs.length) : nats (zs.take (k + 1)) = nats (zs.take k) ++ [(zs.getD k 0).toNat] := by
  rw [nats, List.take_succ_eq_append_getElem hk, List.map_append, List.getD, List.getElem?_eq_getElem hk]
  rfl
theorem all_take {zs : List Int} (h : zs.all isZ = true) (k : Nat) : (zs.take k).all isZ = true := List.all_eq_true.2 fun z hz => List.all_eq_true.1 h z (List.mem_of_mem_take hz)
set_option maxHeartbeats 1000000 in
theorem refText_c (A : Option Addr) (n c : Nat) (zs : List Int) (w : World) (h : Rns w A n zs) (hn : n ≤ 1000000000) (hz : zs.all isZ = true) : Calls Try.prog 17 #[.slice A n c] w fun e w' =>
    e = .returned (.string (stz (encs (nats zs)))) ∧ Below w.heap.size w w' := by
  have HL := Lib.hid h.len
  have H := Lib.hid h
  have HZ := Lib.hid hz
  clear h hz
  generalize hg : w.heap.size = g at *
  have Hg := Lib.hid hg
  clear hg
  have B0 := Lib.hid (show Below g w w by rw [← Hg.out]; exact Below.refl _ _)
  go_enter Try.func17, Try.ntmps17
  go_wp2
  go_loopw [3, 4] (fun v iv wr => ∃ (k : Nat) (bs : List Nat), k ≤ n ∧ iv = .int .i64 (k : Int) ∧ bs = encs (nats (zs.take k)) ∧ wr.ownsRow g 5 1 v bs.length (u8s bs) ∧ Below g w wr) (fun _ iv _ => n - (intOf iv).toNat)
  case atStart => exact ⟨0, [], Nat.zero_le _, rfl, rfl, World.ownsRow_nil _ _ _ _, B0.out⟩
  case round =>
    obtain ⟨k, bs, hk, rfl, hbs0, ho0, hb0⟩ := hrel
    have HBS := Lib.hid hbs0
    have HO := Lib.hid ho0
    have HB := Lib.hid hb0
    have hgs : g ≤ wr.heap.size := by have := hb0.size; have := Hg.out; omega
    have hbl : bs.length ≤ 4 * k := by
      rw [hbs0]
      refine Nat.le_trans (encs_len4 _) ?_
      rw [nats, List.length_map, List.length_take]
      omega
    have HR := Lib.hid (H.out.below (w' := wr) (by rw [Hg.out]; exact hb0))
    clear hbs0 ho0 hb0
    by_cases hlt : k < n
    · obtain ⟨ad, rfl, _, hc, _, _⟩ := HR.out.at_ hlt
      have hzk : isZ (zs.getD k 0) = true := List.all_eq_true.1 HZ.out _ (getD_mem (by rw [HL.out]; exact hlt))
      have HST := Lib.hid (nats_take_succ zs k (by rw [HL.out]; exact hlt))
      have hnn := (isZ_iff.1 hzk).1
      obtain ⟨x, hx⟩ : ∃ x : Nat, zs.getD k 0 = (x : Int) := ⟨(zs.getD k 0).toNat, by omega⟩
      rw [hx, Int.toNat_natCast] at HST
      rw [hx] at hc hzk
      rw [isZ_nat] at hzk
      have HXC := Lib.hid hzk
      clear hx hzk hnn
      go_wp2_with fail
      refine (refBytes_c x _ HXC.out).mono ?_
      rintro e w1 ⟨A1, m1, c1, rfl, ho1, hm1, hb1⟩
      have HB1 := Lib.hid (HB.out.trans (hb1.mono hgs))
      have HO1 := Lib.hid (own_kept HO.out hb1 rfl)
      have HOB := Lib.hid ho1
      have hgs1 : g ≤ w1.heap.size := by have := hb1.size; omega
      have hm1p : 0 < m1 := by rw [hm1]; exact encN_pos x
      have hm14 : m1 ≤ 4 := by rw [hm1]; exact encN_le x
      have HM1 := Lib.hid hm1
      clear ho1 hb1 hm1
      go_wp2_with (at_builtin; go_must (refine wpList_app_bytes rfl (.tmp 11) (.tmp 16) _ rfl Try.underlying38 g u3 bs.length _ rfl HO1.out A1 m1 c1 _ _ rfl HOB.out hm1p (by omega) HB1.out hgs1 ?_))
      intro v' w' ho2 hb2
      go_wp2
      go_roundw
      case rel =>
        refine ⟨k + 1, bs ++ encN x, by omega, by go_num, ?_, ?_, hb2.out⟩
        · rw [HST.out, encs_append, encs_one, ← HBS.out]
        · rw [List.length_append, ← HM1.out]; exact ho2.out
      case measure => simp [intOf]; omega
    · have hall : bs = encs (nats zs) := by rw [HBS.out, List.take_of_length_le (by rw [HL.out]; omega)]
      have hcv := conv_own_stz HO.out (by rw [hall]; exact encs_lt (allC_nats HZ.out))
      rw [hall] at hcv
      clear hall
      go_wp2
      go_ret
      exact ⟨rfl, HB.out⟩
set_option maxHeartbeats 1000000 in
theorem answers11_c (w : World) : Calls Try.prog 8 #[] w fun e w' => e = .returned (.bool true) ∧ Below w.heap.size w w' := by
  have e1 : rgt (bts ⟨#[97, 226, 130, 172]⟩) = true := by decide +kernel
  have e2 : pts (bts ⟨#[97, 226, 130, 172]⟩) = [97, 8364] := by decide +kernel
  have e3 : badZ (bts ⟨#[97, 226, 130]⟩) = 1 := by decide +kernel
  have e4 : badZ (bts ⟨#[97]⟩) = -1 := by decide +kernel
  have e5 : txtZ [8364] = ⟨#[226, 130, 172]⟩ := by decide +kernel
  have e6 : [(8364 : Int)].all isZ = true := by decide +kernel
  have e7 : isZ 97 = true := by decide +kernel
  have e8 : isZ 55296 = false := by decide +kernel
  have C1 := Lib.hid (utfRunes_c ⟨#[97, 226, 130, 172]⟩ w (by decide))
  have C3 := Lib.hid (fun W => utfBad_c ⟨#[97, 226, 130]⟩ W (by decide))
  have C4 := Lib.hid (fun W => utfBad_c ⟨#[97]⟩ W (by decide))
  have C5 := Lib.hid (fun W => utfCount_c ⟨#[97, 226, 130, 172]⟩ W (by decide))
  have C6 := Lib.hid (fun W => utfScalar_c 97 W)
  have C7 := Lib.hid (fun W => utfScalar_c 55296 W)
  rw [e1, e2] at C1
  rw [e3] at C3
  rw [e4] at C4
  rw [e2] at C5
  rw [e7] at C6
  rw [e8] at C7
  have E5 := Lib.hid e5
  have E6 := Lib.hid e6
  clear e1 e2 e3 e4 e5 e6 e7 e8
  go_enter Try.func8, Try.ntmps8
  go_wp2_with fail
  refine C1.out.mono ?_
  rintro e w1 ⟨A1, m1, c1, rfl, ho1, hb1⟩
  have hm1 : m1 = 2 := ho1.len.symm
  subst hm1
  have B1 := Lib.hid hb1
  have R1 := Lib.hid ho1.rns
  clear ho1 hb1
  go_wp2_with fail
  have R2 : Rns (w1.alloc (.cells #[.int .i32 8364] 21)) (some ⟨w1.heap.size, 0, none⟩) 1 [8364] := by
    refine ⟨⟨rfl, fun _ => ⟨_, rfl, by show w1.heap.size < (w1.heap.push _).size; rw [Array.size_push]; omega, cells_one w1 _ _⟩⟩, by omega, fun z hz => by rw [List.mem_singleton.1 hz]; omega⟩
  refine (utfText_c _ 1 1 [8364] _ R2).mono ?_
  rw [E5.out, E6.out]
  rintro e w2 ⟨rfl, rfl⟩
  have B2 := Lib.hid (B1.out.alloc B1.out.size (.cells #[.int .i32 8364] 21))
  obtain ⟨ad, rfl, _, hc1, _, _⟩ := (R1.out.below ((Below.refl _ w1).alloc (Nat.le_refl _) (.cells #[.int .i32 8364] 21))).at_ (k := 1) (by omega)
  clear R2
  have hc1' : (w1.alloc (.cells #[.int .i32 8364] 21)).cell? ⟨ad.block, ad.off + 1, none⟩ = some (.int .i32 8364) := by have h := hc1; rw [show ad.add 1 = ⟨ad.block, ad.off + 1, none⟩ from rfl] at h; exact h
  clear hc1
  go_wp2_with fail
  refine (C3.out _).mono ?_
  rintro e w3 ⟨rfl, hb3⟩
  have B3 := Lib.hid (B2.out.trans (hb3.mono B2.out.size))
  clear hb3
  go_wp2_with fail
  refine (C4.out _).mono ?_
  rintro e w4 ⟨rfl, hb4⟩
  have B4 := Lib.hid (B3.out.trans (hb4.mono B3.out.size))
  clear hb4
  go_wp2_with fail
  refine (C5.out _).mono ?_
  rintro e w5 ⟨rfl, hb5⟩
  have B5 := Lib.hid (B4.out.trans (hb5.mono B4.out.size))
  clear hb5
  go_wp2_with fail
  refine (C6.out _).mono ?_
  rintro e w6 ⟨rfl, rfl⟩
  go_wp2_with fail
  refine (C7.out _).mono ?_
  rintro e w7 ⟨rfl, rfl⟩
  go_wp2
  go_ret
  exact ⟨rfl, B5.out⟩
end Go.Proofs.Ytibmohnpgpbjoaa
