/-
  YF: the document's text of items; the symbols that are known best; the law's answers.
-/
import Derived.Test.YtljgpdghpkpffaaYE
set_option maxRecDepth 100000
namespace Go.Proofs.Ytljgpdghpkpffaa
open Go.RowKit Go.ChangeMaps
set_option maxHeartbeats 4000000 in
theorem refText18_c (z : Int) (d g mi pl pc pm cu e : ByteArray) (A : Option Addr) (n c : Nat) (is : List Itm) (w : World) (h : Its w A n is) (hn : n ≤ 200) (hs : ∀ j, j < 5 → (tx5 mi pl pc pm cu j).size ≤ 1000) (hm : is.all mayI = true) :
    Calls Try.prog 13 #[.agg #[.int .i32 z, .string d, .string g, .string mi, .string pl, .string pc, .string pm, .string cu, .string e], .slice A n c] w fun e' w' =>
    e' = .returned (.string (stz (txI (tx5 mi pl pc pm cu) is))) ∧ Hid (Below w.heap.size w w') := by
  have HLn := Lib.hid h.len
  have HM := Lib.hid hm
  have HX : Hid (BXS (w.alloc (.cells #[.int .i32 z, .string d, .string g, .string mi, .string pl, .string pc, .string pm, .string cu, .string e] 23)) w.heap.size z d g mi pl pc pm cu e) := Lib.hid (BX.new _ _ _)
  have hB : Below w.heap.size w (w.alloc (.cells #[.int .i32 z, .string d, .string g, .string mi, .string pl, .string pc, .string pm, .string cu, .string e] 23)) := (Below.refl _ _).alloc (Nat.le_refl _) _
  have HGW := Lib.hid hB.size
  have HI := Lib.hid (h.below hB)
  have HB0 := Lib.hid hB
  clear h hB hm
  go_enter Try.func13, Try.ntmps13
  go_upto_region 1 with fail
  generalize w.alloc (.cells #[.int .i32 z, .string d, .string g, .string mi, .string pl, .string pc, .string pm, .string cu, .string e] 23) = W0 at *
  generalize hG : w.heap.size = G at *
  have HG := Lib.hid hG
  clear hG
  go_wp2
  go_loopw [5, 6] (fun sv iv wr => ∃ k : Nat, k ≤ n ∧ iv = .int .i64 (k : Int) ∧ sv = .string (stz (txI (tx5 mi pl pc pm cu) (is.take k))) ∧ Below W0.heap.size W0 wr) (fun _ iv _ => n - (intOf iv).toNat)
  case atStart => exact ⟨0, Nat.zero_le _, rfl, rfl, Below.refl _ _⟩
  case round =>
    obtain ⟨k, hk, rfl, rfl, hb0⟩ := hrel
    have HB := Lib.hid hb0
    have HT := Lib.hid (HI.out.below hb0)
    have HXr := Lib.hid (HX.out.below hb0 HX.out.lt)
    clear hb0
    by_cases hlt : k < n
    · have gi : decide ((k : Int) < (n : Int)) = true := decide_eq_true (by omega)
      have hks : k < is.length := by rw [HLn.out]; exact hlt
      obtain ⟨ad, rfl, hab, x0, x1, _⟩ := HT.out.at_ hlt
      have HTK := Lib.hid (txI_take (tx := tx5 mi pl pc pm cu) hks)
      have HTL := Lib.hid (txI_len (tx := tx5 mi pl pc pm cu) hs (may_take HM.out k)).1
      have hll : (stz (txI (tx5 mi pl pc pm cu) (is.take k))).size ≤ 1000000 := by
        have := HTL.out
        rw [List.length_take] at this
        rw [stz_size]
        omega
      rcases mayI_cases (may_im HM.out hks) with ⟨x, hx, he⟩ | ⟨j, hj, he⟩
      · rw [he] at x0 x1 HTK
        rw [itT_lit] at HTK
        dsimp only at x0 x1
        have HTS : Hid (stz (txI (tx5 mi pl pc pm cu) (is.take (k + 1))) = stz (txI (tx5 mi pl pc pm cu) (is.take k)) ++ stz (encN x)) := Lib.hid (by rw [HTK.out, stz_append])
        have HC := Lib.hid (fun (W : World) => refBytes_c x W hx)
        have HLt := Lib.hid (encN_lt hx)
        have hle := encN_le x
        have hez : (stz (encN x)).size ≤ 4 := by rw [stz_size]; exact hle
        generalize stz (txI (tx5 mi pl pc pm cu) (is.take k)) = T at *
        clear he hx HTL HTK
        go_wp2_with (first
          | (go_at_call 27; refine (HC.out _).mono ?_; rintro e3 w3 ⟨A3, m3, c3, rfl, ho3, hm3, hb3⟩; have hcv := conv_own_stz ho3 HLt.out; clear ho3 hm3)
          | fail)
        go_roundw
        case rel => exact ⟨k + 1, by omega, by go_num, by rw [HTS.out], HB.out.trans (hb3.mono HB.out.size)⟩
        case measure => simp [intOf]; omega
      · rw [he] at x0 x1 HTK
        rw [itT_sign] at HTK
        dsimp only at x0 x1
        have HTS : Hid (stz (txI (tx5 mi pl pc pm cu) (is.take (k + 1))) = stz (txI (tx5 mi pl pc pm cu) (is.take k)) ++ tx5 mi pl pc pm cu j) := Lib.hid (by rw [HTK.out, stz_append, stz_bts])
        have hsj := hs j hj
        generalize stz (txI (tx5 mi pl pc pm cu) (is.take k)) = T at *
        clear he HTL HTK
        obtain rfl | rfl | rfl | rfl | rfl : j = 0 ∨ j = 1 ∨ j = 2 ∨ j = 3 ∨ j = 4 := by omega
        · have x0 : wr.cell? (ad.add (k * 2)) = some (.int .i64 2) := x0
          have d0 := HXr.out.c 3
          change (mi : ByteArray).size ≤ 1000 at hsj
          go_wp2
          go_roundw
          case rel => exact ⟨k + 1, by omega, by go_num, by rw [HTS.out]; rfl, HB.out⟩
          case measure => simp [intOf]; omega
        · have x0 : wr.cell? (ad.add (k * 2)) = some (.int .i64 3) := x0
          have d0 := HXr.out.c 4
          change (pl : ByteArray).size ≤ 1000 at hsj
          go_wp2
          go_roundw
          case rel => exact ⟨k + 1, by omega, by go_num, by rw [HTS.out]; rfl, HB.out⟩
          case measure => simp [intOf]; omega
        · have x0 : wr.cell? (ad.add (k * 2)) = some (.int .i64 4) := x0
          have d0 := HXr.out.c 5
          change (pc : ByteArray).size ≤ 1000 at hsj
          go_wp2
          go_roundw
          case rel => exact ⟨k + 1, by omega, by go_num, by rw [HTS.out]; rfl, HB.out⟩
          case measure => simp [intOf]; omega
        · have x0 : wr.cell? (ad.add (k * 2)) = some (.int .i64 5) := x0
          have d0 := HXr.out.c 6
          change (pm : ByteArray).size ≤ 1000 at hsj
          go_wp2
          go_roundw
          case rel => exact ⟨k + 1, by omega, by go_num, by rw [HTS.out]; rfl, HB.out⟩
          case measure => simp [intOf]; omega
        · have x0 : wr.cell? (ad.add (k * 2)) = some (.int .i64 6) := x0
          have d0 := HXr.out.c 7
          change (cu : ByteArray).size ≤ 1000 at hsj
          go_wp2
          go_roundw
          case rel => exact ⟨k + 1, by omega, by go_num, by rw [HTS.out]; rfl, HB.out⟩
          case measure => simp [intOf]; omega
    · obtain rfl : k = n := by omega
      have gi : decide ((k : Int) < (k : Int)) = false := decide_eq_false (by omega)
      have hte : is.take k = is := List.take_of_length_le (by rw [HLn.out]; exact Nat.le_refl _)
      rw [hte]
      clear hte hlt
      go_wp2
      go_ret
      exact ⟨rfl, Lib.hid (by rw [HG.out]; exact HB0.out.trans (HB.out.mono HGW.out))⟩
theorem its_lit1 (W : World) (k r : Int) (h : RI (k, r)) : Its (W.alloc (.cells #[.int .i64 k, .int .i32 r] 34)) (some ⟨W.heap.size, 0, none⟩) 1 [(k, r)] :=
  OwnI.its (base := W.heap.size) (c := 1) ⟨World.ownsRow_lit (size := 2) W #[.int .i64 k, .int .i32 r] 1 (Nat.le_refl _) (by unfold maxLen; omega) rfl, by decide, fun i hi => by rw [List.mem_singleton] at hi; subst hi; exact h⟩
theorem its_lit2 (W : World) (k r k' r' : Int) (h : RI (k, r)) (h' : RI (k', r')) : Its (W.alloc (.cells #[.int .i64 k, .int .i32 r, .int .i64 k', .int .i32 r'] 34)) (some ⟨W.heap.size, 0, none⟩) 2 [(k, r), (k', r')] :=
  OwnI.its (base := W.heap.size) (c := 2) ⟨World.ownsRow_lit (size := 2) W #[.int .i64 k, .int .i32 r, .int .i64 k', .int .i32 r'] 2 (Nat.le_refl _) (by unfold maxLen; omega) rfl, by decide, fun i hi => by
    rcases List.mem_cons.1 hi with rfl | hi
    · exact h
    · rw [List.mem_singleton] at hi; subst hi; exact h'⟩
set_option maxHeartbeats 2000000 in
theorem latin_c (w : World) : Calls Try.prog 14 #[] w fun e w' => e = .returned (.agg #[.int .i32 48, .string ⟨#[46]⟩, .string ⟨#[44]⟩, .string ⟨#[45]⟩, .string ⟨#[43]⟩, .string ⟨#[37]⟩, .string ⟨#[226, 128, 176]⟩, .string ⟨#[194, 164]⟩, .string ⟨#[69]⟩]) ∧ Hid (Below w.heap.size w w') := by
  have HN := Lib.hid (BX.new w #[.int .i32 48, .string ⟨#[46]⟩, .string ⟨#[44]⟩, .string ⟨#[45]⟩, .string ⟨#[43]⟩, .string ⟨#[37]⟩, .string ⟨#[226, 128, 176]⟩, .string ⟨#[194, 164]⟩, .string ⟨#[69]⟩] 23)
  have HB := Lib.hid ((Below.refl w.heap.size w).alloc (Nat.le_refl _) (.cells #[.int .i32 48, .string ⟨#[46]⟩, .string ⟨#[44]⟩, .string ⟨#[45]⟩, .string ⟨#[43]⟩, .string ⟨#[37]⟩, .string ⟨#[226, 128, 176]⟩, .string ⟨#[194, 164]⟩, .string ⟨#[69]⟩] 23))
  go_enter Try.func14, Try.ntmps14
  go_wp2
  generalize w.alloc (.cells #[.int .i32 48, .string ⟨#[46]⟩, .string ⟨#[44]⟩, .string ⟨#[45]⟩, .string ⟨#[43]⟩, .string ⟨#[37]⟩, .string ⟨#[226, 128, 176]⟩, .string ⟨#[194, 164]⟩, .string ⟨#[69]⟩] 23) = W2 at *
  have d0 := HN.out.c 0
  have d1 := HN.out.c 1
  have d2 := HN.out.c 2
  have d3 := HN.out.c 3
  have d4 := HN.out.c 4
  have d5 := HN.out.c 5
  have d6 := HN.out.c 6
  have d7 := HN.out.c 7
  have d8 := HN.out.c 8
  exact bodyPost_ret (v := .agg #[.int .i32 48, .string ⟨#[46]⟩, .string ⟨#[44]⟩, .string ⟨#[45]⟩, .string ⟨#[43]⟩, .string ⟨#[37]⟩, .string ⟨#[226, 128, 176]⟩, .string ⟨#[194, 164]⟩, .string ⟨#[69]⟩]) (by simp [results, Try.results14, go_sem, d0, d1, d2, d3, d4, d5, d6, d7, d8]) rfl ⟨rfl, HB⟩
theorem lat_good : goodS 48 (tx8 ⟨#[46]⟩ ⟨#[44]⟩ ⟨#[45]⟩ ⟨#[43]⟩ ⟨#[37]⟩ ⟨#[226, 128, 176]⟩ ⟨#[194, 164]⟩ ⟨#[69]⟩) = true := by decide +kernel
theorem nil_good : goodS 0 (tx8 ⟨#[]⟩ ⟨#[]⟩ ⟨#[]⟩ ⟨#[]⟩ ⟨#[]⟩ ⟨#[]⟩ ⟨#[]⟩ ⟨#[]⟩) = false := by decide +kernel
theorem lat_text : stz (if [(1, 97), (2, 0)].all mayI then txI (tx5 ⟨#[45]⟩ ⟨#[43]⟩ ⟨#[37]⟩ ⟨#[226, 128, 176]⟩ ⟨#[194, 164]⟩) [(1, 97), (2, 0)] else []) = ⟨#[97, 45]⟩ := by decide +kernel
theorem lat_size : ∀ j, j < 5 → (tx5 ⟨#[45]⟩ ⟨#[43]⟩ ⟨#[37]⟩ ⟨#[226, 128, 176]⟩ ⟨#[194, 164]⟩ j).size ≤ 1000 := by decide +kernel
set_option maxHeartbeats 4000000 in
theorem answers18_c (w : World) : Calls Try.prog 8 #[] w fun e w' => e = .returned (.bool true) ∧ Hid (Below w.heap.size w w') := by
  have CL := Lib.hid (latin_c w)
  have CG := Lib.hid (fun W => symGood_c 48 ⟨#[46]⟩ ⟨#[44]⟩ ⟨#[45]⟩ ⟨#[43]⟩ ⟨#[37]⟩ ⟨#[226, 128, 176]⟩ ⟨#[194, 164]⟩ ⟨#[69]⟩ W (by decide))
  rw [lat_good] at CG
  have CZ := Lib.hid (fun W => symGood_c 0 ⟨#[]⟩ ⟨#[]⟩ ⟨#[]⟩ ⟨#[]⟩ ⟨#[]⟩ ⟨#[]⟩ ⟨#[]⟩ ⟨#[]⟩ W (by decide))
  rw [nil_good] at CZ
  have CT := Lib.hid (fun (W : World) (b : Nat) (hb : W.heap.size = b) => symText_c 48 ⟨#[46]⟩ ⟨#[44]⟩ ⟨#[45]⟩ ⟨#[43]⟩ ⟨#[37]⟩ ⟨#[226, 128, 176]⟩ ⟨#[194, 164]⟩ ⟨#[69]⟩ (some ⟨b, 0, none⟩) 2 2 [(1, 97), (2, 0)] (W.alloc (.cells #[.int .i64 1, .int .i32 97, .int .i64 2, .int .i32 0] 34)) (by rw [← hb]; exact its_lit2 W 1 97 2 0 (by unfold RI; omega) (by unfold RI; omega)) (by decide) lat_size)
  rw [lat_text] at CT
  go_enter Try.func8, Try.ntmps8
  go_upto_region 2 with (first
    | (go_at_call 14; refine CL.out.mono ?_; rintro e1 w1 ⟨rfl, hb1⟩)
    | fail)
  have HX := Lib.hid (BX.new w1 #[.int .i32 48, .string ⟨#[46]⟩, .string ⟨#[44]⟩, .string ⟨#[45]⟩, .string ⟨#[43]⟩, .string ⟨#[37]⟩, .string ⟨#[226, 128, 176]⟩, .string ⟨#[194, 164]⟩, .string ⟨#[69]⟩] 23)
  have HB := Lib.hid (hb1.out.trans (((Below.refl w1.heap.size w1).alloc (Nat.le_refl _) (.cells #[.int .i32 48, .string ⟨#[46]⟩, .string ⟨#[44]⟩, .string ⟨#[45]⟩, .string ⟨#[43]⟩, .string ⟨#[37]⟩, .string ⟨#[226, 128, 176]⟩, .string ⟨#[194, 164]⟩, .string ⟨#[69]⟩] 23)).mono hb1.out.size))
  clear hb1 CL
  have HGW := Lib.hid HB.out.size
  generalize w1.alloc (.cells #[.int .i32 48, .string ⟨#[46]⟩, .string ⟨#[44]⟩, .string ⟨#[45]⟩, .string ⟨#[43]⟩, .string ⟨#[37]⟩, .string ⟨#[226, 128, 176]⟩, .string ⟨#[194, 164]⟩, .string ⟨#[69]⟩] 23) = W1 at *
  have d0 := HX.out.c 0
  have d1 := HX.out.c 1
  have d2 := HX.out.c 2
  have d3 := HX.out.c 3
  have d4 := HX.out.c 4
  have d5 := HX.out.c 5
  have d6 := HX.out.c 6
  have d7 := HX.out.c 7
  have d8 := HX.out.c 8
  go_wp2_with fail
  refine (CG.out _).mono ?_
  rintro e2 w2 ⟨rfl, hb2⟩
  have HX2 := Lib.hid (HX.out.below hb2.out HX.out.lt)
  have HB2 := Lib.hid (HB.out.trans (hb2.out.mono HGW.out))
  clear d0 d1 d2 d3 d4 d5 d6 d7 d8 HX HB hb2
  have d0 := HX2.out.c 0
  have d1 := HX2.out.c 1
  have d2 := HX2.out.c 2
  have d3 := HX2.out.c 3
  have d4 := HX2.out.c 4
  have d5 := HX2.out.c 5
  have d6 := HX2.out.c 6
  have d7 := HX2.out.c 7
  have d8 := HX2.out.c 8
  have BA := (Below.refl w2.heap.size w2).alloc (Nat.le_refl _) (.cells #[.int .i64 1, .int .i32 97, .int .i64 2, .int .i32 0] 34)
  have HB3 := Lib.hid (HB2.out.trans (BA.mono HB2.out.size))
  clear BA
  go_wp2_with fail
  refine (CT.out _ _ rfl).mono ?_
  rintro e3 w3 ⟨rfl, hb3⟩
  go_wp2_with fail
  refine (CZ.out _).mono ?_
  rintro e4 w4 ⟨rfl, hb4⟩
  go_wp2
  go_ret
  exact ⟨rfl, Lib.hid ((HB3.out.trans (hb3.out.mono HB3.out.size)).trans (hb4.out.mono (Nat.le_trans HB3.out.size hb3.out.size)))⟩
end Go.Proofs.Ytljgpdghpkpffaa
