/-
  TI: the document's Print.
-/
import Derived.Test.YtljgpdghpkpffaaTH
import Derived.Test.YtljgpdghpkpffaaMV
set_option maxRecDepth 100000
namespace Go.Proofs.Ytljgpdghpkpffaa
open Go.RowKit
/-- In a drawn region: a cell that is read, and the world's growth since. -/
def Rd (w : World) (p : Addr) (v : Value) (w' : World) : Prop := w'.cell? p = some v ∧ Hid (Below w.heap.size w w')
theorem Rd.keep {w w' w'' : World} {p : Addr} {v : Value} (h : Rd w p v w') (hp : p.block < w.heap.size) (hb : Below w'.heap.size w' w'') : Rd w p v w'' :=
  ⟨(hb.cell (p := p) (by have := h.2.out.size; omega)).trans h.1, Lib.hid (h.2.out.trans (hb.mono h.2.out.size))⟩
theorem Rd.row {w w' : World} {p : Addr} {v : Value} (h : Rd w p v w') {A : Option Addr} {m c : Nat} {base : Nat} {zs : List Int} (ho : w.ownsRow base 21 1 (.slice A m c) m (i32s zs)) (hm : m ≤ 36000000000000) (hz : Rg zs) : Rns w' A m zs :=
  ⟨Reads.of_own (own_keptN ho h.2.out rfl), hm, hz⟩
theorem rg_isZ {zs : List Int} (h : zs.all isZ = true) : Rg zs := fun z hz => by have := isZ_iff.1 (List.all_eq_true.1 h z hz); omega
theorem encs_nats_len (zs : List Int) : (stz (encs (nats zs))).size ≤ 4 * zs.length := by
  rw [stz_size]
  have := encs_len4 (nats zs)
  rwa [nats_length] at this
set_option maxHeartbeats 2000000 in
theorem refPrint_c (A : Option Addr) (n c : Nat) (ts : List Tok) (w : World) (h : Tks w A n ts) (hn : n ≤ 100000000) (hm : ts.all mayT = true) : Calls Try.prog 28 #[.slice A n c] w fun e w' => e = .returned (.string (prtZ ts)) ∧ Below w.heap.size w w' := by
  have HL := Lib.hid h.len
  have H := Lib.hid h
  have HM := Lib.hid hm
  clear h hm
  generalize hg : w.heap.size = g at *
  have Hg := Lib.hid hg
  clear hg
  have B0 := Lib.hid (show Below g w w by rw [← Hg.out]; exact Below.refl _ _)
  go_enter Try.func28, Try.ntmps28
  go_wp2
  go_loopw [3, 4, 5] (fun sv rv iv wr => ∃ (k : Nat) (O R : List Int) (mr : Nat), k ≤ n ∧ iv = .int .i64 (k : Int) ∧ prt ts [] = O ++ prt (ts.drop k) R ∧ O.length + 2 * mr ≤ 4 * k ∧ R.all isZ = true ∧ sv = .string (stz (encs (nats O))) ∧
    wr.ownsRow g 21 1 rv mr (i32s R) ∧ Below g w wr) (fun _ _ iv _ => n - (intOf iv).toNat)
  case atStart => exact ⟨0, [], [], 0, Nat.zero_le _, rfl, rfl, by simp, rfl, rfl, World.ownsRow_nil _ _ _ _, B0.out⟩
  case round =>
    obtain ⟨k, O, R, mr, hk, rfl, hprt0, hpot, hrz0, rfl, hr0, hb0⟩ := hrel
    have HPRT := Lib.hid hprt0
    have HRZ := Lib.hid hrz0
    have HR := Lib.hid hr0
    have HB := Lib.hid hb0
    have HT := Lib.hid (H.out.below (w' := wr) (by rw [Hg.out]; exact hb0))
    have hgs : g ≤ wr.heap.size := by have := hb0.size; have := Hg.out; omega
    have z1 : (stz (encs (nats O))).size ≤ 16 * n := by have := encs_nats_len O; omega
    have hRl : R.length = mr := by have := hr0.1; simpa [i32s_length] using this
    have z2 : (stz (encs (nats (inQ R)))).size ≤ 16 * n + 8 := by have := encs_nats_len (inQ R); have := inQ_len R; omega
    have HRL := Lib.hid hRl
    clear hprt0 hrz0 hr0 hb0 hRl
    by_cases hlt : k < n
    · have HDR := Lib.hid (drop_tk (ts := ts) (k := k) (by rw [HL.out]; exact hlt))
      have hmay := List.all_eq_true.1 HM.out _ (tk_mem (ts := ts) (k := k) (by rw [HL.out]; exact hlt))
      obtain ⟨ad, rfl, hab, c0, c1, _, _⟩ := HT.out.at_ hlt
      generalize tk ts k = t at *
      obtain ⟨r, q, a⟩ := t
      dsimp only at c0 c1
      simp only [mayT, Bool.and_eq_true] at hmay
      obtain ⟨hz, _⟩ := hmay
      have hnn := (isZ_iff.1 hz).1
      obtain ⟨x, rfl⟩ : ∃ x : Nat, r = (x : Int) := ⟨r.toNat, by omega⟩
      have HZ := Lib.hid hz
      have HXC := Lib.hid (show isC x = true by rw [← isZ_nat]; exact hz)
      clear hz hnn
      cases q
      · obtain ⟨A4, c4, h4⟩ := own_form HR.out
        subst h4
        have hpb : (ad.add (k * 3)).block < wr.heap.size := by rw [block_of_add]; exact hab
        have z3 : (stz (encN x)).size ≤ 4 := by rw [stz_size]; exact encN_le x
        have q1 : ¬ 9223372036854775807 < (stz (encs (nats O))).size + (stz (encs (nats (inQ R)))).size := by omega
        have q2 : ¬ 9223372036854775807 < (stz (encs (nats O)) ++ stz (encs (nats (inQ R)))).size + (stz (encN x)).size := by rw [ByteArray.size_append]; omega
        have q3 : ¬ 9223372036854775807 < (stz (encs (nats O))).size + (stz (encs (nats (inQ R)))).size + (stz (encN x)).size := by omega
        go_wp2
        have hS : Rd wr (ad.add (k * 3)) (.int .i32 (x : Int)) wr.drew := ⟨c0, Lib.hid (Below.refl _ _).drew⟩
        refine wp_region_held_drew (S := (fun w' => w'.cell? (ad.add (k * 3)) = some (.int .i32 (x : Int)) ∧ Hid (Below wr.heap.size wr w'))) (by kernel_rfl) (hS) (fun hHeld => ?_)
        refine' take_at 0 (v := _) rfl (by kernel_rfl) (by kernel_rfl) (by kernel_rfl) (fun _ _ _ h => h) rfl ?y1 hHeld ?r1
        case y1 =>
          intro w hSw
          try dsimp only at hSw
          go_simp
          try with_reducible rfl
        try simp only [Act.put, List.setIfInBounds_toArray, List.set_cons_zero, List.set_cons_succ]
        refine' take_at 1 (v := _) rfl (by kernel_rfl) (by kernel_rfl) (by kernel_rfl) (fun _ _ _ h => h) rfl ?y2 hHeld ?r2
        case y2 =>
          intro w hSw
          try dsimp only at hSw
          go_simp
          try with_reducible rfl
        try simp only [Act.put, List.setIfInBounds_toArray, List.set_cons_zero, List.set_cons_succ]
        refine' take_at 4 (v := _) rfl (by kernel_rfl) (by kernel_rfl) (by kernel_rfl) (fun _ _ _ h => h) rfl ?y3 hHeld ?r3
        case y3 =>
          intro w hSw
          try dsimp only at hSw
          go_simp
          try with_reducible rfl
        try simp only [Act.put, List.setIfInBounds_toArray, List.set_cons_zero, List.set_cons_succ]
        refine' take_at 5 (v := _) rfl (by kernel_rfl) (by kernel_rfl) (by kernel_rfl) (fun _ _ _ h => h) rfl ?y4 hHeld ?r4
        case y4 =>
          intro w hSw
          try dsimp only at hSw
          go_simp
          try with_reducible rfl
        try simp only [Act.put, List.setIfInBounds_toArray, List.set_cons_zero, List.set_cons_succ]
        refine' take_at 6 (v := _) rfl (by kernel_rfl) (by kernel_rfl) (by kernel_rfl) (fun _ _ _ h => h) rfl ?y5 hHeld ?r5
        case y5 =>
          intro w hSw
          try dsimp only at hSw
          go_simp
          try with_reducible rfl
        try simp only [Act.put, List.setIfInBounds_toArray, List.set_cons_zero, List.set_cons_succ]
        refine' take_at 7 (v := _) rfl (by kernel_rfl) (by kernel_rfl) (by kernel_rfl) (fun _ _ _ h => h) rfl ?y6 hHeld ?r6
        case y6 =>
          intro w hSw
          try dsimp only at hSw
          go_simp
          try with_reducible rfl
        try simp only [Act.put, List.setIfInBounds_toArray, List.set_cons_zero, List.set_cons_succ]
        refine' take_at 8 (v := _) rfl (by kernel_rfl) (by kernel_rfl) (by kernel_rfl) (fun _ _ _ h => h) rfl ?y7 hHeld ?r7
        case y7 =>
          intro w hSw
          try dsimp only at hSw
          go_simp
          try with_reducible rfl
        try simp only [Act.put, List.setIfInBounds_toArray, List.set_cons_zero, List.set_cons_succ]
        refine step_at 2 (by kernel_rfl) rfl rfl (fun K hK => ?_)
        go_simp
        refine (refRow_c A4 mr c4 R _ (Rd.row (w := wr) (p := ad.add (k * 3)) (v := .int .i32 (x : Int)) hHeld HR.out (by omega) (rg_isZ HRZ.out)) (by omega) HRZ.out).mono ?_
        rintro r w1 ⟨rfl, hb⟩
        have hS := Rd.keep (w := wr) (p := ad.add (k * 3)) (v := .int .i32 (x : Int)) hHeld hpb hb
        clear hb
        clear hHeld
        go_wp2_with fail
        refine hK.out _ _ hS (fun hHeld => ?_)
        clear hK K hS
        try simp only [Act.put, List.setIfInBounds_toArray, List.set_cons_zero, List.set_cons_succ]
        refine' take_at 3 (v := _) rfl (by kernel_rfl) (by kernel_rfl) (by kernel_rfl) (fun _ _ _ h => h) rfl ?y8 hHeld ?r8
        case y8 =>
          intro w hSw
          try dsimp only at hSw
          go_simp
          try with_reducible rfl
        try simp only [Act.put, List.setIfInBounds_toArray, List.set_cons_zero, List.set_cons_succ]
        refine step_at 9 (by kernel_rfl) rfl rfl (fun K hK => ?_)
        go_simp
        refine (refBytes_c x _ HXC.out).mono ?_
        rintro r w1 ⟨AB, mB, kB, rfl, hoB, hmB, hb⟩
        have hS := Rd.keep (w := wr) (p := ad.add (k * 3)) (v := .int .i32 (x : Int)) hHeld hpb hb
        have hcv := conv_own_stz hoB (encN_lt HXC.out)
        have HBB := Lib.hid hS.2.out
        clear hb hoB hmB
        clear hHeld
        go_wp2_with fail
        refine hK.out _ _ hS (fun hHeld => ?_)
        clear hK K hS
        try simp only [Act.put, List.setIfInBounds_toArray, List.set_cons_zero, List.set_cons_succ]
        refine step_at 10 (by kernel_rfl) rfl rfl (fun K hK => ?_)
        go_simp
        refine hK.out _ _ hHeld (fun hHeld => ?_)
        clear hK K
        try simp only [Act.put, List.setIfInBounds_toArray, List.set_cons_zero, List.set_cons_succ]
        refine' take_at 11 (v := _) rfl (by kernel_rfl) (by kernel_rfl) (by kernel_rfl) (fun _ _ _ h => h) rfl ?y9 hHeld ?r9
        case y9 =>
          intro w hSw
          try dsimp only at hSw
          go_simp
          try with_reducible rfl
        try simp only [Act.put, List.setIfInBounds_toArray, List.set_cons_zero, List.set_cons_succ]
        refine' take_at 12 (v := _) rfl (by kernel_rfl) (by kernel_rfl) (by kernel_rfl) (fun _ _ _ h => h) rfl ?y10 hHeld ?r10
        case y10 =>
          intro w hSw
          try dsimp only at hSw
          go_simp
          try with_reducible rfl
        try simp only [Act.put, List.setIfInBounds_toArray, List.set_cons_zero, List.set_cons_succ]
        refine wpAnyH_done (by kernel_rfl) ?_ _
        clear hHeld
        clear hcv
        go_wp2
        go_roundw
        case rel =>
          refine ⟨k + 1, O ++ inQ R ++ [(x : Int)], [], 0, by omega, by go_num, ?_, ?_, rfl, ?_, World.ownsRow_nil _ _ _ _, HB.out.trans (HBB.out.mono hgs)⟩
          · rw [HPRT.out, HDR.out, prt_p rfl]; simp
          · have := inQ_len R
            have := HRL.out
            simp only [List.length_append, List.length_singleton]; omega
          · rw [nats_append, nats_append, encs_append, encs_append, stz_append, stz_append]
            congr 2
            show stz (encN x) = stz (encs [x])
            rw [encs_one]
        case measure => simp [intOf]; omega
      · go_wp2_with (at_builtin; go_must (refine wpList_app_i32 rfl (.tmp 17) (.tmp 23) _ rfl Try.underlying42 g u4 mr _ rfl HR.out _ rfl (x : Int) rfl (by omega) HB.out hgs ?_))
        intro v8 w6 ho8 hb8 _
        go_wp2
        go_roundw
        case rel =>
          refine ⟨k + 1, O, R ++ [(x : Int)], mr + 1, by omega, by go_num, ?_, by omega, ?_, rfl, ?_, hb8.out⟩
          · rw [HPRT.out, HDR.out, prt_q rfl]
          · rw [List.all_append, HRZ.out]; simp [HZ.out]
          · simpa using ho8.out
        case measure => simp [intOf]; omega
    · have hkn : k = n := by omega
      subst hkn
      have hE : prtZ ts = stz (encs (nats O)) ++ stz (encs (nats (inQ R))) := by
        rw [(prtZ_may HM.out).1, HPRT.out, List.drop_of_length_le (by rw [HL.out]; exact Nat.le_refl _), prt_nil, nats_append, encs_append, stz_append]
      have HE := Lib.hid hE
      clear hE
      have q1 : ¬ 9223372036854775807 < (stz (encs (nats O))).size + (stz (encs (nats (inQ R)))).size := by omega
      obtain ⟨A4, c4, h4⟩ := own_form HR.out
      subst h4
      have HC := Lib.hid (refRow_c A4 mr c4 R wr ⟨Reads.of_own HR.out, by omega, rg_isZ HRZ.out⟩ (by omega) HRZ.out)
      go_wp2_with fail
      refine HC.out.mono ?_
      rintro e w3 ⟨rfl, hb5⟩
      have HB3 := Lib.hid (HB.out.trans (hb5.mono hgs))
      clear hb5 HC
      go_wp2
      go_ret
      rw [HE.out]
      exact ⟨rfl, HB3.out⟩
end Go.Proofs.Ytljgpdghpkpffaa
