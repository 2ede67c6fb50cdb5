/-
  AffixNeeds: the walk.
-/
import Derived.Test.YtbmgdheljnbmpaaVG
set_option maxRecDepth 100000
namespace Go.Proofs.Ytbmgdheljnbmpaa
open Go.RowKit
theorem own_lit_tok (W : World) (base : Nat) (hb : base ≤ W.heap.size) (r : Int) (q : Bool) (p : Int) (hr : -2147483648 ≤ r ∧ r ≤ 2147483647) : OwnT (W.alloc (.cells #[.int .i32 r, .bool q, .int .i64 p] 36)) base (some ⟨W.heap.size, 0, none⟩) 1 1 [(r, q, p)] :=
  ⟨World.ownsRow_lit (size := 3) W #[.int .i32 r, .bool q, .int .i64 p] 1 hb (by unfold maxLen; omega) rfl, by decide, fun t ht => by rw [List.mem_singleton] at ht; subst ht; exact hr⟩
theorem itms_q (r p : Int) : itms [(r, true, p)] = ([(1, r)], 0, 0) := by
  rw [itms_ok (find_none (by simp [badT])) (by simp)]
  show ([itm (r, true, p)], _, _) = _
  rw [itm_q rfl]
theorem itms_p {r p : Int} (h : mrk r = false) : itms [(r, false, p)] = ([itm (r, false, p)], 0, 0) := by
  rw [itms_ok (find_none (by simp [badT, h])) (by simp)]; rfl
theorem itms_m {r p : Int} (h : mrk r = true) : itms [(r, false, p)] = ([], 4, p) := itms_bad (t := (r, false, p)) (by simp [List.find?, badT, h])
/-- In a drawn region: an item's cells of two slices, and a fault's, that are read; the world's growth since. -/
def NS (W : World) (ax ad : Addr) (h : Nat) (a b r : Int) (w' : World) : Prop :=
  (w'.cell? ax = some (.int .i64 a) ∧ w'.cell? ⟨ax.block, ax.off + 1, none⟩ = some (.int .i32 b) ∧ w'.cell? ad = some (.int .i64 1) ∧ w'.cell? ⟨ad.block, ad.off + 1, none⟩ = some (.int .i32 r) ∧ w'.cell? ⟨h, 0, none⟩ = some (.int .i64 0)) ∧
    Hid (ax.block < W.heap.size ∧ ad.block < W.heap.size ∧ h < W.heap.size ∧ Below W.heap.size W w')
theorem NS.keep {W w' w'' : World} {ax ad : Addr} {h : Nat} {a b r : Int} (s : NS W ax ad h a b r w') (hb : Below w'.heap.size w' w'') : NS W ax ad h a b r w'' := by
  obtain ⟨⟨s0, s1, s2, s3, s4⟩, ⟨h1, h2, h3, h4⟩⟩ := s
  have hz := h4.size
  exact ⟨⟨(hb.cell (p := ax) (by omega)).trans s0, (hb.cell (p := ⟨ax.block, ax.off + 1, none⟩) (show ax.block < _ by omega)).trans s1, (hb.cell (p := ad) (by omega)).trans s2, (hb.cell (p := ⟨ad.block, ad.off + 1, none⟩) (show ad.block < _ by omega)).trans s3, (hb.cell (p := ⟨h, 0, none⟩) (show h < _ by omega)).trans s4⟩, ⟨h1, h2, h3, h4.trans (hb.mono hz)⟩⟩
set_option maxHeartbeats 4000000 in
theorem walk_affixNeeds (r : Int) (w : World) (hr : -2147483648 ≤ r ∧ r ≤ 2147483647) :
    Calls Try.prog 6 #[.int .i32 r] w fun e w' => e = .returned (.bool true) ∧ Below w.heap.size w w' := by
  have CN := Lib.hid (needs_c r)
  have CR := Lib.hid (refNeeds_c r)
  have CM := Lib.hid (refMark_c r)
  have C1 := Lib.hid (fun (W : World) (b : Nat) (hb : W.heap.size = b) => affItems_c (some ⟨b, 0, none⟩) 1 1 [(r, false, 7)] (W.alloc (.cells #[.int .i32 r, .bool false, .int .i64 7] 36)) (by rw [← hb]; exact (own_lit_tok W W.heap.size (Nat.le_refl _) r false 7 hr).tks))
  have C2 := Lib.hid (fun (W : World) (b : Nat) (hb : W.heap.size = b) => affItems_c (some ⟨b, 0, none⟩) 1 1 [(r, true, 0)] (W.alloc (.cells #[.int .i32 r, .bool true, .int .i64 0] 36)) (by rw [← hb]; exact (own_lit_tok W W.heap.size (Nat.le_refl _) r true 0 hr).tks))
  rw [itms_q] at C2
  generalize nds r = N at *
  rcases hm : mrk r with _ | _
  · rw [itms_p hm] at C1
    rw [hm] at CM
    have CS := Lib.hid (refSign_c r)
    clear hm
    by_cases hK : sgK r = 0
    · rw [itm_p (show sgK (r, false, (7 : Int)).1 = 0 from hK)] at C1
      rw [hK] at CS
      clear hK
      go_enter Try.func6, Try.ntmps6
      have ba1 := (Below.refl _ w).alloc (Nat.le_refl _) (.cells #[.int .i32 r, .bool false, .int .i64 7] 36)
      have HB_1 := Lib.hid ba1
      clear ba1
      go_wp2_with fail
      refine (C1.out _ _ (by first | rfl | exact World.size_alloc _ _)).mono ?_
      rintro e w2 ⟨Aa, ma, ca, rfl, hoa, hbx2⟩
      have hb2 := hbx2.out
      have Ta := Lib.hid hoa.out.its
      have La := Lib.hid hoa.out.len
      clear hoa hbx2
      have HB_2 := Lib.hid (HB_1.out.trans (hb2.mono HB_1.out.size))
      clear HB_1
      clear hb2
      have ba3 := (Below.refl _ w2).alloc (Nat.le_refl _) (.cells #[(.int .i64 0), (.int .i64 0)] 27)
      have Ta_1 := Lib.hid (Ta.out.below ba3)
      clear Ta
      have HB_3 := Lib.hid (HB_2.out.trans (ba3.mono HB_2.out.size))
      clear HB_2
      clear ba3
      have Fa_0 := Lib.hid (FB.new w2 (.int .i64 0) (.int .i64 0))
      obtain rfl : 1 = ma := La.out
      have ba4 := (Below.refl _ (w2.alloc (.cells #[(.int .i64 0), (.int .i64 0)] 27))).alloc (Nat.le_refl _) (.cells #[.int .i32 r, .bool true, .int .i64 0] 36)
      have Ta_2 := Lib.hid (Ta_1.out.below ba4)
      clear Ta_1
      have Fa_1 := Lib.hid (Fa_0.out.below ba4 Fa_0.out.lt)
      clear Fa_0
      have HB_4 := Lib.hid (HB_3.out.trans (ba4.mono HB_3.out.size))
      clear HB_3
      clear ba4
      go_wp2_with fail
      refine (C2.out _ _ (by first | rfl | exact World.size_alloc _ _)).mono ?_
      rintro e w5 ⟨Ab, mb, cb, rfl, hob, hbx5⟩
      have hb5 := hbx5.out
      have Tb := Lib.hid hob.out.its
      have Lb := Lib.hid hob.out.len
      clear hob hbx5
      have Ta_3 := Lib.hid (Ta_2.out.below hb5)
      clear Ta_2
      have Fa_2 := Lib.hid (Fa_1.out.below hb5 Fa_1.out.lt)
      clear Fa_1
      have HB_5 := Lib.hid (HB_4.out.trans (hb5.mono HB_4.out.size))
      clear HB_4
      clear hb5
      have ba6 := (Below.refl _ w5).alloc (Nat.le_refl _) (.cells #[(.int .i64 0), (.int .i64 0)] 27)
      have Ta_4 := Lib.hid (Ta_3.out.below ba6)
      clear Ta_3
      have Fa_3 := Lib.hid (Fa_2.out.below ba6 Fa_2.out.lt)
      clear Fa_2
      have Tb_1 := Lib.hid (Tb.out.below ba6)
      clear Tb
      have HB_6 := Lib.hid (HB_5.out.trans (ba6.mono HB_5.out.size))
      clear HB_5
      clear ba6
      have Fb_0 := Lib.hid (FB.new w5 (.int .i64 0) (.int .i64 0))
      obtain rfl : 1 = mb := Lb.out
      go_wp2_with fail
      refine (CN.out _).mono ?_
      rintro e w7 ⟨rfl, hb7⟩
      have Ta_5 := Lib.hid (Ta_4.out.below hb7)
      clear Ta_4
      have Fa_4 := Lib.hid (Fa_3.out.below hb7 Fa_3.out.lt)
      clear Fa_3
      have Tb_2 := Lib.hid (Tb_1.out.below hb7)
      clear Tb_1
      have Fb_1 := Lib.hid (Fb_0.out.below hb7 Fb_0.out.lt)
      clear Fb_0
      have HB_7 := Lib.hid (HB_6.out.trans (hb7.mono HB_6.out.size))
      clear HB_6
      clear hb7
      go_wp2_with fail
      refine (CR.out _).mono ?_
      rintro e w8 ⟨rfl, rfl⟩
      have f0 := Fb_1.out.c0
      obtain ⟨ad, rfl, hab, y0, y1, _⟩ := Tb_2.out.at_ (k := 0) (by decide)
      have y0 : w7.cell? ad = some (.int .i64 1) := y0
      have y1 : w7.cell? ⟨ad.block, ad.off + 1, none⟩ = some (.int .i32 r) := y1
      have gN : (!(N == N)) = false := by simp
      go_wp2_with fail
      refine (CM.out _).mono ?_
      rintro e w8 ⟨rfl, rfl⟩
      obtain ⟨ax, rfl, hax, x0, x1, _⟩ := Ta_5.out.at_ (k := 0) (by decide)
      have x0 : w7.cell? ax = some (.int .i64 1) := x0
      have x1 : w7.cell? ⟨ax.block, ax.off + 1, none⟩ = some (.int .i32 r) := x1
      have e0 := Fa_4.out.c0
      have hFa := Fa_4.out.lt
      clear f0
      go_wp2
      have hS : NS w7 ax ad w2.heap.size (1) (r) r (World.drew w7) := ⟨⟨x0, x1, y0, y1, e0⟩, Lib.hid ⟨hax, hab, hFa, (Below.refl _ _).drew⟩⟩
      clear x0 x1 y0 y1 e0 hFa hax hab gN
      go_region_held3 (fun w' => (w'.cell? ax = some (.int .i64 (1)) ∧ w'.cell? ⟨ax.block, ax.off + 1, none⟩ = some (.int .i32 (r)) ∧ w'.cell? ad = some (.int .i64 1) ∧ w'.cell? ⟨ad.block, ad.off + 1, none⟩ = some (.int .i32 r) ∧ w'.cell? ⟨w2.heap.size, 0, none⟩ = some (.int .i64 0)) ∧ Hid (ax.block < (w7).heap.size ∧ ad.block < (w7).heap.size ∧ w2.heap.size < (w7).heap.size ∧ Below (w7).heap.size (w7) w')) (assumption)
        (first
          | (go_at_call 8; refine (answers14_c _).mono ?_; rintro e W5 ⟨rfl, hb⟩; have hS := NS.keep (W := w7) (ax := ax) (ad := ad) (h := w2.heap.size) (a := 1) (b := r) (r := r) (by assumption) hb; clear hb)
          | (go_at_call 22; refine (CS.out _).mono ?_; rintro e W6 ⟨rfl, rfl⟩))
      all_goals go_wp2
      all_goals go_ret
      all_goals exact ⟨rfl, HB_7.out.trans (hS.2.out.2.2.2.mono HB_7.out.size)⟩
    · rw [itm_s (show (r, false, (7 : Int)).2.1 = false from rfl) (show sgK (r, false, (7 : Int)).1 ≠ 0 from hK)] at C1
      have hK1 : (sgK r == 1) = false := by rcases sgK_at r with ⟨_, h⟩ | ⟨_, h⟩ | ⟨_, h⟩ | ⟨_, h⟩ | ⟨_, h⟩ | ⟨_, h⟩ <;> rw [h] <;> rfl
      have hK0 : (sgK r == 0) = false := by simpa using hK
      dsimp only at C1
      generalize sgK r = K at *
      clear hK
      go_enter Try.func6, Try.ntmps6
      have ba1 := (Below.refl _ w).alloc (Nat.le_refl _) (.cells #[.int .i32 r, .bool false, .int .i64 7] 36)
      have HB_1 := Lib.hid ba1
      clear ba1
      go_wp2_with fail
      refine (C1.out _ _ (by first | rfl | exact World.size_alloc _ _)).mono ?_
      rintro e w2 ⟨Aa, ma, ca, rfl, hoa, hbx2⟩
      have hb2 := hbx2.out
      have Ta := Lib.hid hoa.out.its
      have La := Lib.hid hoa.out.len
      clear hoa hbx2
      have HB_2 := Lib.hid (HB_1.out.trans (hb2.mono HB_1.out.size))
      clear HB_1
      clear hb2
      have ba3 := (Below.refl _ w2).alloc (Nat.le_refl _) (.cells #[(.int .i64 0), (.int .i64 0)] 27)
      have Ta_1 := Lib.hid (Ta.out.below ba3)
      clear Ta
      have HB_3 := Lib.hid (HB_2.out.trans (ba3.mono HB_2.out.size))
      clear HB_2
      clear ba3
      have Fa_0 := Lib.hid (FB.new w2 (.int .i64 0) (.int .i64 0))
      obtain rfl : 1 = ma := La.out
      have ba4 := (Below.refl _ (w2.alloc (.cells #[(.int .i64 0), (.int .i64 0)] 27))).alloc (Nat.le_refl _) (.cells #[.int .i32 r, .bool true, .int .i64 0] 36)
      have Ta_2 := Lib.hid (Ta_1.out.below ba4)
      clear Ta_1
      have Fa_1 := Lib.hid (Fa_0.out.below ba4 Fa_0.out.lt)
      clear Fa_0
      have HB_4 := Lib.hid (HB_3.out.trans (ba4.mono HB_3.out.size))
      clear HB_3
      clear ba4
      go_wp2_with fail
      refine (C2.out _ _ (by first | rfl | exact World.size_alloc _ _)).mono ?_
      rintro e w5 ⟨Ab, mb, cb, rfl, hob, hbx5⟩
      have hb5 := hbx5.out
      have Tb := Lib.hid hob.out.its
      have Lb := Lib.hid hob.out.len
      clear hob hbx5
      have Ta_3 := Lib.hid (Ta_2.out.below hb5)
      clear Ta_2
      have Fa_2 := Lib.hid (Fa_1.out.below hb5 Fa_1.out.lt)
      clear Fa_1
      have HB_5 := Lib.hid (HB_4.out.trans (hb5.mono HB_4.out.size))
      clear HB_4
      clear hb5
      have ba6 := (Below.refl _ w5).alloc (Nat.le_refl _) (.cells #[(.int .i64 0), (.int .i64 0)] 27)
      have Ta_4 := Lib.hid (Ta_3.out.below ba6)
      clear Ta_3
      have Fa_3 := Lib.hid (Fa_2.out.below ba6 Fa_2.out.lt)
      clear Fa_2
      have Tb_1 := Lib.hid (Tb.out.below ba6)
      clear Tb
      have HB_6 := Lib.hid (HB_5.out.trans (ba6.mono HB_5.out.size))
      clear HB_5
      clear ba6
      have Fb_0 := Lib.hid (FB.new w5 (.int .i64 0) (.int .i64 0))
      obtain rfl : 1 = mb := Lb.out
      go_wp2_with fail
      refine (CN.out _).mono ?_
      rintro e w7 ⟨rfl, hb7⟩
      have Ta_5 := Lib.hid (Ta_4.out.below hb7)
      clear Ta_4
      have Fa_4 := Lib.hid (Fa_3.out.below hb7 Fa_3.out.lt)
      clear Fa_3
      have Tb_2 := Lib.hid (Tb_1.out.below hb7)
      clear Tb_1
      have Fb_1 := Lib.hid (Fb_0.out.below hb7 Fb_0.out.lt)
      clear Fb_0
      have HB_7 := Lib.hid (HB_6.out.trans (hb7.mono HB_6.out.size))
      clear HB_6
      clear hb7
      go_wp2_with fail
      refine (CR.out _).mono ?_
      rintro e w8 ⟨rfl, rfl⟩
      have f0 := Fb_1.out.c0
      obtain ⟨ad, rfl, hab, y0, y1, _⟩ := Tb_2.out.at_ (k := 0) (by decide)
      have y0 : w7.cell? ad = some (.int .i64 1) := y0
      have y1 : w7.cell? ⟨ad.block, ad.off + 1, none⟩ = some (.int .i32 r) := y1
      have gN : (!(N == N)) = false := by simp
      go_wp2_with fail
      refine (CM.out _).mono ?_
      rintro e w8 ⟨rfl, rfl⟩
      obtain ⟨ax, rfl, hax, x0, x1, _⟩ := Ta_5.out.at_ (k := 0) (by decide)
      have x0 : w7.cell? ax = some (.int .i64 K) := x0
      have x1 : w7.cell? ⟨ax.block, ax.off + 1, none⟩ = some (.int .i32 0) := x1
      have e0 := Fa_4.out.c0
      have hFa := Fa_4.out.lt
      clear f0
      go_wp2
      have hS : NS w7 ax ad w2.heap.size (K) (0) r (World.drew w7) := ⟨⟨x0, x1, y0, y1, e0⟩, Lib.hid ⟨hax, hab, hFa, (Below.refl _ _).drew⟩⟩
      clear x0 x1 y0 y1 e0 hFa hax hab gN
      go_region_held3 (fun w' => (w'.cell? ax = some (.int .i64 (K)) ∧ w'.cell? ⟨ax.block, ax.off + 1, none⟩ = some (.int .i32 (0)) ∧ w'.cell? ad = some (.int .i64 1) ∧ w'.cell? ⟨ad.block, ad.off + 1, none⟩ = some (.int .i32 r) ∧ w'.cell? ⟨w2.heap.size, 0, none⟩ = some (.int .i64 0)) ∧ Hid (ax.block < (w7).heap.size ∧ ad.block < (w7).heap.size ∧ w2.heap.size < (w7).heap.size ∧ Below (w7).heap.size (w7) w')) (assumption)
        (first
          | (go_at_call 8; refine (answers14_c _).mono ?_; rintro e W5 ⟨rfl, hb⟩; have hS := NS.keep (W := w7) (ax := ax) (ad := ad) (h := w2.heap.size) (a := K) (b := 0) (r := r) (by assumption) hb; clear hb)
          | (go_at_call 22; refine (CS.out _).mono ?_; rintro e W6 ⟨rfl, rfl⟩))
      all_goals go_wp2
      all_goals go_ret
      all_goals exact ⟨rfl, HB_7.out.trans (hS.2.out.2.2.2.mono HB_7.out.size)⟩
  · rw [itms_m hm] at C1
    rw [hm] at CM
    clear hm
    go_enter Try.func6, Try.ntmps6
    have ba1 := (Below.refl _ w).alloc (Nat.le_refl _) (.cells #[.int .i32 r, .bool false, .int .i64 7] 36)
    have HB_1 := Lib.hid ba1
    clear ba1
    go_wp2_with fail
    refine (C1.out _ _ (by first | rfl | exact World.size_alloc _ _)).mono ?_
    rintro e w2 ⟨Aa, ma, ca, rfl, hoa, hbx2⟩
    have hb2 := hbx2.out
    have Ta := Lib.hid hoa.out.its
    have La := Lib.hid hoa.out.len
    clear hoa hbx2
    have HB_2 := Lib.hid (HB_1.out.trans (hb2.mono HB_1.out.size))
    clear HB_1
    clear hb2
    have ba3 := (Below.refl _ w2).alloc (Nat.le_refl _) (.cells #[(.int .i64 4), (.int .i64 7)] 27)
    have Ta_1 := Lib.hid (Ta.out.below ba3)
    clear Ta
    have HB_3 := Lib.hid (HB_2.out.trans (ba3.mono HB_2.out.size))
    clear HB_2
    clear ba3
    have Fa_0 := Lib.hid (FB.new w2 (.int .i64 4) (.int .i64 7))
    obtain rfl : 0 = ma := La.out
    have ba4 := (Below.refl _ (w2.alloc (.cells #[(.int .i64 4), (.int .i64 7)] 27))).alloc (Nat.le_refl _) (.cells #[.int .i32 r, .bool true, .int .i64 0] 36)
    have Ta_2 := Lib.hid (Ta_1.out.below ba4)
    clear Ta_1
    have Fa_1 := Lib.hid (Fa_0.out.below ba4 Fa_0.out.lt)
    clear Fa_0
    have HB_4 := Lib.hid (HB_3.out.trans (ba4.mono HB_3.out.size))
    clear HB_3
    clear ba4
    go_wp2_with fail
    refine (C2.out _ _ (by first | rfl | exact World.size_alloc _ _)).mono ?_
    rintro e w5 ⟨Ab, mb, cb, rfl, hob, hbx5⟩
    have hb5 := hbx5.out
    have Tb := Lib.hid hob.out.its
    have Lb := Lib.hid hob.out.len
    clear hob hbx5
    have Ta_3 := Lib.hid (Ta_2.out.below hb5)
    clear Ta_2
    have Fa_2 := Lib.hid (Fa_1.out.below hb5 Fa_1.out.lt)
    clear Fa_1
    have HB_5 := Lib.hid (HB_4.out.trans (hb5.mono HB_4.out.size))
    clear HB_4
    clear hb5
    have ba6 := (Below.refl _ w5).alloc (Nat.le_refl _) (.cells #[(.int .i64 0), (.int .i64 0)] 27)
    have Ta_4 := Lib.hid (Ta_3.out.below ba6)
    clear Ta_3
    have Fa_3 := Lib.hid (Fa_2.out.below ba6 Fa_2.out.lt)
    clear Fa_2
    have Tb_1 := Lib.hid (Tb.out.below ba6)
    clear Tb
    have HB_6 := Lib.hid (HB_5.out.trans (ba6.mono HB_5.out.size))
    clear HB_5
    clear ba6
    have Fb_0 := Lib.hid (FB.new w5 (.int .i64 0) (.int .i64 0))
    obtain rfl : 1 = mb := Lb.out
    go_wp2_with fail
    refine (CN.out _).mono ?_
    rintro e w7 ⟨rfl, hb7⟩
    have Ta_5 := Lib.hid (Ta_4.out.below hb7)
    clear Ta_4
    have Fa_4 := Lib.hid (Fa_3.out.below hb7 Fa_3.out.lt)
    clear Fa_3
    have Tb_2 := Lib.hid (Tb_1.out.below hb7)
    clear Tb_1
    have Fb_1 := Lib.hid (Fb_0.out.below hb7 Fb_0.out.lt)
    clear Fb_0
    have HB_7 := Lib.hid (HB_6.out.trans (hb7.mono HB_6.out.size))
    clear HB_6
    clear hb7
    go_wp2_with fail
    refine (CR.out _).mono ?_
    rintro e w8 ⟨rfl, rfl⟩
    have f0 := Fb_1.out.c0
    obtain ⟨ad, rfl, hab, y0, y1, _⟩ := Tb_2.out.at_ (k := 0) (by decide)
    have y0 : w7.cell? ad = some (.int .i64 1) := y0
    have y1 : w7.cell? ⟨ad.block, ad.off + 1, none⟩ = some (.int .i32 r) := y1
    have gN : (!(N == N)) = false := by simp
    go_wp2_with fail
    refine (CM.out _).mono ?_
    rintro e w8 ⟨rfl, rfl⟩
    clear f0 y0 y1 gN hab
    go_wp2_with fail
    refine (answers14_c _).mono ?_
    rintro e w8 ⟨rfl, hb8⟩
    have Ta_6 := Lib.hid (Ta_5.out.below hb8)
    clear Ta_5
    have Fa_5 := Lib.hid (Fa_4.out.below hb8 Fa_4.out.lt)
    clear Fa_4
    have Tb_3 := Lib.hid (Tb_2.out.below hb8)
    clear Tb_2
    have Fb_2 := Lib.hid (Fb_1.out.below hb8 Fb_1.out.lt)
    clear Fb_1
    have HB_8 := Lib.hid (HB_7.out.trans (hb8.mono HB_7.out.size))
    clear HB_7
    clear hb8
    have e0 := Fa_5.out.c0
    have e1 := Fa_5.out.c1
    go_wp2
    go_ret
    exact ⟨rfl, HB_8.out⟩
end Go.Proofs.Ytbmgdheljnbmpaa
