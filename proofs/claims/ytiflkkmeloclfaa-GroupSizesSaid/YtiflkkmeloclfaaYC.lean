/-
  YC: strings.Builder by hand: any code point, any text.
-/
import Derived.Lib.AppendStr
import Derived.Test.YtiflkkmeloclfaaShelf
import Derived.Test.YtiflkkmeloclfaaYB
set_option maxRecDepth 100000
namespace Go.Proofs.Ytiflkkmeloclfaa
open Go.RowKit
theorem strCells_bts (s : ByteArray) : Lib.strCells s = u8s (bts s) := by
  unfold Lib.strCells u8s bts
  rw [List.map_map]; rfl
theorem runeCells_enc {c : Nat} (hc : isC c = true) : Lib.runeCells (c : Int) = u8s (encN c) := by
  have h1 := isC_iff.1 hc
  unfold Lib.runeCells
  rcases encN_cases c with ⟨h, e⟩ | ⟨h, h', e⟩ | ⟨h, h', e⟩ | ⟨h, e⟩
  · rw [e, Lib.encodeRuneZ_one (by omega) (by omega)]; rfl
  · rw [e, Lib.encodeRuneZ_two (by omega) (by omega)]; simp [u8s]
  · rw [e, Lib.encodeRuneZ_three (by omega)]; simp [u8s]
  · rw [e, Lib.encodeRuneZ_four (by omega) (by omega)]; simp [u8s]
theorem wpList_app_str {W w0 : World} {ops : Array Oper} {rest : List Oper} {o : Oper} {a : Act} {Q : Exit → Act → World → Prop} (hgd : o.guard = none) (s x : Operand)
    (ho : o.op = .call { callee := .builtin .append, args := #[s, x], argTypes := #[34, 9] })
    (base : Nat) (v : Value) (l : List Nat) (hs : a.eval s = v) (hown : W.ownsRow base 5 1 v l.length (u8s l)) (t : ByteArray)
    (hx : a.eval x = .string t) (hk : l.length ≤ 1000000) (ht : t.size ≤ 1000000) (hb : Below base w0 W) (hbase : base ≤ W.heap.size)
    (h : ∀ v' w', Hid (w'.ownsRow base 5 1 v' (l.length + t.size) (u8s (l ++ bts t))) → Hid (Below base w0 w') → wpList Try.prog ops Q rest (a.put o.dst v') w') :
    wpList Try.prog ops Q (o :: rest) a W := by
  obtain ⟨i0, hi, hz0, hz1, hz2⟩ := info_parts u8_info
  refine Lib.wpList_append_own_string W hgd s x 34 9 ho base 5 i0 Try.underlying34 Try.underlying9 hi hz0 hz1 hz2 v l.length _ hs hown t hx (by unfold maxLen; omega) (by omega) hbase ?_
  intro v' w' h1 h2 _
  refine h v' w' (Lib.hid ?_) (Lib.hid (hb.grown h2 hbase fun k hk => (hown.lt k hk).1))
  rw [strCells_bts] at h1
  rw [show u8s (l ++ bts t) = u8s l ++ u8s (bts t) by simp [u8s]]
  exact h1
set_option maxHeartbeats 2000000 in
theorem wStr_c (b : Nat) (p v : Value) (l : List Nat) (t : ByteArray) (w : World) (hp : p = .pointer none ∨ p = .pointer (some ⟨b, 0, none⟩)) (h : Bld w b p v l) (ht : t.size ≤ 1000000) (hl : l.length ≤ 1000000) :
    Calls Try.prog 14 #[.pointer (some ⟨b, 0, none⟩), .string t] w fun e w' => e = .returned (.tuple #[.int .i64 (t.size : Int), .nilIface]) ∧ ∃ v', Hid (Bld w' b (.pointer (some ⟨b, 0, none⟩)) v' (l ++ bts t)) ∧ Hid (Below b w w') := by
  have HC := Lib.hid (copyCheck_c b p v l w hp h)
  obtain ⟨A, c, rfl⟩ := own_form h.own
  clear h hp
  go_enter Try.func14, Try.ntmps14
  go_upto_region 2 with (first
    | (go_at_call 17; refine HC.out.mono ?_; rintro e w1 ⟨rfl, h1, hb1⟩; have d1 := h1.out.bx.c 1)
    | fail)
  go_wp2_with (at_builtin; go_must (refine wpList_app_str rfl (.tmp 12) (.tmp 13) rfl (b + 1) (.slice A l.length c) l rfl h1.out.own t rfl hl ht (Below.refl _ _) h1.out.bx.lt ?_))
  intro v' w2 ho2 hb2
  obtain ⟨A2, c2, rfl⟩ := own_form ho2.out
  have hx2 := h1.out.bx.below hb2.out (Nat.lt_succ_self b)
  have e1 := hx2.c 1
  have e2 := hx2.fr 1
  have HN : Hid (Bld (w2.setCell ⟨b, 1, none⟩ (.slice A2 (l.length + t.size) c2)) b (.pointer (some ⟨b, 0, none⟩)) (.slice A2 (l.length + t.size) c2) (l ++ bts t)) := Lib.hid ⟨heap_setCell_same w2 b 1 _ _ _ hx2, by
    rw [List.length_append, bts_length]
    exact own_setCell ho2.out (p := ⟨b, 1, none⟩) (Nat.lt_succ_self b) _⟩
  have HB := Lib.hid ((hb1.out.trans (hb2.out.mono (Nat.le_succ b))).setCell (p := ⟨b, 1, none⟩) (Nat.le_refl _) (.slice A2 (l.length + t.size) c2))
  clear d1 hx2 ho2 hb1 hb2 h1
  go_wp2
  go_ret2
  exact ⟨rfl, _, HN, HB⟩
theorem bStr_c (b : Nat) (p v : Value) (l : List Nat) (w : World) (hp : p = .pointer none ∨ p = .pointer (some ⟨b, 0, none⟩)) (h : Bld w b p v l) (hlt : ∀ y ∈ l, y < 256) :
    Calls Try.prog 15 #[.pointer (some ⟨b, 0, none⟩)] w fun e w' => e = .returned (.string (stz l)) ∧ Below b w w' := by
  have hu : u8s l = Lib.byteCells (l.map UInt8.ofNat) := by
    unfold u8s Lib.byteCells
    rw [List.map_map]
    refine List.map_congr_left fun y hy => ?_
    have := hlt y hy
    simp only [Function.comp]
    rw [show (UInt8.ofNat y).toNat = y by simp; omega]
  have hone : Lib.BuilderAt 36 5 b b p (Lib.byteCells (l.map UInt8.ofNat)) w := by
    refine ⟨Nat.le_refl _, v, h.bx, ?_, ?_⟩
    · rw [← hu, u8s_length]
      exact own_weaken h.own (Nat.le_succ _)
    · intro e
      have := (h.own.lt _ e).1
      omega
  have hIB : Lib.IsBuilder 36 5 b b (Lib.byteCells (l.map UInt8.ofNat)) w := by
    rcases hp with rfl | rfl
    · exact .inl hone
    · exact .inr hone
  exact Try.Builder_String_any b b _ w hIB (Nat.le_of_lt h.bx.lt)
end Go.Proofs.Ytiflkkmeloclfaa
