/-
  UB: texts as bytes, rows of runes in memory.
-/
import Derived.Laws.Cover4
import Derived.Lib.OthersKept
import Derived.Test.YtogipbgfnjbakaaDoorKA
import Derived.Test.YtogipbgfnjbakaaDoorUA
set_option maxRecDepth 100000
namespace Go.Proofs.YtogipbgfnjbakaaDoor
open Go.RowKit
/-- A text's bytes. -/
def bts (s : ByteArray) : List Nat := s.data.toList.map UInt8.toNat
theorem bts_length (s : ByteArray) : (bts s).length = s.size := by simp [bts]
theorem bts_lt (s : ByteArray) : ∀ b ∈ bts s, b < 256 := by
  intro b hb
  obtain ⟨x, _, rfl⟩ := List.mem_map.1 hb
  exact x.toNat_lt
theorem bts_get (s : ByteArray) (k : Nat) (hk : k < s.size) : (bts s).getD k 0 = s[k].toNat := by
  have hk' : k < s.data.toList.length := by simpa using hk
  simp only [bts, List.getD, List.getElem?_map, List.getElem?_eq_getElem hk', Option.map_some, Option.getD_some]
  rfl
theorem bts_getD (s : ByteArray) (k : Nat) : (bts s).getD k 0 = (s.get! k).toNat := by
  rcases Nat.lt_or_ge k s.size with hk | hk
  · rw [bts_get s k hk]
    have : s.get! k = s[k] := by
      show s.data[k]! = s.data[k]
      rw [getElem!_pos s.data k hk]
    rw [this]
  · rw [List.getD, List.getElem?_eq_none (by rw [bts_length]; exact hk)]
    have : s.get! k = default := by
      show s.data[k]! = default
      rw [getElem!_neg s.data k (by simpa using hk)]
    rw [this]; rfl
theorem bts_extract (s : ByteArray) (i j : Nat) : bts (s.extract i j) = ((bts s).take j).drop i := by
  simp only [bts, ByteArray.data_extract, Array.toList_extract, List.extract_eq_take_drop, List.map_take, List.map_drop]
  rw [List.drop_take]
theorem bts_from (s : ByteArray) (i : Nat) : bts (s.extract i s.size) = (bts s).drop i := by
  rw [bts_extract, List.take_of_length_le (by rw [bts_length]; exact Nat.le_refl _)]
theorem bts_upto (s : ByteArray) (j : Nat) : bts (s.extract 0 j) = (bts s).take j := by
  rw [bts_extract, List.drop_zero]
theorem bts_append (s t : ByteArray) : bts (s ++ t) = bts s ++ bts t := by
  simp [bts]
theorem bts_inj {s t : ByteArray} (h : bts s = bts t) : s = t := by
  have h2 : s.data.toList = t.data.toList := by
    have hinj : ∀ a b : List UInt8, a.map UInt8.toNat = b.map UInt8.toNat → a = b := by
      intro a b hab
      exact List.map_inj_right (fun x y hxy => UInt8.toNat_inj.1 hxy) |>.1 hab
    exact hinj _ _ h
  cases s; cases t
  simpa using h2
/-- The text of these bytes. -/
def stz (l : List Nat) : ByteArray := ⟨(l.map UInt8.ofNat).toArray⟩
theorem bts_stz {l : List Nat} (h : ∀ b ∈ l, b < 256) : bts (stz l) = l := by
  simp only [bts, stz, List.map_map]
  conv => rhs; rw [← List.map_id l]
  refine List.map_congr_left fun x hx => ?_
  have := h x hx
  simp only [Function.comp, UInt8.toNat_ofNat', id]
  omega
theorem stz_bts (s : ByteArray) : stz (bts s) = s := bts_inj (bts_stz (bts_lt s))
theorem stz_size (l : List Nat) : (stz l).size = l.length := by simp [stz, ByteArray.size]
theorem eq_stz {s : ByteArray} {l : List Nat} (h : bts s = l) : s = stz l := by rw [← h, stz_bts]
theorem stz_nil : stz [] = ⟨#[]⟩ := rfl
theorem stz_append (a b : List Nat) : stz (a ++ b) = stz a ++ stz b := by
  have h : ∀ x y : List UInt8, (⟨(x ++ y).toArray⟩ : ByteArray) = ⟨x.toArray⟩ ++ ⟨y.toArray⟩ := by
    intro x y
    apply ByteArray.ext
    simp
  simp only [stz, List.map_append]
  exact h _ _
theorem toList_bts (s : ByteArray) : s.toList.map UInt8.toNat = bts s := by rw [ByteArray.toList_eq]; rfl
theorem toList_beq (s t : ByteArray) : (s.toList == t.toList) = decide (bts s = bts t) := by
  rw [Bool.eq_iff_iff, beq_iff_eq, decide_eq_true_eq]
  constructor
  · intro h; rw [← toList_bts, ← toList_bts, h]
  · intro h; rw [bts_inj h]
theorem isEmpty_bts (s : ByteArray) : s.toList.isEmpty = decide (s.size = 0) := by
  have h := congrArg List.length (toList_bts s)
  rw [List.length_map, bts_length] at h
  rw [Bool.eq_iff_iff, decide_eq_true_eq, ← h, List.isEmpty_iff]
  exact ⟨fun e => by rw [e]; rfl, fun e => List.eq_nil_of_length_eq_zero e⟩
/-- The model's way over a text. -/
theorem decode_bts (s : ByteArray) (i : Nat) : Utf8.decode s i = decL ((bts s).drop i) := by
  have hg : ∀ k, ((bts s).drop i).getD k 0 = (s.get! (i + k)).toNat := by
    intro k
    rw [← bts_getD, List.getD, List.getD, List.getElem?_drop]
  rw [Lib.decode_at, decL, hg, hg, hg, hg, List.length_drop, bts_length]
  rfl
theorem bts_drop_lt (s : ByteArray) (i : Nat) : ∀ b ∈ (bts s).drop i, b < 256 := fun b hb => bts_lt s b (List.mem_of_mem_drop hb)
theorem bts_take_lt (s : ByteArray) (i : Nat) : ∀ b ∈ (bts s).take i, b < 256 := fun b hb => bts_lt s b (List.mem_of_mem_take hb)
/-- Does s begin with t? -/
def pfx (t s : ByteArray) : Bool := decide (t.size ≤ s.size) && decide ((bts s).take t.size = bts t)
theorem pfx_iff {t s : ByteArray} : pfx t s = true ↔ ∃ r, bts s = bts t ++ r := by
  simp only [pfx, Bool.and_eq_true, decide_eq_true_eq]
  constructor
  · rintro ⟨_, h⟩
    exact ⟨(bts s).drop t.size, by rw [← h, List.take_append_drop]⟩
  · rintro ⟨r, h⟩
    have hl := congrArg List.length h
    rw [List.length_append, bts_length, bts_length] at hl
    refine ⟨by omega, ?_⟩
    rw [h, List.take_append_of_le_length (by rw [bts_length]; exact Nat.le_refl _), List.take_of_length_le (by rw [bts_length]; exact Nat.le_refl _)]
/-- Right as far as p: what is ahead is the bytes of cs. -/
def Upto (s : ByteArray) (p : Nat) (cs : List Nat) : Prop := p ≤ s.size ∧ allC cs = true ∧ (bts s).take p = encs cs
theorem Upto.zero (s : ByteArray) : Upto s 0 [] := ⟨Nat.zero_le _, rfl, rfl⟩
theorem Upto.len {s : ByteArray} {p : Nat} {cs : List Nat} (h : Upto s p cs) : (encs cs).length = p := by
  rw [← h.2.2, List.length_take, bts_length]; have := h.1; omega
theorem Upto.split {s : ByteArray} {p : Nat} {cs : List Nat} (h : Upto s p cs) : bts s = encs cs ++ (bts s).drop p := by rw [← h.2.2, List.take_append_drop]
theorem Upto.scan {s : ByteArray} {p : Nat} {cs : List Nat} (h : Upto s p cs) : cps (bts s) = cs ++ cps ((bts s).drop p) ∧ rst (bts s) = rst ((bts s).drop p) := by
  have e := scan_encs h.2.1 ((bts s).drop p)
  rwa [← h.split] at e
theorem Upto.count {s : ByteArray} {p : Nat} {cs : List Nat} (h : Upto s p cs) : cs.length ≤ p := by rw [← h.len]; exact encs_len cs
theorem Upto.end_ {s : ByteArray} {p : Nat} {cs : List Nat} (h : Upto s p cs) (hp : ¬ p < s.size) : cps (bts s) = cs ∧ rst (bts s) = [] ∧ badZ (bts s) = -1 := by
  have e := h.scan
  rw [List.drop_eq_nil_of_le (by rw [bts_length]; omega), cps_nil, rst_nil, List.append_nil] at e
  exact ⟨e.1, e.2, badZ_right e.2⟩
theorem Upto.here {s : ByteArray} {p : Nat} {cs : List Nat} (h : Upto s p cs) (hp : p < s.size) (hn : fstN ((bts s).drop p) = none) : cps (bts s) = cs ∧ rst (bts s) ≠ [] ∧ badZ (bts s) = (p : Int) := by
  have e := h.scan
  rw [(scan_none hn).1, (scan_none hn).2, List.append_nil] at e
  have hne : rst (bts s) ≠ [] := by
    rw [e.2]
    intro h0
    have := congrArg List.length h0
    rw [List.length_drop, bts_length] at this
    simp at this
    omega
  exact ⟨e.1, hne, by rw [badZ_wrong hne, e.1, h.len]⟩
theorem Upto.step {s : ByteArray} {p : Nat} {cs : List Nat} (h : Upto s p cs) {c : Nat} (hf : fstN ((bts s).drop p) = some c) :
    isC c = true ∧ Upto s (p + (encN c).length) (cs ++ [c]) ∧ Utf8.decode s p = (c, (encN c).length) ∧ 1 ≤ (encN c).length := by
  obtain ⟨h1, h2, h3⟩ := fst_some (bts_drop_lt s p) hf
  have hl := congrArg List.length h2
  rw [List.length_append, List.length_drop, bts_length] at hl
  have hp := encN_pos c
  refine ⟨h1, ⟨by have := h.1; omega, allC_append.2 ⟨h.2.1, by simp [allC, h1]⟩, ?_⟩, by rw [decode_bts, h3], hp⟩
  have e : bts s = (encs cs ++ encN c) ++ ((bts s).drop p).drop (encN c).length := by
    rw [List.append_assoc, ← h2]; exact h.split
  have hL : (encs cs ++ encN c).length = p + (encN c).length := by rw [List.length_append, h.len]
  rw [encs_append, encs_one]
  conv => lhs; rw [e]
  rw [← hL, List.take_append_of_le_length (Nat.le_refl _), List.take_of_length_le (Nat.le_refl _)]
theorem decode_none {s : ByteArray} {p : Nat} (hp : p < s.size) (hn : fstN ((bts s).drop p) = none) : Utf8.decode s p = (65533, 1) := by
  rw [decode_bts]; exact fst_none hn (by rw [List.length_drop, bts_length]; omega)
/-- The bytes of fffd. -/
def standS : ByteArray := ⟨#[239, 191, 189]⟩
theorem bts_stand : bts standS = encN 65533 := rfl
theorem stand_none {s : ByteArray} (hn : fstN (bts s) = none) : pfx standS s = false := by
  rcases hp : pfx standS s with _ | _
  · rfl
  · obtain ⟨r, hr⟩ := pfx_iff.1 hp
    rw [hr, bts_stand, fst_enc (by decide)] at hn
    cases hn
theorem stand_some {s : ByteArray} (hn : fstN (bts s) = some 65533) : pfx standS s = true := by
  have h := (fst_some (bts_lt s) hn).2.1
  exact pfx_iff.2 ⟨_, by rw [bts_stand]; exact h⟩
/-- Is a text right? Its code points; none, if it isn't. -/
def rgt (l : List Nat) : Bool := decide (rst l = [])
def pts (l : List Nat) : List Nat := if rst l = [] then cps l else []
theorem rgt_true {l : List Nat} (h : rst l = []) : rgt l = true ∧ pts l = cps l := ⟨by simp [rgt, h], by simp [pts, h]⟩
theorem rgt_false {l : List Nat} (h : rst l ≠ []) : rgt l = false ∧ pts l = [] := ⟨by simp [rgt, h], by simp [pts, h]⟩
theorem pts_len {l : List Nat} (hb : ∀ b ∈ l, b < 256) : (pts l).length ≤ l.length := by
  unfold pts; split
  · exact cps_len l hb
  · simp
theorem pts_allC {l : List Nat} (hb : ∀ b ∈ l, b < 256) : allC (pts l) = true := by
  unfold pts; split
  · exact (scan_spec l hb).2.1
  · rfl
/-- Code points as runes. -/
def ints (cs : List Nat) : List Int := cs.map fun (c : Nat) => (c : Int)
theorem ints_length (cs : List Nat) : (ints cs).length = cs.length := by simp [ints]
theorem ints_append (us bs : List Nat) : ints (us ++ bs) = ints us ++ ints bs := by simp [ints]
theorem ints_inj {us bs : List Nat} (h : ints us = ints bs) : us = bs := List.map_inj_right (fun _ _ hxy => Int.ofNat.inj hxy) |>.1 h
theorem ints_range {cs : List Nat} (h : allC cs = true) : ∀ z ∈ ints cs, 0 ≤ z ∧ z ≤ 1114111 := by
  intro z hz
  obtain ⟨c, hc, rfl⟩ := List.mem_map.1 hz
  have := isC_le (List.all_eq_true.1 h c hc)
  omega
theorem ints_getD (cs : List Nat) (k : Nat) : (ints cs).getD k 0 = ((cs.getD k 0 : Nat) : Int) := by
  rw [List.getD, List.getD, ints, List.getElem?_map]
  cases cs[k]? <;> rfl
/-- Runes as code points. -/
def nats (zs : List Int) : List Nat := zs.map Int.toNat
theorem nats_ints (cs : List Nat) : nats (ints cs) = cs := by
  simp only [nats, ints, List.map_map]
  conv => rhs; rw [← List.map_id cs]
  exact List.map_congr_left fun x _ => rfl
theorem ints_nats {zs : List Int} (h : zs.all isZ = true) : ints (nats zs) = zs := by
  simp only [nats, ints, List.map_map]
  conv => rhs; rw [← List.map_id zs]
  refine List.map_congr_left fun x hx => ?_
  have := (isZ_iff.1 (List.all_eq_true.1 h x hx)).1
  simp only [Function.comp, id]
  omega
theorem allC_nats {zs : List Int} (h : zs.all isZ = true) : allC (nats zs) = true := by
  refine List.all_eq_true.2 fun c hc => ?_
  obtain ⟨z, hz, rfl⟩ := List.mem_map.1 hc
  have h1 := List.all_eq_true.1 h z hz
  simp only [isZ, Bool.and_eq_true] at h1
  exact h1.2
theorem all_ints {cs : List Nat} (h : allC cs = true) : (ints cs).all isZ = true := by
  refine List.all_eq_true.2 fun z hz => ?_
  obtain ⟨c, hc, rfl⟩ := List.mem_map.1 hz
  rw [isZ_nat]; exact List.all_eq_true.1 h c hc
theorem encode_enc {c : Nat} (hc : isC c = true) : (Utf8.encode (c : Int)) = stz (encN c) := by
  have hv : Utf8.valid (c : Int) = true := by rw [isZ_valid, isZ_nat, hc]
  simp only [Utf8.encode, hv, if_true, Int.toNat_natCast, encN, stz]
  repeat' split
  all_goals rfl
theorem runesBytes_enc {cs : List Nat} (h : allC cs = true) : runesBytes (ints cs) = stz (encs cs) := by
  have hgen : ∀ (us : List Nat) (r : ByteArray), allC us = true → (ints us).foldl (fun r n => r ++ Utf8.encode n) r = r ++ stz (encs us) := by
    intro us
    induction us with
    | nil =>
      intro r _
      show r = r ++ stz []
      rw [stz_nil]
      apply ByteArray.ext
      simp
    | cons a us ih =>
      intro r ha
      obtain ⟨h1, h2⟩ := allC_cons.1 ha
      show (ints us).foldl _ (r ++ Utf8.encode (a : Int)) = _
      rw [ih _ h2, encode_enc h1, encs_cons, stz_append, ByteArray.append_assoc]
  have h0 := hgen cs ByteArray.empty h
  rw [runesBytes, h0]
  apply ByteArray.ext
  simp
/-- Runes as values. -/
def i32s (zs : List Int) : List Value := zs.map (Value.int .i32)
theorem i32s_length (zs : List Int) : (i32s zs).length = zs.length := by simp [i32s]
theorem i32s_get (zs : List Int) (k : Nat) : (i32s zs)[k]? = (zs[k]?).map (Value.int .i32) := by simp [i32s]
theorem i32s_append (zs ys : List Int) : i32s (zs ++ ys) = i32s zs ++ i32s ys := by simp [i32s]
theorem i32s_one (zs : List Int) : ∀ u ∈ i32s zs, u.oneCell' = true := by
  intro u hu
  obtain ⟨x, _, rfl⟩ := List.mem_map.1 hu
  rfl
theorem i32_info : (Tryd.prog.info? 21).map (fun i => (i.zero, i.size, i.bytes)) = some (some (.int .i32 0), 1, 4) := by kernel_rfl
/-- A slice that reads as the runes zs. -/
def Rns (w : World) (A : Option Addr) (n : Nat) (zs : List Int) : Prop := Reads w w.heap.size 1 A n (i32s zs) ∧ n ≤ 36000000000000 ∧ ∀ z ∈ zs, -2147483648 ≤ z ∧ z ≤ 2147483647
section
variable {w w' : World} {n : Nat} {A : Option Addr} {zs : List Int}
theorem Rns.len (h : Rns w A n zs) : zs.length = n := by have := h.1.1; simpa [i32s_length] using this
theorem Rns.below (h : Rns w A n zs) (hb : Below w.heap.size w w') : Rns w' A n zs := ⟨(h.1.below hb).more hb.size, h.2⟩
theorem Rns.at_ {k : Nat} (h : Rns w A n zs) (hk : k < n) : ∃ ad, A = some ad ∧ ad.block < w.heap.size ∧ w.cell? (ad.add k) = some (.int .i32 (zs.getD k 0)) ∧ -2147483648 ≤ zs.getD k 0 ∧ zs.getD k 0 ≤ 2147483647 := by
  obtain ⟨ad, u, e, hb, hx, hc⟩ := h.1.at_ hk
  have hl : k < zs.length := by rw [h.len]; exact hk
  rw [i32s_get, List.getElem?_eq_getElem hl] at hx
  simp at hx
  subst hx
  refine ⟨ad, e, hb, ?_, ?_⟩
  · rw [hc]; simp [List.getD, List.getElem?_eq_getElem hl]
  · simp only [List.getD, List.getElem?_eq_getElem hl, Option.getD_some]; exact h.2.2 _ (List.getElem_mem hl)
end
theorem rns_nil (w : World) : Rns w none 0 [] := ⟨Reads.none_, by omega, by simp⟩
/-- A slice in new memory (from block base on), that holds the runes zs. -/
def OwnR (w : World) (base : Nat) (A : Option Addr) (m c : Nat) (zs : List Int) : Prop :=
  w.ownsRow base 21 1 (.slice A m c) m (i32s zs) ∧ m ≤ 100000000000 ∧ ∀ z ∈ zs, -2147483648 ≤ z ∧ z ≤ 2147483647
section
variable {w w' : World} {base m c : Nat} {A : Option Addr} {zs : List Int}
theorem OwnR.len (h : OwnR w base A m c zs) : zs.length = m := by have := h.1.1; simpa [i32s_length] using this
theorem OwnR.rns (h : OwnR w base A m c zs) : Rns w A m zs := ⟨Reads.of_own h.1, Nat.le_trans h.2.1 (by omega), h.2.2⟩
theorem OwnR.keep {B : Nat} (h : OwnR w base A m c zs) (hb : Below B w w') (hB : B = w.heap.size) : OwnR w' base A m c zs := by
  subst hB
  refine ⟨h.1.kept (row := none) ⟨hb.os, hb.tape, hb.output, hb.size, fun k hk _ => hb.block k hk⟩ ?_, h.2⟩
  cases hv : (Value.slice A m c).ownBlock <;> simp
theorem OwnR.weaken {base' : Nat} (h : OwnR w base A m c zs) (hb : base' ≤ base) : OwnR w base' A m c zs := ⟨own_weaken h.1 hb, h.2⟩
end
theorem ownR_nil (w : World) (base : Nat) : OwnR w base none 0 0 [] := ⟨World.ownsRow_nil _ _ _ _, by omega, by simp⟩
/-- The call's own bytes as a text. -/
theorem conv_own_stz {w : World} {base n : Nat} {v : Value} {xs : List Nat} (h : w.ownsRow base 5 1 v n (u8s xs)) (hx : ∀ x ∈ xs, x < 256) :
    (convert 64 9 v).run Tryd.prog w = .ok (.string (stz xs)) w := by
  obtain ⟨s, h1, h2⟩ := conv_own h hx
  rw [h1, eq_stz (s := s) h2]
/-- 'out = append(out, x)' of one rune, out nil or the call's own. -/
theorem wpList_app_i32 {W w0 : World} {ops : Array Oper} {rest : List Oper} {o : Oper} {a : Act} {Q : Exit → Act → World → Prop} (hgd : o.guard = none) (s x : Operand) (t : TypeId)
    (ho : o.op = .call { callee := .builtin .append, args := #[s, x], argTypes := #[t, t] }) (ht : Tryd.prog.underlying t = some (.slice 21))
    (base : Nat) (v : Value) (k : Nat) (xs : List Int) (hs : a.eval s = v) (hown : W.ownsRow base 21 1 v k (i32s xs)) (E : Int)
    (hx : a.eval x = .slice (some ⟨W.heap.size, 0, none⟩) 1 1) (X : Int) (hE : E = X) (hk : k ≤ 10000000000) (hb : Below base w0 W) (hbase : base ≤ W.heap.size)
    (h : ∀ v' w', Hid (w'.ownsRow base 21 1 v' (k + 1) (i32s (xs ++ [X]))) → Hid (Below base w0 w') → Hid (∀ k, k < W.heap.size → v.ownBlock ≠ some k → w'.heap[k]? = W.heap[k]?) → wpList Tryd.prog ops Q rest (a.put o.dst v') w') :
    wpList Tryd.prog ops Q (o :: rest) a (W.alloc (.cells #[.int .i32 E] 21)) := by
  obtain ⟨i0, hi, hz0, hz1, hz2⟩ := info_parts i32_info
  subst hE
  refine wpList_append_own _ hgd s x t ho base 21 i0 (.int .i32 0) 1 4 ht hi hz0 hz1 hz2 rfl (by decide) v k _ hs (hown.alloc _) ⟨W.heap.size, 0, none⟩ 1 1 [.int .i32 E] hx rfl (cells_one W _ _) ?_ ?_ ?_ ?_ ?_
  · simp [Value.oneCell']
  · unfold maxLen; omega
  · omega
  · simp; omega
  · intro v' w' h1 h2 _
    refine h v' w' ?_ ?_ ?_
    · rw [i32s_append]; exact h1
    · refine (hb.alloc hbase _).grown h2 (by simp; omega) fun j hj => ?_
      exact (hown.lt j hj).1
    · intro k hk hne
      rw [h2.block k (by simp; omega) (fun e => hne e.symm)]
      show (W.heap.push _)[k]? = _
      rw [Array.getElem?_push_lt hk, Array.getElem?_eq_getElem hk]
theorem u8_one (xs : List Nat) : ∀ u ∈ u8s xs, u.oneCell' = true := by
  intro u hu
  obtain ⟨x, _, rfl⟩ := List.mem_map.1 hu
  rfl
/-- 'out = append(out, bs...)', bs a row of the call's own that is not nil. -/
theorem wpList_app_bytes {W w0 : World} {ops : Array Oper} {rest : List Oper} {o : Oper} {a : Act} {Q : Exit → Act → World → Prop} (hgd : o.guard = none) (s x : Operand) (t : TypeId)
    (ho : o.op = .call { callee := .builtin .append, args := #[s, x], argTypes := #[t, t] }) (ht : Tryd.prog.underlying t = some (.slice 5))
    (base : Nat) (v : Value) (k : Nat) (xs : List Nat) (hs : a.eval s = v) (hown : W.ownsRow base 5 1 v k (u8s xs)) (A : Option Addr) (m c base' : Nat) (ys : List Nat)
    (hx : a.eval x = .slice A m c) (hr : W.ownsRow base' 5 1 (.slice A m c) m (u8s ys)) (hm : 0 < m) (hk : k + m ≤ 100000000000) (hb : Below base w0 W) (hbase : base ≤ W.heap.size)
    (h : ∀ v' w', Hid (w'.ownsRow base 5 1 v' (k + m) (u8s (xs ++ ys))) → Hid (Below base w0 w') → wpList Tryd.prog ops Q rest (a.put o.dst v') w') :
    wpList Tryd.prog ops Q (o :: rest) a W := by
  obtain ⟨i0, hi, hz0, hz1, hz2⟩ := info_parts u8_info
  have hR := Reads.of_own hr
  obtain ⟨ad, rfl, _, hc⟩ := hR.2 hm
  have hl : ys.length = m := by have := hR.1; simpa [u8s_length] using this
  refine wpList_append_own _ hgd s x t ho base 5 i0 (.int .u8 0) 1 1 ht hi hz0 hz1 hz2 rfl (by decide) v k _ hs hown ad m c (u8s ys) hx (by rw [u8s_length, hl, Nat.mul_one]) hc (u8_one _) ?_ ?_ hbase ?_
  · unfold maxLen; omega
  · omega
  · intro v' w' h1 h2 _
    refine h v' w' ?_ ?_
    · rw [u8s_append]; exact h1
    · exact hb.grown h2 hbase fun j hj => (hown.lt j hj).1
theorem own_iter_ne {w : World} {base : Nat} {e : TypeId} {v : Value} {n : Nat} {xs : List Value} {q : Nat} {s : ByteArray} {p : Nat} (h : w.ownsRow base e 1 v n xs) (hq : w.heap[q]? = some (.stringIter s p)) : v.ownBlock ≠ some q := by
  intro hv
  rcases h.2 with ⟨rfl, _⟩ | ⟨g, cap, cur, rfl, _, hg, _⟩
  · simp [Value.ownBlock] at hv
  · simp [Value.ownBlock] at hv
    subst hv
    rw [hq] at hg
    cases hg
/-- Moving an iterator on turns no row. -/
theorem own_iterAt {w : World} {base : Nat} {e : TypeId} {v : Value} {n : Nat} {xs : List Value} {q : Nat} {s : ByteArray} {p : Nat} (h : w.ownsRow base e 1 v n xs) (hq : w.heap[q]? = some (.stringIter s p)) (p' : Nat) : (w.iterAt q s p').ownsRow base e 1 v n xs := by
  have hne := own_iter_ne h hq
  refine ⟨h.1, ?_⟩
  rcases h.2 with h' | ⟨g, cap, cur, rfl, hb, hg, h3⟩
  · exact .inl h'
  · refine .inr ⟨g, cap, cur, rfl, hb, ?_, h3⟩
    rw [Lib.iterAt_other w q g s p' (fun e => hne (by simp [Value.ownBlock, e]))]
    exact hg
end Go.Proofs.YtogipbgfnjbakaaDoor
