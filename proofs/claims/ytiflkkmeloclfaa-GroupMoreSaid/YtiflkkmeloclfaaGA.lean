/-
  GA: layer 20, plain: a text in parts; rows of texts in memory.
-/
import Derived.Test.YtiflkkmeloclfaaYC
set_option maxRecDepth 100000
namespace Go.Proofs.Ytiflkkmeloclfaa
open Go.RowKit
/-- The first e bytes of s in parts of q, from behind. -/
def bkG (s : ByteArray) (q : Nat) (e : Nat) : List ByteArray :=
  if q = 0 ∨ e ≤ q then [s.extract 0 e] else bkG s q (e - q) ++ [s.extract (e - q) e]
termination_by e
decreasing_by omega
/-- What Split answers. -/
def splG (s : ByteArray) (p q : Int) : List ByteArray :=
  if p < 1 ∨ (s.size : Int) ≤ p then [s] else
    bkG s (if q < 1 then p.toNat else q.toNat) (s.size - p.toNat) ++ [s.extract (s.size - p.toNat) s.size]
theorem bkG_last {s : ByteArray} {q e : Nat} (h : e ≤ q) : bkG s q e = [s.extract 0 e] := by rw [bkG, if_pos (.inr h)]
theorem bkG_more {s : ByteArray} {q e : Nat} (hq : 1 ≤ q) (h : q < e) : bkG s q e = bkG s q (e - q) ++ [s.extract (e - q) e] := by
  rw [bkG, if_neg (by omega)]
theorem bkG_step {s : ByteArray} {q at_ : Nat} (hq : 1 ≤ q) (h : 1 ≤ at_) : bkG s q (at_ + q) = bkG s q at_ ++ [s.extract at_ (at_ + q)] := by
  rw [bkG_more hq (by omega), Nat.add_sub_cancel]
theorem bkG_len {s : ByteArray} {q : Nat} (hq : 1 ≤ q) (e : Nat) (he : 1 ≤ e) : 1 ≤ (bkG s q e).length ∧ (bkG s q e).length ≤ e := by
  induction e using Nat.strongRecOn with
  | _ e ih =>
    by_cases h : e ≤ q
    · rw [bkG_last h]; simp; omega
    · rw [bkG_more hq (by omega), List.length_append]
      have := ih (e - q) (by omega) (by omega)
      simp; omega
theorem splG_pos (s : ByteArray) (p q : Int) : 1 ≤ (splG s p q).length ∧ (splG s p q).length ≤ s.size + 1 := by
  unfold splG
  split
  · simp
  · next h =>
    rw [List.length_append]
    have := bkG_len (s := s) (q := if q < 1 then p.toNat else q.toNat) (by split <;> omega) (s.size - p.toNat) (by omega)
    simp; omega
/-- Parts put together, with t between. -/
def joinB : List ByteArray → ByteArray → List Nat
  | [], _ => []
  | x :: r, t => bts x ++ (r.map fun y => bts t ++ bts y).flatten
theorem joinB_snoc {l : List ByteArray} {x t : ByteArray} (h : l ≠ []) : joinB (l ++ [x]) t = joinB l t ++ bts t ++ bts x := by
  cases l with
  | nil => exact absurd rfl h
  | cons a r => simp [joinB]
theorem joinB_take_zero (l : List ByteArray) (t : ByteArray) : joinB (l.take 0) t = [] := by rw [List.take_zero]; rfl
theorem joinB_take_one {l : List ByteArray} {t : ByteArray} (h : 0 < l.length) : joinB (l.take 1) t = bts l[0] := by
  cases l with
  | nil => cases h
  | cons a r => simp [joinB]
theorem joinB_take {l : List ByteArray} {t : ByteArray} {k : Nat} (hk : 0 < k) (h : k < l.length) : joinB (l.take (k + 1)) t = joinB (l.take k) t ++ bts t ++ bts l[k] := by
  rw [← List.take_append_getElem h, joinB_snoc]
  intro e
  have := congrArg List.length e
  rw [List.length_take, List.length_nil] at this
  omega
theorem joinB_len {l : List ByteArray} {t : ByteArray} {n : Nat} (h : ∀ x ∈ l, x.size ≤ n) : (joinB l t).length ≤ l.length * (n + t.size) := by
  cases l with
  | nil => simp [joinB]
  | cons a r =>
    have h1 : ∀ (r : List ByteArray), (∀ x ∈ r, x.size ≤ n) → ((r.map fun y => bts t ++ bts y).flatten).length ≤ r.length * (n + t.size) := by
      intro r
      induction r with
      | nil => intro _; simp
      | cons b r ih =>
        intro hr
        have := ih fun x hx => hr x (List.mem_cons_of_mem _ hx)
        have hb := hr b List.mem_cons_self
        simp only [List.map_cons, List.flatten_cons, List.length_append, bts_length, List.length_cons] at this ⊢
        rw [Nat.add_mul]
        omega
    have := h1 r fun x hx => h x (List.mem_cons_of_mem _ hx)
    have ha := h a List.mem_cons_self
    simp only [joinB, List.length_append, bts_length, List.length_cons]
    rw [Nat.add_mul]
    omega
theorem joinB_lt (l : List ByteArray) (t : ByteArray) : ∀ y ∈ joinB l t, y < 256 := by
  cases l with
  | nil => intro y hy; cases hy
  | cons a r =>
    intro y hy
    simp only [joinB, List.mem_append, List.mem_flatten, List.mem_map] at hy
    rcases hy with h | ⟨z, ⟨b, _, rfl⟩, hz⟩
    · exact bts_lt a y h
    · rcases List.mem_append.1 hz with h | h
      · exact bts_lt t y h
      · exact bts_lt b y h
/-- Texts as cells. -/
def txV (l : List ByteArray) : List Value := l.map Value.string
theorem txV_length (l : List ByteArray) : (txV l).length = l.length := by simp [txV]
theorem txV_append (l r : List ByteArray) : txV (l ++ r) = txV l ++ txV r := by simp [txV]
theorem str_info : (Try.prog.info? 9).map (fun i => (i.zero, i.size, i.bytes)) = some (some (.string ⟨#[]⟩), 1, 16) := by kernel_rfl
/-- A row of texts of the call's own. -/
def OwTx (w : World) (base : Nat) (v : Value) (ts : List ByteArray) : Prop := w.ownsRow base 9 1 v ts.length (txV ts)
/-- A row of texts that is read. -/
def Tls (w : World) (A : Option Addr) (n : Nat) (ts : List ByteArray) : Prop := Reads w w.heap.size 1 A n (txV ts) ∧ n ≤ 36000000000000
theorem Tls.len {w : World} {A : Option Addr} {n : Nat} {ts : List ByteArray} (h : Tls w A n ts) : ts.length = n := by have := h.1.1; rw [txV_length] at this; omega
theorem Tls.below {w w' : World} {A : Option Addr} {n : Nat} {ts : List ByteArray} (h : Tls w A n ts) (hb : Below w.heap.size w w') : Tls w' A n ts := ⟨(h.1.below hb).more hb.size, h.2⟩
theorem Tls.at_ {w : World} {A : Option Addr} {n k : Nat} {ts : List ByteArray} (h : Tls w A n ts) (hk : k < n) (hl : k < ts.length) : ∃ ad, A = some ad ∧ w.cell? (ad.add k) = some (.string ts[k]) := by
  obtain ⟨ad, rfl, _, hc⟩ := h.1.2 (by omega)
  refine ⟨ad, rfl, hc k _ ?_⟩
  rw [txV, List.getElem?_map, List.getElem?_eq_getElem hl]; rfl
theorem Tls.of_own {w : World} {base : Nat} {A : Option Addr} {n c : Nat} {ts : List ByteArray} (h : OwTx w base (.slice A n c) ts) (hn : ts.length ≤ 36000000000000) : Tls w A n ts := by
  obtain ⟨A', c', e⟩ := own_form h
  cases e
  exact ⟨Reads.of_own h, hn⟩
theorem OwTx.form {w : World} {base : Nat} {v : Value} {ts : List ByteArray} (h : OwTx w base v ts) : ∃ A c, v = .slice A ts.length c := own_form h
theorem OwTx.keep {w w' : World} {base B : Nat} {v : Value} {ts : List ByteArray} (h : OwTx w base v ts) (hb : Below B w w') (hB : B = w.heap.size) : OwTx w' base v ts := own_keptN h hb hB
theorem OwTx.one (w : World) (x : ByteArray) : OwTx (w.alloc (.cells #[.string x] 9)) w.heap.size (.slice (some ⟨w.heap.size, 0, none⟩) 1 1) [x] := by
  refine own_of_blk (w := w.alloc (.cells #[.string x] 9)) (xs := [.string x]) ?_ (Nat.le_refl _) rfl (by decide)
  show (w.heap.push _)[w.heap.size]? = _
  rw [Array.getElem?_push_size]
theorem OwTx.none_ (w : World) : OwTx (w.alloc (.cells #[] 9)) w.heap.size (.slice (some ⟨w.heap.size, 0, none⟩) 0 0) [] := by
  refine own_of_blk (w := w.alloc (.cells #[] 9)) (xs := []) ?_ (Nat.le_refl _) rfl (by decide)
  show (w.heap.push _)[w.heap.size]? = _
  rw [Array.getElem?_push_size]
/-- 'out = append(out, x)' of one text, out the call's own. -/
theorem wpList_app_txt {W w0 : World} {ops : Array Oper} {rest : List Oper} {o : Oper} {a : Act} {Q : Exit → Act → World → Prop} (hgd : o.guard = none) (s x : Operand) (t : TypeId)
    (ho : o.op = .call { callee := .builtin .append, args := #[s, x], argTypes := #[t, t] }) (ht : Try.prog.underlying t = some (.slice 9))
    (base : Nat) (v : Value) (ts : List ByteArray) (hs : a.eval s = v) (hown : OwTx W base v ts) (u : ByteArray)
    (hx : a.eval x = .slice (some ⟨W.heap.size, 0, none⟩) 1 1) (hk : ts.length ≤ 1000000000) (hb : Below base w0 W) (hbase : base ≤ W.heap.size)
    (h : ∀ v' w', Hid (OwTx w' base v' (ts ++ [u])) → Hid (Below base w0 w') → wpList Try.prog ops Q rest (a.put o.dst v') w') :
    wpList Try.prog ops Q (o :: rest) a (W.alloc (.cells #[.string u] 9)) := by
  obtain ⟨i0, hi, hz0, hz1, hz2⟩ := info_parts str_info
  refine wpList_append_own _ hgd s x t ho base 9 i0 (.string ⟨#[]⟩) 1 16 ht hi hz0 hz1 hz2 rfl (by decide) v _ _ hs (World.ownsRow.alloc hown _) ⟨W.heap.size, 0, none⟩ 1 1 [.string u] hx rfl (cells_one W _ _) ?_ ?_ ?_ ?_ ?_
  · simp [Value.oneCell']
  · unfold maxLen; omega
  · omega
  · simp; omega
  · intro v' w' h1 h2 _
    refine h v' w' ?_ ?_
    · show Hid (w'.ownsRow _ _ _ _ _ _)
      rw [txV_append, List.length_append]; exact Lib.hid h1
    · exact Lib.hid ((hb.alloc hbase _).grown h2 (by simp; omega) fun j hj => (World.ownsRow.lt hown j hj).1)
/-- 'append([]string{u}, out...)'. -/
theorem wpList_pre_txt {W w0 : World} {ops : Array Oper} {rest : List Oper} {o : Oper} {a : Act} {Q : Exit → Act → World → Prop} (hgd : o.guard = none) (s x : Operand) (t : TypeId)
    (ho : o.op = .call { callee := .builtin .append, args := #[s, x], argTypes := #[t, t] }) (ht : Try.prog.underlying t = some (.slice 9))
    (base : Nat) (v : Value) (ts : List ByteArray) (hx : a.eval x = v) (hown : OwTx W base v ts) (u : ByteArray)
    (hs : a.eval s = .slice (some ⟨W.heap.size, 0, none⟩) 1 1) (hk : ts.length ≤ 1000000000) (hb : Below base w0 W) (hbase : base ≤ W.heap.size)
    (h : ∀ v' w', Hid (OwTx w' base v' (u :: ts)) → Hid (Below base w0 w') → wpList Try.prog ops Q rest (a.put o.dst v') w') :
    wpList Try.prog ops Q (o :: rest) a (W.alloc (.cells #[.string u] 9)) := by
  obtain ⟨i0, hi, hz0, hz1, hz2⟩ := info_parts str_info
  have hone : OwTx (W.alloc (.cells #[.string u] 9)) base (.slice (some ⟨W.heap.size, 0, none⟩) 1 1) [u] := own_weaken (OwTx.one W u) hbase
  have hR := hown.form
  obtain ⟨A, c, rfl⟩ := hR
  cases A with
  | none =>
    have e : c = 0 ∧ ts = [] := by
      rcases hown.2 with ⟨e, e2⟩ | ⟨g, cap, cur, e, _⟩
      · injection e with _ _ e3; exact ⟨e3, List.eq_nil_of_length_eq_zero e2⟩
      · injection e with e1; cases e1
    obtain ⟨rfl, rfl⟩ := e
    refine wpList_append_own_none hgd s x t ho base 9 i0 1 ht hi _ _ _ hs hone hx ?_
    exact h _ _ (Lib.hid hone) (Lib.hid (hb.alloc hbase _))
  | some ad =>
    have hT := (Reads.of_own hown)
    refine wpList_append_own _ hgd s x t ho base 9 i0 (.string ⟨#[]⟩) 1 16 ht hi hz0 hz1 hz2 rfl (by decide) _ _ _ hs hone ad ts.length c (txV ts) hx (by rw [txV_length, Nat.mul_one]) ?_ ?_ ?_ ?_ ?_ ?_
    · intro j y hy
      have hl := (List.getElem?_eq_some_iff.1 hy).1
      rw [txV_length] at hl
      obtain ⟨a2, e2, _, h3⟩ := (Reads.below hT ((Below.refl W.heap.size W).alloc (Nat.le_refl _) (.cells #[.string u] 9))).2 (by omega)
      obtain rfl := Option.some.inj e2
      exact h3 j y hy
    · intro y hy
      obtain ⟨z, _, rfl⟩ := List.mem_map.1 hy
      rfl
    · unfold maxLen; simp; omega
    · simp; omega
    · simp; omega
    · intro v' w' h1 h2 _
      refine h v' w' ?_ ?_
      · show Hid (w'.ownsRow _ _ _ _ _ _)
        rw [List.length_cons, Nat.add_comm]
        exact Lib.hid h1
      · exact Lib.hid ((hb.alloc hbase _).grown h2 (by simp; omega) fun j hj => by
          have : j = W.heap.size := by
            have : some W.heap.size = some j := hj
            exact (Option.some.inj this).symm
          omega)
end Go.Proofs.Ytiflkkmeloclfaa
