/-
  KA: Base, Math, Dig, MulMath, DivMath, DivMath2, TenMath, Own, Ours.
-/
import Derived.WalkKit
import Derived.Handy
import Derived.Lib.Hide
import Derived.Below
import Derived.Laws.OwnMore
import Derived.Laws.MakeOwn
import Derived.Deep.AppendLies
import Derived.Deep.Draws
import Derived.Deep.QuietTactic
import Derived.BigQuiet
import Derived.RegionTactic
import Derived.OwnWalk
import Derived.Laws.CopyOwn
import Derived.Maps.AppendAt
import Derived.Lib.MinMax
import Derived.Laws.IdiomStrings
import Derived.Laws.BytesArg
import Derived.Outline
import Derived.WalkSpells
import Derived.WalkLawsBesides
import Derived.Test.YtiflkkmeloclfaaRows
/- Base -/
/-
  Plain lemmas over memory: a slice that reads as a list (nil included).
-/
set_option maxRecDepth 100000
namespace Go.Proofs.Ytiflkkmeloclfaa
open Go.RowKit

theorem block_of_add (a : Addr) (n : Nat) : (a.add n).block = a.block := by unfold Addr.add; split <;> rfl
theorem add_of_add (a : Addr) (i j : Nat) : (a.add i).add j = a.add (i + j) := by
  unfold Addr.add
  by_cases hi : i = 0 <;> by_cases hj : j = 0 <;> simp [hi, hj, Nat.add_assoc]

/-- The slice value with address A and length n holds the cells xs, below block B. -/
def Reads (w : World) (B size : Nat) (A : Option Addr) (n : Nat) (xs : List Value) : Prop :=
  xs.length = n * size ∧ (0 < n → ∃ ad, A = some ad ∧ ad.block < B ∧ ∀ j u, xs[j]? = some u → w.cell? (ad.add j) = some u)

section
variable {w w' : World} {B B' size n : Nat} {A : Option Addr} {xs : List Value}
theorem Reads.none_ : Reads w B size A 0 [] := ⟨by simp, fun h => absurd h (by omega)⟩
theorem Reads.at_ {k : Nat} (h : Reads w B 1 A n xs) (hk : k < n) : ∃ ad u, A = some ad ∧ ad.block < B ∧ xs[k]? = some u ∧ w.cell? (ad.add k) = some u := by
  obtain ⟨ad, e, hb, hc⟩ := h.2 (by omega)
  have hl : k < xs.length := by have := h.1; omega
  exact ⟨ad, xs[k], e, hb, List.getElem?_eq_getElem hl, hc k _ (List.getElem?_eq_getElem hl)⟩
theorem Reads.keep (h : Reads w B size A n xs) (hk : ∀ p : Addr, p.block < B → w'.cell? p = w.cell? p) : Reads w' B size A n xs :=
  ⟨h.1, fun hn => by
    obtain ⟨ad, e, hb, hc⟩ := h.2 hn
    exact ⟨ad, e, hb, fun j u hu => (hk _ (by rw [block_of_add]; exact hb)).trans (hc j u hu)⟩⟩
theorem Reads.more (h : Reads w B size A n xs) (hB : B ≤ B') : Reads w B' size A n xs :=
  ⟨h.1, fun hn => by
    obtain ⟨ad, e, hb, hc⟩ := h.2 hn
    exact ⟨ad, e, by omega, hc⟩⟩
theorem Reads.below (h : Reads w B size A n xs) (hb : Below B w w') : Reads w' B size A n xs := h.keep fun _ hp => hb.cell hp
theorem Reads.drew (h : Reads w B size A n xs) : Reads w.drew B size A n xs := h
theorem Reads.drewN (h : Reads w B size A n xs) (k : Nat) : Reads (w.drewN k) B size A n xs := h
theorem Reads.alloc (h : Reads w B size A n xs) (hB : B ≤ w.heap.size) (o : Obj) : Reads (w.alloc o) B size A n xs := h.keep fun p hp => World.cell?_alloc_lt w o p (by omega)
theorem Reads.setCell (h : Reads w B size A n xs) {p : Addr} (hB : B ≤ p.block) (u : Value) : Reads (w.setCell p u) B size A n xs :=
  h.keep fun q hq => World.cell?_setCell_other w p q u (fun e => by subst e; omega)
theorem Reads.grown (h : Reads w B size A n xs) {row : Option Nat} (hg : w.grownBy w' row) (hB : B ≤ w.heap.size) (hr : ∀ g, row = some g → B ≤ g) : Reads w' B size A n xs :=
  h.keep fun p hp => World.cell?_of_block (hg.block p.block (by omega) (fun e => by have := hr _ e.symm; omega))
theorem Reads.cut (h : Reads w B size A n xs) {k cap : Nat} (hk : k ≤ n) (hc : n ≤ cap) :
    Reads w B size (if cap = k then A else A.map (·.add (k * size))) (n - k) (xs.drop (k * size)) := by
  refine ⟨by rw [List.length_drop, h.1, Nat.sub_mul], fun hn => ?_⟩
  obtain ⟨ad, rfl, hb, hcell⟩ := h.2 (by omega)
  rw [if_neg (by omega)]
  refine ⟨ad.add (k * size), rfl, by rw [block_of_add]; exact hb, fun j u hu => ?_⟩
  rw [add_of_add]
  exact hcell _ u (by rw [← hu, List.getElem?_drop])
theorem Reads.of_own {base : Nat} {e : TypeId} {c : Nat} (h : w.ownsRow base e size (.slice A n c) n xs) : Reads w w.heap.size size A n xs := by
  refine ⟨h.1, fun hn => ?_⟩
  obtain ⟨g, cap, hv, _, hlt⟩ := h.form hn
  have hA : A = some ⟨g, 0, none⟩ := by injection hv
  subst hA
  exact ⟨_, rfl, hlt, h.cells (g := g) rfl⟩
end

/-- Limbs as values. -/
def u32s (xs : List Nat) : List Value := xs.map fun (x : Nat) => Value.int .u32 (x : Int)
theorem u32s_length (xs : List Nat) : (u32s xs).length = xs.length := by simp [u32s]
theorem u32s_get (xs : List Nat) (k : Nat) : (u32s xs)[k]? = (xs[k]?).map fun (x : Nat) => Value.int .u32 (x : Int) := by simp [u32s]

theorem u32s_append (xs ys : List Nat) : u32s (xs ++ ys) = u32s xs ++ u32s ys := by simp [u32s]
/-- A slice that reads as the limbs xs. -/
def Limbs (w : World) (A : Option Addr) (n : Nat) (xs : List Nat) : Prop := Reads w w.heap.size 1 A n (u32s xs) ∧ n ≤ 36000000000000 ∧ ∀ x ∈ xs, x < 4294967296

section
variable {w w' : World} {n : Nat} {A : Option Addr} {xs : List Nat}
theorem Limbs.len (h : Limbs w A n xs) : xs.length = n := by have := h.1.1; simpa [u32s_length] using this
theorem Limbs.below (h : Limbs w A n xs) (hb : Below w.heap.size w w') : Limbs w' A n xs := ⟨(h.1.below hb).more hb.size, h.2⟩
theorem Limbs.at_ {k : Nat} (h : Limbs w A n xs) (hk : k < n) : ∃ ad, A = some ad ∧ ad.block < w.heap.size ∧ w.cell? (ad.add k) = some (.int .u32 ((xs.getD k 0 : Nat) : Int)) ∧ xs.getD k 0 < 4294967296 := by
  obtain ⟨ad, u, e, hb, hx, hc⟩ := h.1.at_ hk
  have hl : k < xs.length := by rw [h.len]; exact hk
  rw [u32s_get, List.getElem?_eq_getElem hl] at hx
  simp at hx
  subst hx
  refine ⟨ad, e, hb, ?_, ?_⟩
  · rw [hc]; simp [List.getD, List.getElem?_eq_getElem hl]
  · simp [List.getD, List.getElem?_eq_getElem hl]; exact h.2.2 _ (List.getElem_mem hl)
end

theorem u32_info : (Try.prog.info? 51).map (fun i => (i.zero, i.size, i.bytes)) = some (some (.int .u32 0), 1, 4) := by kernel_rfl

/-- A slice in new memory (from block base on), that holds the limbs ys. -/
def OwnS (w : World) (base : Nat) (A : Option Addr) (m c : Nat) (ys : List Nat) : Prop :=
  w.ownsRow base 51 1 (.slice A m c) m (u32s ys) ∧ m ≤ 1000000000 ∧ ∀ x ∈ ys, x < 4294967296

section
variable {w w' : World} {base m c : Nat} {A : Option Addr} {ys : List Nat}
theorem OwnS.len (h : OwnS w base A m c ys) : ys.length = m := by have := h.1.1; simpa [u32s_length] using this
theorem OwnS.limbs (h : OwnS w base A m c ys) : Limbs w A m ys := ⟨Reads.of_own h.1, Nat.le_trans h.2.1 (by omega), h.2.2⟩
theorem OwnS.keep {B : Nat} (h : OwnS w base A m c ys) (hb : Below B w w') (hB : B = w.heap.size) : OwnS w' base A m c ys := by
  subst hB
  refine ⟨h.1.kept (row := none) ⟨hb.os, hb.tape, hb.output, hb.size, fun k hk _ => hb.block k hk⟩ ?_, h.2⟩
  cases hv : (Value.slice A m c).ownBlock <;> simp
end

theorem own_blk {w : World} {base g n : Nat} {e : TypeId} {xs : List Value} (h : w.ownsRow base e 1 (.slice (some ⟨g, 0, none⟩) n n) n xs) :
    w.heap[g]? = some (.cells xs.toArray e (0, 0)) ∧ base ≤ g ∧ n ≤ maxLen ∧ xs.length = n := by
  obtain ⟨hl, hc⟩ := h
  rcases hc with ⟨h', _⟩ | ⟨g', cap', cur, h', hb, hg, hnc, hcm, hcs, htake⟩
  · simp at h'
  · simp only [Value.slice.injEq, Option.some.injEq, Addr.mk.injEq, and_true, true_and] at h'
    obtain ⟨rfl, rfl⟩ := h'
    have e1 : cur.toList = xs := by rw [← htake, List.take_of_length_le (by simp; omega)]
    refine ⟨?_, hb, hcm, by simpa using hl⟩
    rw [hg, ← e1]
theorem own_of_blk {w : World} {base g n : Nat} {e : TypeId} {xs : List Value} (hh : w.heap[g]? = some (.cells xs.toArray e (0, 0))) (hb : base ≤ g) (hl : xs.length = n) (hm : n ≤ maxLen) :
    w.ownsRow base e 1 (.slice (some ⟨g, 0, none⟩) n n) n xs :=
  ⟨by simpa using hl, .inr ⟨g, n, xs.toArray, rfl, hb, hh, Nat.le_refl _, hm, by simpa using hl, by simp [← hl]⟩⟩
theorem u32_one (xs : List Nat) : ∀ u ∈ u32s xs, u.oneCell' = true := by
  intro u hu
  simp only [u32s, List.mem_map] at hu
  obtain ⟨x, _, rfl⟩ := hu
  rfl
theorem made_u32 (k : Nat) : (madeCells #[Value.int .u32 0] k).toList = u32s (List.replicate k 0) := by
  simp only [madeCells, u32s, List.map_replicate, Array.toList_map, Array.toList_range]
  rw [List.eq_replicate_iff]
  refine ⟨by simp, fun b hb => ?_⟩
  obtain ⟨x, _, rfl⟩ := List.mem_map.1 hb
  have : x % (#[Value.int .u32 0] : Array Value).size = 0 := Nat.mod_one x
  rw [this]; rfl
theorem _root_.Go.RowKit.Below.of_drewN {B : Nat} {a w : World} (h : Below B a w) (n : Nat) : Below B a (w.drewN n) := ⟨h.os, h.tape, h.output, h.size, h.block⟩
theorem list_ext_getD {xs ys : List Nat} (hl : xs.length = ys.length) (h : ∀ j, j < xs.length → xs.getD j 0 = ys.getD j 0) : xs = ys := by
  apply List.ext_getElem hl
  intro i h1 h2
  have := h i h1
  simpa [List.getD, List.getElem?_eq_getElem h1, List.getElem?_eq_getElem h2] using this
theorem quiet_add_left {P : Program} {f : FuncId} {args : Array Value} {w : World} {a n : Nat} {v : Value}
    (h : Calls P f args (w.drewN (a + n)) fun e w' => e = .returned v ∧ w.drewN (a + n) = w') :
    Calls P f args (w.drewN (a + n)) fun e w'' => e = .returned v ∧ ∃ m, w'' = w.drewN (a + m) :=
  h.mono fun _ _ ⟨he, hm⟩ => ⟨he, n, hm.symm⟩
theorem quiet_left {P : Program} {f : FuncId} {args : Array Value} {w : World} {n : Nat} {v : Value}
    (h : Calls P f args (w.drewN n) fun e w' => e = .returned v ∧ w.drewN n = w') : Calls P f args (w.drewN n) fun e w'' => e = .returned v ∧ ∃ m, w'' = w.drewN m :=
  h.mono fun _ _ ⟨he, hm⟩ => ⟨he, n, hm.symm⟩
theorem own_weaken {w : World} {base base' : Nat} {e : TypeId} {size : Nat} {v : Value} {n : Nat} {xs : List Value} (h : w.ownsRow base e size v n xs) (hb : base' ≤ base) : w.ownsRow base' e size v n xs := by
  refine ⟨h.1, ?_⟩
  rcases h.2 with h' | ⟨g, cap, cur, h1, h2, h3⟩
  · exact .inl h'
  · exact .inr ⟨g, cap, cur, h1, Nat.le_trans hb h2, h3⟩
theorem OwnS.weaken {w : World} {base base' m c : Nat} {A : Option Addr} {ys : List Nat} (h : OwnS w base A m c ys) (hb : base' ≤ base) : OwnS w base' A m c ys := ⟨own_weaken h.1 hb, h.2⟩
theorem ret_int {k : IntKind} {a b : Int} (h : a = b) : Ending.returned (.int k a) = .returned (.int k b) := by rw [h]
theorem ret_bool {a b : Bool} (h : a = b) : Ending.returned (.bool a) = .returned (.bool b) := by rw [h]
/-- Bytes as values. -/
def u8s (xs : List Nat) : List Value := xs.map fun (x : Nat) => Value.int .u8 (x : Int)
theorem u8s_length (xs : List Nat) : (u8s xs).length = xs.length := by simp [u8s]
theorem u8s_get (xs : List Nat) (k : Nat) : (u8s xs)[k]? = (xs[k]?).map fun (x : Nat) => Value.int .u8 (x : Int) := by simp [u8s]
theorem u8s_append (xs ys : List Nat) : u8s (xs ++ ys) = u8s xs ++ u8s ys := by simp [u8s]
theorem u8_info : (Try.prog.info? 5).map (fun i => (i.zero, i.size, i.bytes)) = some (some (.int .u8 0), 1, 1) := by kernel_rfl
/-- A byte as a text. -/
def byteStr (v : Int) : ByteArray := ⟨#[UInt8.ofNat v.toNat]⟩
theorem byteStr_size (v : Int) : (byteStr v).size = 1 := rfl
theorem conv_byte (W : World) (cap : Nat) (v : Int) (h0 : 0 ≤ v) (h1 : v < 256) :
    (convert 34 9 (.slice (some ⟨W.heap.size, 0, none⟩) 1 cap)).run Try.prog (W.alloc (.cells #[.int .u8 v] 5)) = .ok (.string (byteStr v)) (W.alloc (.cells #[.int .u8 v] 5)) := by
  have := run_convert_bytes_back (P := Try.prog) (W.alloc (.cells #[.int .u8 v] 5)) 34 9 5 ⟨W.heap.size, 0, none⟩ cap [UInt8.ofNat v.toNat] Try.underlying34 Try.underlying5 Try.underlying9
    (fun j hj => by
      obtain rfl : j = 0 := by simpa using hj
      rw [show (⟨W.heap.size, 0, none⟩ : Addr).add 0 = ⟨W.heap.size, 0, none⟩ by simp [Addr.add], World.cell?_alloc_at _ _ _ _ rfl]
      have e : ((UInt8.ofNat v.toNat).toNat : Int) = v := by
        rw [UInt8.toNat_ofNat']
        omega
      simp only [List.getElem_cons_zero, e]
      rfl)
  exact this
/-- A slice that reads as the bytes xs. -/
def Bytes (w : World) (A : Option Addr) (n : Nat) (xs : List Nat) : Prop := Reads w w.heap.size 1 A n (u8s xs) ∧ n ≤ 1000000000 ∧ ∀ x ∈ xs, x < 256
section
variable {w w' : World} {n : Nat} {A : Option Addr} {xs : List Nat}
theorem Bytes.len (h : Bytes w A n xs) : xs.length = n := by have := h.1.1; simpa [u8s_length] using this
theorem Bytes.below (h : Bytes w A n xs) (hb : Below w.heap.size w w') : Bytes w' A n xs := ⟨(h.1.below hb).more hb.size, h.2⟩
theorem Bytes.at_ {k : Nat} (h : Bytes w A n xs) (hk : k < n) : ∃ ad, A = some ad ∧ ad.block < w.heap.size ∧ w.cell? (ad.add k) = some (.int .u8 ((xs.getD k 0 : Nat) : Int)) ∧ xs.getD k 0 < 256 := by
  obtain ⟨ad, u, e, hb, hx, hc⟩ := h.1.at_ hk
  have hl : k < xs.length := by rw [h.len]; exact hk
  rw [u8s_get, List.getElem?_eq_getElem hl] at hx
  simp at hx
  subst hx
  refine ⟨ad, e, hb, ?_, ?_⟩
  · rw [hc]; simp [List.getD, List.getElem?_eq_getElem hl]
  · simp [List.getD, List.getElem?_eq_getElem hl]; exact h.2.2 _ (List.getElem_mem hl)
/-- The row of bytes of the call's own, as a text. -/
theorem conv_own {base : Nat} {v : Value} (h : w.ownsRow base 5 1 v n (u8s xs)) (hx : ∀ x ∈ xs, x < 256) :
    ∃ s : ByteArray, (convert 34 9 v).run Try.prog w = .ok (.string s) w ∧ s.data.toList.map UInt8.toNat = xs := by
  have hl : xs.length = n := by have := h.1; simpa [u8s_length] using this
  rcases h.2 with ⟨rfl, hn⟩ | ⟨g, cap, cur, rfl, _⟩
  · refine ⟨ByteArray.empty, run_convert_bytes_nil (P := Try.prog) w 34 5 Try.underlying34 Try.underlying5 0 0 9 Try.underlying9, ?_⟩
    obtain rfl : xs = [] := List.eq_nil_of_length_eq_zero (by omega)
    rfl
  · have hr := run_convert_bytes_arg (P := Try.prog) w 34 5 Try.underlying34 Try.underlying5 g 0 n cap (xs.map fun (x : Nat) => (x : Int)) (by simpa using hl)
      (fun i hi => by
        rw [Nat.zero_add, h.cellAt i (by omega), u8s_get]
        simp [List.getD, List.getElem?_eq_getElem (show i < xs.length by omega)]) 9 Try.underlying9
    refine ⟨_, hr, ?_⟩
    rw [strOfNums_data, List.map_map, List.map_map]
    conv => rhs; rw [← List.map_id xs]
    refine List.map_congr_left fun x hx' => ?_
    have := hx x hx'
    simp only [Function.comp, Int.toNat_natCast, UInt8.toNat_ofNat', id]
    omega
end
theorem Bytes.of_own {w : World} {base n c : Nat} {A : Option Addr} {xs : List Nat} (h : w.ownsRow base 5 1 (.slice A n c) n (u8s xs)) (hn : n ≤ 1000000000) (hx : ∀ x ∈ xs, x < 256) : Bytes w A n xs := ⟨Reads.of_own h, hn, hx⟩
theorem own_form {w : World} {base : Nat} {e : TypeId} {size : Nat} {v : Value} {n : Nat} {xs : List Value} (h : w.ownsRow base e size v n xs) : ∃ A c, v = .slice A n c := by
  rcases h.2 with ⟨rfl, rfl⟩ | ⟨g, cap, cur, rfl, _⟩
  · exact ⟨_, _, rfl⟩
  · exact ⟨_, _, rfl⟩
theorem cells_one (W : World) (x : Value) (e : TypeId) : ∀ j u, [x][j]? = some u → (W.alloc (.cells #[x] e)).cell? ((⟨W.heap.size, 0, none⟩ : Addr).add j) = some u := by
  intro j u hu
  rcases j with _ | j
  · rw [show (⟨W.heap.size, 0, none⟩ : Addr).add 0 = ⟨W.heap.size, 0, none⟩ by simp [Addr.add], World.cell?_alloc_at _ _ _ _ rfl]
    simpa using hu
  · simp at hu
/-- 'out = append(out, x)' of one byte, out nil or the call's own. -/
theorem wpList_app_u8 {W w0 : World} {ops : Array Oper} {rest : List Oper} {o : Oper} {a : Act} {Q : Exit → Act → World → Prop} (hgd : o.guard = none) (s x : Operand) (t : TypeId)
    (ho : o.op = .call { callee := .builtin .append, args := #[s, x], argTypes := #[t, t] }) (ht : Try.prog.underlying t = some (.slice 5))
    (base : Nat) (v : Value) (k : Nat) (xs : List Nat) (hs : a.eval s = v) (hown : W.ownsRow base 5 1 v k (u8s xs)) (E : Int)
    (hx : a.eval x = .slice (some ⟨W.heap.size, 0, none⟩) 1 1) (X : Nat) (hE : E = (X : Int)) (hk : k ≤ 100000000000) (hb : Below base w0 W) (hbase : base ≤ W.heap.size)
    (h : ∀ v' w', Hid (w'.ownsRow base 5 1 v' (k + 1) (u8s (xs ++ [X]))) → Hid (Below base w0 w') → wpList Try.prog ops Q rest (a.put o.dst v') w') :
    wpList Try.prog ops Q (o :: rest) a (W.alloc (.cells #[.int .u8 E] 5)) := by
  obtain ⟨i0, hi, hz0, hz1, hz2⟩ := info_parts u8_info
  subst hE
  refine wpList_append_own _ hgd s x t ho base 5 i0 (.int .u8 0) 1 1 ht hi hz0 hz1 hz2 rfl (by decide) v k _ hs (hown.alloc _) ⟨W.heap.size, 0, none⟩ 1 1 [.int .u8 (X : Int)] hx rfl (cells_one W _ _) ?_ ?_ ?_ ?_ ?_
  · simp [Value.oneCell']
  · unfold maxLen; omega
  · omega
  · simp; omega
  · intro v' w' h1 h2 _
    refine h v' w' ?_ ?_
    · rw [u8s_append]; exact h1
    · refine (hb.alloc hbase _).grown h2 (by simp; omega) fun j hj => ?_
      exact (hown.lt j hj).1
/-- The same of one limb. -/
theorem wpList_app_u32 {W w0 : World} {ops : Array Oper} {rest : List Oper} {o : Oper} {a : Act} {Q : Exit → Act → World → Prop} (hgd : o.guard = none) (s x : Operand) (t : TypeId)
    (ho : o.op = .call { callee := .builtin .append, args := #[s, x], argTypes := #[t, t] }) (ht : Try.prog.underlying t = some (.slice 51))
    (base : Nat) (v : Value) (k : Nat) (xs : List Nat) (hs : a.eval s = v) (hown : W.ownsRow base 51 1 v k (u32s xs)) (E : Int)
    (hx : a.eval x = .slice (some ⟨W.heap.size, 0, none⟩) 1 1) (X : Nat) (hE : E = (X : Int)) (hk : k ≤ 10000000000) (hb : Below base w0 W) (hbase : base ≤ W.heap.size)
    (h : ∀ v' w', Hid (w'.ownsRow base 51 1 v' (k + 1) (u32s (xs ++ [X]))) → Hid (Below base w0 w') → wpList Try.prog ops Q rest (a.put o.dst v') w') :
    wpList Try.prog ops Q (o :: rest) a (W.alloc (.cells #[.int .u32 E] 51)) := by
  obtain ⟨i0, hi, hz0, hz1, hz2⟩ := info_parts u32_info
  subst hE
  refine wpList_append_own _ hgd s x t ho base 51 i0 (.int .u32 0) 1 4 ht hi hz0 hz1 hz2 rfl (by decide) v k _ hs (hown.alloc _) ⟨W.heap.size, 0, none⟩ 1 1 [.int .u32 (X : Int)] hx rfl (cells_one W _ _) ?_ ?_ ?_ ?_ ?_
  · simp [Value.oneCell']
  · unfold maxLen; omega
  · omega
  · simp; omega
  · intro v' w' h1 h2 _
    refine h v' w' ?_ ?_
    · rw [u32s_append]; exact h1
    · refine (hb.alloc hbase _).grown h2 (by simp; omega) fun j hj => ?_
      exact (hown.lt j hj).1
/-- The length of a text in a slot: for a loop's measure. -/
def strLen : Value → Nat | .string b => b.size | _ => 0
theorem splice_all (cur cs : List Value) (h : cs.length = cur.length) : splice cur 0 cs = cs := by
  simp [splice, h]
end Go.Proofs.Ytiflkkmeloclfaa
/- Math -/
/-
  Plain facts on numbers written in a base: limbs (base 10^9) and digits (base 10), the least first.
-/
namespace Go.Proofs.Ytiflkkmeloclfaa

/-- The value of figures, the least first. -/
def val (b : Nat) : List Nat → Nat
  | [] => 0
  | x :: r => x + b * val b r

/-- The figures of a number, the least first, none at the end that is 0. -/
def digs (b n : Nat) : List Nat :=
  if _h : 2 ≤ b ∧ n ≠ 0 then (n % b) :: digs b (n / b) else []
termination_by n
decreasing_by exact Nat.div_lt_self (by omega) (by omega)

theorem digs_zero (b : Nat) : digs b 0 = [] := by rw [digs]; simp
theorem digs_pos {b n : Nat} (hb : 2 ≤ b) (hn : n ≠ 0) : digs b n = (n % b) :: digs b (n / b) := by rw [digs]; rw [dif_pos ⟨hb, hn⟩]

/-- How many figures count. -/
def tz : List Nat → Nat
  | [] => 0
  | x :: r => if tz r = 0 ∧ x = 0 then 0 else tz r + 1

theorem tz_le (xs : List Nat) : tz xs ≤ xs.length := by
  induction xs with
  | nil => simp [tz]
  | cons x r ih => simp only [tz]; split <;> simp <;> omega
theorem tz_last (xs : List Nat) (h : 0 < tz xs) : xs.getD (tz xs - 1) 0 ≠ 0 := by
  induction xs with
  | nil => simp [tz] at h
  | cons x r ih =>
    simp only [tz] at h ⊢
    split at h
    · omega
    · rename_i hc
      rw [if_neg hc]
      by_cases h0 : tz r = 0
      · have : x ≠ 0 := fun e => hc ⟨h0, e⟩
        simpa [h0] using this
      · have := ih (by omega)
        obtain ⟨m, hm⟩ : ∃ m, tz r = m + 1 := ⟨tz r - 1, by omega⟩
        rw [hm] at this ⊢
        simpa using this
theorem tz_above (xs : List Nat) (j : Nat) (h : tz xs ≤ j) : xs.getD j 0 = 0 := by
  induction xs generalizing j with
  | nil => simp
  | cons x r ih =>
    simp only [tz] at h
    split at h
    · rename_i hc
      cases j with
      | zero => simpa using hc.2
      | succ j => simpa using ih j (by omega)
    · cases j with
      | zero => omega
      | succ j => simpa using ih j (by omega)
/-- What a loop from the end finds. -/
theorem tz_eq (xs : List Nat) (k : Nat) (h1 : ∀ j, k ≤ j → xs.getD j 0 = 0) (h2 : 0 < k → xs.getD (k - 1) 0 ≠ 0) : tz xs = k := by
  rcases Nat.lt_trichotomy (tz xs) k with h | h | h
  · exact absurd (tz_above xs (k - 1) (by omega)) (h2 (by omega))
  · exact h
  · exact absurd (h1 (tz xs - 1) (by omega)) (tz_last xs (by omega))

def trim (xs : List Nat) : List Nat := xs.take (tz xs)
theorem trim_length (xs : List Nat) : (trim xs).length = tz xs := by rw [trim, List.length_take]; exact Nat.min_eq_left (tz_le xs)

theorem val_zero_of_tz (b : Nat) (xs : List Nat) (h : tz xs = 0) : val b xs = 0 := by
  induction xs with
  | nil => rfl
  | cons x r ih =>
    simp only [tz] at h
    split at h
    · rename_i hc; simp [val, ih hc.1, hc.2]
    · omega
theorem val_pos_of_tz (b : Nat) (hb : 2 ≤ b) (xs : List Nat) (h : tz xs ≠ 0) : val b xs ≠ 0 := by
  induction xs with
  | nil => simp [tz] at h
  | cons x r ih =>
    simp only [tz] at h
    split at h
    · omega
    · rename_i hc
      simp only [val]
      by_cases h0 : tz r = 0
      · have : x ≠ 0 := fun e => hc ⟨h0, e⟩
        omega
      · have h1 := ih h0
        have : 0 < b * val b r := Nat.mul_pos (by omega) (by omega)
        omega

/-- Figures without noughts at the end are the value's. -/
theorem trim_eq_digs (b : Nat) (hb : 2 ≤ b) (xs : List Nat) (h : ∀ x ∈ xs, x < b) : trim xs = digs b (val b xs) := by
  induction xs with
  | nil => simp [trim, tz, val, digs_zero]
  | cons x r ih =>
    have hx : x < b := h x (by simp)
    have hr : ∀ y ∈ r, y < b := fun y hy => h y (by simp [hy])
    by_cases hc : tz r = 0 ∧ x = 0
    · have : val b (x :: r) = 0 := by simp [val, hc.2, val_zero_of_tz b r hc.1]
      rw [this, digs_zero]; simp [trim, tz, hc]
    · have hz : tz (x :: r) = tz r + 1 := by simp [tz, hc]
      have hv : val b (x :: r) ≠ 0 := val_pos_of_tz b hb _ (by omega)
      rw [digs_pos hb hv]
      have h1 : val b (x :: r) % b = x := by simp [val, Nat.add_mul_mod_self_left, Nat.mod_eq_of_lt hx]
      have h2 : val b (x :: r) / b = val b r := by
        simp only [val]; rw [Nat.add_mul_div_left _ _ (by omega), Nat.div_eq_of_lt hx]; omega
      rw [h1, h2, ← ih hr]
      simp [trim, hz]

theorem val_digs (b : Nat) (hb : 2 ≤ b) (n : Nat) : val b (digs b n) = n := by
  induction n using Nat.strongRecOn with
  | _ n ih =>
    by_cases hn : n = 0
    · subst hn; simp [digs_zero, val]
    · rw [digs_pos hb hn]
      simp only [val]
      rw [ih (n / b) (Nat.div_lt_self (by omega) (by omega))]
      exact Nat.mod_add_div n b
theorem digs_lt (b : Nat) (hb : 2 ≤ b) (n : Nat) : ∀ x ∈ digs b n, x < b := by
  induction n using Nat.strongRecOn with
  | _ n ih =>
    by_cases hn : n = 0
    · subst hn; simp [digs_zero]
    · rw [digs_pos hb hn]
      intro x hx
      rcases List.mem_cons.1 hx with rfl | hx
      · exact Nat.mod_lt _ (by omega)
      · exact ih (n / b) (Nat.div_lt_self (by omega) (by omega)) x hx
theorem digs_length_zero (b : Nat) (hb : 2 ≤ b) (n : Nat) : (digs b n).length = 0 ↔ n = 0 := by
  constructor
  · intro h
    have : digs b n = [] := List.length_eq_zero_iff.1 h
    have h2 := val_digs b hb n
    rw [this] at h2; simpa [val] using h2.symm
  · rintro rfl; simp [digs_zero]
theorem digs_inj (b : Nat) (hb : 2 ≤ b) {m n : Nat} (h : digs b m = digs b n) : m = n := by
  rw [← val_digs b hb m, ← val_digs b hb n, h]
theorem tz_digs (b : Nat) (hb : 2 ≤ b) (n : Nat) : tz (digs b n) = (digs b n).length := by
  have h := trim_eq_digs b hb (digs b n) (digs_lt b hb n)
  rw [val_digs b hb] at h
  have := congrArg List.length h
  rwa [trim_length] at this
theorem trim_digs (b : Nat) (hb : 2 ≤ b) (n : Nat) : trim (digs b n) = digs b n := by
  rw [trim, tz_digs b hb, List.take_length]

theorem val_append (b : Nat) (xs ys : List Nat) : val b (xs ++ ys) = val b xs + b ^ xs.length * val b ys := by
  induction xs with
  | nil => simp [val]
  | cons x r ih =>
    simp only [List.cons_append, val, ih, List.length_cons, Nat.mul_add, Nat.pow_succ]
    rw [← Nat.mul_assoc, Nat.mul_comm (b ^ r.length) b]
    omega
theorem val_lt (b : Nat) (xs : List Nat) (h : ∀ x ∈ xs, x < b) : val b xs < b ^ xs.length := by
  induction xs with
  | nil => simp [val]
  | cons x r ih =>
    have hx : x < b := h x (by simp)
    have hr := ih fun y hy => h y (by simp [hy])
    simp only [val, List.length_cons, Nat.pow_succ]
    have : b * (val b r + 1) ≤ b * b ^ r.length := Nat.mul_le_mul_left b hr
    rw [Nat.mul_comm (b ^ r.length) b]
    rw [Nat.mul_add] at this
    omega
/-- One figure more; behind the last one they are 0. -/
theorem val_take_succ (b : Nat) (xs : List Nat) (i : Nat) : val b (xs.take (i + 1)) = val b (xs.take i) + b ^ i * xs.getD i 0 := by
  by_cases h : i < xs.length
  · rw [List.take_succ_eq_append_getElem h, val_append]
    simp [val, List.length_take, Nat.min_eq_left (Nat.le_of_lt h), List.getD, List.getElem?_eq_getElem h]
  · rw [List.take_of_length_le (by omega), List.take_of_length_le (by omega)]
    simp [List.getD, List.getElem?_eq_none (Nat.not_lt.1 h)]
theorem val_take_all (b : Nat) (xs : List Nat) (i : Nat) (h : tz xs ≤ i) : val b (xs.take i) = val b xs := by
  rcases Nat.lt_or_ge i xs.length with hl | hl
  · conv => rhs; rw [← List.take_append_drop i xs]
    rw [val_append]
    have : val b (xs.drop i) = 0 := by
      apply val_zero_of_tz
      apply tz_eq _ 0
      · intro j _
        have := tz_above xs (i + j) (by omega)
        simpa [List.getD, List.getElem?_drop] using this
      · omega
    rw [this]; simp
  · rw [List.take_of_length_le hl]
theorem val_trim (b : Nat) (xs : List Nat) : val b (trim xs) = val b xs := val_take_all b xs _ (Nat.le_refl _)

theorem getD_lt (b : Nat) (hb : 0 < b) (xs : List Nat) (h : ∀ x ∈ xs, x < b) (i : Nat) : xs.getD i 0 < b := by
  by_cases hi : i < xs.length
  · simp [List.getD, List.getElem?_eq_getElem hi]; exact h _ (List.getElem_mem hi)
  · simp [List.getD, List.getElem?_eq_none (Nat.not_lt.1 hi)]; exact hb

theorem val_congr (b : Nat) (xs ys : List Nat) (h : ∀ j, xs.getD j 0 = ys.getD j 0) : val b xs = val b ys := by
  have key : ∀ n, val b (xs.take n) = val b (ys.take n) := by
    intro n
    induction n with
    | zero => simp
    | succ n ih => rw [val_take_succ, val_take_succ, ih, h n]
  have := key (max xs.length ys.length)
  rwa [List.take_of_length_le (by omega), List.take_of_length_le (by omega)] at this
/-- The first figure from above that differs decides. -/
theorem val_lt_of (b : Nat) (hb : 0 < b) (xs ys : List Nat) (hx : ∀ x ∈ xs, x < b) (i : Nat)
    (h : ∀ j, i < j → xs.getD j 0 = ys.getD j 0) (hi : xs.getD i 0 < ys.getD i 0) : val b xs < val b ys := by
  have key : ∀ m, val b (xs.take (i + 1 + m)) < val b (ys.take (i + 1 + m)) := by
    intro m
    induction m with
    | zero =>
      rw [Nat.add_zero, val_take_succ, val_take_succ]
      have h1 : val b (xs.take i) < b ^ i := by
        refine Nat.lt_of_lt_of_le (val_lt b _ fun x hx' => hx x (List.mem_of_mem_take hx')) ?_
        exact Nat.pow_le_pow_right hb (by simp; omega)
      have h2 : b ^ i * (xs.getD i 0 + 1) ≤ b ^ i * ys.getD i 0 := Nat.mul_le_mul_left _ hi
      rw [Nat.mul_add] at h2
      omega
    | succ m ih =>
      rw [← Nat.add_assoc, val_take_succ, val_take_succ, h (i + 1 + m) (by omega)]
      omega
  have := key (max xs.length ys.length)
  rwa [List.take_of_length_le (by omega), List.take_of_length_le (by omega)] at this
theorem val_lt_of_tz (b : Nat) (hb : 2 ≤ b) (xs ys : List Nat) (hx : ∀ x ∈ xs, x < b) (h : tz xs < tz ys) : val b xs < val b ys := by
  apply val_lt_of b (by omega) xs ys hx (tz ys - 1)
  · intro j hj
    rw [tz_above xs j (by omega), tz_above ys j (by omega)]
  · rw [tz_above xs _ (by omega)]
    have := tz_last ys (by omega)
    omega
end Go.Proofs.Ytiflkkmeloclfaa
/- Dig -/
/-
  Digits as text, plainly: the greatest digit first.
-/
namespace Go.Proofs.Ytiflkkmeloclfaa

/-- The text s is the digits ds. -/
def IsD (s : ByteArray) (ds : List Nat) : Prop := s.data.toList.map UInt8.toNat = ds.map (fun d => 48 + d) ∧ ∀ d ∈ ds, d < 10

/-- The value of digits, the greatest first; a number's digits, the greatest first. -/
def dval (ds : List Nat) : Nat := val 10 ds.reverse
def decs (n : Nat) : List Nat := (digs 10 n).reverse

section
variable {s t : ByteArray} {ds es : List Nat}
theorem IsD.size (h : IsD s ds) : s.size = ds.length := by
  have := congrArg List.length h.1
  simp only [List.length_map, Array.length_toList] at this
  exact this
theorem IsD.at_ (h : IsD s ds) {k : Nat} (hk : k < s.size) : s[k].toNat = 48 + ds.getD k 0 := by
  have hd : k < ds.length := by rw [← h.size]; exact hk
  have h1 := congrArg (fun l => l[k]?) h.1
  simp only [List.getElem?_map] at h1
  rw [List.getElem?_eq_getElem (by rw [Array.length_toList]; exact hk), List.getElem?_eq_getElem hd] at h1
  simp at h1
  rw [List.getD, List.getElem?_eq_getElem hd]
  simp
  rw [← h1]
  rfl
theorem IsD.list (h : IsD s ds) : s.toList.map UInt8.toNat = ds.map (fun d => 48 + d) := by rw [ByteArray.toList_eq]; exact h.1
theorem IsD.nil : IsD ⟨#[]⟩ [] := ⟨rfl, by simp⟩
theorem IsD.append (h : IsD s ds) (h' : IsD t es) : IsD (s ++ t) (ds ++ es) := by
  refine ⟨?_, fun d hd => ?_⟩
  · have e : (s ++ t).data.toList = s.data.toList ++ t.data.toList := by simp [ByteArray.data_append]
    rw [e, List.map_append, List.map_append, h.1, h'.1]
  · rcases List.mem_append.1 hd with hd | hd
    · exact h.2 d hd
    · exact h'.2 d hd
theorem IsD.of_list {l : List UInt8} (h : l.map UInt8.toNat = ds.map (fun d => 48 + d)) (hd : ∀ d ∈ ds, d < 10) : IsD ⟨l.toArray⟩ ds := ⟨h, hd⟩
theorem IsD.ext (h : IsD s ds) (h' : IsD t ds) : s = t := by
  have e : s.data.toList.map UInt8.toNat = t.data.toList.map UInt8.toNat := h.1.trans h'.1.symm
  have e2 : s.data.toList = t.data.toList := by
    refine List.map_inj_right (fun a b hab => ?_) |>.1 e
    exact UInt8.toNat_inj.1 hab
  cases s; cases t
  simp at e2
  rw [e2]
theorem IsD.inj (h : IsD s ds) (h' : IsD s es) : ds = es := by
  have e : ds.map (fun d => 48 + d) = es.map (fun d => 48 + d) := h.1.symm.trans h'.1
  exact (List.map_inj_right (fun a b hab => by omega)).1 e
theorem IsD.cut (h : IsD s ds) (i j : Nat) : IsD (s.extract i j) ((ds.take j).drop i) := by
  refine ⟨?_, fun d hd => h.2 d (List.mem_of_mem_take (List.mem_of_mem_drop hd))⟩
  have e : (s.extract i j).data.toList = (s.data.toList.take j).drop i := by
    simp [ByteArray.data_extract, Array.toList_extract, List.drop_take]
  rw [e, List.map_drop, List.map_take, h.1, List.map_drop, List.map_take]
end

theorem IsD.byte {v : Int} {d : Nat} (h : v = 48 + (d : Int)) (hd : d < 10) : IsD (byteStr v) [d] := by
  refine ⟨?_, by simpa using hd⟩
  have e : (UInt8.ofNat v.toNat).toNat = 48 + d := by rw [UInt8.toNat_ofNat']; omega
  simp only [byteStr, List.map_cons, List.map_nil, e]
def stripZ (ds : List Nat) : List Nat := ds.dropWhile (· == 0)
theorem stripZ_eq (ds : List Nat) (h : ∀ d ∈ ds, d < 10) : stripZ ds = decs (dval ds) := by
  induction ds with
  | nil => simp [stripZ, decs, dval, val, digs_zero]
  | cons d r ih =>
    by_cases hd : d = 0
    · subst hd
      have h1 : dval (0 :: r) = dval r := by simp [dval, val_append, val]
      rw [h1, ← ih fun x hx => h x (by simp [hx])]
      simp [stripZ]
    · have h1 : stripZ (d :: r) = d :: r := by simp [stripZ, hd]
      rw [h1]
      have hall : ∀ x ∈ (d :: r).reverse, x < 10 := fun x hx => h x (List.mem_reverse.1 hx)
      have h2 := trim_eq_digs 10 (by omega) _ hall
      have h3 : tz (d :: r).reverse = (d :: r).reverse.length := by
        apply tz_eq
        · intro j hj
          rw [List.getD, List.getElem?_eq_none hj]; rfl
        · intro _
          simpa [List.getD] using hd
      rw [trim, h3, List.take_length] at h2
      rw [decs, dval, ← h2, List.reverse_reverse]
theorem dval_decs (n : Nat) : dval (decs n) = n := by simp [dval, decs, val_digs 10 (by omega)]
theorem decs_lt (n : Nat) : ∀ d ∈ decs n, d < 10 := fun d hd => digs_lt 10 (by omega) n d (List.mem_reverse.1 hd)
theorem decs_dval_length (ds : List Nat) (h : ∀ d ∈ ds, d < 10) : (decs (dval ds)).length ≤ ds.length := by
  rw [← stripZ_eq ds h]; exact (List.dropWhile_sublist _).length_le
theorem stripZ_drop (ds : List Nat) (k : Nat) (h : ∀ j, j < k → ds.getD j 0 = 0) (hk : k < ds.length → ds.getD k 0 ≠ 0) : stripZ ds = ds.drop k := by
  induction k generalizing ds with
  | zero =>
    cases ds with
    | nil => rfl
    | cons d r =>
      have : d ≠ 0 := by simpa [List.getD] using hk (by simp)
      simp [stripZ, this]
  | succ k ih =>
    cases ds with
    | nil => rfl
    | cons d r =>
      have h0 : d = 0 := by simpa [List.getD] using h 0 (by omega)
      subst h0
      have := ih r (fun j hj => by simpa [List.getD] using h (j + 1) (by omega)) (fun hj => by simpa [List.getD] using hk (by simpa using hj))
      simpa [stripZ] using this
theorem dval_cons (d : Nat) (r : List Nat) : dval (d :: r) = dval r + 10 ^ r.length * d := by simp [dval, val_append, val]
theorem dval_lt (ds : List Nat) (h : ∀ d ∈ ds, d < 10) : dval ds < 10 ^ ds.length := by
  have := val_lt 10 ds.reverse fun x hx => h x (List.mem_reverse.1 hx)
  simpa [dval] using this
theorem bytesLess_digits (l m : List UInt8) (ds es : List Nat) (hl : l.map UInt8.toNat = ds.map (fun d => 48 + d)) (hm : m.map UInt8.toNat = es.map (fun d => 48 + d))
    (hd : ∀ d ∈ ds, d < 10) (he : ∀ d ∈ es, d < 10) (hlen : ds.length = es.length) : Op.bytesLess l m = decide (dval ds < dval es) := by
  induction ds generalizing l m es with
  | nil =>
    obtain rfl : es = [] := List.eq_nil_of_length_eq_zero (by simpa using hlen.symm)
    obtain rfl : m = [] := by simpa using hm
    cases l <;> simp [Op.bytesLess]
  | cons d r ih =>
    rcases es with _ | ⟨e, q⟩
    · simp at hlen
    rcases l with _ | ⟨a, l⟩
    · simp at hl
    rcases m with _ | ⟨b, m⟩
    · simp at hm
    simp only [List.map_cons, List.cons.injEq] at hl hm
    simp only [List.length_cons, Nat.add_right_cancel_iff] at hlen
    have ih' := ih l m q hl.2 hm.2 (fun x hx => hd x (by simp [hx])) (fun x hx => he x (by simp [hx])) hlen
    have h1 := dval_lt r (fun x hx => hd x (by simp [hx]))
    have h2 := dval_lt q (fun x hx => he x (by simp [hx]))
    simp only [Op.bytesLess, dval_cons, ih']
    rw [hlen] at h1 ⊢
    have ea : (a < b) ↔ d < e := by rw [UInt8.lt_iff_toNat_lt, hl.1, hm.1]; omega
    have eb : (a == b) = decide (d = e) := by
      rw [Bool.eq_iff_iff]
      simp only [beq_iff_eq, decide_eq_true_eq]
      rw [← UInt8.toNat_inj, hl.1, hm.1]; omega
    rw [eb]
    rcases Nat.lt_trichotomy d e with h | h | h
    · have h3 : 10 ^ q.length * (d + 1) ≤ 10 ^ q.length * e := Nat.mul_le_mul_left _ h
      rw [Nat.mul_add] at h3
      have : dval r + 10 ^ q.length * d < dval q + 10 ^ q.length * e := by omega
      simp [ea.2 h, this]
    · subst h
      have : ¬ a < b := fun hh => by have := ea.1 hh; omega
      simp [this]
    · have h3 : 10 ^ q.length * (e + 1) ≤ 10 ^ q.length * d := Nat.mul_le_mul_left _ h
      rw [Nat.mul_add] at h3
      have h4 : ¬ dval r + 10 ^ q.length * d < dval q + 10 ^ q.length * e := by omega
      have h5 : ¬ a < b := fun hh => by have := ea.1 hh; omega
      have h6 : ¬ d = e := by omega
      simp [h4, h5, h6]
theorem digs_drop (b : Nat) (hb : 2 ≤ b) (n k : Nat) : (digs b n).drop k = digs b (n / b ^ k) := by
  induction k generalizing n with
  | zero => simp
  | succ k ih =>
    by_cases hn : n = 0
    · subst hn; simp [digs_zero]
    · rw [digs_pos hb hn, List.drop_succ_cons, ih, Nat.div_div_eq_div_mul, Nat.pow_succ, Nat.mul_comm b]
theorem val_digs_take (b : Nat) (hb : 2 ≤ b) (n k : Nat) : val b ((digs b n).take k) = n % b ^ k := by
  induction k generalizing n with
  | zero => simp [val, Nat.mod_one]
  | succ k ih =>
    by_cases hn : n = 0
    · subst hn; simp [digs_zero, val]
    · rw [digs_pos hb hn, List.take_succ_cons]
      simp only [val, ih]
      rw [Nat.pow_succ, Nat.mul_comm (b ^ k) b, Nat.mod_mul]
theorem decs_take (n : Nat) (k : Nat) : (decs n).take ((decs n).length - k) = decs (n / 10 ^ k) := by
  rw [decs, List.take_reverse, List.length_reverse, decs, ← digs_drop 10 (by omega) n k]
  rcases Nat.le_total k (digs 10 n).length with h | h
  · rw [Nat.sub_sub_self h]
  · rw [Nat.sub_eq_zero_of_le h, Nat.sub_zero, List.drop_eq_nil_of_le (Nat.le_refl _), List.drop_eq_nil_of_le h]
theorem decs_drop (n : Nat) (k : Nat) : dval ((decs n).drop ((decs n).length - k)) = n % 10 ^ k := by
  rw [decs, List.drop_reverse, List.length_reverse, dval, List.reverse_reverse, ← val_digs_take 10 (by omega) n k]
  rcases Nat.le_total k (digs 10 n).length with h | h
  · rw [Nat.sub_sub_self h]
  · rw [Nat.sub_eq_zero_of_le h, Nat.sub_zero, List.take_of_length_le (Nat.le_refl _), List.take_of_length_le h]
theorem dval_snoc (ds : List Nat) (d : Nat) : dval (ds ++ [d]) = dval ds * 10 + d := by
  simp only [dval, List.reverse_append, List.reverse_cons, List.reverse_nil, List.nil_append, List.singleton_append, val]
  omega
theorem take_snoc_getD (ds : List Nat) (k : Nat) (h : k < ds.length) : ds.take (k + 1) = ds.take k ++ [ds.getD k 0] := by
  rw [List.take_succ_eq_append_getElem h]
  simp [List.getD, List.getElem?_eq_getElem h]
theorem decs_zero : decs 0 = [] := by simp [decs, digs_zero]
theorem decs_length_zero (n : Nat) : (decs n).length = 0 ↔ n = 0 := by
  rw [decs, List.length_reverse]; exact digs_length_zero 10 (by omega) n
theorem decs_length_lt {a b : Nat} (h : (decs a).length < (decs b).length) : a < b := by
  simp only [decs, List.length_reverse] at h
  have := val_lt_of_tz 10 (by omega) (digs 10 a) (digs 10 b) (digs_lt 10 (by omega) a) (by rw [tz_digs 10 (by omega), tz_digs 10 (by omega)]; exact h)
  rwa [val_digs 10 (by omega), val_digs 10 (by omega)] at this
theorem decs_len {n k : Nat} (h : n < 10 ^ k) : (decs n).length ≤ k := by
  have h1 := digs_drop 10 (by omega) n k
  rw [Nat.div_eq_of_lt h, digs_zero] at h1
  have h2 := congrArg List.length h1
  rw [List.length_drop, List.length_nil] at h2
  rw [decs, List.length_reverse]
  omega
theorem lt_pow_decs (n : Nat) : n < 10 ^ (decs n).length := by
  have h := dval_lt (decs n) (decs_lt n)
  rwa [dval_decs] at h
theorem limbs_lt {xs : List Nat} (h : ∀ x ∈ xs, x < 1000000000) {m : Nat} (hm : xs.length ≤ m) : val 1000000000 xs < 10 ^ (9 * m) := by
  have h1 := val_lt 1000000000 xs h
  rw [show (1000000000 : Nat) = 10 ^ 9 from rfl, ← Nat.pow_mul] at h1
  exact Nat.lt_of_lt_of_le h1 (Nat.pow_le_pow_right (by omega) (by omega))
theorem limbs_len {xs : List Nat} (h : ∀ x ∈ xs, x < 1000000000) {m : Nat} (hm : xs.length ≤ m) : (decs (val 1000000000 xs)).length ≤ 9 * m := decs_len (limbs_lt h hm)
theorem sum_lt {a b k : Nat} (ha : a < 10 ^ k) (hb : b < 10 ^ k) : a + b < 10 ^ (k + 1) := by
  rw [Nat.pow_succ]; omega
theorem decs_length_le {a b : Nat} (h : b ≤ a) : (decs b).length ≤ (decs a).length := decs_len (Nat.lt_of_le_of_lt h (lt_pow_decs a))
theorem digs_len9 {n k : Nat} (h : n < 10 ^ k) : (digs 1000000000 n).length ≤ k := by
  have h0 : n < 1000000000 ^ k := Nat.lt_of_lt_of_le h (Nat.pow_le_pow_left (by omega) k)
  have h1 := digs_drop 1000000000 (by omega) n k
  rw [Nat.div_eq_of_lt h0, digs_zero] at h1
  have h2 := congrArg List.length h1
  rw [List.length_drop, List.length_nil] at h2
  omega
end Go.Proofs.Ytiflkkmeloclfaa
/- MulMath -/
/-
  Plain facts on products of figures.
-/
namespace Go.Proofs.Ytiflkkmeloclfaa
theorem val_set (b : Nat) (ys : List Nat) (i x : Nat) (h : i < ys.length) : val b (ys.set i x) + b ^ i * ys.getD i 0 = val b ys + b ^ i * x := by
  induction ys generalizing i with
  | nil => simp at h
  | cons y r ih =>
    cases i with
    | zero => simp [val]; omega
    | succ i =>
      have := ih i (by simpa using h)
      have h2 : b * (val b (r.set i x) + b ^ i * r.getD i 0) = b * (val b r + b ^ i * x) := by rw [this]
      simp only [Nat.mul_add, ← Nat.mul_assoc] at h2
      simp only [List.set_cons_succ, val, List.getD_cons_succ, Nat.pow_succ, Nat.mul_comm (b ^ i) b]
      omega
theorem getD_set (ys : List Nat) (i x j : Nat) : (ys.set i x).getD j 0 = if j = i ∧ i < ys.length then x else ys.getD j 0 := by
  rw [List.getD, List.getD, List.getElem?_set]
  by_cases h : i = j
  · subst h
    by_cases h2 : i < ys.length
    · simp [h2]
    · simp [h2]
  · rw [if_neg h, if_neg (by omega)]
theorem getD_set_ne (ys : List Nat) (i x j : Nat) (h : j ≠ i) : (ys.set i x).getD j 0 = ys.getD j 0 := by rw [getD_set, if_neg (by omega)]
/-- A round of adding a row times a limb. -/
theorem row_step (B o k V0 y x z c l c' v v' T : Nat) (hs : v' + B ^ (o + k) * z = v + B ^ (o + k) * l) (hv : v + B ^ (o + k) * c = V0 + B ^ o * (y * T)) (ht : x * y + z + c = l + B * c') :
    v' + B ^ (o + (k + 1)) * c' = V0 + B ^ o * (y * (T + B ^ k * x)) := by
  have h1 : B ^ (o + k) * (x * y + z + c) = B ^ (o + k) * (l + B * c') := by rw [ht]
  have h2 : B ^ (o + (k + 1)) * c' = B ^ (o + k) * (B * c') := by rw [← Nat.add_assoc, Nat.pow_succ, Nat.mul_assoc]
  have h3 : B ^ o * (y * (B ^ k * x)) = B ^ (o + k) * (x * y) := by rw [Nat.pow_add, Nat.mul_comm x y, Nat.mul_left_comm y, Nat.mul_assoc]
  rw [h2, Nat.mul_add y, Nat.mul_add (B ^ o), h3]
  simp only [Nat.mul_add] at h1
  omega
/-- The limb behind the row takes what is carried. -/
theorem row_end (B o m V0 y z c v v' T : Nat) (hs : v' + B ^ (o + m) * z = v + B ^ (o + m) * (z + c)) (hv : v + B ^ (o + m) * c = V0 + B ^ o * (y * T)) : v' = V0 + B ^ o * (y * T) := by
  rw [Nat.mul_add] at hs
  omega
/-- One product of digits more. -/
theorem cell_step (p z x v v' P : Nat) (hs : v' + p * z = v + p * (z + x)) (hv : v = P) : v' = P + p * x := by
  rw [Nat.mul_add] at hs
  omega
/-- A round of carrying. -/
theorem carry_step (p v z c d c' T : Nat) (hv : v + p * c = T) (h : z + c = d + 10 * c') : v + p * d + p * 10 * c' = T + p * z := by
  have h1 : p * (z + c) = p * (d + 10 * c') := by rw [h]
  simp only [Nat.mul_add, ← Nat.mul_assoc] at h1
  omega
theorem no_carry (p v c T : Nat) (hv : v + p * c = T) (h : T < p) : v = T := by
  rcases Nat.eq_zero_or_pos c with h0 | h0
  · subst h0; simpa using hv
  · have : p * 1 ≤ p * c := Nat.mul_le_mul_left p h0
    omega
theorem mul_lt_pow {a b i j : Nat} (ha : a < 10 ^ i) (hb : b < 10 ^ j) : a * b < 10 ^ (i + j) := by
  rw [Nat.pow_add]
  exact Nat.mul_lt_mul'' ha hb
theorem val_replicate (b n : Nat) : val b (List.replicate n 0) = 0 := by
  induction n with
  | zero => rfl
  | succ n ih => rw [List.replicate_succ]; simp [val, ih]
theorem getD_replicate (n j : Nat) : (List.replicate n 0).getD j 0 = 0 := by
  rw [List.getD, List.getElem?_replicate]; split <;> rfl
theorem small_lt {a k y z : Nat} (ha : a < 10 ^ k) (hy : y < 1000000000) (hz : z < 1000000000) : a * y + z < 10 ^ (k + 10) := by
  have h1 : a * y < 10 ^ (k + 9) := mul_lt_pow ha (show y < 10 ^ 9 from hy)
  have h2 : z < 10 ^ (k + 9) := Nat.lt_of_lt_of_le (show z < 10 ^ 9 from hz) (Nat.pow_le_pow_right (by omega) (by omega))
  exact sum_lt h1 h2
theorem sum_lt2 {a b i j : Nat} (ha : a < 10 ^ i) (hb : b < 10 ^ j) : a + b < 10 ^ (i + j + 1) :=
  sum_lt (Nat.lt_of_lt_of_le ha (Nat.pow_le_pow_right (by omega) (by omega))) (Nat.lt_of_lt_of_le hb (Nat.pow_le_pow_right (by omega) (by omega)))
end Go.Proofs.Ytiflkkmeloclfaa
/- DivMath -/
/-
  Plain facts on quotients of figures.
-/
namespace Go.Proofs.Ytiflkkmeloclfaa
/-- One figure of a short division: what is left so far, and the quotient's figures so far. -/
def dstep (xs : List Nat) (y : Nat) (s : Nat × List Nat) (i : Nat) : Nat × List Nat :=
  ((s.1 * 1000000000 + xs.getD i 0) % y, s.2.set i ((s.1 * 1000000000 + xs.getD i 0) / y))
def drun (xs : List Nat) (y n : Nat) (is : List Nat) : Nat × List Nat := is.foldl (dstep xs y) (0, List.replicate n 0)
theorem drun_snoc (xs : List Nat) (y n : Nat) (is : List Nat) (i : Nat) : drun xs y n (is ++ [i]) = dstep xs y (drun xs y n is) i := by simp [drun]
theorem drun_ind (xs : List Nat) (y n : Nat) (P : Nat × List Nat → Prop) (h0 : P (0, List.replicate n 0)) (hs : ∀ s i, P s → P (dstep xs y s i)) (is : List Nat) : P (drun xs y n is) := by
  unfold drun
  generalize ((0, List.replicate n 0) : Nat × List Nat) = s at h0
  induction is generalizing s with
  | nil => exact h0
  | cons i r ih => exact ih _ (hs s i h0)
theorem drun_lt (xs : List Nat) (y n : Nat) (hy : 0 < y) (is : List Nat) : (drun xs y n is).1 < y :=
  drun_ind xs y n (fun s => s.1 < y) hy (fun _ _ _ => Nat.mod_lt _ hy) is
theorem drun_length (xs : List Nat) (y n : Nat) (is : List Nat) : (drun xs y n is).2.length = n :=
  drun_ind xs y n (fun s => s.2.length = n) (by simp) (fun s i h => by simpa [dstep] using h) is
/-- The places from above. -/
def downTo (n k : Nat) : List Nat := (List.range k).map fun j => n - 1 - j
theorem downTo_succ (n k : Nat) : downTo n (k + 1) = downTo n k ++ [n - 1 - k] := by simp [downTo, List.range_succ]
theorem quo_lt {y r x : Nat} (hy : 0 < y) (hr : r < y) (hx : x < 1000000000) : (r * 1000000000 + x) / y < 1000000000 := by
  rw [Nat.div_lt_iff_lt_mul hy]
  have : (r + 1) * 1000000000 ≤ y * 1000000000 := Nat.mul_le_mul_right _ hr
  omega
theorem drun_down (xs : List Nat) (y n : Nat) (hy : 0 < y) (hx : ∀ x ∈ xs, x < 1000000000) (hl : xs.length = n) (k : Nat) (hk : k ≤ n) :
    (∀ z ∈ (drun xs y n (downTo n k)).2, z < 1000000000) ∧ (∀ j, j < n - k → (drun xs y n (downTo n k)).2.getD j 0 = 0) ∧
      val 1000000000 xs = y * val 1000000000 (drun xs y n (downTo n k)).2 + 1000000000 ^ (n - k) * (drun xs y n (downTo n k)).1 + val 1000000000 (xs.take (n - k)) := by
  induction k with
  | zero =>
    refine ⟨?_, ?_, ?_⟩
    · intro z hz; simp [drun, downTo] at hz; omega
    · intro j _; simp only [drun, downTo, List.range_zero, List.map_nil, List.foldl_nil]; exact getD_replicate n j
    · simp only [drun, downTo, List.range_zero, List.map_nil, List.foldl_nil, val_replicate, Nat.mul_zero, Nat.sub_zero, Nat.zero_add]
      rw [List.take_of_length_le (by omega)]
  | succ k ih =>
    obtain ⟨h1, h2, h3⟩ := ih (by omega)
    rw [downTo_succ, drun_snoc]
    have hlen := drun_length xs y n (downTo n k)
    have hr := drun_lt xs y n hy (downTo n k)
    generalize drun xs y n (downTo n k) = s at *
    have hi : n - k = (n - 1 - k) + 1 := by omega
    have hX := getD_lt 1000000000 (by omega) xs hx (n - 1 - k)
    have hq := quo_lt hy hr hX
    have hv := val_take_succ 1000000000 xs (n - 1 - k)
    have hset := val_set 1000000000 s.2 (n - 1 - k) ((s.1 * 1000000000 + xs.getD (n - 1 - k) 0) / y) (by omega)
    rw [h2 (n - 1 - k) (by omega), Nat.mul_zero, Nat.add_zero] at hset
    have hn' : n - (k + 1) = n - 1 - k := by omega
    refine ⟨?_, ?_, ?_⟩
    · intro z hz
      rcases List.mem_or_eq_of_mem_set hz with hz | hz
      · exact h1 z hz
      · rw [hz]; exact hq
    · intro j hj
      simp only [dstep]
      rw [getD_set_ne _ _ _ _ (by omega)]
      exact h2 j (by omega)
    · simp only [dstep]
      rw [hn']
      rw [hi, hv, Nat.pow_succ] at h3
      generalize xs.getD (n - 1 - k) 0 = X at *
      have hm := Nat.div_add_mod (s.1 * 1000000000 + X) y
      generalize (s.1 * 1000000000 + X) / y = Q at *
      generalize (s.1 * 1000000000 + X) % y = R at *
      rw [hset, Nat.mul_add]
      have e : 1000000000 ^ (n - 1 - k) * (y * Q + R) = 1000000000 ^ (n - 1 - k) * (s.1 * 1000000000 + X) := by rw [hm]
      rw [Nat.mul_add, Nat.mul_add, Nat.mul_left_comm, Nat.mul_comm s.1, ← Nat.mul_assoc _ 1000000000] at e
      omega
/-- A short division, whole. -/
theorem drun_all (xs : List Nat) (y n : Nat) (hy : 0 < y) (hx : ∀ x ∈ xs, x < 1000000000) (hl : xs.length = n) :
    (∀ z ∈ (drun xs y n (downTo n n)).2, z < 1000000000) ∧ val 1000000000 (drun xs y n (downTo n n)).2 = val 1000000000 xs / y ∧ (drun xs y n (downTo n n)).1 = val 1000000000 xs % y := by
  obtain ⟨h1, _, h3⟩ := drun_down xs y n hy hx hl n (Nat.le_refl _)
  have hr := drun_lt xs y n hy (downTo n n)
  rw [Nat.sub_self, Nat.pow_zero, Nat.one_mul, List.take_zero] at h3
  simp only [val, Nat.add_zero] at h3
  generalize drun xs y n (downTo n n) = s at *
  refine ⟨h1, ?_, ?_⟩
  · rw [h3, Nat.mul_add_div hy, Nat.div_eq_of_lt hr, Nat.add_zero]
  · rw [h3, Nat.mul_add_mod, Nat.mod_eq_of_lt hr]
end Go.Proofs.Ytiflkkmeloclfaa
/- DivMath2 -/
/-
  Plain facts on long division.
-/
namespace Go.Proofs.Ytiflkkmeloclfaa
theorem val_drop {xs : List Nat} (h : ∀ x ∈ xs, x < 1000000000) (k : Nat) : val 1000000000 (xs.drop k) = val 1000000000 xs / 1000000000 ^ k := by
  rcases Nat.lt_or_ge k xs.length with hl | hl
  · have e := val_append 1000000000 (xs.take k) (xs.drop k)
    rw [List.take_append_drop, List.length_take, Nat.min_eq_left (Nat.le_of_lt hl)] at e
    have h1 := val_lt 1000000000 (xs.take k) fun x hx => h x (List.mem_of_mem_take hx)
    rw [List.length_take, Nat.min_eq_left (Nat.le_of_lt hl)] at h1
    rw [e, Nat.add_mul_div_left _ _ (Nat.pow_pos (by omega)), Nat.div_eq_of_lt h1, Nat.zero_add]
  · rw [List.drop_eq_nil_of_le hl]
    have h1 := val_lt 1000000000 xs h
    have h2 : 1000000000 ^ xs.length ≤ 1000000000 ^ k := Nat.pow_le_pow_right (by omega) hl
    rw [Nat.div_eq_of_lt (Nat.lt_of_lt_of_le h1 h2)]
    rfl
theorem val_drop_succ {xs : List Nat} {k : Nat} (hk : k < xs.length) : val 1000000000 (xs.drop k) = val 1000000000 (xs.drop (k + 1)) * 1000000000 + xs.getD k 0 := by
  rw [List.drop_eq_getElem_cons hk]
  simp only [val, List.getD, List.getElem?_eq_getElem hk, Option.getD_some]
  omega
/-- Numbers of n limbs, the last one not 0. -/
theorem pow_le_val {ys : List Nat} {n : Nat} (hl : ys.length = n) (hn : 0 < n) (h0 : ys.getD (n - 1) 0 ≠ 0) (h : ∀ y ∈ ys, y < 1000000000) : 1000000000 ^ (n - 1) ≤ val 1000000000 ys := by
  have h1 := val_drop_succ (xs := ys) (k := n - 1) (by omega)
  rw [val_drop h] at h1
  have h2 : 1 ≤ val 1000000000 ys / 1000000000 ^ (n - 1) := by omega
  have := (Nat.le_div_iff_mul_le (Nat.pow_pos (by omega : 0 < 1000000000))).1 h2
  omega
theorem digs_pow_le {v m : Nat} (hm : (digs 1000000000 v).length = m) (h : 0 < m) : 1000000000 ^ (m - 1) ≤ v := by
  have h0 := tz_last (digs 1000000000 v) (by rw [tz_digs 1000000000 (by omega)]; omega)
  rw [tz_digs 1000000000 (by omega), hm] at h0
  have := pow_le_val hm h h0 (digs_lt 1000000000 (by omega) v)
  rwa [val_digs 1000000000 (by omega)] at this
theorem digs_len_pos {v k : Nat} (h : 1000000000 ^ k ≤ v) : k < (digs 1000000000 v).length := by
  rcases Nat.lt_or_ge k (digs 1000000000 v).length with hl | hl
  · exact hl
  · have h1 := val_lt 1000000000 (digs 1000000000 v) (digs_lt 1000000000 (by omega) v)
    rw [val_digs 1000000000 (by omega)] at h1
    have h2 : 1000000000 ^ (digs 1000000000 v).length ≤ 1000000000 ^ k := Nat.pow_le_pow_right (by omega) hl
    omega
theorem digs_len_mono {u v : Nat} (h : u ≤ v) : (digs 1000000000 u).length ≤ (digs 1000000000 v).length := by
  rcases Nat.eq_zero_or_pos (digs 1000000000 u).length with h0 | h0
  · omega
  · have := digs_pow_le rfl h0
    have := digs_len_pos (Nat.le_trans this h)
    omega
/-- The guess by the last limb is never too small. -/
theorem guess_ge {a b L k : Nat} (hL : L * 1000000000 ^ k ≤ b) (hL0 : 0 < L) (ha : a < 1000000000 * b) : a / b ≤ min (a / 1000000000 ^ k / L) 999999999 := by
  have hp : 0 < 1000000000 ^ k := Nat.pow_pos (by omega)
  have hb : 0 < b := Nat.lt_of_lt_of_le (Nat.mul_pos hL0 hp) hL
  apply Nat.le_min.2
  constructor
  · rw [Nat.le_div_iff_mul_le hL0, Nat.le_div_iff_mul_le hp, Nat.mul_assoc]
    exact Nat.le_trans (Nat.mul_le_mul_left _ hL) (Nat.div_mul_le_self a b)
  · have : a / b < 1000000000 := by rw [Nat.div_lt_iff_lt_mul hb]; omega
    omega
/-- One limb of a long division. -/
theorem long_step {A y V R T X p P : Nat} (h : A = y * V + p * 1000000000 * R + (P + p * X)) (hT : T = R * 1000000000 + X) :
    A = y * (V + p * (T / y)) + p * (T % y) + P := by
  have hm := Nat.div_add_mod T y
  generalize T / y = Q at *
  generalize T % y = Z at *
  have e : p * (y * Q + Z) = p * (R * 1000000000 + X) := by rw [hm, hT]
  rw [Nat.mul_add, Nat.mul_add, Nat.mul_left_comm, Nat.mul_comm R, ← Nat.mul_assoc _ 1000000000] at e
  rw [Nat.mul_add]
  omega
theorem digs_len9' {v k : Nat} (h : v < 1000000000 ^ k) : (digs 1000000000 v).length ≤ k := by
  rcases Nat.lt_or_ge k (digs 1000000000 v).length with hl | hl
  · have h1 := digs_pow_le (v := v) rfl (by omega)
    have h2 : 1000000000 ^ k ≤ 1000000000 ^ ((digs 1000000000 v).length - 1) := Nat.pow_le_pow_right (by omega) (by omega)
    omega
  · exact hl
theorem step_lt {R y X : Nat} (h : R < y) (hx : X < 1000000000) : R * 1000000000 + X < 1000000000 * y := by
  have : (R + 1) * 1000000000 ≤ y * 1000000000 := Nat.mul_le_mul_right _ h
  omega
end Go.Proofs.Ytiflkkmeloclfaa
/- TenMath -/
/-
  Plain facts for layer 4: limbs as nine digits each, digits into limbs, powers of ten.
-/
namespace Go.Proofs.Ytiflkkmeloclfaa

theorem dval_append (ds es : List Nat) : dval (ds ++ es) = dval ds * 10 ^ es.length + dval es := by
  simp only [dval, List.reverse_append, val_append, List.length_reverse]
  rw [Nat.mul_comm, Nat.add_comm]
theorem dval_nil : dval [] = 0 := rfl
/-- The first k of a limb's nine digits. -/
def nineK (x k : Nat) : List Nat := (List.range k).map fun i => x / 10 ^ (8 - i) % 10
theorem nineK_succ (x k : Nat) : nineK x (k + 1) = nineK x k ++ [x / 10 ^ (8 - k) % 10] := by simp [nineK, List.range_succ]
theorem nineK_length (x k : Nat) : (nineK x k).length = k := by simp [nineK]
theorem nineK_lt (x k : Nat) : ∀ d ∈ nineK x k, d < 10 := by
  intro d hd
  obtain ⟨i, _, rfl⟩ := List.mem_map.1 hd
  exact Nat.mod_lt _ (by omega)
theorem nineK_val (x k : Nat) (hx : x < 1000000000) (hk : k ≤ 9) : dval (nineK x k) = x / 10 ^ (9 - k) := by
  induction k with
  | zero => exact (Nat.div_eq_of_lt hx).symm
  | succ k ih =>
    have h9 : 9 - k = (8 - k) + 1 := by omega
    have h8 : 9 - (k + 1) = 8 - k := by omega
    rw [nineK_succ, dval_snoc, ih (by omega), h9, h8, Nat.pow_succ, ← Nat.div_div_eq_div_mul]
    have := Nat.mod_add_div (x / 10 ^ (8 - k)) 10
    omega
/-- The digits of limbs, in the order of their places. -/
def limbDs (ys is : List Nat) : List Nat := is.flatMap fun i => nineK (ys.getD i 0) 9
theorem limbDs_snoc (ys is : List Nat) (i : Nat) : limbDs ys (is ++ [i]) = limbDs ys is ++ nineK (ys.getD i 0) 9 := by simp [limbDs]
theorem limbDs_length (ys is : List Nat) : (limbDs ys is).length = 9 * is.length := by
  induction is with
  | nil => rfl
  | cons i r ih =>
    have e : limbDs ys (i :: r) = nineK (ys.getD i 0) 9 ++ limbDs ys r := by simp [limbDs]
    rw [e, List.length_append, nineK_length, ih, List.length_cons]
    omega
theorem limbDs_lt (ys is : List Nat) : ∀ d ∈ limbDs ys is, d < 10 := by
  intro d hd
  obtain ⟨i, _, h⟩ := List.mem_flatMap.1 hd
  exact nineK_lt _ _ d h
theorem limbDs_down (ys : List Nat) (n : Nat) (hl : ys.length = n) (h : ∀ x ∈ ys, x < 1000000000) (k : Nat) (hk : k ≤ n) : dval (limbDs ys (downTo n k)) = val 1000000000 (ys.drop (n - k)) := by
  induction k with
  | zero => rw [Nat.sub_zero, List.drop_eq_nil_of_le (by omega)]; rfl
  | succ k ih =>
    have hj : n - 1 - k < ys.length := by omega
    rw [downTo_succ, limbDs_snoc, dval_append, nineK_length, ih (by omega), nineK_val _ _ (getD_lt _ (by omega) ys h _) (by omega),
      show n - (k + 1) = n - 1 - k by omega, val_drop_succ hj, show n - 1 - k + 1 = n - k by omega]
    simp
theorem limbDs_all (ys : List Nat) (n : Nat) (hl : ys.length = n) (h : ∀ x ∈ ys, x < 1000000000) : dval (limbDs ys (downTo n n)) = val 1000000000 ys := by
  rw [limbDs_down ys n hl h n (Nat.le_refl _), Nat.sub_self, List.drop_zero]
/-- How many powers of ten a number reaches. -/
theorem pow_le_iff (x k : Nat) : 10 ^ k ≤ x ↔ k < (decs x).length := by
  constructor
  · intro h
    rcases Nat.lt_or_ge k (decs x).length with h' | h'
    · exact h'
    · have h1 := lt_pow_decs x
      have h2 : 10 ^ (decs x).length ≤ 10 ^ k := Nat.pow_le_pow_right (by omega) h'
      omega
  · intro h
    rcases Nat.lt_or_ge x (10 ^ k) with h' | h'
    · have := decs_len h'; omega
    · exact h'
theorem decs_len_shift (V x : Nat) (hV : V ≠ 0) (hx : x < 1000000000) : (decs (V * 1000000000 + x)).length = (decs V).length + 9 := by
  have hL : 0 < (decs V).length := by
    rcases Nat.eq_zero_or_pos (decs V).length with h | h
    · exact absurd ((decs_length_zero V).1 h) hV
    · exact h
  have h1 := lt_pow_decs V
  have h2 := (pow_le_iff V ((decs V).length - 1)).2 (by omega)
  generalize (decs V).length = L at *
  have h3 : (decs (V * 1000000000 + x)).length ≤ L + 9 := by
    apply decs_len
    have e : 10 ^ (L + 9) = 10 ^ L * 1000000000 := Nat.pow_add 10 L 9
    rw [e]
    generalize 10 ^ L = T at *
    omega
  have h4 : L + 8 < (decs (V * 1000000000 + x)).length := by
    have e : 10 ^ (L - 1 + 9) = 10 ^ (L - 1) * 1000000000 := Nat.pow_add 10 (L - 1) 9
    rw [← pow_le_iff, show L + 8 = (L - 1) + 9 by omega, e]
    generalize 10 ^ (L - 1) = T at *
    omega
  omega
/-- What a round of counting digits makes. -/
def lstep (ys : List Nat) (n i : Nat) : Nat := if n = 0 then (decs (ys.getD i 0)).length else n + 9
def lrun (ys is : List Nat) : Nat := is.foldl (lstep ys) 0
theorem lrun_snoc (ys is : List Nat) (i : Nat) : lrun ys (is ++ [i]) = lstep ys (lrun ys is) i := by simp [lrun]
theorem lrun_le (ys : List Nat) (h : ∀ x ∈ ys, x < 1000000000) (is : List Nat) : lrun ys is ≤ 9 * is.length := by
  have key : ∀ (is : List Nat) (n m : Nat), n ≤ m → is.foldl (lstep ys) n ≤ m + 9 * is.length := by
    intro is
    induction is with
    | nil => intro n m hn; simpa using hn
    | cons i r ih =>
      intro n m hn
      rw [List.foldl_cons]
      refine Nat.le_trans (ih _ (m + 9) ?_) (by simp only [List.length_cons]; omega)
      unfold lstep
      split
      · have : (decs (ys.getD i 0)).length ≤ 9 := decs_len (getD_lt 1000000000 (by omega) ys h i)
        omega
      · omega
  have := key is 0 0 (Nat.le_refl _)
  simpa [lrun] using this
theorem lrun_down (ys : List Nat) (n : Nat) (hl : ys.length = n) (h : ∀ x ∈ ys, x < 1000000000) (k : Nat) (hk : k ≤ n) : lrun ys (downTo n k) = (decs (val 1000000000 (ys.drop (n - k)))).length := by
  induction k with
  | zero => rw [Nat.sub_zero, List.drop_eq_nil_of_le (by omega)]; simp [downTo, lrun, val, decs_zero]
  | succ k ih =>
    have hj : n - 1 - k < ys.length := by omega
    rw [downTo_succ, lrun_snoc, ih (by omega), show n - (k + 1) = n - 1 - k by omega, val_drop_succ hj, show n - 1 - k + 1 = n - k by omega]
    unfold lstep
    have hx := getD_lt 1000000000 (by omega) ys h (n - 1 - k)
    by_cases hz : val 1000000000 (ys.drop (n - k)) = 0
    · rw [if_pos ((decs_length_zero _).2 hz), hz]; simp
    · rw [if_neg (fun h0 => hz ((decs_length_zero _).1 h0)), decs_len_shift _ _ hz hx]
theorem lrun_all (ys : List Nat) (n : Nat) (hl : ys.length = n) (h : ∀ x ∈ ys, x < 1000000000) : lrun ys (downTo n n) = (decs (val 1000000000 ys)).length := by
  rw [lrun_down ys n hl h n (Nat.le_refl _), Nat.sub_self, List.drop_zero]
/-- Digits in their places, the least first: the first k of ds, 0 else. -/
def placed (ds : List Nat) (k : Nat) : List Nat := List.replicate (ds.length - k) 0 ++ (ds.take k).reverse
theorem placed_length (ds : List Nat) (k : Nat) (hk : k ≤ ds.length) : (placed ds k).length = ds.length := by simp [placed]; omega
theorem placed_all (ds : List Nat) : placed ds ds.length = ds.reverse := by simp [placed]
theorem placed_succ (ds : List Nat) (k : Nat) (hk : k < ds.length) :
    placed ds (k + 1) = (placed ds k).set (ds.length - 1 - k) (ds.getD k 0) ∧ (placed ds k).getD (ds.length - 1 - k) 0 = 0 := by
  have e : ds.length - k = (ds.length - 1 - k) + 1 := by omega
  have e2 : ds.length - (k + 1) = ds.length - 1 - k := by omega
  unfold placed
  rw [e2, e]
  generalize ds.length - 1 - k = m
  rw [take_snoc_getD ds k hk, List.reverse_append, List.replicate_succ', List.append_assoc]
  constructor
  · rw [List.set_append_right _ _ (by simp)]
    simp
  · rw [List.getD, List.getElem?_append_right (by simp)]
    simp
/-- The nine digits at place 9q, as a limb. -/
def chunk (es : List Nat) (q : Nat) : Nat := val 10 ((es.drop (9 * q)).take 9)
def chunks (es : List Nat) (N : Nat) : List Nat := (List.range N).map (chunk es)
theorem chunks_length (es : List Nat) (N : Nat) : (chunks es N).length = N := by simp [chunks]
theorem chunks_getD (es : List Nat) (N q : Nat) (hq : q < N) : (chunks es N).getD q 0 = chunk es q := by
  simp [chunks, List.getD, hq]
theorem chunk_lt (es : List Nat) (h : ∀ d ∈ es, d < 10) (q : Nat) : chunk es q < 1000000000 := by
  have h1 := val_lt 10 ((es.drop (9 * q)).take 9) (fun d hd => h d (List.mem_of_mem_drop (List.mem_of_mem_take hd)))
  refine Nat.lt_of_lt_of_le h1 ?_
  exact Nat.pow_le_pow_right (n := 10) (j := 9) (by omega) (by rw [List.length_take]; omega)
theorem chunks_lt (es : List Nat) (h : ∀ d ∈ es, d < 10) (N : Nat) : ∀ x ∈ chunks es N, x < 1000000000 := by
  intro x hx
  obtain ⟨q, _, rfl⟩ := List.mem_map.1 hx
  exact chunk_lt es h q
theorem val_nil (b : Nat) : val b [] = 0 := rfl
theorem chunks_val (N : Nat) : ∀ es : List Nat, es.length ≤ 9 * N → val 1000000000 (chunks es N) = val 10 es := by
  induction N with
  | zero => intro es h; have : es = [] := List.eq_nil_of_length_eq_zero (by omega); subst this; rfl
  | succ N ih =>
    intro es h
    have e : chunks es (N + 1) = chunk es 0 :: chunks (es.drop 9) N := by
      simp only [chunks, List.range_succ_eq_map, List.map_cons, List.map_map]
      congr 1
      refine List.map_congr_left fun q _ => ?_
      simp only [Function.comp, chunk, List.drop_drop]
      rw [show 9 * Nat.succ q = 9 + 9 * q by omega]
    rw [e, val, ih (es.drop 9) (by rw [List.length_drop]; omega)]
    have e2 := val_append 10 (es.take 9) (es.drop 9)
    rw [List.take_append_drop] at e2
    have e3 : chunk es 0 = val 10 (es.take 9) := by simp [chunk]
    rw [e2, e3]
    rcases Nat.le_total 9 es.length with h9 | h9
    · rw [List.length_take, Nat.min_eq_left h9]
    · rw [List.drop_eq_nil_of_le h9, val_nil]; simp
theorem chunk_set (es : List Nat) (p d : Nat) (hp : p < es.length) (h0 : es.getD p 0 = 0) (q : Nat) :
    chunk (es.set p d) q = if q = p / 9 then chunk es q + 10 ^ (p % 9) * d else chunk es q := by
  unfold chunk
  by_cases hlt : p < 9 * q
  · rw [if_neg (by omega), List.drop_set_of_lt hlt]
  · rw [List.drop_set, if_neg hlt, List.take_set]
    by_cases hq : q = p / 9
    · rw [if_pos hq]
      have hm : p - 9 * q = p % 9 := by omega
      rw [hm]
      have hl : p % 9 < ((es.drop (9 * q)).take 9).length := by simp; omega
      have hv := val_set 10 ((es.drop (9 * q)).take 9) (p % 9) d hl
      have hz : ((es.drop (9 * q)).take 9).getD (p % 9) 0 = 0 := by
        rw [List.getD, List.getElem?_take, if_pos (by omega), List.getElem?_drop, show 9 * q + p % 9 = p by omega]
        exact h0
      rw [hz, Nat.mul_zero, Nat.add_zero] at hv
      exact hv
    · rw [if_neg hq, List.set_eq_of_length_le (by simp; omega)]
theorem chunks_set (es : List Nat) (p d N : Nat) (hp : p < es.length) (h0 : es.getD p 0 = 0) :
    chunks (es.set p d) N = (chunks es N).set (p / 9) (chunk es (p / 9) + 10 ^ (p % 9) * d) := by
  apply List.ext_getElem
  · simp [chunks]
  · intro q h1 h2
    simp only [chunks, List.getElem_map, List.getElem_range, List.getElem_set]
    rw [chunk_set es p d hp h0 q]
    by_cases hq : q = p / 9
    · rw [if_pos hq, if_pos hq.symm, hq]
    · rw [if_neg hq, if_neg (fun h => hq h.symm)]
theorem chunks_zero (n N : Nat) : chunks (List.replicate n 0) N = List.replicate N 0 := by
  rw [List.eq_replicate_iff]
  refine ⟨chunks_length _ _, fun x hx => ?_⟩
  obtain ⟨q, _, rfl⟩ := List.mem_map.1 hx
  simp only [chunk, List.drop_replicate, List.take_replicate]
  exact val_replicate 10 _
theorem placed_zero (ds : List Nat) : placed ds 0 = List.replicate ds.length 0 := by simp [placed]
theorem placed_lt (ds : List Nat) (k : Nat) (h : ∀ j, j < k → ds.getD j 0 < 10) : ∀ d ∈ placed ds k, d < 10 := by
  intro d hd
  rcases List.mem_append.1 hd with hd | hd
  · rw [List.eq_of_mem_replicate hd]; omega
  · obtain ⟨j, hj, rfl⟩ := List.mem_iff_getElem.1 (List.mem_reverse.1 hd)
    have hj' : j < k ∧ j < ds.length := by rw [List.length_take] at hj; omega
    have := h j hj'.1
    rw [List.getD, List.getElem?_eq_getElem hj'.2] at this
    simpa using this
/-- Powers of ten. -/
theorem pow_split (k : Nat) : 10 ^ k = 1000000000 ^ (k / 9) * 10 ^ (k % 9) := by
  rw [show (1000000000 : Nat) = 10 ^ 9 from rfl, ← Nat.pow_mul, ← Nat.pow_add, Nat.div_add_mod]
theorem pow_lt9 (k : Nat) (h : k < 9) : 10 ^ k < 1000000000 := Nat.pow_lt_pow_right (m := k) (n := 9) (by omega) h
theorem pow_pos10 (k : Nat) : 0 < 10 ^ k := Nat.pow_pos (by omega)
theorem shift_val (V k : Nat) : val 1000000000 (List.replicate (k / 9) 0 ++ digs 1000000000 (V * 10 ^ (k % 9) + 0)) = V * 10 ^ k := by
  rw [val_append, val_replicate, val_digs _ (by omega), List.length_replicate, pow_split k, Nat.add_zero, Nat.zero_add, Nat.mul_left_comm]
theorem cut_q (V k : Nat) : V / 1000000000 ^ (k / 9) / 10 ^ (k % 9) = V / 10 ^ k := by rw [Nat.div_div_eq_div_mul, ← pow_split]
theorem cut_r {xs : List Nat} (h : ∀ x ∈ xs, x < 1000000000) (k : Nat) (hk : k / 9 < xs.length) :
    val 1000000000 (xs.take (k / 9) ++ [val 1000000000 (xs.drop (k / 9)) % 10 ^ (k % 9)]) = val 1000000000 xs % 10 ^ k := by
  have hl : (xs.take (k / 9)).length = k / 9 := by rw [List.length_take]; omega
  have h1 : val 1000000000 (xs.take (k / 9)) = val 1000000000 xs % 1000000000 ^ (k / 9) := by
    have e := val_append 1000000000 (xs.take (k / 9)) (xs.drop (k / 9))
    rw [List.take_append_drop, hl] at e
    rw [e, Nat.add_mul_mod_self_left]
    refine (Nat.mod_eq_of_lt ?_).symm
    have := val_lt 1000000000 (xs.take (k / 9)) (fun x hx => h x (List.mem_of_mem_take hx))
    rwa [hl] at this
  rw [val_append, hl, h1, val_drop h, pow_split k, Nat.mod_mul]
  simp [val]
theorem cut_big {xs : List Nat} (h : ∀ x ∈ xs, x < 1000000000) (k : Nat) (hk : xs.length ≤ k / 9) : val 1000000000 xs < 10 ^ k := by
  refine Nat.lt_of_lt_of_le (limbs_lt h (Nat.le_refl _)) (Nat.pow_le_pow_right (by omega) (by omega))
end Go.Proofs.Ytiflkkmeloclfaa
/- Own -/
/-
  Appending limbs to a row of the call's own; a row of the call's own that is cut, and written.
-/
namespace Go.Proofs.Ytiflkkmeloclfaa
open Go.RowKit
theorem run_append_of_nil {P : Program} (w : World) (base : Nat) (t ty e : TypeId) (i : TypeInfo) (size : Nat) (ht : P.underlying t = some (.slice e)) (hi : P.info? e = some i)
    (v : Value) (n : Nat) (xs : List Value) (hown : w.ownsRow base e size v n xs) (c : Nat) : (Builtin.append_ #[t, t] ty #[v, .slice none 0 c]).run P w = .ok v w := by
  rcases hown.2 with ⟨rfl, rfl⟩ | ⟨g, cap, cur, rfl, _, _, hnc, _⟩
  · simp [Builtin.append_, run_underlying ht, sizeOf, typeInfo, hi, Builtin.lenOf, Builtin.firstCells]
  · simp [Builtin.append_, run_underlying ht, sizeOf, typeInfo, hi, Builtin.lenOf, Builtin.firstCells, hnc, storeCells]
set_option maxRecDepth 100000 in
/-- 'append(out, xs...)', out nil or the call's own, xs any slice of limbs. -/
theorem wpList_app_limbs {W w0 : World} {ops : Array Oper} {rest : List Oper} {o : Oper} {a : Act} {Q : Exit → Act → World → Prop} (hgd : o.guard = none) (s x : Operand) (t : TypeId)
    (ho : o.op = .call { callee := .builtin .append, args := #[s, x], argTypes := #[t, t] }) (ht : Try.prog.underlying t = some (.slice 51))
    (base : Nat) (v : Value) (k : Nat) (xs : List Nat) (hs : a.eval s = v) (hown : W.ownsRow base 51 1 v k (u32s xs)) (A : Option Addr) (m c : Nat) (ys : List Nat)
    (hx : a.eval x = .slice A m c) (hr : Limbs W A m ys) (hk : k + m ≤ 10000000000) (hb : Below base w0 W) (hbase : base ≤ W.heap.size)
    (h : ∀ v' w', Hid (w'.ownsRow base 51 1 v' (k + m) (u32s (xs ++ ys))) → Hid (Below base w0 w') → wpList Try.prog ops Q rest (a.put o.dst v') w') :
    wpList Try.prog ops Q (o :: rest) a W := by
  obtain ⟨i0, hi, hz0, hz1, hz2⟩ := info_parts u32_info
  rcases A with _ | ad
  · have hm : m = 0 := by
      rcases Nat.eq_zero_or_pos m with h0 | h0
      · exact h0
      · obtain ⟨ad, hh, _⟩ := hr.1.2 h0
        cases hh
    subst hm
    have hn : ys = [] := List.eq_nil_of_length_eq_zero hr.len
    subst hn
    have hrun := run_append_of_nil (P := Try.prog) W base t o.type 51 i0 1 ht hi v k _ hown c
    refine wpList_plain hgd fun K hK => ?_
    unfold Oper.wp execOp
    simp only [ho, resolve, invoke, builtin, Sem.run_bind, Sem.run_pure, Result.andThen_ok, List.map_toArray, List.map_cons, List.map_nil, hs, hx, hrun]
    exact hK _ _ (h v W (by rw [List.append_nil]; exact hown) hb)
  · have hcells : ∀ j u, (u32s ys)[j]? = some u → W.cell? (ad.add j) = some u := by
      intro j u hu
      have hl : 0 < m := by
        rcases Nat.eq_zero_or_pos m with h0 | h0
        · subst h0
          have hn : ys = [] := List.eq_nil_of_length_eq_zero hr.len
          subst hn
          simp [u32s] at hu
        · exact h0
      obtain ⟨ad', hh, _, hc⟩ := hr.1.2 hl
      injection hh with hh
      subst hh
      exact hc j u hu
    refine wpList_append_own _ hgd s x t ho base 51 i0 (.int .u32 0) 1 4 ht hi hz0 hz1 hz2 rfl (by decide) v k _ hs hown ad m c (u32s ys) hx (by rw [u32s_length, hr.len, Nat.mul_one]) hcells (u32_one _) ?_ ?_ hbase ?_
    · unfold maxLen; omega
    · omega
    · intro v' w' h1 h2 _
      refine h v' w' ?_ ?_
      · rw [u32s_append]; exact h1
      · exact hb.grown h2 hbase fun j hj => (hown.lt j hj).1
theorem own_pos {w : World} {base : Nat} {e : TypeId} {v : Value} {n : Nat} {xs : List Value} (h : w.ownsRow base e 1 v n xs) (hn : 0 < n) : ∃ g cap, v = .slice (some ⟨g, 0, none⟩) n cap ∧ base ≤ g ∧ g < w.heap.size ∧ n ≤ cap ∧ cap ≤ maxLen := by
  rcases h.2 with ⟨_, h0⟩ | ⟨g, cap, cur, rfl, hb, hg, hnc, hm, _⟩
  · omega
  · exact ⟨g, cap, rfl, hb, (Array.getElem?_eq_some_iff.1 hg).1, hnc, hm⟩
/-- The first limbs of a row of the call's own. -/
theorem own_prefix {w : World} {base g n m cap : Nat} {xs ys : List Nat} (h : w.ownsRow base 51 1 (.slice (some ⟨g, 0, none⟩) n cap) n (u32s (xs ++ ys))) (hl : xs.length = m) (hm : m ≤ 1000000000) (hx : ∀ x ∈ xs, x < 4294967296) : Limbs w (some ⟨g, 0, none⟩) m xs := by
  have hlen : xs.length + ys.length = n := by have := h.1; simpa [u32s_length] using this
  refine ⟨⟨by rw [u32s_length]; omega, fun h0 => ⟨_, rfl, ?_, ?_⟩⟩, by omega, hx⟩
  · obtain ⟨g', cap', e1, _, h2, _⟩ := own_pos h (by omega)
    have e2 : g = g' ∧ cap = cap' := by simpa using e1
    show g < w.heap.size
    omega
  · intro j u hu
    have hj : j < m := by
      have h2 := (List.getElem?_eq_some_iff.1 hu).1
      rw [u32s_length] at h2
      omega
    rw [show (⟨g, 0, none⟩ : Addr).add j = ⟨g, j, none⟩ by unfold Addr.add; split <;> simp_all, h.cellAt j (by omega), u32s_append, List.getElem?_append_left (by rw [u32s_length]; omega)]
    exact hu
theorem own_cell_behind {w : World} {base g n cap : Nat} {xs ys : List Nat} (h : w.ownsRow base 51 1 (.slice (some ⟨g, 0, none⟩) n cap) n (u32s (xs ++ ys))) (j y : Nat) (hy : ys[j]? = some y) : w.cell? ⟨g, xs.length + j, none⟩ = some (.int .u32 (y : Int)) := by
  have hlen : xs.length + ys.length = n := by have := h.1; simpa [u32s_length] using this
  have hj := (List.getElem?_eq_some_iff.1 hy).1
  rw [h.cellAt _ (by omega), u32s_append, List.getElem?_append_right (by rw [u32s_length]; omega), u32s_length, Nat.add_sub_cancel_left, u32s_get, hy]
  rfl
theorem own_kept {w w' : World} {base B : Nat} {e : TypeId} {v : Value} {n : Nat} {xs : List Value} (h : w.ownsRow base e 1 v n xs) (hb : Below B w w') (hB : B = w.heap.size) : w'.ownsRow base e 1 v n xs := by
  subst hB
  refine h.kept (row := none) ⟨hb.os, hb.tape, hb.output, hb.size, fun k hk _ => hb.block k hk⟩ ?_
  cases hv : v.ownBlock <;> simp
theorem own_empty (w : World) (e : TypeId) : (w.alloc (.cells #[] e)).ownsRow w.heap.size e 1 (.slice (some ⟨w.heap.size, 0, none⟩) 0 0) 0 [] :=
  ⟨by simp, .inr ⟨w.heap.size, 0, #[], rfl, Nat.le_refl _, heap_alloc_new w _, Nat.le_refl _, by unfold maxLen; omega, rfl, by simp⟩⟩
theorem limbs_new2 (w : World) (x y : Nat) (hx : x < 4294967296) (hy : y < 4294967296) (E F : Int) (hE : E = (x : Int)) (hF : F = (y : Int)) : Limbs (w.alloc (.cells #[.int .u32 E, .int .u32 F] 51)) (some ⟨w.heap.size, 0, none⟩) 2 [x, y] := by
  subst hE
  subst hF
  refine ⟨⟨rfl, fun _ => ⟨_, rfl, by simp, ?_⟩⟩, by omega, by simp [hx, hy]⟩
  intro j u hu
  rcases j with _ | _ | j
  · rw [show (⟨w.heap.size, 0, none⟩ : Addr).add 0 = ⟨w.heap.size, 0, none⟩ by simp [Addr.add], World.cell?_alloc_at _ _ _ _ rfl]
    exact hu
  · rw [show (⟨w.heap.size, 0, none⟩ : Addr).add 1 = ⟨w.heap.size, 1, none⟩ by simp [Addr.add], World.cell?_alloc_at _ _ _ _ rfl]
    exact hu
  · simp [u32s] at hu
theorem own_kept_lt {w w' : World} {base B : Nat} {e : TypeId} {v : Value} {n : Nat} {xs : List Value} (h : w.ownsRow base e 1 v n xs) (hb : Below B w w') (hB : ∀ k, v.ownBlock = some k → k < B) : w'.ownsRow base e 1 v n xs := by
  refine ⟨h.1, ?_⟩
  rcases h.2 with h' | ⟨g, cap, cur, h1, h2, h3, h4⟩
  · exact .inl h'
  · refine .inr ⟨g, cap, cur, h1, h2, ?_, h4⟩
    rw [hb.block g (hB g (by rw [h1]; rfl))]
    exact h3
theorem u32s_set5 (zs : List Nat) (k x : Nat) : u32s (zs.set k x) = (u32s zs).set k (.int .u32 (x : Int)) := by simp [u32s, List.map_set]
/-- What a round needs that writes into a row of the call's own. -/
theorem own_round {w : World} {base n c k : Nat} {A : Option Addr} {zs : List Nat} (h : w.ownsRow base 51 1 (.slice A n c) n (u32s zs)) (hk : k < n) :
    ∃ g v, A = some ⟨g, 0, none⟩ ∧ base ≤ g ∧ w.cell? ⟨g, k, none⟩ = some v ∧ w.frozen? ⟨g, k, none⟩ = false ∧ (Value.slice A n c).ownBlock = some g := by
  obtain ⟨g, cap, e1, hb, _⟩ := own_pos h (by omega)
  simp only [Value.slice.injEq] at e1
  obtain ⟨rfl, -, rfl⟩ := e1
  have hlen : zs.length = n := by have := h.1; simpa [u32s_length] using this
  refine ⟨g, .int .u32 ((zs[k]'(by omega) : Nat) : Int), rfl, hb, ?_, h.frozenAt k, rfl⟩
  · rw [h.cellAt k (by omega), u32s_get, List.getElem?_eq_getElem (by omega)]
    rfl
end Go.Proofs.Ytiflkkmeloclfaa
/- Ours -/
/-
  Rows of the call's own, whatever they hold: for laws that write over what was answered.
-/
namespace Go.Proofs.Ytiflkkmeloclfaa
open Go.RowKit
/-- A slice of n limbs in new memory, whatever they are. -/
def Ours (w : World) (base : Nat) (v : Value) (n : Nat) : Prop := ∃ xs, w.ownsRow base 51 1 v n xs
theorem Ours.setCell {w : World} {base n : Nat} {v : Value} (h : Ours w base v n) (g k : Nat) (u : Value) : Ours (w.setCell ⟨g, k, none⟩ u) base v n := by
  obtain ⟨xs, h⟩ := h
  rcases h.2 with h' | ⟨g', cap', cur, rfl, h2, h3, h4⟩
  · exact ⟨xs, h.1, .inl h'⟩
  · by_cases e : g = g'
    · subst e; exact ⟨_, (h.stored k u).1⟩
    · refine ⟨xs, h.1, .inr ⟨g', cap', cur, rfl, h2, ?_, h4⟩⟩
      rw [Below.heap_setCell _ _ _ g' (fun e' => e e'.symm)]
      exact h3
theorem Ours.round {w : World} {base n c k : Nat} {A : Option Addr} (h : Ours w base (.slice A n c) n) (hk : k < n) :
    ∃ g u, A = some ⟨g, 0, none⟩ ∧ base ≤ g ∧ w.cell? ⟨g, k, none⟩ = some u ∧ w.frozen? ⟨g, k, none⟩ = false := by
  obtain ⟨xs, h⟩ := h
  obtain ⟨g, cap, e1, hb, _⟩ := own_pos h (by omega)
  simp only [Value.slice.injEq] at e1
  obtain ⟨rfl, -, rfl⟩ := e1
  have hlen : xs.length = n := by simpa using h.1
  refine ⟨g, xs[k]'(by omega), rfl, hb, ?_, h.frozenAt k⟩
  rw [h.cellAt k (by omega), List.getElem?_eq_getElem (by omega)]
theorem Ours.keep {w w' : World} {base B n : Nat} {v : Value} (h : Ours w base v n) (hb : Below B w w') (hB : B = w.heap.size) : Ours w' base v n := by
  obtain ⟨xs, h⟩ := h
  exact ⟨xs, own_kept h hb hB⟩
theorem OwnS.ours {w : World} {base B m c : Nat} {A : Option Addr} {ys : List Nat} (h : OwnS w base A m c ys) (hB : B ≤ base) : Ours w B (.slice A m c) m := ⟨_, own_weaken h.1 hB⟩
/- Rw: rows of slots of which some are known. -/
/-- What is known of a row of slots: how many there are, and what some hold. -/
def Rw (n : Nat) : List (Nat × Value) → List Value → Prop
  | [], T => T.length = n
  | p :: r, T => T[p.1]? = some p.2 ∧ Rw n r T
def mskR (n : Nat) : List (Nat × Value) → List (Option Value)
  | [] => List.replicate n none
  | p :: r => (mskR n r).set p.1 (some p.2)
def Fb : List (Option Value) → (List Value → Prop) → Prop
  | [], P => P []
  | some v :: m, P => Fb m fun l => P (v :: l)
  | none :: m, P => ∀ z, Fb m fun l => P (z :: l)
theorem Fb.at : ∀ {m : List (Option Value)} {P : List Value → Prop} {T : List Value}, Fb m P → T.length = m.length → (∀ (i : Nat) v, m[i]? = some (some v) → T[i]? = some v) → P T
  | [], P, T, h, hl, hv => by
    obtain rfl := List.eq_nil_of_length_eq_zero hl
    exact h
  | some v :: m, P, T, h, hl, hv => by
    cases T with
    | nil => cases hl
    | cons t T =>
      have h0 := hv 0 v rfl
      obtain rfl : t = v := Option.some.inj h0
      exact Fb.at (P := fun l => P (t :: l)) h (Nat.succ.inj hl) fun i v hi => hv (i + 1) v hi
  | none :: m, P, T, h, hl, hv => by
    cases T with
    | nil => cases hl
    | cons t T => exact Fb.at (P := fun l => P (t :: l)) (h t) (Nat.succ.inj hl) fun i v hi => hv (i + 1) v hi
theorem mskR_len (n : Nat) : ∀ ps, (mskR n ps).length = n
  | [] => List.length_replicate
  | p :: r => by rw [mskR, List.length_set]; exact mskR_len n r
theorem Rw.at {n : Nat} : ∀ {ps : List (Nat × Value)} {T : List Value}, Rw n ps T → T.length = n ∧ ∀ (i : Nat) v, (mskR n ps)[i]? = some (some v) → T[i]? = some v
  | [], T, h => ⟨h, fun i v hi => by
    rw [mskR, List.getElem?_replicate] at hi
    split at hi <;> cases hi⟩
  | p :: r, T, h => ⟨(Rw.at h.2).1, fun i v hi => by
    rw [mskR, List.getElem?_set] at hi
    split at hi
    · next e =>
      subst e
      split at hi
      · cases hi; exact h.1
      · cases hi
    · exact (Rw.at h.2).2 i v hi⟩
/-- A row of slots, laid open: those that are known as they are, the others each by a variable. -/
theorem Rw.lay {n : Nat} {ps : List (Nat × Value)} {P : List Value → Prop} (k : Fb (mskR n ps) P) (T : List Value) (h : Rw n ps T) : P T :=
  Fb.at k ((Rw.at h).1.trans (mskR_len n ps).symm) (Rw.at h).2
end Go.Proofs.Ytiflkkmeloclfaa
