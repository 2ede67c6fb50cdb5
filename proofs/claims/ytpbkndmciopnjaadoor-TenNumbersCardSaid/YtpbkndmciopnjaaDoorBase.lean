/-
  Plain lemmas over memory: a slice that reads as a list (nil included).
-/
import Derived.Test.YtpbkndmciopnjaaDoorRows
import Derived.WalkKit
import Derived.Handy
import Derived.Lib.Hide
import Derived.Below
import Derived.Laws.OwnMore
import Derived.Laws.MakeOwn
import Derived.Deep.AppendLies
import Derived.Deep.Draws
import Derived.Deep.QuietTactic
import Derived.BigQuiet
import Derived.RegionTactic
import Derived.OwnWalk
import Derived.Laws.CopyOwn
import Derived.Maps.AppendAt
import Derived.Lib.MinMax
import Derived.Laws.IdiomStrings
import Derived.Laws.BytesArg
import Derived.Outline
import Derived.WalkSpells
import Derived.WalkLawsBesides
namespace Go.Proofs.YtpbkndmciopnjaaDoor
open Go.RowKit

theorem block_of_add (a : Addr) (n : Nat) : (a.add n).block = a.block := by unfold Addr.add; split <;> rfl
theorem add_of_add (a : Addr) (i j : Nat) : (a.add i).add j = a.add (i + j) := by
  unfold Addr.add
  by_cases hi : i = 0 <;> by_cases hj : j = 0 <;> simp [hi, hj, Nat.add_assoc]

/-- The slice value with address A and length n holds the cells xs, below block B. -/
def Reads (w : World) (B size : Nat) (A : Option Addr) (n : Nat) (xs : List Value) : Prop :=
  xs.length = n * size ∧ (0 < n → ∃ ad, A = some ad ∧ ad.block < B ∧ ∀ j u, xs[j]? = some u → w.cell? (ad.add j) = some u)

section
variable {w w' : World} {B B' size n : Nat} {A : Option Addr} {xs : List Value}
theorem Reads.none_ : Reads w B size A 0 [] := ⟨by simp, fun h => absurd h (by omega)⟩
theorem Reads.at_ {k : Nat} (h : Reads w B 1 A n xs) (hk : k < n) : ∃ ad u, A = some ad ∧ ad.block < B ∧ xs[k]? = some u ∧ w.cell? (ad.add k) = some u := by
  obtain ⟨ad, e, hb, hc⟩ := h.2 (by omega)
  have hl : k < xs.length := by have := h.1; omega
  exact ⟨ad, xs[k], e, hb, List.getElem?_eq_getElem hl, hc k _ (List.getElem?_eq_getElem hl)⟩
theorem Reads.keep (h : Reads w B size A n xs) (hk : ∀ p : Addr, p.block < B → w'.cell? p = w.cell? p) : Reads w' B size A n xs :=
  ⟨h.1, fun hn => by
    obtain ⟨ad, e, hb, hc⟩ := h.2 hn
    exact ⟨ad, e, hb, fun j u hu => (hk _ (by rw [block_of_add]; exact hb)).trans (hc j u hu)⟩⟩
theorem Reads.more (h : Reads w B size A n xs) (hB : B ≤ B') : Reads w B' size A n xs :=
  ⟨h.1, fun hn => by
    obtain ⟨ad, e, hb, hc⟩ := h.2 hn
    exact ⟨ad, e, by omega, hc⟩⟩
theorem Reads.below (h : Reads w B size A n xs) (hb : Below B w w') : Reads w' B size A n xs := h.keep fun _ hp => hb.cell hp
theorem Reads.drew (h : Reads w B size A n xs) : Reads w.drew B size A n xs := h
theorem Reads.drewN (h : Reads w B size A n xs) (k : Nat) : Reads (w.drewN k) B size A n xs := h
theorem Reads.alloc (h : Reads w B size A n xs) (hB : B ≤ w.heap.size) (o : Obj) : Reads (w.alloc o) B size A n xs := h.keep fun p hp => World.cell?_alloc_lt w o p (by omega)
theorem Reads.setCell (h : Reads w B size A n xs) {p : Addr} (hB : B ≤ p.block) (u : Value) : Reads (w.setCell p u) B size A n xs :=
  h.keep fun q hq => World.cell?_setCell_other w p q u (fun e => by subst e; omega)
theorem Reads.grown (h : Reads w B size A n xs) {row : Option Nat} (hg : w.grownBy w' row) (hB : B ≤ w.heap.size) (hr : ∀ g, row = some g → B ≤ g) : Reads w' B size A n xs :=
  h.keep fun p hp => World.cell?_of_block (hg.block p.block (by omega) (fun e => by have := hr _ e.symm; omega))
theorem Reads.cut (h : Reads w B size A n xs) {k cap : Nat} (hk : k ≤ n) (hc : n ≤ cap) :
    Reads w B size (if cap = k then A else A.map (·.add (k * size))) (n - k) (xs.drop (k * size)) := by
  refine ⟨by rw [List.length_drop, h.1, Nat.sub_mul], fun hn => ?_⟩
  obtain ⟨ad, rfl, hb, hcell⟩ := h.2 (by omega)
  rw [if_neg (by omega)]
  refine ⟨ad.add (k * size), rfl, by rw [block_of_add]; exact hb, fun j u hu => ?_⟩
  rw [add_of_add]
  exact hcell _ u (by rw [← hu, List.getElem?_drop])
theorem Reads.of_own {base : Nat} {e : TypeId} {c : Nat} (h : w.ownsRow base e size (.slice A n c) n xs) : Reads w w.heap.size size A n xs := by
  refine ⟨h.1, fun hn => ?_⟩
  obtain ⟨g, cap, hv, _, hlt⟩ := h.form hn
  have hA : A = some ⟨g, 0, none⟩ := by injection hv
  subst hA
  exact ⟨_, rfl, hlt, h.cells (g := g) rfl⟩
end

/-- Limbs as values. -/
def u32s (xs : List Nat) : List Value := xs.map fun (x : Nat) => Value.int .u32 (x : Int)
theorem u32s_length (xs : List Nat) : (u32s xs).length = xs.length := by simp [u32s]
theorem u32s_get (xs : List Nat) (k : Nat) : (u32s xs)[k]? = (xs[k]?).map fun (x : Nat) => Value.int .u32 (x : Int) := by simp [u32s]

theorem u32s_append (xs ys : List Nat) : u32s (xs ++ ys) = u32s xs ++ u32s ys := by simp [u32s]
/-- A slice that reads as the limbs xs. -/
def Limbs (w : World) (A : Option Addr) (n : Nat) (xs : List Nat) : Prop := Reads w w.heap.size 1 A n (u32s xs) ∧ n ≤ 36000000000000 ∧ ∀ x ∈ xs, x < 4294967296

section
variable {w w' : World} {n : Nat} {A : Option Addr} {xs : List Nat}
theorem Limbs.len (h : Limbs w A n xs) : xs.length = n := by have := h.1.1; simpa [u32s_length] using this
theorem Limbs.below (h : Limbs w A n xs) (hb : Below w.heap.size w w') : Limbs w' A n xs := ⟨(h.1.below hb).more hb.size, h.2⟩
theorem Limbs.at_ {k : Nat} (h : Limbs w A n xs) (hk : k < n) : ∃ ad, A = some ad ∧ ad.block < w.heap.size ∧ w.cell? (ad.add k) = some (.int .u32 ((xs.getD k 0 : Nat) : Int)) ∧ xs.getD k 0 < 4294967296 := by
  obtain ⟨ad, u, e, hb, hx, hc⟩ := h.1.at_ hk
  have hl : k < xs.length := by rw [h.len]; exact hk
  rw [u32s_get, List.getElem?_eq_getElem hl] at hx
  simp at hx
  subst hx
  refine ⟨ad, e, hb, ?_, ?_⟩
  · rw [hc]; simp [List.getD, List.getElem?_eq_getElem hl]
  · simp [List.getD, List.getElem?_eq_getElem hl]; exact h.2.2 _ (List.getElem_mem hl)
end

theorem u32_info : (Tryd.prog.info? 39).map (fun i => (i.zero, i.size, i.bytes)) = some (some (.int .u32 0), 1, 4) := by kernel_rfl

/-- A slice in new memory (from block base on), that holds the limbs ys. -/
def OwnS (w : World) (base : Nat) (A : Option Addr) (m c : Nat) (ys : List Nat) : Prop :=
  w.ownsRow base 39 1 (.slice A m c) m (u32s ys) ∧ m ≤ 1000000000 ∧ ∀ x ∈ ys, x < 4294967296

section
variable {w w' : World} {base m c : Nat} {A : Option Addr} {ys : List Nat}
theorem OwnS.len (h : OwnS w base A m c ys) : ys.length = m := by have := h.1.1; simpa [u32s_length] using this
theorem OwnS.limbs (h : OwnS w base A m c ys) : Limbs w A m ys := ⟨Reads.of_own h.1, Nat.le_trans h.2.1 (by omega), h.2.2⟩
theorem OwnS.keep {B : Nat} (h : OwnS w base A m c ys) (hb : Below B w w') (hB : B = w.heap.size) : OwnS w' base A m c ys := by
  subst hB
  refine ⟨h.1.kept (row := none) ⟨hb.os, hb.tape, hb.output, hb.size, fun k hk _ => hb.block k hk⟩ ?_, h.2⟩
  cases hv : (Value.slice A m c).ownBlock <;> simp
end

theorem own_blk {w : World} {base g n : Nat} {e : TypeId} {xs : List Value} (h : w.ownsRow base e 1 (.slice (some ⟨g, 0, none⟩) n n) n xs) :
    w.heap[g]? = some (.cells xs.toArray e (0, 0)) ∧ base ≤ g ∧ n ≤ maxLen ∧ xs.length = n := by
  obtain ⟨hl, hc⟩ := h
  rcases hc with ⟨h', _⟩ | ⟨g', cap', cur, h', hb, hg, hnc, hcm, hcs, htake⟩
  · simp at h'
  · simp only [Value.slice.injEq, Option.some.injEq, Addr.mk.injEq, and_true, true_and] at h'
    obtain ⟨rfl, rfl⟩ := h'
    have e1 : cur.toList = xs := by rw [← htake, List.take_of_length_le (by simp; omega)]
    refine ⟨?_, hb, hcm, by simpa using hl⟩
    rw [hg, ← e1]
theorem own_of_blk {w : World} {base g n : Nat} {e : TypeId} {xs : List Value} (hh : w.heap[g]? = some (.cells xs.toArray e (0, 0))) (hb : base ≤ g) (hl : xs.length = n) (hm : n ≤ maxLen) :
    w.ownsRow base e 1 (.slice (some ⟨g, 0, none⟩) n n) n xs :=
  ⟨by simpa using hl, .inr ⟨g, n, xs.toArray, rfl, hb, hh, Nat.le_refl _, hm, by simpa using hl, by simp [← hl]⟩⟩
theorem u32_one (xs : List Nat) : ∀ u ∈ u32s xs, u.oneCell' = true := by
  intro u hu
  simp only [u32s, List.mem_map] at hu
  obtain ⟨x, _, rfl⟩ := hu
  rfl
theorem made_u32 (k : Nat) : (madeCells #[Value.int .u32 0] k).toList = u32s (List.replicate k 0) := by
  simp only [madeCells, u32s, List.map_replicate, Array.toList_map, Array.toList_range]
  rw [List.eq_replicate_iff]
  refine ⟨by simp, fun b hb => ?_⟩
  obtain ⟨x, _, rfl⟩ := List.mem_map.1 hb
  have : x % (#[Value.int .u32 0] : Array Value).size = 0 := Nat.mod_one x
  rw [this]; rfl
theorem _root_.Go.RowKit.Below.of_drewN {B : Nat} {a w : World} (h : Below B a w) (n : Nat) : Below B a (w.drewN n) := ⟨h.os, h.tape, h.output, h.size, h.block⟩
theorem list_ext_getD {xs ys : List Nat} (hl : xs.length = ys.length) (h : ∀ j, j < xs.length → xs.getD j 0 = ys.getD j 0) : xs = ys := by
  apply List.ext_getElem hl
  intro i h1 h2
  have := h i h1
  simpa [List.getD, List.getElem?_eq_getElem h1, List.getElem?_eq_getElem h2] using this
theorem quiet_add_left {P : Program} {f : FuncId} {args : Array Value} {w : World} {a n : Nat} {v : Value}
    (h : Calls P f args (w.drewN (a + n)) fun e w' => e = .returned v ∧ w.drewN (a + n) = w') :
    Calls P f args (w.drewN (a + n)) fun e w'' => e = .returned v ∧ ∃ m, w'' = w.drewN (a + m) :=
  h.mono fun _ _ ⟨he, hm⟩ => ⟨he, n, hm.symm⟩
theorem quiet_left {P : Program} {f : FuncId} {args : Array Value} {w : World} {n : Nat} {v : Value}
    (h : Calls P f args (w.drewN n) fun e w' => e = .returned v ∧ w.drewN n = w') : Calls P f args (w.drewN n) fun e w'' => e = .returned v ∧ ∃ m, w'' = w.drewN m :=
  h.mono fun _ _ ⟨he, hm⟩ => ⟨he, n, hm.symm⟩
theorem own_weaken {w : World} {base base' : Nat} {e : TypeId} {size : Nat} {v : Value} {n : Nat} {xs : List Value} (h : w.ownsRow base e size v n xs) (hb : base' ≤ base) : w.ownsRow base' e size v n xs := by
  refine ⟨h.1, ?_⟩
  rcases h.2 with h' | ⟨g, cap, cur, h1, h2, h3⟩
  · exact .inl h'
  · exact .inr ⟨g, cap, cur, h1, Nat.le_trans hb h2, h3⟩
theorem OwnS.weaken {w : World} {base base' m c : Nat} {A : Option Addr} {ys : List Nat} (h : OwnS w base A m c ys) (hb : base' ≤ base) : OwnS w base' A m c ys := ⟨own_weaken h.1 hb, h.2⟩
theorem ret_int {k : IntKind} {a b : Int} (h : a = b) : Ending.returned (.int k a) = .returned (.int k b) := by rw [h]
theorem ret_bool {a b : Bool} (h : a = b) : Ending.returned (.bool a) = .returned (.bool b) := by rw [h]
/-- Bytes as values. -/
def u8s (xs : List Nat) : List Value := xs.map fun (x : Nat) => Value.int .u8 (x : Int)
theorem u8s_length (xs : List Nat) : (u8s xs).length = xs.length := by simp [u8s]
theorem u8s_get (xs : List Nat) (k : Nat) : (u8s xs)[k]? = (xs[k]?).map fun (x : Nat) => Value.int .u8 (x : Int) := by simp [u8s]
theorem u8s_append (xs ys : List Nat) : u8s (xs ++ ys) = u8s xs ++ u8s ys := by simp [u8s]
theorem u8_info : (Tryd.prog.info? 5).map (fun i => (i.zero, i.size, i.bytes)) = some (some (.int .u8 0), 1, 1) := by kernel_rfl
/-- A byte as a text. -/
def byteStr (v : Int) : ByteArray := ⟨#[UInt8.ofNat v.toNat]⟩
theorem byteStr_size (v : Int) : (byteStr v).size = 1 := rfl
theorem conv_byte (W : World) (cap : Nat) (v : Int) (h0 : 0 ≤ v) (h1 : v < 256) :
    (convert 41 9 (.slice (some ⟨W.heap.size, 0, none⟩) 1 cap)).run Tryd.prog (W.alloc (.cells #[.int .u8 v] 5)) = .ok (.string (byteStr v)) (W.alloc (.cells #[.int .u8 v] 5)) := by
  have := run_convert_bytes_back (P := Tryd.prog) (W.alloc (.cells #[.int .u8 v] 5)) 41 9 5 ⟨W.heap.size, 0, none⟩ cap [UInt8.ofNat v.toNat] Tryd.underlying41 Tryd.underlying5 Tryd.underlying9
    (fun j hj => by
      obtain rfl : j = 0 := by simpa using hj
      rw [show (⟨W.heap.size, 0, none⟩ : Addr).add 0 = ⟨W.heap.size, 0, none⟩ by simp [Addr.add], World.cell?_alloc_at _ _ _ _ rfl]
      have e : ((UInt8.ofNat v.toNat).toNat : Int) = v := by
        rw [UInt8.toNat_ofNat']
        omega
      simp only [List.getElem_cons_zero, e]
      rfl)
  exact this
/-- A slice that reads as the bytes xs. -/
def Bytes (w : World) (A : Option Addr) (n : Nat) (xs : List Nat) : Prop := Reads w w.heap.size 1 A n (u8s xs) ∧ n ≤ 1000000000 ∧ ∀ x ∈ xs, x < 256
section
variable {w w' : World} {n : Nat} {A : Option Addr} {xs : List Nat}
theorem Bytes.len (h : Bytes w A n xs) : xs.length = n := by have := h.1.1; simpa [u8s_length] using this
theorem Bytes.below (h : Bytes w A n xs) (hb : Below w.heap.size w w') : Bytes w' A n xs := ⟨(h.1.below hb).more hb.size, h.2⟩
theorem Bytes.at_ {k : Nat} (h : Bytes w A n xs) (hk : k < n) : ∃ ad, A = some ad ∧ ad.block < w.heap.size ∧ w.cell? (ad.add k) = some (.int .u8 ((xs.getD k 0 : Nat) : Int)) ∧ xs.getD k 0 < 256 := by
  obtain ⟨ad, u, e, hb, hx, hc⟩ := h.1.at_ hk
  have hl : k < xs.length := by rw [h.len]; exact hk
  rw [u8s_get, List.getElem?_eq_getElem hl] at hx
  simp at hx
  subst hx
  refine ⟨ad, e, hb, ?_, ?_⟩
  · rw [hc]; simp [List.getD, List.getElem?_eq_getElem hl]
  · simp [List.getD, List.getElem?_eq_getElem hl]; exact h.2.2 _ (List.getElem_mem hl)
/-- The row of bytes of the call's own, as a text. -/
theorem conv_own {base : Nat} {v : Value} (h : w.ownsRow base 5 1 v n (u8s xs)) (hx : ∀ x ∈ xs, x < 256) :
    ∃ s : ByteArray, (convert 41 9 v).run Tryd.prog w = .ok (.string s) w ∧ s.data.toList.map UInt8.toNat = xs := by
  have hl : xs.length = n := by have := h.1; simpa [u8s_length] using this
  rcases h.2 with ⟨rfl, hn⟩ | ⟨g, cap, cur, rfl, _⟩
  · refine ⟨ByteArray.empty, run_convert_bytes_nil (P := Tryd.prog) w 41 5 Tryd.underlying41 Tryd.underlying5 0 0 9 Tryd.underlying9, ?_⟩
    obtain rfl : xs = [] := List.eq_nil_of_length_eq_zero (by omega)
    rfl
  · have hr := run_convert_bytes_arg (P := Tryd.prog) w 41 5 Tryd.underlying41 Tryd.underlying5 g 0 n cap (xs.map fun (x : Nat) => (x : Int)) (by simpa using hl)
      (fun i hi => by
        rw [Nat.zero_add, h.cellAt i (by omega), u8s_get]
        simp [List.getD, List.getElem?_eq_getElem (show i < xs.length by omega)]) 9 Tryd.underlying9
    refine ⟨_, hr, ?_⟩
    rw [strOfNums_data, List.map_map, List.map_map]
    conv => rhs; rw [← List.map_id xs]
    refine List.map_congr_left fun x hx' => ?_
    have := hx x hx'
    simp only [Function.comp, Int.toNat_natCast, UInt8.toNat_ofNat', id]
    omega
end
theorem Bytes.of_own {w : World} {base n c : Nat} {A : Option Addr} {xs : List Nat} (h : w.ownsRow base 5 1 (.slice A n c) n (u8s xs)) (hn : n ≤ 1000000000) (hx : ∀ x ∈ xs, x < 256) : Bytes w A n xs := ⟨Reads.of_own h, hn, hx⟩
theorem own_form {w : World} {base : Nat} {e : TypeId} {size : Nat} {v : Value} {n : Nat} {xs : List Value} (h : w.ownsRow base e size v n xs) : ∃ A c, v = .slice A n c := by
  rcases h.2 with ⟨rfl, rfl⟩ | ⟨g, cap, cur, rfl, _⟩
  · exact ⟨_, _, rfl⟩
  · exact ⟨_, _, rfl⟩
theorem cells_one (W : World) (x : Value) (e : TypeId) : ∀ j u, [x][j]? = some u → (W.alloc (.cells #[x] e)).cell? ((⟨W.heap.size, 0, none⟩ : Addr).add j) = some u := by
  intro j u hu
  rcases j with _ | j
  · rw [show (⟨W.heap.size, 0, none⟩ : Addr).add 0 = ⟨W.heap.size, 0, none⟩ by simp [Addr.add], World.cell?_alloc_at _ _ _ _ rfl]
    simpa using hu
  · simp at hu
/-- 'out = append(out, x)' of one byte, out nil or the call's own. -/
theorem wpList_app_u8 {W w0 : World} {ops : Array Oper} {rest : List Oper} {o : Oper} {a : Act} {Q : Exit → Act → World → Prop} (hgd : o.guard = none) (s x : Operand) (t : TypeId)
    (ho : o.op = .call { callee := .builtin .append, args := #[s, x], argTypes := #[t, t] }) (ht : Tryd.prog.underlying t = some (.slice 5))
    (base : Nat) (v : Value) (k : Nat) (xs : List Nat) (hs : a.eval s = v) (hown : W.ownsRow base 5 1 v k (u8s xs)) (E : Int)
    (hx : a.eval x = .slice (some ⟨W.heap.size, 0, none⟩) 1 1) (X : Nat) (hE : E = (X : Int)) (hk : k ≤ 100000000000) (hb : Below base w0 W) (hbase : base ≤ W.heap.size)
    (h : ∀ v' w', Hid (w'.ownsRow base 5 1 v' (k + 1) (u8s (xs ++ [X]))) → Hid (Below base w0 w') → wpList Tryd.prog ops Q rest (a.put o.dst v') w') :
    wpList Tryd.prog ops Q (o :: rest) a (W.alloc (.cells #[.int .u8 E] 5)) := by
  obtain ⟨i0, hi, hz0, hz1, hz2⟩ := info_parts u8_info
  subst hE
  refine wpList_append_own _ hgd s x t ho base 5 i0 (.int .u8 0) 1 1 ht hi hz0 hz1 hz2 rfl (by decide) v k _ hs (hown.alloc _) ⟨W.heap.size, 0, none⟩ 1 1 [.int .u8 (X : Int)] hx rfl (cells_one W _ _) ?_ ?_ ?_ ?_ ?_
  · simp [Value.oneCell']
  · unfold maxLen; omega
  · omega
  · simp; omega
  · intro v' w' h1 h2 _
    refine h v' w' ?_ ?_
    · rw [u8s_append]; exact h1
    · refine (hb.alloc hbase _).grown h2 (by simp; omega) fun j hj => ?_
      exact (hown.lt j hj).1
/-- The same of one limb. -/
theorem wpList_app_u32 {W w0 : World} {ops : Array Oper} {rest : List Oper} {o : Oper} {a : Act} {Q : Exit → Act → World → Prop} (hgd : o.guard = none) (s x : Operand) (t : TypeId)
    (ho : o.op = .call { callee := .builtin .append, args := #[s, x], argTypes := #[t, t] }) (ht : Tryd.prog.underlying t = some (.slice 39))
    (base : Nat) (v : Value) (k : Nat) (xs : List Nat) (hs : a.eval s = v) (hown : W.ownsRow base 39 1 v k (u32s xs)) (E : Int)
    (hx : a.eval x = .slice (some ⟨W.heap.size, 0, none⟩) 1 1) (X : Nat) (hE : E = (X : Int)) (hk : k ≤ 10000000000) (hb : Below base w0 W) (hbase : base ≤ W.heap.size)
    (h : ∀ v' w', Hid (w'.ownsRow base 39 1 v' (k + 1) (u32s (xs ++ [X]))) → Hid (Below base w0 w') → wpList Tryd.prog ops Q rest (a.put o.dst v') w') :
    wpList Tryd.prog ops Q (o :: rest) a (W.alloc (.cells #[.int .u32 E] 39)) := by
  obtain ⟨i0, hi, hz0, hz1, hz2⟩ := info_parts u32_info
  subst hE
  refine wpList_append_own _ hgd s x t ho base 39 i0 (.int .u32 0) 1 4 ht hi hz0 hz1 hz2 rfl (by decide) v k _ hs (hown.alloc _) ⟨W.heap.size, 0, none⟩ 1 1 [.int .u32 (X : Int)] hx rfl (cells_one W _ _) ?_ ?_ ?_ ?_ ?_
  · simp [Value.oneCell']
  · unfold maxLen; omega
  · omega
  · simp; omega
  · intro v' w' h1 h2 _
    refine h v' w' ?_ ?_
    · rw [u32s_append]; exact h1
    · refine (hb.alloc hbase _).grown h2 (by simp; omega) fun j hj => ?_
      exact (hown.lt j hj).1
/-- The length of a text in a slot: for a loop's measure. -/
def strLen : Value → Nat | .string b => b.size | _ => 0
theorem splice_all (cur cs : List Value) (h : cs.length = cur.length) : splice cur 0 cs = cs := by
  simp [splice, h]
end Go.Proofs.YtpbkndmciopnjaaDoor
