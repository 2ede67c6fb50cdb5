/-
  PO: what a half tells.
-/
import Derived.StillTailTactics
import Derived.Test.YtbjelkejifgnfaaGreatDoorPL
import Derived.Test.YtbjelkejifgnfaaGreatDoorPJ
import Derived.Test.YtbjelkejifgnfaaGreatDoorPT
import Derived.Test.YtbjelkejifgnfaaGreatDoorPN
import Derived.Test.YtbjelkejifgnfaaGreatDoorMF
set_option maxRecDepth 100000
namespace Go.Proofs.YtbjelkejifgnfaaGreatDoor
open Go.RowKit
theorem results_cc {P : Program} {fn : Func} {p q : Tmp} {ty ty2 : TypeId} (h : fn.results = #[.cell p ty, .cell q ty2]) (tmps : Array Value) (w : World) (g : Nat) (t : TypeId) (cs : Array Value) (fr : Nat × Nat) (d : TypeDesc)
    (hp : tmps.getD p undef = .pointer (some ⟨g, 0, none⟩)) (hg : w.heap[g]? = some (.cells cs t fr))
    (hu : P.underlying ty = some d) (hd : (match d with | .struct _ | .array _ _ => true | _ => false) = true) (hi : (P.info? ty).map (·.size) = some cs.size)
    (g2 : Nat) (t2 : TypeId) (cs2 : Array Value) (fr2 : Nat × Nat) (d2 : TypeDesc)
    (hp2 : tmps.getD q undef = .pointer (some ⟨g2, 0, none⟩)) (hg2 : w.heap[g2]? = some (.cells cs2 t2 fr2))
    (hu2 : P.underlying ty2 = some d2) (hd2 : (match d2 with | .struct _ | .array _ _ => true | _ => false) = true) (hi2 : (P.info? ty2).map (·.size) = some cs2.size) :
    (results fn tmps).run P w = .ok (.tuple #[.agg cs, .agg cs2]) w := by
  have hp' : tmps[p]?.getD undef = .pointer (some ⟨g, 0, none⟩) := by simpa using hp
  have hp2' : tmps[q]?.getD undef = .pointer (some ⟨g2, 0, none⟩) := by simpa using hp2
  simp [results, h, hp', hp2', asAddr, run_loadVar_row w g t ty cs fr d hg hu hd hi, run_loadVar_row w g2 t2 ty2 cs2 fr2 d2 hg2 hu2 hd2 hi2]
theorem flt_size (x y : Value) : (Tryz.prog.info? 28).map (·.size) = some #[x, y].size := by kernel_rfl
theorem flt_cells (e p : Int) : (#[Value.int .i64 e, Value.int .i64 p].all (·.oneCell')) = true := by simp [Value.oneCell']
/-- A slice that reads as items, in the blocks from lo on, below hi. -/
structure Btw (w : World) (lo hi : Nat) (A : Option Addr) (n c : Nat) (is : List Itm) : Prop where
  cp : Cp A n c
  hi_ : hi ≤ w.heap.size
  len : (itsV is).length = n * 2
  rd : 0 < n → ∃ ad, A = some ad ∧ lo ≤ ad.block ∧ ad.block < hi ∧ ∀ j u, (itsV is)[j]? = some u → w.cell? (ad.add j) = some u
  sm : n ≤ 36000000000000
  ri : ∀ i ∈ is, RI i
theorem Btw.its {w : World} {lo hi : Nat} {A : Option Addr} {n c : Nat} {is : List Itm} (h : Btw w lo hi A n c is) : Its w A n is :=
  ⟨⟨h.len, fun h0 => by
    obtain ⟨ad, e, -, h2, h3⟩ := h.rd h0
    exact ⟨ad, e, Nat.lt_of_lt_of_le h2 h.hi_, h3⟩⟩, h.sm, h.ri⟩
theorem Btw.mono {w : World} {lo hi lo' hi' : Nat} {A : Option Addr} {n c : Nat} {is : List Itm} (h : Btw w lo hi A n c is) (h1 : lo' ≤ lo) (h2 : hi ≤ hi') (h3 : hi' ≤ w.heap.size) : Btw w lo' hi' A n c is :=
  ⟨h.cp, h3, h.len, fun h0 => by
    obtain ⟨ad, e, a, b, d⟩ := h.rd h0
    exact ⟨ad, e, Nat.le_trans h1 a, Nat.lt_of_lt_of_le b h2, d⟩, h.sm, h.ri⟩
theorem Btw.keep {w w' : World} {lo hi : Nat} {A : Option Addr} {n c : Nat} {is : List Itm} (h : Btw w lo hi A n c is) (hs : w.heap.size ≤ w'.heap.size) (hk : ∀ k, lo ≤ k → k < hi → w'.heap[k]? = w.heap[k]?) : Btw w' lo hi A n c is :=
  ⟨h.cp, Nat.le_trans h.hi_ hs, h.len, fun h0 => by
    obtain ⟨ad, e, a, b, d⟩ := h.rd h0
    refine ⟨ad, e, a, b, fun j u hu => ?_⟩
    rw [← d j u hu]
    unfold World.cell?
    rw [block_of_add, hk _ a b], h.sm, h.ri⟩
theorem Btw.below {w w' : World} {lo hi B : Nat} {A : Option Addr} {n c : Nat} {is : List Itm} (h : Btw w lo hi A n c is) (hb : Below B w w') (hB : hi ≤ B) : Btw w' lo hi A n c is :=
  h.keep hb.size fun k _ hk => hb.block k (Nat.lt_of_lt_of_le hk hB)
theorem Btw.set {w : World} {lo hi : Nat} {A : Option Addr} {n c : Nat} {is : List Itm} (h : Btw w lo hi A n c is) {f : Nat} (hf : f < lo ∨ hi ≤ f) (j : Nat) (v : Value) : Btw (w.setCell ⟨f, j, none⟩ v) lo hi A n c is :=
  h.keep (by simp) fun k h1 h2 => heap_setCell_other w ⟨f, j, none⟩ k v (by show k ≠ f; omega)
theorem Btw.row {w : World} {lo hi : Nat} {A : Option Addr} {n c : Nat} {is : List Itm} (h : Btw w lo hi A n c is) {f : Nat} (hf : f < lo ∨ hi ≤ f) (cs : Array Value) : Btw (w.setRow f cs) lo hi A n c is :=
  h.keep ((Below.refl 0 w).setRow (Nat.zero_le f) cs).size fun k h1 h2 => setRow_other w f k cs (by omega)
theorem Btw.of_own {w : World} {base : Nat} {A : Option Addr} {n c : Nat} {is : List Itm} (h : OwnI w base A n c is) : Btw w base w.heap.size A n c is := by
  have h0 := h.1.1
  refine ⟨?_, Nat.le_refl _, h0, fun hn => ?_, Nat.le_trans h.2.1 (by omega), h.2.2⟩
  · rcases h.1.2 with ⟨e, rfl⟩ | ⟨g', cap, cur, e, _, _, hc, _⟩
    · cases e; exact Cp.nil
    · cases e; exact Cp.some hc
  · rcases h.1.2 with ⟨_, rfl⟩ | ⟨g', cap, cur, e, hb, hg, _⟩
    · exact absurd hn (Nat.lt_irrefl _)
    · cases e
      exact ⟨_, rfl, hb, (Array.getElem?_eq_some_iff.1 hg).1, h.1.cells rfl⟩
/-- The walk's world: the half in its box, the results' boxes. -/
structure TX (w W : World) (g : Nat) (b : Int) (l : Bool) (x y z : Value) : Prop where
  bb : Below g w W
  hx : BX W g #[.int .i64 b, .bool l, x, y, z] 49
  rx : BX W (g + 1) patZ 25
  fx : FB W (g + 2) (.int .i64 0) (.int .i64 0)
section
variable {w W W' : World} {g : Nat} {b : Int} {l : Bool} {x y z : Value}
theorem TX.below (h : TX w W g b l x y z) (hb : Below W.heap.size W W') : TX w W' g b l x y z :=
  ⟨h.bb.trans (hb.mono (Nat.le_of_lt h.hx.lt)), h.hx.below hb h.hx.lt, h.rx.below hb h.rx.lt, h.fx.below hb h.fx.lt⟩
theorem TX.drew (h : TX w W g b l x y z) : TX w W.drew g b l x y z := ⟨h.bb.drew, h.hx, h.rx, h.fx⟩
theorem TX.new (w : World) (b : Int) (l : Bool) (x y z : Value) : TX w (((w.alloc (.cells #[.int .i64 b, .bool l, x, y, z] 49)).alloc (.cells patZ 25)).alloc (.cells #[.int .i64 0, .int .i64 0] 28)) w.heap.size b l x y z :=
  ⟨(((Below.refl _ _).alloc (Nat.le_refl _) _).alloc (by simp) _).alloc (by simp; omega) _, ((BX.new _ _ _).alloc _).alloc _, by
    have := (BX.new (w.alloc (.cells #[.int .i64 b, .bool l, x, y, z] 49)) patZ 25).alloc (.cells #[.int .i64 0, .int .i64 0] 28)
    simpa using this, by
    have := FB.new ((w.alloc (.cells #[.int .i64 b, .bool l, x, y, z] 49)).alloc (.cells patZ 25)) (.int .i64 0) (.int .i64 0)
    simpa using this⟩
/-- The results' boxes, written. -/
theorem TX.ret (h : TX w W g b l x y z) (cs : Array Value) (e p : Value) :
    BX ((W.setRow (g + 1) cs).setRow (g + 2) #[e, p]) (g + 1) cs 25 ∧ FB ((W.setRow (g + 1) cs).setRow (g + 2) #[e, p]) (g + 2) e p ∧
    Below g w ((W.setRow (g + 1) cs).setRow (g + 2) #[e, p]) ∧ Below (g + 1) W ((W.setRow (g + 1) cs).setRow (g + 2) #[e, p]) := by
  have h1 : BX (W.setRow (g + 1) cs) (g + 1) cs 25 := setRow_heap _ _ patZ _ _ _ h.rx
  have h2 : FB (W.setRow (g + 1) cs) (g + 2) (.int .i64 0) (.int .i64 0) := (setRow_other W (g + 1) (g + 2) cs (by omega)).trans h.fx
  exact ⟨(setRow_other _ (g + 2) (g + 1) _ (by omega)).trans h1, setRow_heap _ _ _ _ _ _ h2, (h.bb.setRow (by omega) cs).setRow (by omega) _, ((Below.refl (g + 1) W).setRow (by omega) cs).setRow (by omega) _⟩
theorem TX.setF (h : TX w W g b l x y z) {f : Nat} (hf : g + 2 < f) (j : Nat) (v : Value) : TX w (W.setCell ⟨f, j, none⟩ v) g b l x y z :=
  ⟨h.bb.setCell (p := ⟨f, j, none⟩) (by show g ≤ f; omega) v, (heap_setCell_other W ⟨f, j, none⟩ g v (by show g ≠ f; omega)).trans h.hx, (heap_setCell_other W ⟨f, j, none⟩ (g + 1) v (by show g + 1 ≠ f; omega)).trans h.rx, (heap_setCell_other W ⟨f, j, none⟩ (g + 2) v (by show g + 2 ≠ f; omega)).trans h.fx⟩
theorem TX.at_ (h : TX w W g b l x y z) (cs : Array Value) : FB (W.setRow (g + 1) cs) (g + 2) (.int .i64 0) (.int .i64 0) :=
  (setRow_other W (g + 1) (g + 2) cs (by omega)).trans h.fx
theorem row2_far {w : World} {g j : Nat} {cs ds : Array Value} {v : Value} {f : Nat} (h : w.cell? ⟨f, j, none⟩ = some v) (h1 : f ≠ g + 1) (h2 : f ≠ g + 2) : (w.setRow (g + 1) cs).cell? ⟨f, j, none⟩ = some v ∧ ((w.setRow (g + 1) cs).setRow (g + 2) ds).cell? ⟨f, j, none⟩ = some v :=
  ⟨(cell_setRow_other _ _ _ _ h1).trans h, (cell_setRow_other _ _ _ _ h2).trans ((cell_setRow_other _ _ _ _ h1).trans h)⟩
end
theorem patV_cells (A1 A2 : Option Addr) (n1 c1 n2 c2 : Nat) (p : NF) (a r z : Int) :
    ((patV (.slice A1 n1 c1) (.slice A2 n2 c2) (.bool false) (.slice none 0 0) (.slice none 0 0) p (.int .i64 a) (.int .i32 r) (.int .i64 z)).all (·.oneCell')) = true := by
  simp [patV, Value.oneCell']
theorem BX.other {w : World} {g : Nat} {vs : Array Value} {T : TypeId} (h : BX w g vs T) {f : Nat} (hf : g ≠ f) (j : Nat) (v : Value) : BX (w.setCell ⟨f, j, none⟩ v) g vs T :=
  (heap_setCell_other w ⟨f, j, none⟩ g v hf).trans h
theorem Btw.num {w : World} {lo hi : Nat} {A : Option Addr} {n c : Nat} {is : List Itm} (h : Btw w lo hi A n c is) : is.length = n := by
  have := h.len; rw [itsV_length] at this; omega
set_option maxHeartbeats 4000000 in
theorem tell16_c {D : Nat} (v : Value) (b : Int) (l : Bool) (es : List El) (w : World) (h : HfM w D v b l es) (hn : es.length ≤ 1000) (hM : Mw w) :
    Calls Tryz.prog 22 #[v] w fun e w' => ∃ PV, e = .returned (.tuple #[.agg PV, .agg #[.int .i64 (halfZ (!l) b es).2.1, .int .i64 (halfZ (!l) b es).2.2]]) ∧
      Hid ((halfZ (!l) b es).2.1 ≠ 0 → PV = patZ) ∧
      Hid ((halfZ (!l) b es).2.1 = 0 → ∃ A1 n1 c1 A2 n2 c2, PV = patV (.slice A1 n1 c1) (.slice A2 n2 c2) (.bool false) (.slice none 0 0) (.slice none 0 0) (halfZ (!l) b es).1.num (.int .i64 (halfZ (!l) b es).1.at_) (.int .i32 (halfZ (!l) b es).1.pad)
          (.int .i64 (((halfZ (!l) b es).1.wid : Nat) : Int)) ∧ Btw w' w.heap.size w'.heap.size A1 n1 c1 (halfZ (!l) b es).1.pre ∧ Btw w' w.heap.size w'.heap.size A2 n2 c2 (halfZ (!l) b es).1.suf) ∧ Hid (Below w.heap.size w w') := by
  have HLE : Hid (es.length ≤ 1000 ∧ (hpre es).length ≤ 1000 ∧ (hnum es).length ≤ 1000 ∧ (hsuf es).length ≤ 1000) := Lib.hid (by have := hpl es; omega)
  generalize hH : halfZ (!l) b es = H
  have HPD := Lib.hid (fun (W : World) (hb : Below w.heap.size w W) => padded_c v b l es W (h.below hb) hn)
  have HM := Lib.hid hM
  obtain ⟨A1, n1, c1, A2, n2, c2, A3, n3, c3, rfl, h1, h2, h3, l1, l2, l3⟩ := h
  have HX := Lib.hid (TX.new w b l (.slice A1 n1 c1) (.slice A2 n2 c2) (.slice A3 n3 c3))
  have e1 := h1.len
  have e2 := h2.len
  have e3 := h3.len
  have HI1 := Lib.hid (fun (W : World) (hb : Below w.heap.size w W) => items16_c A1 n1 c1 _ W (h1.below hb) (by rw [← e1]; exact HLE.out.2.1))
  have HI3 := Lib.hid (fun (W : World) (hb : Below w.heap.size w W) => items16_c A3 n3 c3 _ W (h3.below hb) (by rw [← e3]; exact HLE.out.2.2.2))
  have HTX := Lib.hid (fun (W : World) (hb : Below w.heap.size w W) => text16_c A2 n2 c2 _ W (h2.below hb) (by rw [← e2]; exact HLE.out.2.2.1) (fun e he => ⟨(hnum_low es e he).1, (hnum_low es e he).2.2.2⟩))
  have HPS := Lib.hid (fun (W : World) (hb : Below w.heap.size w W) => by
    have := parse_c (stz (chE (hnum es))) W (hM.below hb) (by rw [stz_size, chE, List.length_map]; have := HLE.out.2.2.1; omega)
    rwa [bts_stz (chE_lt es)] at this)
  have HP2 := Lib.hid h2
  clear h1 h2 h3 hn hM
  cases hnn : hnum es with
  | nil =>
    have hHe : H = ({}, 4, b) := by rw [← hH]; unfold halfZ; rw [hnn]
    rw [hnn] at e2
    obtain rfl : n2 = 0 := e2.symm
    have HHe := Lib.hid hHe
    clear hHe hH e2 hnn HPD HI1 HI3 HTX HPS HP2 HLE e1 e3
    go_enter Tryz.func22, Tryz.ntmps22
    go_upto_region 1 with fail
    change Code.wp _ _ _ _ (((w.alloc (.cells #[.int .i64 b, .bool l, .slice A1 n1 c1, .slice A2 0 c2, .slice A3 n3 c3] 49)).alloc (.cells patZ 25)).alloc (.cells #[.int .i64 0, .int .i64 0] 28))
    generalize ((w.alloc (.cells #[.int .i64 b, .bool l, .slice A1 n1 c1, .slice A2 0 c2, .slice A3 n3 c3] 49)).alloc (.cells patZ 25)).alloc (.cells #[.int .i64 0, .int .i64 0] 28) = W0 at *
    generalize hg : w.heap.size = g at *
    have HGe := Lib.hid hg
    clear hg
    have x0 : W0.cell? ⟨g, 0, none⟩ = some (.int .i64 b) := HX.out.hx.c 0
    have x3 : W0.cell? ⟨g, 3, none⟩ = some (.slice A2 0 c2) := HX.out.hx.c 3
    go_upto_region 2 with fail
    have HXd := Lib.hid HX.out.drew
    have HR := Lib.hid (HXd.out.ret patZ (.int .i64 4) (.int .i64 b))
    refine wp_region_held_drew (S := (fun W9 : World => W9.cell? ⟨g, 0, none⟩ = some (.int .i64 b))) (by kernel_rfl) (by first | assumption | exact ⟨by assumption, by assumption⟩) (fun hHeld => ?_)
    refine' take_at 0 (v := _) rfl (by kernel_rfl) (by kernel_rfl) (by kernel_rfl) (fun _ _ _ h => h) rfl ?y1 hHeld ?r1
    case y1 =>
      intro w hSw
      try dsimp only at hSw
      go_simp
      try with_reducible rfl
    try simp only [Act.put, List.setIfInBounds_toArray, List.set_cons_zero, List.set_cons_succ]
    refine' take_at 1 (v := _) rfl (by kernel_rfl) (by kernel_rfl) (by kernel_rfl) (fun _ _ _ h => h) rfl ?y2 hHeld ?r2
    case y2 =>
      intro w hSw
      try dsimp only at hSw
      go_simp
      try with_reducible rfl
    try simp only [Act.put, List.setIfInBounds_toArray, List.set_cons_zero, List.set_cons_succ]
    refine' take_at 2 (v := _) rfl (by kernel_rfl) (by kernel_rfl) (by kernel_rfl) (fun _ _ _ h => h) rfl ?y3 hHeld ?r3
    case y3 =>
      intro w hSw
      try dsimp only at hSw
      go_simp
      try with_reducible rfl
    try simp only [Act.put, List.setIfInBounds_toArray, List.set_cons_zero, List.set_cons_succ]
    refine' take_at 3 (v := _) rfl (by kernel_rfl) (by kernel_rfl) (by kernel_rfl) (fun _ _ _ h => h) rfl ?y4 hHeld ?r4
    case y4 =>
      intro w hSw
      try dsimp only at hSw
      go_simp
      try with_reducible rfl
    try simp only [Act.put, List.setIfInBounds_toArray, List.set_cons_zero, List.set_cons_succ]
    refine step_at 4 (by kernel_rfl) rfl rfl (fun K hK => ?_)
    refine wp_store_row 25 _ _ rfl (g + 1) patZ rfl rfl 25 patZ HXd.out.rx (pat_size _ _ _ _ _ {} _ _ _) rfl (pat_cells {}) ?_
    refine hK.out _ _ ((row2_far (g := g) (f := g) (ds := #[]) hHeld (by omega) (by omega)).1) (fun hHeld => ?_)
    clear hK K
    try simp only [Act.put]
    refine step_at 5 (by kernel_rfl) rfl rfl (fun K hK => ?_)
    refine wp_store_row 28 _ _ rfl (g + 2) #[.int .i64 4, .int .i64 b] rfl rfl 28 _ (HXd.out.at_ patZ) (flt_size _ _) rfl (flt_cells _ _) ?_
    refine hK.out _ _ ((cell_setRow_other _ _ _ _ (by show g ≠ g + 2; omega)).trans hHeld) (fun hHeld => ?_)
    clear hK K
    try simp only [Act.put]
    refine wpAnyH_done (by kernel_rfl) ?_ _
    clear hHeld
    go_wp2
    exact bodyPost_ret (v := .tuple #[.agg patZ, .agg #[.int .i64 4, .int .i64 b]]) (results_cc Tryz.results22 _ _ (g + 1) _ _ (0, 0) _ rfl HR.out.1 Tryz.underlying25 rfl (pat_size _ _ _ _ _ {} _ _ _) (g + 2) _ _ (0, 0) _ rfl HR.out.2.1 Tryz.underlying28 rfl (flt_size _ _)) rfl ⟨patZ, by rw [HHe.out], Lib.hid (fun _ => rfl), Lib.hid (fun h => absurd h (by rw [HHe.out]; dsimp only; exact (by decide))), Lib.hid (HGe.out ▸ HR.out.2.2.1)⟩
  | cons e0 es0 =>
    have hHe : H = (if (padZ (!l) es).2.1 ≠ 0 then ({}, (padZ (!l) es).2) else
      if (itms (tksE (hpre es))).2.1 ≠ 0 then ({}, (itms (tksE (hpre es))).2) else
      if (((numZ (chE (hnum es))).2 : Nat) : Int) ≠ 0 then ({}, ((numZ (chE (hnum es))).2 : Int), e0.1.2.2) else
      if (itms (tksE (hsuf es))).2.1 ≠ 0 then ({}, (itms (tksE (hsuf es))).2) else
      (⟨(itms (tksE (hpre es))).1, (itms (tksE (hsuf es))).1, (numZ (chE (hnum es))).1, (padZ (!l) es).1.1, (padZ (!l) es).1.2, n2⟩, 0, 0)) := by
      have hcast : ∀ k : Nat, (((k : Nat) : Int) ≠ 0) = (k ≠ 0) := fun k => by simp
      rw [← hH]; unfold halfZ; rw [hnn, ← e2, hnn]; simp only [hcast]
    have hE0 := hnum_low es e0 (by rw [hnn]; simp)
    have hil : (itms (tksE (hpre es))).1.length ≤ 40 ∧ (itms (tksE (hsuf es))).1.length ≤ 40 := ⟨itms_len _, itms_len _⟩
    clear hH
    rw [hnn] at HP2
    generalize padZ (!l) es = PZ at *
    generalize itms (tksE (hpre es)) = X1 at *
    generalize itms (tksE (hsuf es)) = X3 at *
    generalize (((numZ (chE (hnum es))).2 : Nat) : Int) = ne at *
    generalize (numZ (chE (hnum es))).1 = nf at *
    generalize stz (chE (hnum es)) = tx at *
    obtain ⟨⟨pa, pr⟩, pe, pp⟩ := PZ
    obtain ⟨i1, ie1, ip1⟩ := X1
    obtain ⟨i3, ie3, ip3⟩ := X3
    dsimp only at *
    have HHe := Lib.hid hHe
    obtain ⟨ad, rfl, hn0⟩ := pls_none HP2.out
    obtain ⟨⟨er, eq, ea⟩, epd⟩ := e0
    obtain rfl : epd = false := hE0.1
    have HIL := Lib.hid hil
    have hn2 := HLE.out.2.2.1
    have hn2' : n2 ≤ 1000 := by rw [← e2]; exact hn2
    clear hE0 hil hn2
    clear hHe e1 e2 e3 hnn
    have gn0 : ((n2 : Int) == 0) = false := by rw [beq_eq_false_iff_ne]; omega
    go_enter Tryz.func22, Tryz.ntmps22
    go_upto_region 1 with fail
    change Code.wp _ _ _ _ (((w.alloc (.cells #[.int .i64 b, .bool l, .slice A1 n1 c1, .slice (some ad) n2 c2, .slice A3 n3 c3] 49)).alloc (.cells patZ 25)).alloc (.cells #[.int .i64 0, .int .i64 0] 28))
    generalize ((w.alloc (.cells #[.int .i64 b, .bool l, .slice A1 n1 c1, .slice (some ad) n2 c2, .slice A3 n3 c3] 49)).alloc (.cells patZ 25)).alloc (.cells #[.int .i64 0, .int .i64 0] 28) = W0 at *
    generalize hg : w.heap.size = g at *
    have HGe := Lib.hid hg
    clear hg
    have x0 : W0.cell? ⟨g, 0, none⟩ = some (.int .i64 b) := HX.out.hx.c 0
    have x1 : W0.cell? ⟨g, 1, none⟩ = some (.bool l) := HX.out.hx.c 1
    have x2 : W0.cell? ⟨g, 2, none⟩ = some (.slice A1 n1 c1) := HX.out.hx.c 2
    have x3 : W0.cell? ⟨g, 3, none⟩ = some (.slice (some ad) n2 c2) := HX.out.hx.c 3
    have x4 : W0.cell? ⟨g, 4, none⟩ = some (.slice A3 n3 c3) := HX.out.hx.c 4
    go_upto_region 4 with (first
      | (go_at_call 41; refine (HPD.out _ HX.out.bb).mono ?_; rintro e w1 ⟨rfl, hb1⟩)
      | fail)
    have HX1 := Lib.hid ((HX.out.below hb1.out).below (below_new w1 (.cells #[.int .i64 pe, .int .i64 pp] 28)))
    have HFb := Lib.hid (FB.new w1 (.int .i64 pe) (.int .i64 pp))
    have hfg : g + 2 < w1.heap.size := (HX.out.below hb1.out).fx.lt
    have hfs : w1.heap.size < (w1.alloc (.cells #[.int .i64 pe, .int .i64 pp] 28)).heap.size := by simp
    generalize w1.alloc (.cells #[.int .i64 pe, .int .i64 pp] 28) = W4 at *
    generalize w1.heap.size = f at *
    clear x0 x1 x2 x3 x4 hb1 HX
    have y0 : W4.cell? ⟨f, 0, none⟩ = some (.int .i64 pe) := HFb.out.c0
    have y1 : W4.cell? ⟨f, 1, none⟩ = some (.int .i64 pp) := HFb.out.c1
    by_cases he1 : pe ≠ 0
    · rw [if_pos he1] at HHe
      have gp : (pe != 0) = true := by simpa using he1
      have HE1 := Lib.hid he1
      clear he1
      go_upto_region 5 with fail
      have HXd := Lib.hid HX1.out.drew
      have HR := Lib.hid (HXd.out.ret patZ (.int .i64 pe) (.int .i64 pp))
      refine wp_region_held_drew (S := (fun W9 : World => W9.cell? ⟨f, 0, none⟩ = some (.int .i64 pe) ∧ W9.cell? ⟨f, 1, none⟩ = some (.int .i64 pp))) (by kernel_rfl) (by first | assumption | exact ⟨by assumption, by assumption⟩) (fun hHeld => ?_)
      refine' take_at 0 (v := _) rfl (by kernel_rfl) (by kernel_rfl) (by kernel_rfl) (fun _ _ _ h => h) rfl ?y5 hHeld ?r5
      case y5 =>
        intro w hSw
        try dsimp only at hSw
        go_simp
        try with_reducible rfl
      try simp only [Act.put, List.setIfInBounds_toArray, List.set_cons_zero, List.set_cons_succ]
      refine' take_at 1 (v := _) rfl (by kernel_rfl) (by kernel_rfl) (by kernel_rfl) (fun _ _ _ h => h) rfl ?y6 hHeld ?r6
      case y6 =>
        intro w hSw
        try dsimp only at hSw
        go_simp
        try with_reducible rfl
      try simp only [Act.put, List.setIfInBounds_toArray, List.set_cons_zero, List.set_cons_succ]
      refine step_at 2 (by kernel_rfl) rfl rfl (fun K hK => ?_)
      refine wp_store_row 25 _ _ rfl (g + 1) patZ rfl rfl 25 patZ HXd.out.rx (pat_size _ _ _ _ _ {} _ _ _) rfl (pat_cells {}) ?_
      refine hK.out _ _ (⟨(row2_far (g := g) (f := f) (ds := #[]) hHeld.1 (by omega) (by omega)).1, (row2_far (g := g) (f := f) (ds := #[]) hHeld.2 (by omega) (by omega)).1⟩) (fun hHeld => ?_)
      clear hK K
      try simp only [Act.put]
      refine step_at 3 (by kernel_rfl) rfl rfl (fun K hK => ?_)
      refine wp_store_row 28 _ _ rfl (g + 2) #[.int .i64 pe, .int .i64 pp] rfl rfl 28 _ (HXd.out.at_ patZ) (flt_size _ _) rfl (flt_cells _ _) ?_
      refine hK.out _ _ (⟨(cell_setRow_other _ _ _ _ (by show f ≠ g + 2; omega)).trans hHeld.1, (cell_setRow_other _ _ _ _ (by show f ≠ g + 2; omega)).trans hHeld.2⟩) (fun hHeld => ?_)
      clear hK K
      try simp only [Act.put]
      refine wpAnyH_done (by kernel_rfl) ?_ _
      clear hHeld
      go_wp2
      exact bodyPost_ret (v := .tuple #[.agg patZ, .agg #[.int .i64 pe, .int .i64 pp]]) (results_cc Tryz.results22 _ _ (g + 1) _ _ (0, 0) _ rfl HR.out.1 Tryz.underlying25 rfl (pat_size _ _ _ _ _ {} _ _ _) (g + 2) _ _ (0, 0) _ rfl HR.out.2.1 Tryz.underlying28 rfl (flt_size _ _)) rfl ⟨patZ, by rw [HHe.out], Lib.hid (fun _ => rfl), Lib.hid (fun h => absurd h (by rw [HHe.out]; dsimp only; exact HE1.out)), Lib.hid (HGe.out ▸ HR.out.2.2.1)⟩
    · rw [if_neg he1] at HHe
      have hpe0 : pe = 0 := by simpa using he1
      subst hpe0
      clear he1
      have x2 : W4.cell? ⟨g, 2, none⟩ = some (.slice A1 n1 c1) := HX1.out.hx.c 2
      go_upto_region 7 with (first
        | (go_at_call 42; refine (HI1.out _ (HGe.out ▸ HX1.out.bb)).mono ?_; rintro e w5 ⟨A5, n5, c5, rfl, ho5, hb5⟩; have HFq := Lib.hid (HFb.out.below hb5.out hfs); have a0 := HFq.out.c0; have a1 := HFq.out.c1; have q0 := HFq.out.fr 0; have q1 := HFq.out.fr 1)
        | fail)
      have HX7 := Lib.hid (((HX1.out.below hb5.out).setF hfg 0 (.int .i64 ie1)).setF hfg 1 (.int .i64 ip1))
      have HF7 := Lib.hid (HFq.out.set (.int .i64 ie1) (.int .i64 ip1))
      have HPre := Lib.hid (((Btw.of_own ho5.out).set (.inl hfs) 0 (.int .i64 ie1)).set (.inl hfs) 1 (.int .i64 ip1))
      have hs7 : ((w5.setCell ⟨f, 0, none⟩ (.int .i64 ie1)).setCell ⟨f, 1, none⟩ (.int .i64 ip1)).heap.size = w5.heap.size := by simp
      have hs45 : W4.heap.size ≤ w5.heap.size := hb5.out.size
      generalize (w5.setCell ⟨f, 0, none⟩ (.int .i64 ie1)).setCell ⟨f, 1, none⟩ (.int .i64 ip1) = W7 at *
      generalize W4.heap.size = s4 at *
      generalize w5.heap.size = s5 at *
      clear x2 y0 y1 a0 a1 q0 q1 HFq ho5 hb5 HX1 HFb
      have y0 : W7.cell? ⟨f, 0, none⟩ = some (.int .i64 ie1) := HF7.out.c0
      have y1 : W7.cell? ⟨f, 1, none⟩ = some (.int .i64 ip1) := HF7.out.c1
      by_cases he2 : ie1 ≠ 0
      · rw [if_pos he2] at HHe
        have gp : (ie1 != 0) = true := by simpa using he2
        have HE2 := Lib.hid he2
        clear he2
        go_upto_region 8 with fail
        have HXd := Lib.hid HX7.out.drew
        have HR := Lib.hid (HXd.out.ret patZ (.int .i64 ie1) (.int .i64 ip1))
        refine wp_region_held_drew (S := (fun W9 : World => W9.cell? ⟨f, 0, none⟩ = some (.int .i64 ie1) ∧ W9.cell? ⟨f, 1, none⟩ = some (.int .i64 ip1))) (by kernel_rfl) (by first | assumption | exact ⟨by assumption, by assumption⟩) (fun hHeld => ?_)
        refine' take_at 0 (v := _) rfl (by kernel_rfl) (by kernel_rfl) (by kernel_rfl) (fun _ _ _ h => h) rfl ?y7 hHeld ?r7
        case y7 =>
          intro w hSw
          try dsimp only at hSw
          go_simp
          try with_reducible rfl
        try simp only [Act.put, List.setIfInBounds_toArray, List.set_cons_zero, List.set_cons_succ]
        refine' take_at 1 (v := _) rfl (by kernel_rfl) (by kernel_rfl) (by kernel_rfl) (fun _ _ _ h => h) rfl ?y8 hHeld ?r8
        case y8 =>
          intro w hSw
          try dsimp only at hSw
          go_simp
          try with_reducible rfl
        try simp only [Act.put, List.setIfInBounds_toArray, List.set_cons_zero, List.set_cons_succ]
        refine step_at 2 (by kernel_rfl) rfl rfl (fun K hK => ?_)
        refine wp_store_row 25 _ _ rfl (g + 1) patZ rfl rfl 25 patZ HXd.out.rx (pat_size _ _ _ _ _ {} _ _ _) rfl (pat_cells {}) ?_
        refine hK.out _ _ (⟨(row2_far (g := g) (f := f) (ds := #[]) hHeld.1 (by omega) (by omega)).1, (row2_far (g := g) (f := f) (ds := #[]) hHeld.2 (by omega) (by omega)).1⟩) (fun hHeld => ?_)
        clear hK K
        try simp only [Act.put]
        refine step_at 3 (by kernel_rfl) rfl rfl (fun K hK => ?_)
        refine wp_store_row 28 _ _ rfl (g + 2) #[.int .i64 ie1, .int .i64 ip1] rfl rfl 28 _ (HXd.out.at_ patZ) (flt_size _ _) rfl (flt_cells _ _) ?_
        refine hK.out _ _ (⟨(cell_setRow_other _ _ _ _ (by show f ≠ g + 2; omega)).trans hHeld.1, (cell_setRow_other _ _ _ _ (by show f ≠ g + 2; omega)).trans hHeld.2⟩) (fun hHeld => ?_)
        clear hK K
        try simp only [Act.put]
        refine wpAnyH_done (by kernel_rfl) ?_ _
        clear hHeld
        go_wp2
        exact bodyPost_ret (v := .tuple #[.agg patZ, .agg #[.int .i64 ie1, .int .i64 ip1]]) (results_cc Tryz.results22 _ _ (g + 1) _ _ (0, 0) _ rfl HR.out.1 Tryz.underlying25 rfl (pat_size _ _ _ _ _ {} _ _ _) (g + 2) _ _ (0, 0) _ rfl HR.out.2.1 Tryz.underlying28 rfl (flt_size _ _)) rfl ⟨patZ, by rw [HHe.out], Lib.hid (fun _ => rfl), Lib.hid (fun h => absurd h (by rw [HHe.out]; dsimp only; exact HE2.out)), Lib.hid (HGe.out ▸ HR.out.2.2.1)⟩
      · rw [if_neg he2] at HHe
        have hie0 : ie1 = 0 := by simpa using he2
        subst hie0
        clear he2
        have x3 : W7.cell? ⟨g, 3, none⟩ = some (.slice (some ad) n2 c2) := HX7.out.hx.c 3
        have hgW7 : g ≤ W7.heap.size := Nat.le_of_lt HX7.out.hx.lt
        go_upto_region 10 with (first
          | (go_at_call 44; refine (HTX.out _ (HGe.out ▸ HX7.out.bb)).mono ?_; rintro e w8 ⟨rfl, hb8⟩)
          | (go_at_call 43; refine (HPS.out _ (HGe.out ▸ HX7.out.bb.trans (hb8.out.mono hgW7))).mono ?_; rintro e w9 ⟨rfl, hb9⟩)
          | (refine wpList_store_row rfl 25 _ _ rfl w9.heap.size (patN nf) rfl rfl 25 patZ (BX.new w9 patZ _) (pat_size ..) rfl (pat_cells _) ?_)
          | fail)
        change Code.wp _ _ _ _ ((w9.alloc (.cells patZ 25)).setRow w9.heap.size (patN nf))
        have hb79 := hb8.out.trans (hb9.mono hb8.out.size)
        have HB10 := Lib.hid (st_below (vs := patN nf) hb79 hb79.size)
        have hoW : W7.heap.size ≤ w9.heap.size := hb79.size
        have HO10 := Lib.hid (st_new (w1 := w9) (vs := patN nf))
        have hos : w9.heap.size < ((w9.alloc (.cells patZ 25)).setRow w9.heap.size (patN nf)).heap.size := HO10.out.lt
        generalize (w9.alloc (.cells patZ 25)).setRow w9.heap.size (patN nf) = W10 at *
        generalize w9.heap.size = o at *
        have HX10 := Lib.hid (HX7.out.below HB10.out)
        have HF10 := Lib.hid (HF7.out.below HB10.out HF7.out.lt)
        have HPre10 := Lib.hid (HPre.out.below HB10.out (Nat.le_of_eq hs7.symm))
        clear hb8 hb9 hb79 x3 y0 y1 HX7 HPre
        by_cases he3 : ne ≠ 0
        · rw [if_pos he3] at HHe
          have gp : (ne != 0) = true := by simpa using he3
          have HE3 := Lib.hid he3
          clear he3
          have x3 : W10.cell? ⟨g, 3, none⟩ = some (.slice (some ad) n2 c2) := HX10.out.hx.c 3
          obtain ⟨ad', ead, hbk, k0, -⟩ := (HP2.out.below (HGe.out ▸ HX10.out.bb)).at_ hn0
          obtain rfl := Option.some.inj ead
          change W10.cell? ad = some (.iface 110 (.agg #[.int .i32 er, .bool eq, .int .i64 ea])) at k0
          go_wp2_with (first
            | (go_at_call 168; refine (splace_c _ _ _ _).mono ?_; rintro e w12 ⟨rfl, hb12⟩; have HX12 := Lib.hid (HX10.out.below hb12); have hrx := HX12.out.rx; have hfx := HX12.out.at_ patZ; have HR := Lib.hid (HX12.out.ret patZ (.int .i64 ne) (.int .i64 ea)))
            | (refine wpList_store_row rfl 25 _ _ rfl (g + 1) patZ rfl rfl 25 patZ hrx (pat_size _ _ _ _ _ {} _ _ _) rfl (pat_cells {}) ?_)
            | (refine wpList_store_row rfl 28 _ _ rfl (g + 2) #[.int .i64 ne, .int .i64 ea] rfl rfl 28 _ hfx (flt_size _ _) rfl (flt_cells _ _) ?_)
            | fail)
          exact bodyPost_ret (v := .tuple #[.agg patZ, .agg #[.int .i64 ne, .int .i64 ea]]) (results_cc Tryz.results22 _ _ (g + 1) _ _ (0, 0) _ rfl HR.out.1 Tryz.underlying25 rfl (pat_size _ _ _ _ _ {} _ _ _) (g + 2) _ _ (0, 0) _ rfl HR.out.2.1 Tryz.underlying28 rfl (flt_size _ _)) rfl ⟨patZ, by rw [HHe.out], Lib.hid (fun _ => rfl), Lib.hid (fun h => absurd h (by rw [HHe.out]; dsimp only; exact HE3.out)), Lib.hid (HGe.out ▸ HR.out.2.2.1)⟩
        · rw [if_neg he3] at HHe
          have hne0 : ne = 0 := by simpa using he3
          subst hne0
          clear he3
          have x4 : W10.cell? ⟨g, 4, none⟩ = some (.slice A3 n3 c3) := HX10.out.hx.c 4
          go_upto_region 13 with (first
            | (go_at_call 42; refine (HI3.out _ (HGe.out ▸ HX10.out.bb)).mono ?_; rintro e w11 ⟨A6, n6, c6, rfl, ho6, hb6⟩; have HFr := Lib.hid (HF10.out.below hb6.out HF10.out.lt); have a0 := HFr.out.c0; have a1 := HFr.out.c1; have q0 := HFr.out.fr 0; have q1 := HFr.out.fr 1)
            | fail)
          have hf10 : f < W10.heap.size := HF10.out.lt
          have hfo : o ≠ f := by omega
          have HX13 := Lib.hid (((HX10.out.below hb6.out).setF hfg 0 (.int .i64 ie3)).setF hfg 1 (.int .i64 ip3))
          have HF13 := Lib.hid (HFr.out.set (.int .i64 ie3) (.int .i64 ip3))
          have HSuf := Lib.hid (((Btw.of_own ho6.out).set (.inl hf10) 0 (.int .i64 ie3)).set (.inl hf10) 1 (.int .i64 ip3))
          have HPre13 := Lib.hid (((HPre10.out.below hb6.out HPre10.out.hi_).set (.inl hfs) 0 (.int .i64 ie3)).set (.inl hfs) 1 (.int .i64 ip3))
          have HO13 := Lib.hid (((HO10.out.below hb6.out hos).other hfo 0 (.int .i64 ie3)).other hfo 1 (.int .i64 ip3))
          have hs13 : ((w11.setCell ⟨f, 0, none⟩ (.int .i64 ie3)).setCell ⟨f, 1, none⟩ (.int .i64 ip3)).heap.size = w11.heap.size := by simp
          have hs1011 : W10.heap.size ≤ w11.heap.size := hb6.out.size
          generalize (w11.setCell ⟨f, 0, none⟩ (.int .i64 ie3)).setCell ⟨f, 1, none⟩ (.int .i64 ip3) = W13 at *
          generalize w11.heap.size = s11 at *
          generalize W10.heap.size = s10 at *
          clear x4 a0 a1 q0 q1 HFr ho6 hb6 HX10 HF10 HPre10 HO10
          have y0 : W13.cell? ⟨f, 0, none⟩ = some (.int .i64 ie3) := HF13.out.c0
          have y1 : W13.cell? ⟨f, 1, none⟩ = some (.int .i64 ip3) := HF13.out.c1
          by_cases he4 : ie3 ≠ 0
          · rw [if_pos he4] at HHe
            have gp : (ie3 != 0) = true := by simpa using he4
            have HE4 := Lib.hid he4
            clear he4
            go_upto_region 14 with fail
            have HXd := Lib.hid HX13.out.drew
            have HR := Lib.hid (HXd.out.ret patZ (.int .i64 ie3) (.int .i64 ip3))
            refine wp_region_held_drew (S := (fun W9 : World => W9.cell? ⟨f, 0, none⟩ = some (.int .i64 ie3) ∧ W9.cell? ⟨f, 1, none⟩ = some (.int .i64 ip3))) (by kernel_rfl) (by first | assumption | exact ⟨by assumption, by assumption⟩) (fun hHeld => ?_)
            refine' take_at 0 (v := _) rfl (by kernel_rfl) (by kernel_rfl) (by kernel_rfl) (fun _ _ _ h => h) rfl ?y9 hHeld ?r9
            case y9 =>
              intro w hSw
              try dsimp only at hSw
              go_simp
              try with_reducible rfl
            try simp only [Act.put, List.setIfInBounds_toArray, List.set_cons_zero, List.set_cons_succ]
            refine' take_at 1 (v := _) rfl (by kernel_rfl) (by kernel_rfl) (by kernel_rfl) (fun _ _ _ h => h) rfl ?y10 hHeld ?r10
            case y10 =>
              intro w hSw
              try dsimp only at hSw
              go_simp
              try with_reducible rfl
            try simp only [Act.put, List.setIfInBounds_toArray, List.set_cons_zero, List.set_cons_succ]
            refine step_at 2 (by kernel_rfl) rfl rfl (fun K hK => ?_)
            refine wp_store_row 25 _ _ rfl (g + 1) patZ rfl rfl 25 patZ HXd.out.rx (pat_size _ _ _ _ _ {} _ _ _) rfl (pat_cells {}) ?_
            refine hK.out _ _ (⟨(row2_far (g := g) (f := f) (ds := #[]) hHeld.1 (by omega) (by omega)).1, (row2_far (g := g) (f := f) (ds := #[]) hHeld.2 (by omega) (by omega)).1⟩) (fun hHeld => ?_)
            clear hK K
            try simp only [Act.put]
            refine step_at 3 (by kernel_rfl) rfl rfl (fun K hK => ?_)
            refine wp_store_row 28 _ _ rfl (g + 2) #[.int .i64 ie3, .int .i64 ip3] rfl rfl 28 _ (HXd.out.at_ patZ) (flt_size _ _) rfl (flt_cells _ _) ?_
            refine hK.out _ _ (⟨(cell_setRow_other _ _ _ _ (by show f ≠ g + 2; omega)).trans hHeld.1, (cell_setRow_other _ _ _ _ (by show f ≠ g + 2; omega)).trans hHeld.2⟩) (fun hHeld => ?_)
            clear hK K
            try simp only [Act.put]
            refine wpAnyH_done (by kernel_rfl) ?_ _
            clear hHeld
            go_wp2
            exact bodyPost_ret (v := .tuple #[.agg patZ, .agg #[.int .i64 ie3, .int .i64 ip3]]) (results_cc Tryz.results22 _ _ (g + 1) _ _ (0, 0) _ rfl HR.out.1 Tryz.underlying25 rfl (pat_size _ _ _ _ _ {} _ _ _) (g + 2) _ _ (0, 0) _ rfl HR.out.2.1 Tryz.underlying28 rfl (flt_size _ _)) rfl ⟨patZ, by rw [HHe.out], Lib.hid (fun _ => rfl), Lib.hid (fun h => absurd h (by rw [HHe.out]; dsimp only; exact HE4.out)), Lib.hid (HGe.out ▸ HR.out.2.2.1)⟩
          · rw [if_neg he4] at HHe
            have hie0 : ie3 = 0 := by simpa using he4
            subst hie0
            clear he4
            have z0 := HO13.out.c 0
            have z1 := HO13.out.c 1
            have z17 := HO13.out.c 17
            have z18 := HO13.out.c 18
            have r0 := HO13.out.fr 0
            have r1 := HO13.out.fr 1
            have r17 := HO13.out.fr 17
            have r18 := HO13.out.fr 18
            go_upto_region 16 with fail
            have hog : g + 2 < o := by omega
            have HX16 := Lib.hid ((((HX13.out.setF hog 0 (.slice A5 n5 c5)).setF hog 1 (.slice A6 n6 c6)).setF hog 17 (.int .i64 pa)).setF hog 18 (.int .i32 pr))
            have HPre16 := Lib.hid ((((HPre13.out.set (.inr (show s5 ≤ o by omega)) 0 (.slice A5 n5 c5)).set (.inr (show s5 ≤ o by omega)) 1 (.slice A6 n6 c6)).set (.inr (show s5 ≤ o by omega)) 17 (.int .i64 pa)).set (.inr (show s5 ≤ o by omega)) 18 (.int .i32 pr))
            have HSuf16 := Lib.hid ((((HSuf.out.set (.inl hos) 0 (.slice A5 n5 c5)).set (.inl hos) 1 (.slice A6 n6 c6)).set (.inl hos) 17 (.int .i64 pa)).set (.inl hos) 18 (.int .i32 pr))
            have HO16 : Hid (BX ((((W13.setCell ⟨o, 0, none⟩ (.slice A5 n5 c5)).setCell ⟨o, 1, none⟩ (.slice A6 n6 c6)).setCell ⟨o, 17, none⟩ (.int .i64 pa)).setCell ⟨o, 18, none⟩ (.int .i32 pr)) o (patV (.slice A5 n5 c5) (.slice A6 n6 c6) (.bool false) (.slice none 0 0) (.slice none 0 0) nf (.int .i64 pa) (.int .i32 pr) (.int .i64 0)) 25) :=
              Lib.hid (heap_setCell_same _ o 18 _ _ _ (heap_setCell_same _ o 17 _ _ _ (heap_setCell_same _ o 1 _ _ _ (heap_setCell_same W13 o 0 _ _ _ HO13.out))))
            generalize (((W13.setCell ⟨o, 0, none⟩ (.slice A5 n5 c5)).setCell ⟨o, 1, none⟩ (.slice A6 n6 c6)).setCell ⟨o, 17, none⟩ (.int .i64 pa)).setCell ⟨o, 18, none⟩ (.int .i32 pr) = W16 at *
            clear z0 z1 z17 z18 r0 r1 r17 r18 y0 y1 HX13 HF13 HSuf HPre13 HO13
            by_cases hpa : pa = 0
            · subst hpa
              have hbo := HO16.out
              have hrx := HX16.out.rx
              have hsz := pat_size (.slice A5 n5 c5) (.slice A6 n6 c6) (.bool false) (.slice none 0 0) (.slice none 0 0) nf (.int .i64 0) (.int .i32 pr) (.int .i64 0)
              have hce : ((patV (.slice A5 n5 c5) (.slice A6 n6 c6) (.bool false) (.slice none 0 0) (.slice none 0 0) nf (.int .i64 0) (.int .i32 pr) (.int .i64 0)).all (·.oneCell')) = true := patV_cells _ _ _ _ _ _ _ _ _ _
              have h20 : patZ.size = (patV (.slice A5 n5 c5) (.slice A6 n6 c6) (.bool false) (.slice none 0 0) (.slice none 0 0) nf (.int .i64 0) (.int .i32 pr) (.int .i64 0)).size := rfl
              have HPV : Hid (patV (.slice A5 n5 c5) (.slice A6 n6 c6) (.bool false) (.slice none 0 0) (.slice none 0 0) nf (.int .i64 0) (.int .i32 pr) (.int .i64 0) = patV (.slice A5 n5 c5) (.slice A6 n6 c6) (.bool false) (.slice none 0 0) (.slice none 0 0) nf (.int .i64 0) (.int .i32 pr) (.int .i64 0)) := Lib.hid rfl
              have HW : Hid ((0 : Nat) = Hf.wid ⟨i1, i3, nf, 0, pr, n2⟩) := Lib.hid rfl
              generalize hPV : patV (.slice A5 n5 c5) (.slice A6 n6 c6) (.bool false) (.slice none 0 0) (.slice none 0 0) nf (.int .i64 0) (.int .i32 pr) (.int .i64 0) = PV at hbo hsz hce h20
              clear HPV
              have HPV := Lib.hid hPV
              clear hPV
              have hfx := HX16.out.at_ PV
              have HR := Lib.hid (HX16.out.ret PV (.int .i64 0) (.int .i64 0))
              go_wp2_with (first
                | (refine wpList_load_row rfl 25 _ rfl o rfl 25 PV (0, 0) _ hbo Tryz.underlying25 rfl hsz ?_)
                | (refine wpList_store_row rfl 25 _ _ rfl (g + 1) PV rfl rfl 25 patZ hrx hsz h20 hce ?_)
                | (refine wpList_store_row rfl 28 _ _ rfl (g + 2) #[.int .i64 0, .int .i64 0] rfl rfl 28 _ hfx (flt_size _ _) rfl (flt_cells _ _) ?_)
                | fail)
              have hsW : ((W16.setRow (g + 1) PV).setRow (g + 2) #[.int .i64 0, .int .i64 0]).heap.size = W16.heap.size := by simp
              refine bodyPost_ret (v := .tuple #[.agg PV, .agg #[.int .i64 0, .int .i64 0]]) (results_cc Tryz.results22 _ _ (g + 1) _ _ (0, 0) _ rfl HR.out.1 Tryz.underlying25 rfl hsz (g + 2) _ _ (0, 0) _ rfl HR.out.2.1 Tryz.underlying28 rfl (flt_size _ _)) rfl ⟨PV, by rw [HHe.out], Lib.hid (fun h => absurd (by rw [HHe.out]) h), Lib.hid (fun _ => ?_), Lib.hid (HGe.out ▸ HR.out.2.2.1)⟩
              rw [HHe.out, HGe.out]
              refine ⟨A5, n5, c5, A6, n6, c6, ?_, ((HPre16.out.row (.inl (by omega)) PV).row (.inl (by omega)) _).mono (by omega) (by rw [hsW]; exact HPre16.out.hi_) (Nat.le_refl _), ((HSuf16.out.row (.inl (by omega)) PV).row (.inl (by omega)) _).mono (by omega) (by rw [hsW]; exact HSuf16.out.hi_) (Nat.le_refl _)⟩
              rw [← HPV.out]
              dsimp only
              rw [← HW.out]; rfl
            · have gpa : (pa != 0) = true := by simpa using hpa
              have z19 := HO16.out.c 19
              have r19 := HO16.out.fr 19
              have x3 : W16.cell? ⟨g, 3, none⟩ = some (.slice (some ad) n2 c2) := HX16.out.hx.c 3
              have hq5 : n5 ≤ 40 := by rw [← HPre16.out.num]; exact HIL.out.1
              have hq6 : n6 ≤ 40 := by rw [← HSuf16.out.num]; exact HIL.out.2
              have gw : ∀ z : Int, -9223372036854775808 ≤ z → z ≤ 9223372036854775807 → IntKind.i64.wrap z = z := fun z _ _ => by rw [IntKind.wrap_i64]; omega
              have gw1 := gw ((n5 : Int) + (n2 : Int)) (by omega) (by omega)
              have gw2 := gw ((n5 : Int) + (n2 : Int) + (n6 : Int)) (by omega) (by omega)
              clear gw
              go_upto_region 18 with fail
              have HO18 : Hid (BX (W16.setCell ⟨o, 19, none⟩ (.int .i64 ((n5 : Int) + (n2 : Int) + (n6 : Int)))) o (patV (.slice A5 n5 c5) (.slice A6 n6 c6) (.bool false) (.slice none 0 0) (.slice none 0 0) nf (.int .i64 pa) (.int .i32 pr) (.int .i64 ((n5 : Int) + (n2 : Int) + (n6 : Int)))) 25) := Lib.hid (heap_setCell_same W16 o 19 _ _ _ HO16.out)
              have HX18 := Lib.hid (HX16.out.setF hog 19 (.int .i64 ((n5 : Int) + (n2 : Int) + (n6 : Int))))
              have HPre18 := Lib.hid (HPre16.out.set (.inr (show s5 ≤ o by omega)) 19 (.int .i64 ((n5 : Int) + (n2 : Int) + (n6 : Int))))
              have HSuf18 := Lib.hid (HSuf16.out.set (.inl hos) 19 (.int .i64 ((n5 : Int) + (n2 : Int) + (n6 : Int))))
              generalize W16.setCell ⟨o, 19, none⟩ (.int .i64 ((n5 : Int) + (n2 : Int) + (n6 : Int))) = W18 at *
              clear z19 r19 x3 HX16 HPre16 HSuf16 HO16
              have HX16 := HX18
              have HPre16 := HPre18
              have HSuf16 := HSuf18
              have HO16 := HO18
              clear HX18 HPre18 HSuf18 HO18
              have hbo := HO16.out
              have hrx := HX16.out.rx
              have hwid : (n5 : Int) + (n2 : Int) + (n6 : Int) = ((Hf.wid ⟨i1, i3, nf, pa, pr, n2⟩ : Nat) : Int) := by
                unfold Hf.wid
                rw [if_pos hpa, HPre16.out.num, HSuf16.out.num]
                dsimp only
                omega
              rw [hwid] at hbo
              have HW : Hid (Hf.wid ⟨i1, i3, nf, pa, pr, n2⟩ = Hf.wid ⟨i1, i3, nf, pa, pr, n2⟩) := Lib.hid rfl
              have HWI := Lib.hid hwid
              clear hwid
              generalize hwg : Hf.wid ⟨i1, i3, nf, pa, pr, n2⟩ = wd at *
              have HWG := Lib.hid hwg
              clear hwg
              have hsz := pat_size (.slice A5 n5 c5) (.slice A6 n6 c6) (.bool false) (.slice none 0 0) (.slice none 0 0) nf (.int .i64 pa) (.int .i32 pr) (.int .i64 (wd : Int))
              have hce : ((patV (.slice A5 n5 c5) (.slice A6 n6 c6) (.bool false) (.slice none 0 0) (.slice none 0 0) nf (.int .i64 pa) (.int .i32 pr) (.int .i64 (wd : Int))).all (·.oneCell')) = true := patV_cells _ _ _ _ _ _ _ _ _ _
              have h20 : patZ.size = (patV (.slice A5 n5 c5) (.slice A6 n6 c6) (.bool false) (.slice none 0 0) (.slice none 0 0) nf (.int .i64 pa) (.int .i32 pr) (.int .i64 (wd : Int))).size := rfl
              have HPV : Hid (patV (.slice A5 n5 c5) (.slice A6 n6 c6) (.bool false) (.slice none 0 0) (.slice none 0 0) nf (.int .i64 pa) (.int .i32 pr) (.int .i64 (wd : Int)) = patV (.slice A5 n5 c5) (.slice A6 n6 c6) (.bool false) (.slice none 0 0) (.slice none 0 0) nf (.int .i64 pa) (.int .i32 pr) (.int .i64 (wd : Int))) := Lib.hid rfl
              generalize hPV : patV (.slice A5 n5 c5) (.slice A6 n6 c6) (.bool false) (.slice none 0 0) (.slice none 0 0) nf (.int .i64 pa) (.int .i32 pr) (.int .i64 (wd : Int)) = PV at hbo hsz hce h20
              clear HPV
              have HPV := Lib.hid hPV
              clear hPV
              have hfx := HX16.out.at_ PV
              have HR := Lib.hid (HX16.out.ret PV (.int .i64 0) (.int .i64 0))
              go_wp2_with (first
                | (refine wpList_load_row rfl 25 _ rfl o rfl 25 PV (0, 0) _ hbo Tryz.underlying25 rfl hsz ?_)
                | (refine wpList_store_row rfl 25 _ _ rfl (g + 1) PV rfl rfl 25 patZ hrx hsz h20 hce ?_)
                | (refine wpList_store_row rfl 28 _ _ rfl (g + 2) #[.int .i64 0, .int .i64 0] rfl rfl 28 _ hfx (flt_size _ _) rfl (flt_cells _ _) ?_)
                | fail)
              have hsW : ((W18.setRow (g + 1) PV).setRow (g + 2) #[.int .i64 0, .int .i64 0]).heap.size = W18.heap.size := by simp
              refine bodyPost_ret (v := .tuple #[.agg PV, .agg #[.int .i64 0, .int .i64 0]]) (results_cc Tryz.results22 _ _ (g + 1) _ _ (0, 0) _ rfl HR.out.1 Tryz.underlying25 rfl hsz (g + 2) _ _ (0, 0) _ rfl HR.out.2.1 Tryz.underlying28 rfl (flt_size _ _)) rfl ⟨PV, by rw [HHe.out], Lib.hid (fun h => absurd (by rw [HHe.out]) h), Lib.hid (fun _ => ?_), Lib.hid (HGe.out ▸ HR.out.2.2.1)⟩
              rw [HHe.out, HGe.out]
              refine ⟨A5, n5, c5, A6, n6, c6, ?_, ((HPre16.out.row (.inl (by omega)) PV).row (.inl (by omega)) _).mono (by omega) (by rw [hsW]; exact HPre16.out.hi_) (Nat.le_refl _), ((HSuf16.out.row (.inl (by omega)) PV).row (.inl (by omega)) _).mono (by omega) (by rw [hsW]; exact HSuf16.out.hi_) (Nat.le_refl _)⟩
              rw [← HPV.out]
              dsimp only
              rw [HWG.out]
end Go.Proofs.YtbjelkejifgnfaaGreatDoor
