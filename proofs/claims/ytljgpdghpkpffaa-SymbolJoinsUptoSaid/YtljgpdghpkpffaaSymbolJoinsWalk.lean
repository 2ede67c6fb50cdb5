/-
  SymbolJoins: the walk.
-/
import Derived.Test.YtljgpdghpkpffaaYG
import Derived.Test.YtljgpdghpkpffaaMV
set_option maxRecDepth 100000
namespace Go.Proofs.Ytljgpdghpkpffaa
open Go.RowKit Go.ChangeMaps
/-- In a drawn region: the symbols' box, which is read; the world's growth since. -/
def SSY (G : Nat) (W : World) (z : Int) ( d g mi pl pc pm cu e : ByteArray) (w' : World) : Prop := (w'.cell? ⟨G, 0, none⟩ = some (.int .i32 z) ∧ w'.cell? ⟨G, 1, none⟩ = some (.string d) ∧ w'.cell? ⟨G, 2, none⟩ = some (.string g) ∧ w'.cell? ⟨G, 3, none⟩ = some (.string mi) ∧ w'.cell? ⟨G, 4, none⟩ = some (.string pl) ∧ w'.cell? ⟨G, 5, none⟩ = some (.string pc) ∧ w'.cell? ⟨G, 6, none⟩ = some (.string pm) ∧ w'.cell? ⟨G, 7, none⟩ = some (.string cu) ∧ w'.cell? ⟨G, 8, none⟩ = some (.string e)) ∧ Hid (BXS w' G z d g mi pl pc pm cu e ∧ Below W.heap.size W w')
theorem BXS.all {G : Nat} {z : Int} { d g mi pl pc pm cu e : ByteArray} {w' : World} (h : BXS w' G z d g mi pl pc pm cu e) : w'.cell? ⟨G, 0, none⟩ = some (.int .i32 z) ∧ w'.cell? ⟨G, 1, none⟩ = some (.string d) ∧ w'.cell? ⟨G, 2, none⟩ = some (.string g) ∧ w'.cell? ⟨G, 3, none⟩ = some (.string mi) ∧ w'.cell? ⟨G, 4, none⟩ = some (.string pl) ∧ w'.cell? ⟨G, 5, none⟩ = some (.string pc) ∧ w'.cell? ⟨G, 6, none⟩ = some (.string pm) ∧ w'.cell? ⟨G, 7, none⟩ = some (.string cu) ∧ w'.cell? ⟨G, 8, none⟩ = some (.string e) := ⟨h.c 0, h.c 1, h.c 2, h.c 3, h.c 4, h.c 5, h.c 6, h.c 7, h.c 8⟩
theorem SSY.new {G : Nat} {W : World} {z : Int} { d g mi pl pc pm cu e : ByteArray} (h : BXS W G z d g mi pl pc pm cu e) : SSY G W z d g mi pl pc pm cu e W := ⟨h.all, Lib.hid ⟨h, Below.refl _ _⟩⟩
theorem SSY.drew {G : Nat} {W w' : World} {z : Int} { d g mi pl pc pm cu e : ByteArray} (h : SSY G W z d g mi pl pc pm cu e w') : SSY G W z d g mi pl pc pm cu e w'.drew := ⟨h.1, Lib.hid ⟨h.2.out.1, h.2.out.2.drew⟩⟩
theorem SSY.keep {G : Nat} {W w' w'' : World} {z : Int} { d g mi pl pc pm cu e : ByteArray} (h : SSY G W z d g mi pl pc pm cu e w') (hb : Below w'.heap.size w' w'') : SSY G W z d g mi pl pc pm cu e w'' :=
  have hx := h.2.out.1.below hb h.2.out.1.lt
  ⟨BXS.all hx, Lib.hid ⟨hx, h.2.out.2.trans (hb.mono h.2.out.2.size)⟩⟩
theorem wp_app {P : Program} {o : Oper} {a : Act} {W W' : World} {K : Act → World → Prop} {Q : Exit → Act → World → Prop} (s x : Operand) (t : TypeId) (ho : o.op = .call { callee := .builtin .append, args := #[s, x], argTypes := #[t, t] })
    {v y v' : Value} (hs : a.eval s = v) (hx : a.eval x = y) (hrun : (Builtin.append_ #[t, t] o.type #[v, y]).run P W = .ok v' W') (hK : K (a.put o.dst v') W') : Oper.wp P o a W K Q := by
  unfold Oper.wp
  simp [execOp, ho, resolve, invoke, builtin, hs, hx, hrun, Result.andThen]
  exact hK
/-- 'append(v, list...)' of a slice of items that came in. -/
theorem its_app {W : World} (base : Nat) (v : Value) (k : Nat) (xs : List Itm) (hown : W.ownsRow base 34 2 v k (itsV xs)) (A : Option Addr) (m c : Nat) (ys : List Itm) (hr : Its W A m ys) (hc : A = none → m = 0 ∧ c = 0) (hk : k + m ≤ 1000000) (hbase : base ≤ W.heap.size) :
    ∃ v' w', (Builtin.append_ #[27, 27] 27 #[v, .slice A m c]).run Try.prog W = .ok v' w' ∧ Hid (w'.ownsRow base 34 2 v' (k + m) (itsV (xs ++ ys))) ∧ Hid (Below base W w') := by
  obtain ⟨i0, hi, hz0, hz1, hz2⟩ := info_parts itm_info
  have hl := hr.len
  cases A with
  | none =>
    obtain ⟨rfl, rfl⟩ := hc rfl
    obtain rfl := List.eq_nil_of_length_eq_zero hl
    exact ⟨v, W, run_append_owned_none W base _ _ _ i0 2 Try.underlying27 hi v k _ hown, Lib.hid (by rw [List.append_nil]; exact hown), Lib.hid (Below.refl _ _)⟩
  | some ad =>
    obtain ⟨v', w', h1, h2, h3, _⟩ := run_append_own (P := Try.prog) (w := W) base 27 27 34 i0 _ 2 16 Try.underlying27 hi hz0 hz1 hz2 rfl (by decide) v k _ hown ad m c (itsV ys) (by rw [itsV_length, hl]) (fun j u hu => by
      have hj : j < m * 2 := by
        have := (List.getElem?_eq_some_iff.1 hu).1
        rw [itsV_length, hl] at this; omega
      obtain ⟨ad', e, _, hc'⟩ := hr.1.2 (by omega)
      obtain rfl := Option.some.inj e
      exact hc' j u hu) (fun u hu => by
      obtain ⟨t, _, ht⟩ := List.mem_flatMap.1 hu
      simp only [itmV, List.mem_cons, List.not_mem_nil, or_false] at ht
      rcases ht with rfl | rfl <;> rfl) (by unfold maxLen; omega) (by omega) hbase
    exact ⟨v', w', h1, Lib.hid (by rw [itsV_append]; exact h2), Lib.hid ((Below.refl _ _).grown h3 hbase fun j hj => (hown.lt j hj).1)⟩
theorem SSY.keepB {G : Nat} {W w' w'' : World} {z : Int} { d g mi pl pc pm cu e : ByteArray} (h : SSY G W z d g mi pl pc pm cu e w') (hG : G < W.heap.size) (hb : Below W.heap.size w' w'') : SSY G W z d g mi pl pc pm cu e w'' :=
  have hx := h.2.out.1.below hb hG
  ⟨BXS.all hx, Lib.hid ⟨hx, h.2.out.2.trans hb⟩⟩
set_option maxHeartbeats 4000000 in
theorem walk_symbolJoins (z : Int) (d g mi pl pc pm cu e : ByteArray) (A : Option Addr) (n c : Nat) (is : List Itm) (A' : Option Addr) (n' c' : Nat) (js : List Itm) (w : World) (hz : -2147483648 ≤ z ∧ z ≤ 2147483647) (hs : ∀ k, k < 8 → (tx8 d g mi pl pc pm cu e k).size ≤ 1048576) (h1 : Its w A n is) (h2 : Its w A' n' js) (hc1 : A = none → n = 0 ∧ c = 0) (hc2 : A' = none → n' = 0 ∧ c' = 0) :
    Calls Try.prog 5 #[.agg #[.int .i32 z, .string d, .string g, .string mi, .string pl, .string pc, .string pm, .string cu, .string e], .slice A n c, .slice A' n' c'] w fun e' w' => e' = .returned (.bool true) ∧ Below w.heap.size w w' := by
  have CG := Lib.hid (fun W => refGood18_c z d g mi pl pc pm cu e W hz fun k hk => Nat.le_trans (hs k hk) (by decide))
  have HT := Lib.hid (good_tx5 (z := z) (d := d) (g := g) (mi := mi) (pl := pl) (pc := pc) (pm := pm) (cu := cu) (e := e))
  have CM1 := Lib.hid (fun W hW => refMay_c A n c is W hW)
  have CM2 := Lib.hid (fun W hW => refMay_c A' n' c' js W hW)
  have HC1 := Lib.hid hc1
  have HC2 := Lib.hid hc2
  clear hc1 hc2
  have HX : Hid (BXS (w.alloc (.cells #[.int .i32 z, .string d, .string g, .string mi, .string pl, .string pc, .string pm, .string cu, .string e] 23)) w.heap.size z d g mi pl pc pm cu e) := Lib.hid (BX.new _ _ _)
  have hB : Below w.heap.size w (w.alloc (.cells #[.int .i32 z, .string d, .string g, .string mi, .string pl, .string pc, .string pm, .string cu, .string e] 23)) := (Below.refl _ _).alloc (Nat.le_refl _) _
  have HI1 := Lib.hid (h1.below hB)
  have HN1 := Lib.hid h1.2.1
  have HI2 := Lib.hid (h2.below hB)
  have HN2 := Lib.hid h2.2.1
  have HB := Lib.hid hB
  have HGW := Lib.hid hB.size
  clear hB h1 h2
  go_enter Try.func5, Try.ntmps5
  go_upto_region 1 with fail
  generalize w.alloc (.cells #[.int .i32 z, .string d, .string g, .string mi, .string pl, .string pc, .string pm, .string cu, .string e] 23) = W0 at *
  generalize hG : w.heap.size = G at *
  have HG := Lib.hid hG
  clear hG
  have d0 := HX.out.c 0
  have d1 := HX.out.c 1
  have d2 := HX.out.c 2
  have d3 := HX.out.c 3
  have d4 := HX.out.c 4
  have d5 := HX.out.c 5
  have d6 := HX.out.c 6
  have d7 := HX.out.c 7
  have d8 := HX.out.c 8
  have hn1 := HN1.out
  have hn2 := HN2.out
  have FIN : ∀ (W : World), Hid (Below G w W) → Hid (G ≤ W.heap.size) → Calls Try.prog 8 #[] W fun e' w' => e' = .returned (.bool true) ∧ Hid (Below G w w') := fun W hb hg => (answers18_c W).mono fun e' w' x => ⟨x.1, Lib.hid (hb.out.trans (x.2.out.mono hg.out))⟩
  have HFIN := Lib.hid FIN
  clear FIN
  rcases hg : goodS z (tx8 d g mi pl pc pm cu e) with _ | _
  · rw [hg] at CG
    clear hg HT
    go_wp2_with fail
    refine (CG.out _).mono ?_
    rintro e1 w1 ⟨rfl, hb1⟩
    have HB1 := Lib.hid (HB.out.trans (hb1.out.mono HGW.out))
    have HGW1 := Lib.hid (Nat.le_trans HGW.out hb1.out.size)
    clear hb1
    clear d0 d1 d2 d3 d4 d5 d6 d7 d8
    go_wp2_with (first
      | (go_at_call 8; refine (answers18_c _).mono ?_; rintro ea wa ⟨rfl, hba⟩)
      | (with_reducible go_skip)
      | fail)
    go_ret
    exact ⟨rfl, by rw [HG.out]; exact HB1.out.trans (hba.out.mono HGW1.out)⟩
  rw [hg] at CG
  have hsz := HT.out hg
  clear hg HT
  go_wp2_with fail
  refine (CG.out _).mono ?_
  rintro e1 w1 ⟨rfl, hb1⟩
  have HB1 := Lib.hid (HB.out.trans (hb1.out.mono HGW.out))
  have HGW1 := Lib.hid (Nat.le_trans HGW.out hb1.out.size)
  have HX1 := Lib.hid (HX.out.below hb1.out HX.out.lt)
  have HIa := Lib.hid (HI1.out.below hb1.out)
  have HIb := Lib.hid (HI2.out.below hb1.out)
  clear hb1 CG HX HI1 HI2 HB HGW
  clear d0 d1 d2 d3 d4 d5 d6 d7 d8
  rcases hm1 : is.all mayI with _ | _
  · rw [hm1] at CM1
    clear hm1
    go_wp2_with fail
    refine (CM1.out _ HIa.out).mono ?_
    rintro e2 w2 ⟨rfl, rfl⟩
    go_wp2_with (first
      | (go_at_call 8; refine (answers18_c _).mono ?_; rintro ea wa ⟨rfl, hba⟩)
      | (with_reducible go_skip)
      | fail)
    go_ret
    exact ⟨rfl, by rw [HG.out]; exact HB1.out.trans (hba.out.mono HGW1.out)⟩
  rcases hm2 : js.all mayI with _ | _
  · rw [hm1] at CM1
    rw [hm2] at CM2
    clear hm1 hm2
    go_wp2_with fail
    refine (CM1.out _ HIa.out).mono ?_
    rintro e2 w2 ⟨rfl, rfl⟩
    go_wp2_with fail
    refine (CM2.out _ HIb.out).mono ?_
    rintro e3 w3 ⟨rfl, rfl⟩
    go_wp2_with (first
      | (go_at_call 8; refine (answers18_c _).mono ?_; rintro ea wa ⟨rfl, hba⟩)
      | (with_reducible go_skip)
      | fail)
    go_ret
    exact ⟨rfl, by rw [HG.out]; exact HB1.out.trans (hba.out.mono HGW1.out)⟩
  by_cases h100 : 100 < n + n'
  · have g1 : decide ((100 : Int) < (n : Int) + (n' : Int)) = true := decide_eq_true (by omega)
    rw [hm1] at CM1
    rw [hm2] at CM2
    clear hm1 hm2 h100
    go_wp2_with fail
    refine (CM1.out _ HIa.out).mono ?_
    rintro e2 w2 ⟨rfl, rfl⟩
    go_wp2_with fail
    refine (CM2.out _ HIb.out).mono ?_
    rintro e3 w3 ⟨rfl, rfl⟩
    go_wp2_with (first
      | (go_at_call 8; refine (answers18_c _).mono ?_; rintro ea wa ⟨rfl, hba⟩)
      | (with_reducible go_skip)
      | fail)
    go_ret
    exact ⟨rfl, by rw [HG.out]; exact HB1.out.trans (hba.out.mono HGW1.out)⟩
  have g1 : decide ((100 : Int) < (n : Int) + (n' : Int)) = false := decide_eq_false (by omega)
  have hmm : (is ++ js).all mayI = true := by rw [List.all_append, hm1, hm2]; rfl
  have CT1 := Lib.hid (fun W hW => symText_c z d g mi pl pc pm cu e A n c is W hW (by omega) hsz)
  have CT2 := Lib.hid (fun W hW => symText_c z d g mi pl pc pm cu e A' n' c' js W hW (by omega) hsz)
  have CT3 := Lib.hid (fun (B : Option Addr) d' W hW => symText_c z d g mi pl pc pm cu e B (n + n') d' (is ++ js) W hW (by omega) hsz)
  have HZ1 := Lib.hid (txI_len (tx := tx5 mi pl pc pm cu) hsz hm1).1
  have HZ2 := Lib.hid (txI_len (tx := tx5 mi pl pc pm cu) hsz hm2).1
  rw [hm1, if_pos rfl] at CT1
  rw [hm2, if_pos rfl] at CT2
  rw [hmm, if_pos rfl, txI_append, stz_append] at CT3
  have hz1 : (stz (txI (tx5 mi pl pc pm cu) is)).size ≤ 1000000 := by
    have := HZ1.out; have := HIa.out.len; rw [stz_size]; omega
  have hz2 : (stz (txI (tx5 mi pl pc pm cu) js)).size ≤ 1000000 := by
    have := HZ2.out; have := HIb.out.len; rw [stz_size]; omega
  generalize stz (txI (tx5 mi pl pc pm cu) is) = T1 at *
  generalize stz (txI (tx5 mi pl pc pm cu) js) = T2 at *
  have gt : ((T1 ++ T2).toList == (T1 ++ T2).toList) = true := by simp
  rw [hm1] at CM1
  rw [hm2] at CM2
  have HRI := Lib.hid (show ∀ i ∈ is ++ js, RI i from fun i hi => (List.mem_append.1 hi).elim (HIa.out.2.2 i) (HIb.out.2.2 i))
  have hnn : n + n' ≤ 100 := by omega
  clear hm1 hm2 hmm h100 hsz HZ1 HZ2
  go_wp2_with fail
  refine (CM1.out _ HIa.out).mono ?_
  rintro e2 w2 ⟨rfl, rfl⟩
  go_wp2_with fail
  refine (CM2.out _ HIb.out).mono ?_
  rintro e3 w3 ⟨rfl, rfl⟩
  go_wp2
  clear g1 CM1 CM2
  have hS0 : SSY G w1 z d g mi pl pc pm cu e (World.drew w1) := SSY.drew (SSY.new HX1.out)
  have hG1 := Lib.hid HX1.out.lt
  refine wp_region_held_drew (S := fun w' => (w'.cell? ⟨G, 0, none⟩ = some (.int .i32 z) ∧ w'.cell? ⟨G, 1, none⟩ = some (.string d) ∧ w'.cell? ⟨G, 2, none⟩ = some (.string g) ∧ w'.cell? ⟨G, 3, none⟩ = some (.string mi) ∧ w'.cell? ⟨G, 4, none⟩ = some (.string pl) ∧ w'.cell? ⟨G, 5, none⟩ = some (.string pc) ∧ w'.cell? ⟨G, 6, none⟩ = some (.string pm) ∧ w'.cell? ⟨G, 7, none⟩ = some (.string cu) ∧ w'.cell? ⟨G, 8, none⟩ = some (.string e)) ∧ Hid (BXS w' G z d g mi pl pc pm cu e ∧ Below w1.heap.size w1 w')) (by kernel_rfl) (hS0) (fun hHeld => ?_)
  refine step_at 0 (by kernel_rfl) rfl rfl (fun K hK => ?_)
  go_simp
  refine (answers18_c _).mono ?_
  rintro r0 wc0 ⟨rfl, hbc0⟩
  have hS : SSY G w1 z d g mi pl pc pm cu e wc0 := SSY.keepB hHeld hG1.out (hbc0.out.mono hHeld.2.out.2.size)
  clear hHeld hbc0
  go_wp2_with fail
  refine hK.out _ _ hS (fun hHeld => ?_)
  clear hK K hS
  try simp only [Act.put, List.setIfInBounds_toArray, List.set_cons_zero, List.set_cons_succ]
  refine' take_at 1 (v := _) rfl (by kernel_rfl) (by kernel_rfl) (by kernel_rfl) (fun _ _ _ h => h) rfl ?y1 hHeld ?r1
  case y1 =>
    intro w hSw
    try dsimp only at hSw
    go_simp
    try with_reducible rfl
  try simp only [Act.put, List.setIfInBounds_toArray, List.set_cons_zero, List.set_cons_succ]
  refine' take_at 2 (v := _) rfl (by kernel_rfl) (by kernel_rfl) (by kernel_rfl) (fun _ _ _ h => h) rfl ?y2 hHeld ?r2
  case y2 =>
    intro w hSw
    try dsimp only at hSw
    go_simp
    try with_reducible rfl
  try simp only [Act.put, List.setIfInBounds_toArray, List.set_cons_zero, List.set_cons_succ]
  refine' take_at 4 (v := _) rfl (by kernel_rfl) (by kernel_rfl) (by kernel_rfl) (fun _ _ _ h => h) rfl ?y3 hHeld ?r3
  case y3 =>
    intro w hSw
    try dsimp only at hSw
    go_simp
    try with_reducible rfl
  try simp only [Act.put, List.setIfInBounds_toArray, List.set_cons_zero, List.set_cons_succ]
  refine' take_at 6 (v := _) rfl (by kernel_rfl) (by kernel_rfl) (by kernel_rfl) (fun _ _ _ h => h) rfl ?y4 hHeld ?r4
  case y4 =>
    intro w hSw
    try dsimp only at hSw
    go_simp
    try with_reducible rfl
  try simp only [Act.put, List.setIfInBounds_toArray, List.set_cons_zero, List.set_cons_succ]
  refine' take_at 9 (v := _) rfl (by kernel_rfl) (by kernel_rfl) (by kernel_rfl) (fun _ _ _ h => h) rfl ?y5 hHeld ?r5
  case y5 =>
    intro w hSw
    try dsimp only at hSw
    go_simp
    try with_reducible rfl
  try simp only [Act.put, List.setIfInBounds_toArray, List.set_cons_zero, List.set_cons_succ]
  refine' take_at 10 (v := _) rfl (by kernel_rfl) (by kernel_rfl) (by kernel_rfl) (fun _ _ _ h => h) rfl ?y6 hHeld ?r6
  case y6 =>
    intro w hSw
    try dsimp only at hSw
    go_simp
    try with_reducible rfl
  try simp only [Act.put, List.setIfInBounds_toArray, List.set_cons_zero, List.set_cons_succ]
  refine' take_at 12 (v := _) rfl (by kernel_rfl) (by kernel_rfl) (by kernel_rfl) (fun _ _ _ h => h) rfl ?y7 hHeld ?r7
  case y7 =>
    intro w hSw
    try dsimp only at hSw
    go_simp
    try with_reducible rfl
  try simp only [Act.put, List.setIfInBounds_toArray, List.set_cons_zero, List.set_cons_succ]
  refine' take_at 13 (v := _) rfl (by kernel_rfl) (by kernel_rfl) (by kernel_rfl) (fun _ _ _ h => h) rfl ?y8 hHeld ?r8
  case y8 =>
    intro w hSw
    try dsimp only at hSw
    go_simp
    try with_reducible rfl
  try simp only [Act.put, List.setIfInBounds_toArray, List.set_cons_zero, List.set_cons_succ]
  have HO0 := Lib.hid (World.ownsRow_lit (size := 2) wc0 #[] 0 (e := 34) (base := w1.heap.size) hHeld.2.out.2.size (by unfold maxLen; omega) rfl)
  have hbl := (Below.refl w1.heap.size wc0).alloc hHeld.2.out.2.size (.cells #[] 34)
  refine step_at 3 (by kernel_rfl) rfl rfl (fun K hK => ?_)
  go_simp
  have hS : SSY G w1 z d g mi pl pc pm cu e (wc0.alloc (.cells #[] 34)) := SSY.keepB hHeld hG1.out ((Below.refl w1.heap.size wc0).alloc hHeld.2.out.2.size _)
  clear hHeld
  refine hK.out _ _ hS (fun hHeld => ?_)
  clear hK K hS hbl
  try simp only [Act.put, List.setIfInBounds_toArray, List.set_cons_zero, List.set_cons_succ]
  have HJa := Lib.hid (HIa.out.below hHeld.2.out.2)
  obtain ⟨v1, W1, hr1, ho1, hbp1⟩ := its_app w1.heap.size _ 0 [] HO0.out A n c is HJa.out HC1.out (by omega) hHeld.2.out.2.size
  rw [Nat.zero_add, List.nil_append] at ho1
  clear HJa HO0
  refine step_at 5 (by kernel_rfl) rfl rfl (fun K hK => ?_)
  refine wp_app (.tmp 32) (.tmp 33) 27 rfl rfl rfl hr1 ?_
  have hS : SSY G w1 z d g mi pl pc pm cu e W1 := SSY.keepB hHeld hG1.out hbp1.out
  clear hHeld hbp1
  refine hK.out _ _ hS (fun hHeld => ?_)
  clear hK K hS hr1
  try simp only [Act.put, List.setIfInBounds_toArray, List.set_cons_zero, List.set_cons_succ]
  have HJb := Lib.hid (HIb.out.below hHeld.2.out.2)
  obtain ⟨v2, W2, hr2, ho2, hbp2⟩ := its_app w1.heap.size _ n is ho1.out A' n' c' js HJb.out HC2.out (by omega) hHeld.2.out.2.size
  obtain ⟨B2, cB2, rfl⟩ := own_form ho2.out
  clear HJb ho1
  refine step_at 7 (by kernel_rfl) rfl rfl (fun K hK => ?_)
  refine wp_app (.tmp 34) (.tmp 35) 27 rfl rfl rfl hr2 ?_
  have hS : SSY G w1 z d g mi pl pc pm cu e W2 := SSY.keepB hHeld hG1.out hbp2.out
  clear hHeld hbp2
  refine hK.out _ _ hS (fun hHeld => ?_)
  clear hK K hS hr2
  try simp only [Act.put, List.setIfInBounds_toArray, List.set_cons_zero, List.set_cons_succ]
  have HJ : Hid (Its W2 B2 (n + n') (is ++ js)) := Lib.hid (OwnI.its (base := w1.heap.size) ⟨ho2.out, by omega, HRI.out⟩)
  clear ho2
  refine step_at 8 (by kernel_rfl) rfl rfl (fun K hK => ?_)
  go_simp
  refine (CT3.out _ _ _ HJ.out).mono ?_
  rintro r1 wc1 ⟨rfl, hbc1⟩
  have hS : SSY G w1 z d g mi pl pc pm cu e wc1 := SSY.keepB hHeld hG1.out (hbc1.out.mono hHeld.2.out.2.size)
  have HI5 := Lib.hid (HIa.out.below hS.2.out.2)
  clear HJ
  clear hHeld hbc1
  go_wp2_with fail
  refine hK.out _ _ hS (fun hHeld => ?_)
  clear hK K hS
  try simp only [Act.put, List.setIfInBounds_toArray, List.set_cons_zero, List.set_cons_succ]
  refine step_at 11 (by kernel_rfl) rfl rfl (fun K hK => ?_)
  go_simp
  refine (CT1.out _ HI5.out).mono ?_
  rintro r2 wc2 ⟨rfl, hbc2⟩
  have hS : SSY G w1 z d g mi pl pc pm cu e wc2 := SSY.keepB hHeld hG1.out (hbc2.out.mono hHeld.2.out.2.size)
  have HI6 := Lib.hid (HIb.out.below hS.2.out.2)
  clear hHeld hbc2
  go_wp2_with fail
  refine hK.out _ _ hS (fun hHeld => ?_)
  clear hK K hS
  try simp only [Act.put, List.setIfInBounds_toArray, List.set_cons_zero, List.set_cons_succ]
  refine step_at 14 (by kernel_rfl) rfl rfl (fun K hK => ?_)
  go_simp
  refine (CT2.out _ HI6.out).mono ?_
  rintro r3 wc3 ⟨rfl, hbc3⟩
  have hS : SSY G w1 z d g mi pl pc pm cu e wc3 := SSY.keepB hHeld hG1.out (hbc3.out.mono hHeld.2.out.2.size)
  clear hHeld hbc3
  go_wp2_with fail
  refine hK.out _ _ hS (fun hHeld => ?_)
  clear hK K hS
  try simp only [Act.put, List.setIfInBounds_toArray, List.set_cons_zero, List.set_cons_succ]
  refine' take_at 15 (v := _) rfl (by kernel_rfl) (by kernel_rfl) (by kernel_rfl) (fun _ _ _ h => h) rfl ?y9 hHeld ?r9
  case y9 =>
    intro w hSw
    try dsimp only at hSw
    go_simp
    try with_reducible rfl
    try rw [if_neg (by omega)]
  try simp only [Act.put, List.setIfInBounds_toArray, List.set_cons_zero, List.set_cons_succ]
  refine' take_at 16 (v := _) rfl (by kernel_rfl) (by kernel_rfl) (by kernel_rfl) (fun _ _ _ h => h) rfl ?y10 hHeld ?r10
  case y10 =>
    intro w hSw
    try dsimp only at hSw
    go_simp
    try with_reducible rfl
  try simp only [Act.put, List.setIfInBounds_toArray, List.set_cons_zero, List.set_cons_succ]
  refine' take_at 17 (v := _) rfl (by kernel_rfl) (by kernel_rfl) (by kernel_rfl) (fun _ _ _ h => h) rfl ?y11 hHeld ?r11
  case y11 =>
    intro w hSw
    try dsimp only at hSw
    go_simp
    try with_reducible rfl
  try simp only [Act.put, List.setIfInBounds_toArray, List.set_cons_zero, List.set_cons_succ]
  refine' take_at 18 (v := _) rfl (by kernel_rfl) (by kernel_rfl) (by kernel_rfl) (fun _ _ _ h => h) rfl ?y12 hHeld ?r12
  case y12 =>
    intro w hSw
    try dsimp only at hSw
    go_simp
    try with_reducible rfl
  try simp only [Act.put, List.setIfInBounds_toArray, List.set_cons_zero, List.set_cons_succ]
  refine wpAnyH_done (by kernel_rfl) ?_ _
  have HBF := Lib.hid (HB1.out.trans (hHeld.2.out.2.mono HGW1.out))
  clear hHeld
  go_wp2
  go_ret
  exact ⟨rfl, by rw [HG.out]; exact HBF.out⟩
end Go.Proofs.Ytljgpdghpkpffaa
