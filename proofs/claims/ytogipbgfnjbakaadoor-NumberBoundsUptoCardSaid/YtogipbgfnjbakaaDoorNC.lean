/-
  NC: number parts of patterns, plain: what is printed is parsed into the same.
-/
import Derived.Test.YtogipbgfnjbakaaDoorNB
set_option maxRecDepth 100000
namespace Go.Proofs.YtogipbgfnjbakaaDoor
theorem tw_split {c : Nat} {a b : List Nat} (h : ∀ x ∈ a, x ≠ c) : upA c (a ++ c :: b) = a ∧ dnA c (a ++ c :: b) = b := by
  have h' : ∀ x ∈ a, (x != c) = true := fun x hx => by simpa using h x hx
  constructor
  · rw [upA, List.takeWhile_append_of_pos h', List.takeWhile_cons_of_neg (by simp), List.append_nil]
  · rw [dnA, List.dropWhile_append_of_pos h', List.dropWhile_cons_of_neg (by simp)]; rfl
theorem tw_all {c : Nat} {a : List Nat} (h : ∀ x ∈ a, x ≠ c) : upA c a = a ∧ dnA c a = [] ∧ a.any (· == c) = false := by
  have h' : ∀ x ∈ a, (x != c) = true := fun x hx => by simpa using h x hx
  refine ⟨?_, ?_, any_false fun x hx => by simpa using h x hx⟩
  · have := List.takeWhile_append_of_pos (l₂ := []) h'
    simpa [upA] using this
  · rw [dnA, dw_nil h']; rfl
theorem expZ_exp {p : NF} (h1 : 1 ≤ p.minExp) (h9 : p.minExp ≤ 9) : expZ (expN p) = (0, p.minExp, p.plus) := by
  have ht : expT (expN p) = List.replicate p.minExp 48 ∧ decide ((expN p).head? = some 43) = p.plus := by
    unfold expT expN
    obtain ⟨k, hk⟩ : ∃ k, p.minExp = k + 1 := ⟨p.minExp - 1, by omega⟩
    rw [hk]
    cases p.plus
    · simp [List.replicate_succ]
    · simp
  rw [expZ, ht.1, ht.2]
  have ha : (List.replicate p.minExp 48).all z48 = true := by rw [List.all_replicate]; simp [z48]
  have he : (List.replicate p.minExp 48).isEmpty = false := by
    rw [Bool.eq_false_iff, ne_eq, List.isEmpty_iff]
    intro e
    have := congrArg List.length e
    rw [List.length_replicate] at this
    simp at this; omega
  rw [ha, he, if_neg (by decide), List.length_replicate, if_neg (by omega)]
theorem dgs_len {p : NF} (h : p.inc.length ≤ p.minInt + p.minFrac) : (dgs p).length = p.minInt + p.minFrac := by
  rw [dgs, List.length_append, List.length_replicate]; omega
theorem dgs_dg {p : NF} (h : p.inc.all dg = true) : ∀ c ∈ dgs p, dg c = true := by
  intro c hc
  rcases List.mem_append.1 hc with hc | hc
  · rw [(List.mem_replicate.1 hc).2]; rfl
  · exact List.all_eq_true.1 h c hc
theorem OkN.incs {p : NF} (h : OkN p) : p.inc.length ≤ p.minInt + p.minFrac ∧ p.inc.all dg = true := by
  rcases h.kind with ⟨_, _, _, _, _, h5⟩ | ⟨_, _, _, h4⟩
  · rw [h5]; exact ⟨Nat.zero_le _, rfl⟩
  · rcases h4 with h4 | ⟨h4, h5, _⟩
    · rw [h4]; exact ⟨Nat.zero_le _, rfl⟩
    · exact ⟨h4, h5⟩
theorem dg_okW {c : Nat} (h : dg c = true) : okW c = true := by simp [okW, h]
theorem whl_ok {p : NF} (h : OkN p) (m : Nat) : ∀ c ∈ whl p m, okW c = true := by
  have hd := dgs_dg h.incs.2
  intro c hc
  unfold whl baseN at hc
  simp only [List.mem_append] at hc
  rcases hc with hc | hc | hc | hc | hc
  · split at hc
    · cases hc
    · rw [(List.mem_replicate.1 hc).2]; rfl
  · rw [(List.mem_replicate.1 hc).2]; rfl
  · exact dg_okW (hd c (List.mem_of_mem_take hc))
  · rw [(List.mem_replicate.1 hc).2]; rfl
  · rw [(List.mem_replicate.1 hc).2]; rfl
theorem frc_ok {p : NF} (h : OkN p) : ∀ c ∈ frcN p, dg c = true ∨ h35 c = true := by
  have hd := dgs_dg h.incs.2
  intro c hc
  rcases List.mem_append.1 hc with hc | hc
  · exact .inl (hd c (List.mem_of_mem_drop hc))
  · rw [(List.mem_replicate.1 hc).2]; exact .inr rfl
theorem frc_len {p : NF} (h : OkN p) : (frcN p).length = p.maxFrac := by
  rw [frcN, List.length_append, List.length_drop, dgs_len h.incs.1, List.length_replicate]
  rcases h.kind with ⟨_, _, _, h3, h4, _⟩ | ⟨_, h2, _, _⟩ <;> omega
theorem cmZ_mem (P S : Nat) {l : List Nat} : ∀ c ∈ cmZ P S l, c = 44 ∨ c ∈ l := by
  induction l with
  | nil => intro c hc; cases hc
  | cons x t ih =>
    intro c hc
    rw [cmZ] at hc
    rcases List.mem_append.1 hc with hc | hc
    · split at hc
      · exact .inl (List.mem_singleton.1 hc)
      · cases hc
    · rcases List.mem_cons.1 hc with rfl | hc
      · exact .inr (List.mem_cons_self ..)
      · rcases ih c hc with h | h
        · exact .inl h
        · exact .inr (List.mem_cons_of_mem _ h)
theorem cmW_mem (P S : Nat) {l : List Nat} : ∀ c ∈ cmW P S l, c = 44 ∨ c ∈ l := by
  cases l with
  | nil => intro c hc; cases hc
  | cons x t =>
    intro c hc
    rcases List.mem_cons.1 hc with rfl | hc
    · exact .inr (List.mem_cons_self ..)
    · rcases cmZ_mem P S c hc with h | h
      · exact .inl h
      · exact .inr (List.mem_cons_of_mem _ h)
theorem base_len {p : NF} (h : OkN p) : (baseN p).length = p.minInt + p.maxSig := by
  rw [baseN, List.length_append, List.length_append, List.length_replicate, List.length_replicate, List.length_take, dgs_len h.incs.1]
  rcases h.kind with ⟨⟨_, h2⟩, _⟩ | ⟨⟨h1, h2⟩, _⟩ <;> omega
theorem whl_len {p : NF} (h : OkN p) (m : Nat) : (whl p m).length = (if p.sci then 0 else m) + max (leastN p) (p.minInt + p.maxSig) := by
  rw [whl, List.length_append, List.length_append, List.length_replicate, base_len h]
  cases p.sci
  · simp only [Bool.false_eq_true, if_false, List.length_replicate]; omega
  · simp only [if_true, List.length_nil]; omega
theorem whl_grp {p : NF} (h : OkN p) (m : Nat) (hp : 0 < p.prim) : p.prim + 1 + (if p.sec ≠ p.prim then p.sec else 0) ≤ (whl p m).length := by
  have hs : p.sci = false := by
    rcases h.grp with ⟨h1, _⟩ | ⟨_, _, h3⟩
    · omega
    · exact h3
  have hl : leastN p = p.prim + 1 + (if p.sec ≠ p.prim then p.sec else 0) := by
    rw [leastN, hs, Bool.false_and, if_neg (by decide), if_pos hp]
  rw [whl_len h, hl]; omega
theorem whl_pos {p : NF} (h : OkN p) (m : Nat) (hf : p.maxFrac = 0) : 0 < (whl p m).length := by
  rw [whl_len h]
  rcases h.kind with ⟨⟨h1, h2⟩, _⟩ | ⟨⟨h1, h2⟩, _, h4, _⟩
  · omega
  · rcases h4 with ⟨h5, h6, h7⟩ | ⟨h5, _⟩
    · have hl : leastN p = p.maxInt := by rw [leastN, h5, h1]; rfl
      omega
    · have hl : 0 < leastN p := by
        rw [leastN, h5, Bool.false_and, if_neg (by decide)]
        split
        · omega
        · decide
      omega
/-- The whole part as it is: #, then digits, or @ and #. -/
theorem whl_form (p : NF) (m : Nat) : ∃ a, whl p m = List.replicate a 35 ++ baseN p ∧ (p.sci = true → a = leastN p - (baseN p).length) := by
  rw [whl]
  cases p.sci
  · refine ⟨m + (leastN p - (baseN p).length), ?_, fun e => by cases e⟩
    rw [if_neg (by decide), ← List.append_assoc, List.replicate_append_replicate]
  · exact ⟨_, rfl, fun _ => rfl⟩
theorem dw_app {A : Nat → Bool} {a b : List Nat} (h : ∀ x ∈ a, A x = true) : (a ++ b).dropWhile A = b.dropWhile A := List.dropWhile_append_of_pos h
theorem dw_head {A : Nat → Bool} {l : List Nat} (h : ∀ c, l.head? = some c → A c = false) : l.dropWhile A = l := by
  cases l with
  | nil => rfl
  | cons x t => rw [List.dropWhile_cons_of_neg]; rw [h x rfl]; decide
theorem rep_all {A : Nat → Bool} {c : Nat} (n : Nat) (h : A c = true) : ∀ x ∈ List.replicate n c, A x = true := fun x hx => by rw [(List.mem_replicate.1 hx).2]; exact h
theorem count_all {A : Nat → Bool} {l : List Nat} (h : ∀ x ∈ l, A x = true) : l.countP A = l.length := List.countP_eq_length.2 h
theorem count_none {A : Nat → Bool} {l : List Nat} (h : ∀ x ∈ l, A x = false) : l.countP A = 0 := List.countP_eq_zero.2 fun x hx => by rw [h x hx]; decide
theorem dg_h35 {c : Nat} (h : dg c = true) : h35 c = false ∧ a64 c = false := by
  simp only [dg, Bool.and_eq_true, decide_eq_true_iff] at h
  constructor
  · simp only [h35, beq_eq_false_iff_ne]; omega
  · simp only [a64, beq_eq_false_iff_ne]; omega
theorem numP_sig {p : NF} (h : OkN p) (hk : (1 ≤ p.minSig ∧ p.minSig ≤ p.maxSig) ∧ p.minInt = 0 ∧ p.maxInt = 0 ∧ p.minFrac = 0 ∧ p.maxFrac = 0 ∧ p.inc = []) (m : Nat) {sz : List Nat} (h1 : primZ sz = p.prim) (h2 : secZ sz = p.sec)
    (h3 : 1 < sz.length ↔ 0 < p.prim) : numP (whl p m) [] false sz p.sci p.minExp p.plus = (p, 0) := by
  obtain ⟨⟨k1, k2⟩, k3, k4, k5, k6, k7⟩ := hk
  obtain ⟨a, ha, hsa⟩ := whl_form p m
  have hb : baseN p = List.replicate p.minSig 64 ++ List.replicate (p.maxSig - p.minSig) 35 := by rw [baseN, k3, List.take_zero, List.nil_append]
  obtain ⟨s, hs⟩ : ∃ s, p.minSig = s + 1 := ⟨p.minSig - 1, by omega⟩
  have hhd : ∀ c, (baseN p).head? = some c → c = 64 := by
    intro c hc
    rw [hb, hs, List.replicate_succ, List.cons_append, List.head?_cons] at hc
    cases hc; rfl
  have hdw : (whl p m).dropWhile h35 = baseN p := by
    rw [ha, dw_app (rep_all a rfl)]
    exact dw_head fun c hc => by rw [hhd c hc]; rfl
  have hany : ((whl p m) ++ []).any a64 = true := by
    rw [List.append_nil, ha, hb]
    refine List.any_eq_true.2 ⟨64, ?_, rfl⟩
    simp only [List.mem_append]
    exact .inr (.inl (List.mem_replicate.2 ⟨by omega, rfl⟩))
  have hdg : (whl p m).any dg = false := by
    rw [ha, hb]
    refine any_false fun c hc => ?_
    simp only [List.mem_append] at hc
    rcases hc with hc | hc | hc <;> rw [(List.mem_replicate.1 hc).2] <;> rfl
  have hr : rowsZ h35 a64 h35 (whl p m) = true := by
    rw [rowsZ, hdw, hb, dw_app (rep_all _ rfl)]
    rw [dw_head (l := List.replicate (p.maxSig - p.minSig) 35) (A := a64) (fun c hc => by
      have := List.mem_of_mem_head? (Option.mem_def.2 hc)
      rw [(List.mem_replicate.1 this).2]; rfl)]
    rw [dw_nil (rep_all _ rfl)]; rfl
  have hcnt : (whl p m).countP a64 = p.minSig := by
    rw [ha, hb, List.countP_append, List.countP_append, count_none (fun x hx => by rw [(List.mem_replicate.1 hx).2]; rfl), count_all (rep_all _ rfl), count_none (fun x hx => by rw [(List.mem_replicate.1 hx).2]; rfl), List.length_replicate]; omega
  have hlen : ((whl p m).dropWhile h35).length = p.maxSig := by
    rw [hdw, hb, List.length_append, List.length_replicate, List.length_replicate]; omega
  have hmix : (p.sci && (decide (1 < sz.length) || decide ((whl p m).head? = some 35))) = false := by
    cases hsc : p.sci
    · rfl
    · have hpr : p.prim = 0 := by
        rcases h.grp with ⟨g, _⟩ | ⟨_, _, g⟩
        · exact g
        · rw [hsc] at g; cases g
      have hl1 : leastN p = 1 := by
        rw [leastN, hsc, hs, hpr, k6]; rfl
      have ha0 : a = 0 := by
        rw [hsa hsc, hl1, base_len h]; omega
      have hh : ¬ (whl p m).head? = some 35 := by
        intro e
        rw [ha, ha0] at e
        have := hhd 35 e
        omega
      rw [decide_eq_false (by rw [h3]; omega), decide_eq_false hh]; rfl
  rw [numP, if_pos hany, hdg, Bool.or_self, if_neg (by decide), hr, if_neg (by decide), hmix]
  have hq : sigN (whl p m) sz p.sci p.minExp p.plus = p := by
    rw [sigN, hcnt, hlen, h1, h2]
    cases p
    simp_all
  rw [hq, finN, if_neg (by decide), h.big, if_neg (by decide)]
theorem numP_dig {p : NF} (h : OkN p) (k1 : p.minSig = 0 ∧ p.maxSig = 0) (k2 : p.minFrac ≤ p.maxFrac) (k3 : (p.sci = true ∧ p.minInt ≤ p.maxInt ∧ 0 < p.maxInt + p.maxFrac) ∨ (p.sci = false ∧ p.maxInt = 0))
    (k4 : p.inc = [] ∨ (p.inc.length ≤ p.minInt + p.minFrac ∧ p.inc.all dg = true ∧ p.inc.head? ≠ some 48 ∧ p.minFrac = p.maxFrac ∧ p.sci = false)) (m : Nat) (pt : Bool) {sz : List Nat} (h1 : primZ sz = p.prim) (h2 : secZ sz = p.sec)
    (h3 : 1 < sz.length ↔ 0 < p.prim) : numP (whl p m) (frcN p) pt sz p.sci p.minExp p.plus = (p, 0) := by
  obtain ⟨a, ha, hsa⟩ := whl_form p m
  have hinc := h.incs
  have hd := dgs_dg hinc.2
  have hb : baseN p = (dgs p).take p.minInt := by rw [baseN, k1.1, k1.2]; simp
  have hdt : ∀ c ∈ (dgs p).take p.minInt, dg c = true := fun c hc => hd c (List.mem_of_mem_take hc)
  have hdd : ∀ c ∈ (dgs p).drop p.minInt, dg c = true := fun c hc => hd c (List.mem_of_mem_drop hc)
  have hany : (whl p m ++ frcN p).any a64 = false := by
    refine any_false fun c hc => ?_
    rw [ha, hb, frcN] at hc
    simp only [List.mem_append] at hc
    rcases hc with (hc | hc) | hc | hc
    · rw [(List.mem_replicate.1 hc).2]; rfl
    · exact (dg_h35 (hdt c hc)).2
    · exact (dg_h35 (hdd c hc)).2
    · rw [(List.mem_replicate.1 hc).2]; rfl
  have hhead : ∀ c, ((dgs p).take p.minInt).head? = some c → h35 c = false := fun c hc => (dg_h35 (hdt c (List.mem_of_mem_head? (Option.mem_def.2 hc)))).1
  have hr1 : rowsZ h35 dg dg (whl p m) = true := by
    rw [rowsZ, ha, hb, dw_app (rep_all a rfl), dw_head hhead, dw_nil hdt]; rfl
  have hr2 : rowsZ dg h35 h35 (frcN p) = true := by
    rw [rowsZ, frcN, dw_app hdd, dw_head (l := List.replicate (p.maxFrac - p.minFrac) 35) (A := dg) (fun c hc => by
      have := List.mem_of_mem_head? (Option.mem_def.2 hc)
      rw [(List.mem_replicate.1 this).2]; rfl), dw_nil (rep_all _ rfl)]; rfl
  have hinc2 : incZ (whl p m ++ frcN p) = p.inc := by
    have hf : ∀ n, (List.replicate n 35).filter (fun c => !h35 c) = [] := fun n => List.filter_eq_nil_iff.2 fun x hx => by rw [(List.mem_replicate.1 hx).2]; decide
    have hg : ∀ l : List Nat, (∀ c ∈ l, dg c = true) → l.filter (fun c => !h35 c) = l := fun l hl => List.filter_eq_self.2 fun x hx => by rw [(dg_h35 (hl x hx)).1]; rfl
    rw [incZ, ha, hb, frcN, List.filter_append, List.filter_append, List.filter_append, hf, hf, hg _ hdt, hg _ hdd, List.nil_append, List.append_nil, List.take_append_drop, dgs, dw_app (rep_all _ rfl)]
    refine dw_head fun c hc => ?_
    rcases k4 with k4 | ⟨_, _, k5, _⟩
    · rw [k4] at hc; cases hc
    · rw [hc] at k5
      simp only [z48, beq_eq_false_iff_ne]
      exact fun e => k5 (by rw [e])
  have hc1 : (whl p m).countP dg = p.minInt := by
    rw [ha, hb, List.countP_append, count_none (fun x hx => by rw [(List.mem_replicate.1 hx).2]; rfl), count_all hdt, List.length_take, dgs_len hinc.1]; omega
  have hc2 : (frcN p).countP dg = p.minFrac := by
    rw [frcN, List.countP_append, count_all hdd, count_none (fun x hx => by rw [(List.mem_replicate.1 hx).2]; rfl), List.length_drop, dgs_len hinc.1]; omega
  have hml : (if p.sci = true then (whl p m).length else 0) = p.maxInt := by
    rcases k3 with ⟨s, s2, _⟩ | ⟨s, s2⟩
    · rw [s, if_pos rfl, whl_len h, s, if_pos rfl, k1.2]
      have hl : leastN p = p.maxInt := by rw [leastN, s, k1.1]; rfl
      rw [hl]; omega
    · rw [s, if_neg (by decide), s2]
  have hmix : (!(incZ (whl p m ++ frcN p)).isEmpty && (decide ((frcN p).countP dg < (frcN p).length) || p.sci)) = false := by
    rw [hinc2, hc2, frc_len h]
    rcases k4 with k4 | ⟨_, _, _, k5, k6⟩
    · rw [k4]; rfl
    · rw [k6, decide_eq_false (by omega)]; simp
  have hmix2 : (p.sci && decide (1 < sz.length)) = false := by
    cases hsc : p.sci
    · rfl
    · have hpr : p.prim = 0 := by
        rcases h.grp with ⟨g, _⟩ | ⟨_, _, g⟩
        · exact g
        · rw [hsc] at g; cases g
      rw [decide_eq_false (by rw [h3]; omega)]; rfl
  have hq : digN (whl p m) (frcN p) sz p.sci p.minExp p.plus = p := by
    rw [digN, hc1, hc2, h1, h2, hinc2, hml, frc_len h]
    obtain ⟨e1, e2⟩ := k1
    cases p
    simp_all
  rw [numP, hany, if_neg (by decide), hr1, hr2, if_neg (by decide), hmix, if_neg (by decide), hmix2, hq, finN, if_neg (by decide), h.big, if_neg (by decide)]
theorem dg_ne {c : Nat} (h : dg c = true ∨ h35 c = true) : c ≠ 44 ∧ c ≠ 46 ∧ c ≠ 69 := by
  rcases h with h | h
  · exact okW_ne (by simp [okW, h])
  · exact okW_ne (by simp [okW, h])
/-- From the whole part on. -/
theorem numB_back {p : NF} (h : OkN p) (m : Nat) : numB (cmW p.prim p.sec (whl p m) ++ (if 0 < p.maxFrac then 46 :: frcN p else [])) p.sci p.minExp p.plus = (p, 0) := by
  have hW := whl_ok h m
  have hF := frc_ok h
  have hFl := frc_len h
  have hC : ∀ c ∈ cmW p.prim p.sec (whl p m), okB c = true ∧ c ≠ 46 := by
    intro c hc
    rcases cmW_mem _ _ c hc with rfl | hc
    · exact ⟨rfl, by decide⟩
    · exact ⟨okW_okB (hW c hc), (okW_ne (hW c hc)).2.1⟩
  have hFB : ∀ c ∈ frcN p, okB c = true := by
    intro c hc
    rcases hF c hc with h | h <;> simp [okB, h]
  have hall : (cmW p.prim p.sec (whl p m) ++ (if 0 < p.maxFrac then 46 :: frcN p else [])).all okB = true := by
    refine List.all_eq_true.2 fun c hc => ?_
    rcases List.mem_append.1 hc with hc | hc
    · exact (hC c hc).1
    · split at hc
      · rcases List.mem_cons.1 hc with rfl | hc
        · rfl
        · exact hFB c hc
      · cases hc
  have hcut : upA 46 (cmW p.prim p.sec (whl p m) ++ (if 0 < p.maxFrac then 46 :: frcN p else [])) = cmW p.prim p.sec (whl p m) ∧ dnA 46 (cmW p.prim p.sec (whl p m) ++ (if 0 < p.maxFrac then 46 :: frcN p else [])) = frcN p ∧
      (cmW p.prim p.sec (whl p m) ++ (if 0 < p.maxFrac then 46 :: frcN p else [])).any (· == 46) = decide (0 < p.maxFrac) := by
    by_cases hf : 0 < p.maxFrac
    · rw [if_pos hf, decide_eq_true hf]
      obtain ⟨c1, c2⟩ := tw_split (b := frcN p) fun x hx => (hC x hx).2
      exact ⟨c1, c2, List.any_eq_true.2 ⟨46, by simp, rfl⟩⟩
    · rw [if_neg hf, decide_eq_false hf, List.append_nil]
      obtain ⟨c1, c2, c3⟩ := tw_all fun x hx => (hC x hx).2
      refine ⟨c1, ?_, c3⟩
      rw [c2]
      exact (List.eq_nil_of_length_eq_zero (by omega)).symm
  have hN : ∀ c ∈ whl p m, c ≠ 44 := fun c hc => (okW_ne (hW c hc)).1
  obtain ⟨s1, s2, s3, s4⟩ := cmW_spl (P := p.prim) (S := p.sec) hN (by
    rcases h.grp with g | ⟨g1, g2, _⟩
    · exact .inl g
    · exact .inr ⟨g1, g2⟩) (whl_grp h m)
  rw [numB, hall, if_neg (by decide), hcut.1, hcut.2.1, hcut.2.2, numW]
  rw [any_false (A := (· == 46)) (fun c hc => by simpa using (dg_ne (hF c hc)).2.1), Bool.false_or]
  have hpe : (decide (0 < p.maxFrac) && (frcN p).isEmpty) = false := by
    by_cases hf : 0 < p.maxFrac
    · have : (frcN p).isEmpty = false := by
        rw [Bool.eq_false_iff, ne_eq, List.isEmpty_iff]
        intro e
        rw [e] at hFl
        simp at hFl; omega
      rw [this, Bool.and_false]
    · rw [decide_eq_false hf]; rfl
  rw [hpe, if_neg (by decide), any_false (A := (· == 44)) (fun c hc => by simpa using (dg_ne (hF c hc)).1), if_neg (by decide)]
  have hz : (decide (1 < (spl (cmW p.prim p.sec (whl p m)) 0).length) && (spl (cmW p.prim p.sec (whl p m)) 0).any (· == 0)) = false := by
    by_cases hl : 1 < (spl (cmW p.prim p.sec (whl p m)) 0).length
    · rw [s4 hl, Bool.and_false]
    · rw [decide_eq_false hl]; rfl
  rw [hz, if_neg (by decide), cmW_pln _ _ hN]
  have hne : (whl p m ++ frcN p).isEmpty = false := by
    rw [Bool.eq_false_iff, ne_eq, List.isEmpty_iff]
    intro e
    have el := congrArg List.length e
    rw [List.length_append, hFl, List.length_nil] at el
    have := whl_pos h m (by omega)
    omega
  rw [hne, if_neg (by decide)]
  rcases h.kind with hk | ⟨k1, k2, k3, k4⟩
  · have hf : frcN p = [] := List.eq_nil_of_length_eq_zero (by rw [hFl]; exact hk.2.2.2.2.1)
    rw [hf, hk.2.2.2.2.1]
    exact numP_sig h hk m s1 s2 s3
  · exact numP_dig h k1 k2 k3 k4 m _ s1 s2 s3
/-- What is printed is parsed into the same. -/
theorem num_back {p : NF} (h : OkN p) (m : Nat) : numZ (prN p m) = (p, 0) := by
  have hB := numB_back h m
  have h69 : ∀ c ∈ cmW p.prim p.sec (whl p m) ++ (if 0 < p.maxFrac then 46 :: frcN p else []), c ≠ 69 := by
    intro c hc
    rcases List.mem_append.1 hc with hc | hc
    · rcases cmW_mem _ _ c hc with rfl | hc
      · decide
      · exact (okW_ne (whl_ok h m c hc)).2.2
    · split at hc
      · rcases List.mem_cons.1 hc with rfl | hc
        · decide
        · exact (dg_ne (frc_ok h c hc)).2.2
      · cases hc
  rw [prN, ← List.append_assoc]
  generalize cmW p.prim p.sec (whl p m) ++ (if 0 < p.maxFrac then 46 :: frcN p else []) = B at *
  rcases h.exp with ⟨hs, he1, he9⟩ | ⟨hs, he, hp⟩
  · rw [hs, if_pos rfl]
    rw [hs] at hB
    obtain ⟨c1, c2⟩ := tw_split (b := expN p) h69
    have ha : (B ++ 69 :: expN p).any (· == 69) = true := List.any_eq_true.2 ⟨69, by simp, rfl⟩
    rw [numZ, if_pos ha, c2, c1, expZ_exp he1 he9, if_neg (fun e => e rfl)]
    exact hB
  · rw [hs, if_neg (by decide), List.append_nil]
    rw [hs, he, hp] at hB
    obtain ⟨c1, _, c3⟩ := tw_all h69
    rw [numZ, c3, if_neg (by decide), c1]
    exact hB
end Go.Proofs.YtogipbgfnjbakaaDoor
