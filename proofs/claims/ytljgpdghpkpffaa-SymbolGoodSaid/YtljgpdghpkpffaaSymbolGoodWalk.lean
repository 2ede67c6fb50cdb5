/-
  SymbolGood: the walk.
-/
import Derived.Test.YtljgpdghpkpffaaYG
set_option maxRecDepth 100000
namespace Go.Proofs.Ytljgpdghpkpffaa
open Go.RowKit Go.ChangeMaps
/-- In a drawn region: the symbols' box, which is read; the world's growth since. -/
def SSY (G : Nat) (W : World) (z : Int) ( d g mi pl pc pm cu e : ByteArray) (w' : World) : Prop := (w'.cell? ⟨G, 0, none⟩ = some (.int .i32 z) ∧ w'.cell? ⟨G, 1, none⟩ = some (.string d) ∧ w'.cell? ⟨G, 2, none⟩ = some (.string g) ∧ w'.cell? ⟨G, 3, none⟩ = some (.string mi) ∧ w'.cell? ⟨G, 4, none⟩ = some (.string pl) ∧ w'.cell? ⟨G, 5, none⟩ = some (.string pc) ∧ w'.cell? ⟨G, 6, none⟩ = some (.string pm) ∧ w'.cell? ⟨G, 7, none⟩ = some (.string cu) ∧ w'.cell? ⟨G, 8, none⟩ = some (.string e)) ∧ Hid (BXS w' G z d g mi pl pc pm cu e ∧ Below W.heap.size W w')
theorem BXS.all {G : Nat} {z : Int} { d g mi pl pc pm cu e : ByteArray} {w' : World} (h : BXS w' G z d g mi pl pc pm cu e) : w'.cell? ⟨G, 0, none⟩ = some (.int .i32 z) ∧ w'.cell? ⟨G, 1, none⟩ = some (.string d) ∧ w'.cell? ⟨G, 2, none⟩ = some (.string g) ∧ w'.cell? ⟨G, 3, none⟩ = some (.string mi) ∧ w'.cell? ⟨G, 4, none⟩ = some (.string pl) ∧ w'.cell? ⟨G, 5, none⟩ = some (.string pc) ∧ w'.cell? ⟨G, 6, none⟩ = some (.string pm) ∧ w'.cell? ⟨G, 7, none⟩ = some (.string cu) ∧ w'.cell? ⟨G, 8, none⟩ = some (.string e) := ⟨h.c 0, h.c 1, h.c 2, h.c 3, h.c 4, h.c 5, h.c 6, h.c 7, h.c 8⟩
theorem SSY.new {G : Nat} {W : World} {z : Int} { d g mi pl pc pm cu e : ByteArray} (h : BXS W G z d g mi pl pc pm cu e) : SSY G W z d g mi pl pc pm cu e W := ⟨h.all, Lib.hid ⟨h, Below.refl _ _⟩⟩
theorem SSY.drew {G : Nat} {W w' : World} {z : Int} { d g mi pl pc pm cu e : ByteArray} (h : SSY G W z d g mi pl pc pm cu e w') : SSY G W z d g mi pl pc pm cu e w'.drew := ⟨h.1, Lib.hid ⟨h.2.out.1, h.2.out.2.drew⟩⟩
theorem SSY.keep {G : Nat} {W w' w'' : World} {z : Int} { d g mi pl pc pm cu e : ByteArray} (h : SSY G W z d g mi pl pc pm cu e w') (hb : Below w'.heap.size w' w'') : SSY G W z d g mi pl pc pm cu e w'' :=
  have hx := h.2.out.1.below hb h.2.out.1.lt
  ⟨BXS.all hx, Lib.hid ⟨hx, h.2.out.2.trans (hb.mono h.2.out.2.size)⟩⟩
set_option maxHeartbeats 4000000 in
theorem walk_symbolGood (z : Int) (d g mi pl pc pm cu e : ByteArray) (w : World) (hz : -2147483648 ≤ z ∧ z ≤ 2147483647) :
    Calls Try.prog 3 #[.agg #[.int .i32 z, .string d, .string g, .string mi, .string pl, .string pc, .string pm, .string cu, .string e]] w fun e' w' => e' = .returned (.bool true) ∧ Below w.heap.size w w' := by
  have CS := Lib.hid (fun W => symGood_c z d g mi pl pc pm cu e W hz)
  have CR := Lib.hid (fun W hs => refGood18_c z d g mi pl pc pm cu e W hz hs)
  have HX : Hid (BXS ((w.alloc (.cells #[.int .i32 z, .string d, .string g, .string mi, .string pl, .string pc, .string pm, .string cu, .string e] 23)).alloc (.cells #[.string d, .string g, .string mi, .string pl, .string pc, .string pm, .string cu, .string e] 9)) w.heap.size z d g mi pl pc pm cu e) := Lib.hid (BX.alloc (BX.new _ _ _) (.cells #[.string d, .string g, .string mi, .string pl, .string pc, .string pm, .string cu, .string e] 9))
  have HN := Lib.hid (BX.new (w.alloc (.cells #[.int .i32 z, .string d, .string g, .string mi, .string pl, .string pc, .string pm, .string cu, .string e] 23)) #[.string d, .string g, .string mi, .string pl, .string pc, .string pm, .string cu, .string e] 9)
  have HB := Lib.hid (((Below.refl w.heap.size w).alloc (Nat.le_refl _) (.cells #[.int .i32 z, .string d, .string g, .string mi, .string pl, .string pc, .string pm, .string cu, .string e] 23)).alloc (by rw [World.size_alloc]; exact Nat.le_succ _) (.cells #[.string d, .string g, .string mi, .string pl, .string pc, .string pm, .string cu, .string e] 9))
  rw [World.size_alloc] at HN
  go_enter Try.func3, Try.ntmps3
  go_wp2
  generalize (w.alloc (.cells #[.int .i32 z, .string d, .string g, .string mi, .string pl, .string pc, .string pm, .string cu, .string e] 23)).alloc (.cells #[.string d, .string g, .string mi, .string pl, .string pc, .string pm, .string cu, .string e] 9) = W0 at *
  have HGW := Lib.hid (Nat.le_of_lt HX.out.lt)
  generalize hG : w.heap.size = G at *
  have HG := Lib.hid hG
  clear hG
  go_loopw [23] (fun iv wr => ∃ k : Nat, k ≤ 8 ∧ iv = .int .i64 (k : Int) ∧ (∀ j, j < k → (tx8 d g mi pl pc pm cu e j).size ≤ 1000) ∧ wr = W0) (fun iv _ => 8 - (intOf iv).toNat)
  case atStart => exact ⟨0, by omega, rfl, fun j hj => absurd hj (by omega), rfl⟩
  case round =>
    obtain ⟨k, hk, rfl, hgd, rfl⟩ := hrel
    have HGd := Lib.hid hgd
    clear hgd
    by_cases hlt : k < 8
    · have gi : decide ((k : Int) < 8) = true := decide_eq_true (by omega)
      have ha := (HN.out.c k).trans (row_at d g mi pl pc pm cu e hlt)
      have HS1 := Lib.hid (fun (h : (tx8 d g mi pl pc pm cu e k).size ≤ 1000) j (hj : j < k + 1) => (show (tx8 d g mi pl pc pm cu e j).size ≤ 1000 from (by
        rcases Nat.lt_or_ge j k with h' | h'
        · exact HGd.out j h'
        · obtain rfl : j = k := by omega
          exact h)))
      generalize tx8 d g mi pl pc pm cu e k = t at *
      by_cases hb : 1000 < t.size
      · have g1 : decide ((1000 : Int) < (t.size : Int)) = true := decide_eq_true (by omega)
        clear hb HS1
        go_wp2_with (first
          | (go_at_call 8; refine (answers18_c _).mono ?_; rintro ea wa ⟨rfl, hba⟩)
          | (with_reducible go_skip)
          | fail)
        go_ret
        exact ⟨rfl, by rw [HG.out]; exact HB.out.trans (hba.out.mono HGW.out)⟩
      · have g1 : decide ((1000 : Int) < (t.size : Int)) = false := decide_eq_false (by omega)
        have HS2 := Lib.hid (HS1.out (by omega))
        clear hb HS1
        go_wp2
        go_roundw
        case rel => exact ⟨k + 1, by omega, by go_num, HS2.out, by first | trivial | rfl⟩
        case measure => simp [intOf]; omega
    · obtain rfl : k = 8 := by omega
      have gi : decide ((8 : Int) < 8) = false := rfl
      have CR2 := Lib.hid (fun W => CR.out W fun k hk => Nat.le_trans (HGd.out k hk) (by decide))
      generalize goodS z (tx8 d g mi pl pc pm cu e) = B at *
      have gB : (B == B) = true := by simp
      clear hlt CR
      go_wp2
      have hS : SSY G wr z d g mi pl pc pm cu e (World.drew wr) := SSY.drew (SSY.new HX.out)
      go_region_held3 (fun w' => (w'.cell? ⟨G, 0, none⟩ = some (.int .i32 z) ∧ w'.cell? ⟨G, 1, none⟩ = some (.string d) ∧ w'.cell? ⟨G, 2, none⟩ = some (.string g) ∧ w'.cell? ⟨G, 3, none⟩ = some (.string mi) ∧ w'.cell? ⟨G, 4, none⟩ = some (.string pl) ∧ w'.cell? ⟨G, 5, none⟩ = some (.string pc) ∧ w'.cell? ⟨G, 6, none⟩ = some (.string pm) ∧ w'.cell? ⟨G, 7, none⟩ = some (.string cu) ∧ w'.cell? ⟨G, 8, none⟩ = some (.string e)) ∧ Hid (BXS w' G z d g mi pl pc pm cu e ∧ Below wr.heap.size wr w')) (assumption) ((first
        | (go_at_call 8; refine (answers18_c _).mono ?_; rintro e W5 ⟨rfl, hb⟩; have hS := SSY.keep (W := wr) (G := G) (by assumption) hb.out; clear hb)
        | (go_at_call 9; refine (CS.out _).mono ?_; rintro e W6 ⟨rfl, hb⟩; have hS := SSY.keep (W := wr) (G := G) (by assumption) hb.out; clear hb)
        | (go_at_call 10; refine (CR2.out _).mono ?_; rintro e W7 ⟨rfl, hb⟩; have hS := SSY.keep (W := wr) (G := G) (by assumption) hb.out; clear hb)))
      all_goals go_wp2
      all_goals go_ret
      all_goals exact ⟨rfl, by rw [HG.out]; exact HB.out.trans (hS.2.out.2.mono HGW.out)⟩
end Go.Proofs.Ytljgpdghpkpffaa
