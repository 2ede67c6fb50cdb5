/-
  What the rows' condition on the listed variables gives the walks: the table of powers.
-/
import Derived.Lib.LaidU8
import Derived.Test.YtpbkndmciopnjaaDoorTen1
namespace Go.Proofs.YtpbkndmciopnjaaDoor
open Go.RowKit
theorem powers_named : Tryd.prog.globalNamed "figurehead/ten.powers" = some 0 := by kernel_rfl
theorem powers_type : (Tryd.prog.globals[0]?).map (·.type) = some 42 := by kernel_rfl
theorem powers_c32 : Tryd.prog.cellsOf 39 = 1 := by kernel_rfl
theorem powers_c9 : Tryd.prog.cellsOf 42 = 9 := by kernel_rfl
theorem pw_of_laid {l : List (String × DataW Unit)} {W : World} (h : laidMet Tryd.prog l W) (hm : ("figurehead/ten.powers", Lib.tabData .u32 [1, 10, 100, 1000, 10000, 100000, 1000000, 10000000, 100000000]) ∈ l) : Pw W := by
  obtain ⟨g, t, cs, fuel, p, h1, h2, h3, h4⟩ := Lib.laidMet.reads h hm
  obtain rfl := Option.some.inj (powers_named.symm.trans h1)
  obtain rfl := Option.some.inj (powers_type.symm.trans h2)
  have hcs := Lib.cells_of_tab Tryd.underlying42 Tryd.underlying39 powers_c32 powers_c9 h4
  intro i hi
  have hc := World.var?_cell powers_named h3 i
  rw [← Array.getElem?_toList, hcs] at hc
  rw [hc]
  obtain rfl | rfl | rfl | rfl | rfl | rfl | rfl | rfl | rfl : i = 0 ∨ i = 1 ∨ i = 2 ∨ i = 3 ∨ i = 4 ∨ i = 5 ∨ i = 6 ∨ i = 7 ∨ i = 8 := by omega
  all_goals rfl
end Go.Proofs.YtpbkndmciopnjaaDoor
