import Derived.Test.YtnndoagpbcacdaaGreatDoorMW5
import Derived.Test.YtnndoagpbcacdaaGreatDoorLiftLaid
namespace Go.Proofs.YtnndoagpbcacdaaGreatDoor
open Go.ChangeShapes Go.WideShapes Go.ChangeAt Go.RowKit

theorem Tryz.gPow : Tryz.prog.globalNamed (Rows.checksRow.named.headD default) = some 0 := pow_glob
theorem Tryz.tPow : (Tryz.prog.globals[0]?).map (·.type) = some 266 := by kernel_rfl
/-- What the rows list of strconv's table. -/
theorem tab_of {W : World} (h : laidMetH Tryz.prog Rows.checksRow.laid W) : Tab W := by
  rw [MakeChecks.laidMetH_plain _ _ _ (by kernel_rfl)] at h
  obtain ⟨ps, ⟨g0, t0, cs0, f0, p0, q0, hg0, ht0, hv0, hd0, ⟨g1, t1, cs1, f1, p1, q1, hg1, ht1, hv1, hd1, ⟨g2, t2, cs2, f2, p2, q2, hg2, ht2, hv2, hd2, _, _⟩, _⟩, _⟩, _, _⟩ := h
  obtain rfl := Option.some.inj (Tryz.gPow.symm.trans hg2)
  obtain rfl := Option.some.inj (Tryz.tPow.symm.trans ht2)
  unfold Tab Lib.TabIs
  have hc : cs2.toList = Lib.pow10Tab.map fun z => Value.int .u64 z := Lib.cells_of_tab (n := 20) (zs := Lib.pow10Tab) Tryz.underlying266 Tryz.underlying257 (by kernel_rfl) (by kernel_rfl) hd2
  rw [← hc]
  exact hv2

end Go.Proofs.YtnndoagpbcacdaaGreatDoor
