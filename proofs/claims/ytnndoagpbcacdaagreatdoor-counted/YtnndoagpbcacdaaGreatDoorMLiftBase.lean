import Derived.ProofKit
import Derived.OpenShut
import Derived.ShutString
import Derived.ChangeOld
import Derived.Below
import Derived.Deep.Slices
import Derived.Lib.SmallJoins
import Derived.Test.YtnndoagpbcacdaaGreatDoorTie
import Derived.Test.YtnndoagpbcacdaaGreatDoorCards
import Derived.LaidMore
import Derived.Stop.Joined
import Derived.SevenTiedAt
import Derived.Lib.LaidTab
import Derived.Test.YtnndoagpbcacdaaGreatDoorMW5
namespace Go.Proofs.YtnndoagpbcacdaaGreatDoor
open Go.ChangeShapes Go.WideShapes Go.ChangeAt Go.RowKit

theorem Tryz.own : ownKnob Tryz.prog.godebug = none := by kernel_rfl
theorem Tryz.laidOut : laidOutB Tryz.prog = true := by kernel_rfl
/-- The heap that the door's run leaves meets what the rows list. -/
theorem door_met (os : Os) (args : Array Value) : laidMetH Tryz.prog Rows.checksRow.laid ((World.doorLaid Tryz.prog 400 os).forCall (fun _ _ => 0) ⟨#[], args, []⟩).memory :=
  laidMetH_of_parts3 (fuel := 8) (laidMet_of_run' 8 (by kernel_rfl) (by kernel_rfl)) (by kernel_rfl) (by kernel_rfl)

end Go.Proofs.YtnndoagpbcacdaaGreatDoor
namespace Go.Proofs.YtnndoagpbcacdaaGreatDoor
open Go.ChangeShapes Go.WideShapes Go.ChangeAt Go.RowKit

theorem Tryz.gPow : Tryz.prog.globalNamed (Rows.checksRow.named.headD default) = some 0 := pow_glob
theorem Tryz.tPow : (Tryz.prog.globals[0]?).map (·.type) = some 266 := by kernel_rfl
/-- What the rows list of strconv's table. -/
theorem tab_of {W : World} (h : laidMetH Tryz.prog Rows.checksRow.laid W) : Tab W := by
  rw [MakeChecks.laidMetH_plain _ _ _ (by kernel_rfl)] at h
  obtain ⟨ps, ⟨g0, t0, cs0, f0, p0, q0, hg0, ht0, hv0, hd0, ⟨g1, t1, cs1, f1, p1, q1, hg1, ht1, hv1, hd1, ⟨g2, t2, cs2, f2, p2, q2, hg2, ht2, hv2, hd2, _, _⟩, _⟩, _⟩, _, _⟩ := h
  obtain rfl := Option.some.inj (Tryz.gPow.symm.trans hg2)
  obtain rfl := Option.some.inj (Tryz.tPow.symm.trans ht2)
  unfold Tab Lib.TabIs
  have hc : cs2.toList = Lib.pow10Tab.map fun z => Value.int .u64 z := Lib.cells_of_tab (n := 20) (zs := Lib.pow10Tab) Tryz.underlying266 Tryz.underlying257 (by kernel_rfl) (by kernel_rfl) hd2
  rw [← hc]
  exact hv2

end Go.Proofs.YtnndoagpbcacdaaGreatDoor
