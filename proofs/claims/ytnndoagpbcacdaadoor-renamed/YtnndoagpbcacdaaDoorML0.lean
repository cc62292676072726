import Derived.Test.YtnndoagpbcacdaaDoorK7
import Derived.Test.YtnndoagpbcacdaaDoorP2a
namespace Go.Proofs.YtnndoagpbcacdaaDoor
open Go.RowKit

set_option maxHeartbeats 400000 in
theorem xCompile (s : ByteArray) (w : World) (hs : s.size ≤ maxLen) (ht : Tab w) :
    Calls Tryd.prog 11 #[.string s] w fun e w' => ∃ x : ByteArray, e = .returned (.tuple #[.string x, .int .i64 (cmpE s)]) ∧ x.data.toList = cmpL s ∧ x.size ≤ 20000 ∧ Below w.heap.size w w' := by
  have HC : Hid _ := sCompile s w hs ht (fun h => ⟨(prog_base s h).2.2.2, (prog_base s h).2.2.1⟩)
  go_enter Tryd.func11, Tryd.ntmps11
  go_wp2_with fail
  refine (show Calls _ _ _ _ _ from HC.out).mono ?_
  rintro e w1 ⟨x, rfl, hx, hxs, hb1⟩
  go_wp2_with fail
  go_ret2
  exact ⟨x, rfl, hx, hxs, hb1⟩

end Go.Proofs.YtnndoagpbcacdaaDoor
