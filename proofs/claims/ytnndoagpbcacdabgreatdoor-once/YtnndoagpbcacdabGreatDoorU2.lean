import Derived.Test.YtnndoagpbcacdabGreatDoorMV1
import Derived.Test.YtnndoagpbcacdabGreatDoorL0
import Derived.Test.YtnndoagpbcacdabGreatDoorMY1
namespace Go.Proofs.YtnndoagpbcacdabGreatDoor
open Go.RowKit

/-! redex.Run; Collected. -/
set_option maxHeartbeats 400000 in
theorem xRunOk (s : ByteArray) (bud hp : Int) (cd : Cd) (N : Nat) (w : World) (hs : s.size ≤ maxLen) (hrd : rdC s = some cd) (hre : rdE s = 0) (hb0 : 0 ≤ bud) (hb1 : bud ≤ 2000) (hh0 : 0 ≤ hp) (hh1 : hp ≤ 24000)
    (hmn : 0 ≤ cd.mn ∧ cd.mn < cd.fs.length) (htg : ∀ t ∈ cd.fs, TG ⟨cd.fs, bud, hp⟩ t) (hNb : N ≤ 1000000) (hN : (iterM ⟨cd.fs, bud, hp⟩ N (initM cd.mn)).out ≠ 0) :
    Calls Tryz.prog 12 #[.string s, .int .i64 bud, .int .i64 hp] w fun e w' => e = .returned (.tuple #[.agg #[.int .i64 (iterM ⟨cd.fs, bud, hp⟩ N (initM cd.mn)).out, .int .i64 (iterM ⟨cd.fs, bud, hp⟩ N (initM cd.mn)).val, .int .i64 (iterM ⟨cd.fs, bud, hp⟩ N (initM cd.mn)).stp], .int .i64 0]) ∧ Below w.heap.size w w' := by
  have HC : Hid _ := mRunOk s bud hp cd N (w.alloc (Obj.cells #[.int .i64 0, .int .i64 0, .int .i64 0] 24)) hs hrd hre hb0 hb1 hh0 hh1 ⟨hh0, by show hp ≤ _; omega, fun t ht => by have h := htg t ht; exact ⟨h.a0, by have := h.a1; omega, h.n0, by have := h.n1; omega, fun l hl => by have := (h.ln l hl).2.1; omega⟩⟩
    (fun i hi ho => by
      obtain ⟨h1, h2⟩ := iv_iter ⟨cd.fs, bud, hp⟩ cd.mn hmn htg i ho
      exact ok_of h1 h2 (by omega)) hN
  clear hN htg hmn hrd hre
  generalize iterM ⟨cd.fs, bud, hp⟩ N (initM cd.mn) = st at *
  go_enter Tryz.func12, Tryz.ntmps12
  go_wp2_with fail
  refine (show Calls _ _ _ _ _ from HC.out).mono ?_
  rintro e w1 ⟨rfl, hb1⟩
  clear HC
  have hX := (hb1.block w.heap.size (by simp)).trans (heap_alloc_new w _)
  have hwl : w.heap.size < w1.heap.size := (Array.getElem?_eq_some_iff.1 hX).1
  have r0 := cell_of_row w1 w.heap.size 0 _ _ _ hX
  have r1 := cell_of_row w1 w.heap.size 1 _ _ _ hX
  have r2 := cell_of_row w1 w.heap.size 2 _ _ _ hX
  simp only [List.getElem?_toArray, List.getElem?_cons_succ, List.getElem?_cons_zero] at r0 r1 r2
  have z0 := frozen_of_row w1 w.heap.size 0 _ _ hX
  have z1 := frozen_of_row w1 w.heap.size 1 _ _ hX
  have z2 := frozen_of_row w1 w.heap.size 2 _ _ hX
  have HXX : Hid _ := hX
  have HB1 : Hid (Below w.heap.size w w1) := (below_al w _).trans (hb1.mono (by simp))
  clear hX hb1
  go_wp2_with fail
  obtain ⟨q0, q1, q2⟩ := cells_three w1 w.heap.size _ _ _ _ (.int .i64 st.out) (.int .i64 st.val) (.int .i64 st.stp) HXX.out
  refine bodyPost_ret (v := .tuple #[.agg #[.int .i64 st.out, .int .i64 st.val, .int .i64 st.stp], .int .i64 0]) (by simp [results, Tryz.results12, go_sem, q0, q1, q2]) rfl ⟨rfl, ?_⟩
  exact ((HB1.out.setCell (by exact Nat.le_refl _) _).setCell (by exact Nat.le_refl _) _).setCell (by exact Nat.le_refl _) _

end Go.Proofs.YtnndoagpbcacdabGreatDoor
