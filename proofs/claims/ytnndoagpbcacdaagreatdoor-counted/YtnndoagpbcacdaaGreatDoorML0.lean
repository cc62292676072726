import Derived.Test.YtnndoagpbcacdaaGreatDoorK7
import Derived.Test.YtnndoagpbcacdaaGreatDoorP2a
import Derived.Test.YtnndoagpbcacdaaGreatDoorMV1
import Derived.Test.YtnndoagpbcacdaaGreatDoorMY1
import Derived.Test.YtnndoagpbcacdaaGreatDoorMI7
namespace Go.Proofs.YtnndoagpbcacdaaGreatDoor
open Go.RowKit

set_option maxHeartbeats 400000 in
theorem xCompile (s : ByteArray) (w : World) (hs : s.size ≤ maxLen) (ht : Tab w) :
    Calls Tryz.prog 14 #[.string s] w fun e w' => ∃ x : ByteArray, e = .returned (.tuple #[.string x, .int .i64 (cmpE s)]) ∧ x.data.toList = cmpL s ∧ x.size ≤ 20000 ∧ Below w.heap.size w w' := by
  have HC : Hid _ := sCompile s w hs ht (fun h => ⟨(prog_base s h).2.2.2, (prog_base s h).2.2.1⟩)
  go_enter Tryz.func14, Tryz.ntmps14
  go_wp2_with fail
  refine (show Calls _ _ _ _ _ from HC.out).mono ?_
  rintro e w1 ⟨x, rfl, hx, hxs, hb1⟩
  go_wp2_with fail
  go_ret2
  exact ⟨x, rfl, hx, hxs, hb1⟩

end Go.Proofs.YtnndoagpbcacdaaGreatDoor
namespace Go.Proofs.YtnndoagpbcacdaaGreatDoor
open Go.RowKit

/-! redex.Run; Collected. -/
set_option maxHeartbeats 400000 in
theorem xRunOk (s : ByteArray) (bud hp : Int) (cd : Cd) (N : Nat) (w : World) (hs : s.size ≤ maxLen) (hrd : rdC s = some cd) (hre : rdE s = 0) (hb0 : 0 ≤ bud) (hb1 : bud ≤ 2000) (hh0 : 0 ≤ hp) (hh1 : hp ≤ 24000)
    (hmn : 0 ≤ cd.mn ∧ cd.mn < cd.fs.length) (htg : ∀ t ∈ cd.fs, TG ⟨cd.fs, bud, hp⟩ t) (hNb : N ≤ 1000000) (hN : (iterM ⟨cd.fs, bud, hp⟩ N (initM cd.mn)).out ≠ 0) :
    Calls Tryz.prog 16 #[.string s, .int .i64 bud, .int .i64 hp] w fun e w' => e = .returned (.tuple #[.agg #[.int .i64 (iterM ⟨cd.fs, bud, hp⟩ N (initM cd.mn)).out, .int .i64 (iterM ⟨cd.fs, bud, hp⟩ N (initM cd.mn)).val, .int .i64 (iterM ⟨cd.fs, bud, hp⟩ N (initM cd.mn)).stp], .int .i64 0]) ∧ Below w.heap.size w w' := by
  have HC : Hid _ := mRunOk s bud hp cd N (w.alloc (Obj.cells #[.int .i64 0, .int .i64 0, .int .i64 0] 31)) hs hrd hre hb0 hb1 hh0 hh1 ⟨hh0, by show hp ≤ _; omega, fun t ht => by have h := htg t ht; exact ⟨h.a0, by have := h.a1; omega, h.n0, by have := h.n1; omega, fun l hl => by have := (h.ln l hl).2.1; omega⟩⟩
    (fun i hi ho => by
      obtain ⟨h1, h2⟩ := iv_iter ⟨cd.fs, bud, hp⟩ cd.mn hmn htg i ho
      exact ok_of h1 h2 (by omega)) hN
  clear hN htg hmn hrd hre
  generalize iterM ⟨cd.fs, bud, hp⟩ N (initM cd.mn) = st at *
  go_enter Tryz.func16, Tryz.ntmps16
  go_wp2_with fail
  refine (show Calls _ _ _ _ _ from HC.out).mono ?_
  rintro e w1 ⟨rfl, hb1⟩
  clear HC
  have hX := (hb1.block w.heap.size (by simp)).trans (heap_alloc_new w _)
  have hwl : w.heap.size < w1.heap.size := (Array.getElem?_eq_some_iff.1 hX).1
  have r0 := cell_of_row w1 w.heap.size 0 _ _ _ hX
  have r1 := cell_of_row w1 w.heap.size 1 _ _ _ hX
  have r2 := cell_of_row w1 w.heap.size 2 _ _ _ hX
  simp only [List.getElem?_toArray, List.getElem?_cons_succ, List.getElem?_cons_zero] at r0 r1 r2
  have z0 := frozen_of_row w1 w.heap.size 0 _ _ hX
  have z1 := frozen_of_row w1 w.heap.size 1 _ _ hX
  have z2 := frozen_of_row w1 w.heap.size 2 _ _ hX
  have HXX : Hid _ := hX
  have HB1 : Hid (Below w.heap.size w w1) := (below_al w _).trans (hb1.mono (by simp))
  clear hX hb1
  go_wp2_with fail
  obtain ⟨q0, q1, q2⟩ := cells_three w1 w.heap.size _ _ _ _ (.int .i64 st.out) (.int .i64 st.val) (.int .i64 st.stp) HXX.out
  refine bodyPost_ret (v := .tuple #[.agg #[.int .i64 st.out, .int .i64 st.val, .int .i64 st.stp], .int .i64 0]) (by simp [results, Tryz.results16, go_sem, q0, q1, q2]) rfl ⟨rfl, ?_⟩
  exact ((HB1.out.setCell (by exact Nat.le_refl _) _).setCell (by exact Nat.le_refl _) _).setCell (by exact Nat.le_refl _) _

end Go.Proofs.YtnndoagpbcacdaaGreatDoor
namespace Go.Proofs.YtnndoagpbcacdaaGreatDoor
open Go.RowKit

/-! Run and Eval: what the machine without a freed node comes to. -/
theorem xRunI (s : ByteArray) (bud hp : Int) (cd : Cd) (w : World) (hs : s.size ≤ maxLen) (hrd : rdC s = some cd) (hre : rdE s = 0) (hb0 : 0 ≤ bud) (hb1 : bud ≤ 2000) (hh0 : 0 ≤ hp) (hh1 : hp ≤ 24000) (hg : goodC cd = true) :
    Calls Tryz.prog 16 #[.string s, .int .i64 bud, .int .i64 hp] w fun e w' => e = .returned (.tuple #[.agg #[.int .i64 (runI ⟨cd.fs, bud, hp⟩ cd.mn).out, .int .i64 (runI ⟨cd.fs, bud, hp⟩ cd.mn).val, .int .i64 (runI ⟨cd.fs, bud, hp⟩ cd.mn).stp], .int .i64 0]) ∧ Below w.heap.size w w' := by
  obtain ⟨hmn, htg, _, _⟩ := tgo_good (bud := bud) (hp := hp) hg
  obtain ⟨e1, e2, e3⟩ := run_same ⟨cd.fs, bud, hp⟩ cd.mn hmn (tg_of htg)
  have hend := run_ends ⟨cd.fs, bud, hp⟩ cd.mn hmn htg hb0 hb1
  have h := xRunOk s bud hp cd 276001 w hs hrd hre hb0 hb1 hh0 hh1 hmn (fun t ht => (htg t ht).tg) (by omega) (by rw [e1]; exact hend)
  rw [e1, e2, e3] at h
  exact h
theorem mRunI (s : ByteArray) (bud hp : Int) (cd : Cd) (w : World) (hs : s.size ≤ maxLen) (hrd : rdC s = some cd) (hre : rdE s = 0) (hb0 : 0 ≤ bud) (hb1 : bud ≤ 2000) (hh0 : 0 ≤ hp) (hh1 : hp ≤ 24000) (hg : goodC cd = true) :
    Calls Tryz.prog 26 #[.string s, .int .i64 bud, .int .i64 hp] w fun e w' => e = .returned (.tuple #[.agg #[.int .i64 (runI ⟨cd.fs, bud, hp⟩ cd.mn).out, .int .i64 (runI ⟨cd.fs, bud, hp⟩ cd.mn).val, .int .i64 (runI ⟨cd.fs, bud, hp⟩ cd.mn).stp], .int .i64 0]) ∧ Below w.heap.size w w' := by
  obtain ⟨hmn, htg, _, _⟩ := tgo_good (bud := bud) (hp := hp) hg
  obtain ⟨e1, e2, e3⟩ := run_same ⟨cd.fs, bud, hp⟩ cd.mn hmn (tg_of htg)
  have hend := run_ends ⟨cd.fs, bud, hp⟩ cd.mn hmn htg hb0 hb1
  have h := mRunOk s bud hp cd 276001 w hs hrd hre hb0 hb1 hh0 hh1 ⟨hh0, by show hp ≤ _; omega, fun t ht => by have h := (htg t ht).tg; exact ⟨h.a0, by have := h.a1; omega, h.n0, by have := h.n1; omega, fun l hl => by have := (h.ln l hl).2.1; omega⟩⟩
    (fun i hi ho => by
      obtain ⟨h1, h2⟩ := iv_iter ⟨cd.fs, bud, hp⟩ cd.mn hmn (tg_of htg) i ho
      exact ok_of h1 h2 (by omega)) (by rw [e1]; exact hend)
  rw [e1, e2, e3] at h
  exact h
/-- What is compiled is read as its code. -/
theorem cmp_read {s x : ByteArray} {cd : Cd} (hc : (chk s).2 = 0) (hcd : codeOf (cAll (toksF s 0)).ds = cd) (hg : goodC cd = true) (hx : x.data.toList = cmpL s) (hxs : x.size ≤ 20000) : rdC x = some cd ∧ rdE x = 0 := by
  have hl : cmpL s = cdL cd := by unfold cmpL; rw [if_pos hc, hcd]; unfold wrL; rw [if_pos hg]
  have hr := code_read cd hg x (hx.trans hl)
  have hb : ¬ 30000 < x.size := by omega
  exact ⟨by rw [rdC, if_neg hb, hr], by rw [rdE, if_neg hb, hr]; rfl⟩
theorem cmp_ok {s : ByteArray} {cd : Cd} (hc : (chk s).2 = 0) (hcd : codeOf (cAll (toksF s 0)).ds = cd) (hg : goodC cd = true) : cmpE s = 0 := by
  unfold cmpE; rw [if_pos hc, hcd]; unfold wrE; rw [if_pos hg]

set_option maxHeartbeats 1000000 in
theorem xEvalI (s : ByteArray) (bud : Int) (cd : Cd) (w : World) (hs : s.size ≤ maxLen) (ht : Tab w) (hc : (chk s).2 = 0) (hcd : codeOf (cAll (toksF s 0)).ds = cd) (hg : goodC cd = true) (hb0 : 0 ≤ bud) (hb1 : bud ≤ 2000) :
    Calls Tryz.prog 18 #[.string s, .int .i64 bud] w fun e w' => e = .returned (.tuple #[.agg #[.int .i64 (runI ⟨cd.fs, bud, 24000⟩ cd.mn).out, .int .i64 (runI ⟨cd.fs, bud, 24000⟩ cd.mn).val, .int .i64 (runI ⟨cd.fs, bud, 24000⟩ cd.mn).stp], .int .i64 0]) ∧ Below w.heap.size w w' := by
  have hal : Below w.heap.size w (w.alloc (Obj.cells #[.int .i64 0, .int .i64 0, .int .i64 0] 31)) := (Below.refl _ w).alloc (Nat.le_refl _) _
  have HC : Hid _ := sCompile s (w.alloc (Obj.cells #[.int .i64 0, .int .i64 0, .int .i64 0] 31)) hs (ht.below hal) (fun h => ⟨(prog_base s h).2.2.2, (prog_base s h).2.2.1⟩)
  rw [cmp_ok hc hcd hg] at HC
  have HRD : Hid (∀ x : ByteArray, x.data.toList = cmpL s → x.size ≤ 20000 → rdC x = some cd ∧ rdE x = 0) := fun x hx hxs => cmp_read hc hcd hg hx hxs
  have HG : Hid _ := hg
  generalize hst : runI ⟨cd.fs, bud, 24000⟩ cd.mn = st at *
  have HST : Hid (runI ⟨cd.fs, bud, 24000⟩ cd.mn = st) := hst
  clear hc hcd hg hst ht
  go_enter Tryz.func18, Tryz.ntmps18
  go_wp2_with fail
  refine (show Calls _ _ _ _ _ from HC.out).mono ?_
  rintro e w1 ⟨x, rfl, hx, hxs, hb1'⟩
  clear HC
  obtain ⟨hrd, hre⟩ := HRD.out x hx hxs
  have HC2 : Hid _ := mRunI x bud 24000 cd w1 (by unfold maxLen; omega) hrd hre hb0 hb1 (by omega) (by omega) HG.out
  rw [HST.out] at HC2
  have HX1 : Hid (w1.heap[w.heap.size]? = some (Obj.cells #[.int .i64 0, .int .i64 0, .int .i64 0] 31)) := (hb1'.block w.heap.size (by simp)).trans (heap_alloc_new w _)
  have HB1 : Hid (Below w.heap.size w w1) := hal.trans (hb1'.mono (by simp))
  clear hrd hre hx hb1' HRD hal
  go_wp2_with fail
  refine (show Calls _ _ _ _ _ from HC2.out).mono ?_
  rintro e w2 ⟨rfl, hb2⟩
  clear HC2
  have hw1 : w.heap.size < w1.heap.size := (Array.getElem?_eq_some_iff.1 HX1.out).1
  have hX := (hb2.block w.heap.size hw1).trans HX1.out
  have hwl : w.heap.size < w2.heap.size := (Array.getElem?_eq_some_iff.1 hX).1
  have r0 := cell_of_row w2 w.heap.size 0 _ _ _ hX
  have r1 := cell_of_row w2 w.heap.size 1 _ _ _ hX
  have r2 := cell_of_row w2 w.heap.size 2 _ _ _ hX
  simp only [List.getElem?_toArray, List.getElem?_cons_succ, List.getElem?_cons_zero] at r0 r1 r2
  have z0 := frozen_of_row w2 w.heap.size 0 _ _ hX
  have z1 := frozen_of_row w2 w.heap.size 1 _ _ hX
  have z2 := frozen_of_row w2 w.heap.size 2 _ _ hX
  have HXX : Hid _ := hX
  have HB2 : Hid (Below w.heap.size w w2) := HB1.out.trans (hb2.mono (by omega))
  clear hX hb2
  go_wp2_with fail
  obtain ⟨q0, q1, q2⟩ := cells_three w2 w.heap.size _ _ _ _ (.int .i64 st.out) (.int .i64 st.val) (.int .i64 st.stp) HXX.out
  refine bodyPost_ret (v := .tuple #[.agg #[.int .i64 st.out, .int .i64 st.val, .int .i64 st.stp], .int .i64 0]) (by simp [results, Tryz.results18, go_sem, q0, q1, q2]) rfl ⟨rfl, ?_⟩
  exact ((HB2.out.setCell (by exact Nat.le_refl _) _).setCell (by exact Nat.le_refl _) _).setCell (by exact Nat.le_refl _) _

end Go.Proofs.YtnndoagpbcacdaaGreatDoor
