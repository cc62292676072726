import Derived.Test.YtnndoagpbcacdaaGreatDoorMN15
import Derived.Test.YtnndoagpbcacdaaGreatDoorMQ7
import Derived.Test.YtnndoagpbcacdaaGreatDoorMX5
import Derived.Test.YtnndoagpbcacdaaGreatDoorMM13
import Derived.Test.YtnndoagpbcacdaaGreatDoorN16
namespace Go.Proofs.YtnndoagpbcacdaaGreatDoor
open Go.RowKit

/-! Run, of the program and of the reference, where there is nothing to run. -/
def rnBad (bud hp : Int) : Prop := bud < 0 ∨ 2000 < bud ∨ hp < 0 ∨ 24000 < hp
theorem rdE_none {s : ByteArray} (he : rdC s = none) : rdE s ≠ 0 := by
  unfold rdC at he
  unfold rdE
  split at he
  · rename_i h; rw [if_pos h]; decide
  · rename_i h; rw [if_neg h, he]; decide
theorem rdE_some {s : ByteArray} {c : Cd} (he : rdC s = some c) : rdE s = 0 := by
  unfold rdC at he
  unfold rdE
  split at he
  · simp at he
  · rename_i h; rw [if_neg h, he]; rfl
theorem res_facts {w : World} {b : Nat} {a0 a1 a2 : Value} {t : TypeId} (h : w.heap[b]? = some (.cells #[a0, a1, a2] t (0, 0))) : w.cell? ⟨b, 0, none⟩ = some a0 ∧ w.cell? ⟨b, 1, none⟩ = some a1 ∧ w.cell? ⟨b, 2, none⟩ = some a2 ∧ w.frozen? ⟨b, 0, none⟩ = false ∧ w.frozen? ⟨b, 1, none⟩ = false ∧ w.frozen? ⟨b, 2, none⟩ = false ∧ b < w.heap.size :=
  ⟨by rw [cell_of_row _ _ 0 _ _ _ h]; rfl, by rw [cell_of_row _ _ 1 _ _ _ h]; rfl, by rw [cell_of_row _ _ 2 _ _ _ h]; rfl, frozen_of_row _ _ _ _ _ h, frozen_of_row _ _ _ _ _ h, frozen_of_row _ _ _ _ _ h, (Array.getElem?_eq_some_iff.1 h).1⟩
theorem res_three (w w1 : World) (a0 a1 a2 x0 x1 x2 : Value) (t : TypeId) (hX : w1.heap[w.heap.size]? = some (.cells #[a0, a1, a2] t (0, 0))) (hB : Below w.heap.size w w1) :
    (∀ o, ((((w1.setCell ⟨w.heap.size, 0, none⟩ x0).setCell ⟨w.heap.size, 1, none⟩ x1).setCell ⟨w.heap.size, 2, none⟩ x2).alloc o).cell? ⟨w.heap.size, 0, none⟩ = some x0) ∧
    (∀ o, ((((w1.setCell ⟨w.heap.size, 0, none⟩ x0).setCell ⟨w.heap.size, 1, none⟩ x1).setCell ⟨w.heap.size, 2, none⟩ x2).alloc o).cell? ⟨w.heap.size, 1, none⟩ = some x1) ∧
    (∀ o, ((((w1.setCell ⟨w.heap.size, 0, none⟩ x0).setCell ⟨w.heap.size, 1, none⟩ x1).setCell ⟨w.heap.size, 2, none⟩ x2).alloc o).cell? ⟨w.heap.size, 2, none⟩ = some x2) ∧
    ∀ o, Below w.heap.size w ((((w1.setCell ⟨w.heap.size, 0, none⟩ x0).setCell ⟨w.heap.size, 1, none⟩ x1).setCell ⟨w.heap.size, 2, none⟩ x2).alloc o) := by
  have hl : w.heap.size < w1.heap.size := (Array.getElem?_eq_some_iff.1 hX).1
  have h3 := blk_set (i := 2) x2 (blk_set (i := 1) x1 (blk_set (i := 0) x0 hX))
  have hsz : (((w1.setCell ⟨w.heap.size, 0, none⟩ x0).setCell ⟨w.heap.size, 1, none⟩ x1).setCell ⟨w.heap.size, 2, none⟩ x2).heap.size = w1.heap.size := by rw [sz_setc, sz_setc, sz_setc]
  have hb : Below w.heap.size w (((w1.setCell ⟨w.heap.size, 0, none⟩ x0).setCell ⟨w.heap.size, 1, none⟩ x1).setCell ⟨w.heap.size, 2, none⟩ x2) := ((hB.setCell (Nat.le_refl _) _).setCell (Nat.le_refl _) _).setCell (Nat.le_refl _) _
  refine ⟨fun o => ?_, fun o => ?_, fun o => ?_, fun o => hb.alloc (by rw [hsz]; omega) o⟩
  all_goals
    have h4 := (Below.heap_alloc (((w1.setCell ⟨w.heap.size, 0, none⟩ x0).setCell ⟨w.heap.size, 1, none⟩ x1).setCell ⟨w.heap.size, 2, none⟩ x2) o w.heap.size (by rw [hsz]; exact hl)).trans h3
    rw [cell_of_row _ _ _ _ _ _ h4]
    rfl
set_option maxHeartbeats 1000000 in
theorem rRunE (s : ByteArray) (bud hp : Int) (w : World) (hs : s.size ≤ maxLen) (he : rdC s = none) :
    Calls Tryz.prog 57 #[.string s, .int .i64 bud, .int .i64 hp] w fun e w' => e = .returned (.tuple #[.agg #[.int .i64 0, .int .i64 0, .int .i64 0], .int .i64 (rdE s)]) ∧ Below w.heap.size w w' := by
  have hne := rdE_none he
  have HC : Hid _ := rRead s (w.alloc (Obj.cells #[.int .i64 0, .int .i64 0, .int .i64 0] 31)) hs
  generalize rdE s = er at *
  generalize rdL s = rl at *
  have hne2 : (er == 0) = false := by simpa using hne
  have HN : Hid (rdC s = none) := he
  clear he
  go_enter Tryz.func57, Tryz.ntmps57
  go_wp2_with fail
  refine (show Calls _ _ _ _ _ from HC.out).mono ?_
  rintro e w1 ⟨mn, fo, fl, fc, rfl, hb1, hz, _⟩
  
  clear HC
  have hX := (hb1.block w.heap.size (by simp)).trans (heap_alloc_new w _)
  have hwl : w.heap.size < w1.heap.size := (Array.getElem?_eq_some_iff.1 hX).1
  have r0 := cell_of_row w1 w.heap.size 0 _ _ _ hX
  have r1 := cell_of_row w1 w.heap.size 1 _ _ _ hX
  have r2 := cell_of_row w1 w.heap.size 2 _ _ _ hX
  simp only [List.getElem?_toArray, List.getElem?_cons_succ, List.getElem?_cons_zero] at r0 r1 r2
  have z0 := frozen_of_row w1 w.heap.size 0 _ _ hX
  have z1 := frozen_of_row w1 w.heap.size 1 _ _ hX
  have z2 := frozen_of_row w1 w.heap.size 2 _ _ hX
  have HXX : Hid _ := hX
  have HB1 : Hid (Below w.heap.size w w1) := (below_al w _).trans (hb1.mono (by simp))
  clear hX hb1
  go_wp2_with fail
  obtain ⟨q0, q1, q2, q3⟩ := res_three w w1 _ _ _ (.int .i64 0) (.int .i64 0) (.int .i64 0) _ HXX.out HB1.out
  exact bodyPost_ret (v := .tuple #[.agg #[.int .i64 0, .int .i64 0, .int .i64 0], .int .i64 er]) (by simp [results, Tryz.results57, go_sem, q0, q1, q2]) rfl ⟨rfl, q3 _⟩
set_option maxHeartbeats 1000000 in
theorem mRunE (s : ByteArray) (bud hp : Int) (w : World) (hs : s.size ≤ maxLen) (he : rdC s = none) :
    Calls Tryz.prog 26 #[.string s, .int .i64 bud, .int .i64 hp] w fun e w' => e = .returned (.tuple #[.agg #[.int .i64 0, .int .i64 0, .int .i64 0], .int .i64 (rdE s)]) ∧ Below w.heap.size w w' := by
  have hne := rdE_none he
  have HC : Hid _ := pRead s (w.alloc (Obj.cells #[.int .i64 0, .int .i64 0, .int .i64 0] 31)) hs
  generalize rdE s = er at *
  generalize rdL s = rl at *
  have hne2 : (er == 0) = false := by simpa using hne
  have HN : Hid (rdC s = none) := he
  clear he
  go_enter Tryz.func26, Tryz.ntmps26
  go_wp2_with fail
  refine (show Calls _ _ _ _ _ from HC.out).mono ?_
  rintro e w1 ⟨mn, fv, rfl, hb1, hz, _⟩
  obtain ⟨rfl, rfl⟩ := hz HN.out
  clear HC
  have hX := (hb1.block w.heap.size (by simp)).trans (heap_alloc_new w _)
  have hwl : w.heap.size < w1.heap.size := (Array.getElem?_eq_some_iff.1 hX).1
  have r0 := cell_of_row w1 w.heap.size 0 _ _ _ hX
  have r1 := cell_of_row w1 w.heap.size 1 _ _ _ hX
  have r2 := cell_of_row w1 w.heap.size 2 _ _ _ hX
  simp only [List.getElem?_toArray, List.getElem?_cons_succ, List.getElem?_cons_zero] at r0 r1 r2
  have z0 := frozen_of_row w1 w.heap.size 0 _ _ hX
  have z1 := frozen_of_row w1 w.heap.size 1 _ _ hX
  have z2 := frozen_of_row w1 w.heap.size 2 _ _ hX
  have HXX : Hid _ := hX
  have HB1 : Hid (Below w.heap.size w w1) := (below_al w _).trans (hb1.mono (by simp))
  clear hX hb1
  go_wp2_with fail
  obtain ⟨q0, q1, q2, q3⟩ := res_three w w1 _ _ _ (.int .i64 0) (.int .i64 0) (.int .i64 0) _ HXX.out HB1.out
  exact bodyPost_ret (v := .tuple #[.agg #[.int .i64 0, .int .i64 0, .int .i64 0], .int .i64 er]) (by simp [results, Tryz.results26, go_sem, q0, q1, q2]) rfl ⟨rfl, q3 _⟩
set_option maxHeartbeats 2000000 in
theorem rRunA (s : ByteArray) (bud hp : Int) (cd : Cd) (w : World) (hs : s.size ≤ maxLen) (hrd : rdC s = some cd) (hb : rnBad bud hp) :
    Calls Tryz.prog 57 #[.string s, .int .i64 bud, .int .i64 hp] w fun e w' => e = .returned (.tuple #[.agg #[.int .i64 0, .int .i64 0, .int .i64 0], .int .i64 8]) ∧ Below w.heap.size w w' := by
  have HC : Hid _ := rRead s (w.alloc (Obj.cells #[.int .i64 0, .int .i64 0, .int .i64 0] 31)) hs
  rw [rdE_some hrd] at HC
  generalize rdL s = rl at *
  have HRD : Hid (rdC s = some cd) := hrd
  clear hrd
  unfold rnBad at hb
  go_enter Tryz.func57, Tryz.ntmps57
  go_wp2_with fail
  refine (show Calls _ _ _ _ _ from HC.out).mono ?_
  rintro e w1 ⟨mn, fo, fl, fc, rfl, hb1, hz, _⟩
  
  clear HC
  have hX := (hb1.block w.heap.size (by simp)).trans (heap_alloc_new w _)
  have hwl : w.heap.size < w1.heap.size := (Array.getElem?_eq_some_iff.1 hX).1
  have r0 := cell_of_row w1 w.heap.size 0 _ _ _ hX
  have r1 := cell_of_row w1 w.heap.size 1 _ _ _ hX
  have r2 := cell_of_row w1 w.heap.size 2 _ _ _ hX
  simp only [List.getElem?_toArray, List.getElem?_cons_succ, List.getElem?_cons_zero] at r0 r1 r2
  have z0 := frozen_of_row w1 w.heap.size 0 _ _ hX
  have z1 := frozen_of_row w1 w.heap.size 1 _ _ hX
  have z2 := frozen_of_row w1 w.heap.size 2 _ _ hX
  have HXX : Hid _ := hX
  have HB1 : Hid (Below w.heap.size w w1) := (below_al w _).trans (hb1.mono (by simp))
  clear hX hb1
  by_cases h1 : bud < 0
  · have hd1 : decide (bud < 0) = true := decide_eq_true h1
    go_wp2_with fail
    obtain ⟨q0, q1, q2, q3⟩ := res_three w w1 _ _ _ (.int .i64 0) (.int .i64 0) (.int .i64 0) _ HXX.out HB1.out
    exact bodyPost_ret (v := .tuple #[.agg #[.int .i64 0, .int .i64 0, .int .i64 0], .int .i64 8]) (by simp [results, Tryz.results57, go_sem, q0, q1, q2]) rfl ⟨rfl, q3 _⟩
  · have hd1 : decide (bud < 0) = false := decide_eq_false h1
    by_cases h2 : 2000 < bud
    · have hd2 : decide (2000 < bud) = true := decide_eq_true h2
      go_wp2_with fail
      obtain ⟨q0, q1, q2, q3⟩ := res_three w w1 _ _ _ (.int .i64 0) (.int .i64 0) (.int .i64 0) _ HXX.out HB1.out
      exact bodyPost_ret (v := .tuple #[.agg #[.int .i64 0, .int .i64 0, .int .i64 0], .int .i64 8]) (by simp [results, Tryz.results57, go_sem, q0, q1, q2]) rfl ⟨rfl, q3 _⟩
    · have hd2 : decide (2000 < bud) = false := decide_eq_false h2
      by_cases h3 : hp < 0
      · have hd3 : decide (hp < 0) = true := decide_eq_true h3
        go_wp2_with fail
        obtain ⟨q0, q1, q2, q3⟩ := res_three w w1 _ _ _ (.int .i64 0) (.int .i64 0) (.int .i64 0) _ HXX.out HB1.out
        exact bodyPost_ret (v := .tuple #[.agg #[.int .i64 0, .int .i64 0, .int .i64 0], .int .i64 8]) (by simp [results, Tryz.results57, go_sem, q0, q1, q2]) rfl ⟨rfl, q3 _⟩
      · have hd3 : decide (hp < 0) = false := decide_eq_false h3
        have hd4 : decide (24000 < hp) = true := decide_eq_true (by omega)
        go_wp2_with fail
        obtain ⟨q0, q1, q2, q3⟩ := res_three w w1 _ _ _ (.int .i64 0) (.int .i64 0) (.int .i64 0) _ HXX.out HB1.out
        exact bodyPost_ret (v := .tuple #[.agg #[.int .i64 0, .int .i64 0, .int .i64 0], .int .i64 8]) (by simp [results, Tryz.results57, go_sem, q0, q1, q2]) rfl ⟨rfl, q3 _⟩
set_option maxHeartbeats 2000000 in
theorem mRunA (s : ByteArray) (bud hp : Int) (cd : Cd) (w : World) (hs : s.size ≤ maxLen) (hrd : rdC s = some cd) (hb : rnBad bud hp) :
    Calls Tryz.prog 26 #[.string s, .int .i64 bud, .int .i64 hp] w fun e w' => e = .returned (.tuple #[.agg #[.int .i64 0, .int .i64 0, .int .i64 0], .int .i64 8]) ∧ Below w.heap.size w w' := by
  have HC : Hid _ := pRead s (w.alloc (Obj.cells #[.int .i64 0, .int .i64 0, .int .i64 0] 31)) hs
  rw [rdE_some hrd] at HC
  generalize rdL s = rl at *
  have HRD : Hid (rdC s = some cd) := hrd
  clear hrd
  unfold rnBad at hb
  go_enter Tryz.func26, Tryz.ntmps26
  go_wp2_with fail
  refine (show Calls _ _ _ _ _ from HC.out).mono ?_
  rintro e w1 ⟨mn, fv, rfl, hb1, hz, hall⟩
  obtain ⟨fo, fc, rfl, _, _, _⟩ := (hall _ HRD.out).2.1.rd
  clear hall
  clear HC
  have hX := (hb1.block w.heap.size (by simp)).trans (heap_alloc_new w _)
  have hwl : w.heap.size < w1.heap.size := (Array.getElem?_eq_some_iff.1 hX).1
  have r0 := cell_of_row w1 w.heap.size 0 _ _ _ hX
  have r1 := cell_of_row w1 w.heap.size 1 _ _ _ hX
  have r2 := cell_of_row w1 w.heap.size 2 _ _ _ hX
  simp only [List.getElem?_toArray, List.getElem?_cons_succ, List.getElem?_cons_zero] at r0 r1 r2
  have z0 := frozen_of_row w1 w.heap.size 0 _ _ hX
  have z1 := frozen_of_row w1 w.heap.size 1 _ _ hX
  have z2 := frozen_of_row w1 w.heap.size 2 _ _ hX
  have HXX : Hid _ := hX
  have HB1 : Hid (Below w.heap.size w w1) := (below_al w _).trans (hb1.mono (by simp))
  clear hX hb1
  by_cases h1 : bud < 0
  · have hd1 : decide (bud < 0) = true := decide_eq_true h1
    go_wp2_with fail
    obtain ⟨q0, q1, q2, q3⟩ := res_three w w1 _ _ _ (.int .i64 0) (.int .i64 0) (.int .i64 0) _ HXX.out HB1.out
    exact bodyPost_ret (v := .tuple #[.agg #[.int .i64 0, .int .i64 0, .int .i64 0], .int .i64 8]) (by simp [results, Tryz.results26, go_sem, q0, q1, q2]) rfl ⟨rfl, q3 _⟩
  · have hd1 : decide (bud < 0) = false := decide_eq_false h1
    by_cases h2 : 2000 < bud
    · have hd2 : decide (2000 < bud) = true := decide_eq_true h2
      go_wp2_with fail
      obtain ⟨q0, q1, q2, q3⟩ := res_three w w1 _ _ _ (.int .i64 0) (.int .i64 0) (.int .i64 0) _ HXX.out HB1.out
      exact bodyPost_ret (v := .tuple #[.agg #[.int .i64 0, .int .i64 0, .int .i64 0], .int .i64 8]) (by simp [results, Tryz.results26, go_sem, q0, q1, q2]) rfl ⟨rfl, q3 _⟩
    · have hd2 : decide (2000 < bud) = false := decide_eq_false h2
      by_cases h3 : hp < 0
      · have hd3 : decide (hp < 0) = true := decide_eq_true h3
        go_wp2_with fail
        obtain ⟨q0, q1, q2, q3⟩ := res_three w w1 _ _ _ (.int .i64 0) (.int .i64 0) (.int .i64 0) _ HXX.out HB1.out
        exact bodyPost_ret (v := .tuple #[.agg #[.int .i64 0, .int .i64 0, .int .i64 0], .int .i64 8]) (by simp [results, Tryz.results26, go_sem, q0, q1, q2]) rfl ⟨rfl, q3 _⟩
      · have hd3 : decide (hp < 0) = false := decide_eq_false h3
        have hd4 : decide (24000 < hp) = true := decide_eq_true (by omega)
        go_wp2_with fail
        obtain ⟨q0, q1, q2, q3⟩ := res_three w w1 _ _ _ (.int .i64 0) (.int .i64 0) (.int .i64 0) _ HXX.out HB1.out
        exact bodyPost_ret (v := .tuple #[.agg #[.int .i64 0, .int .i64 0, .int .i64 0], .int .i64 8]) (by simp [results, Tryz.results26, go_sem, q0, q1, q2]) rfl ⟨rfl, q3 _⟩

end Go.Proofs.YtnndoagpbcacdaaGreatDoor
namespace Go.Proofs.YtnndoagpbcacdaaGreatDoor
open Go.RowKit

/-! The reference: Run. -/
set_option maxRecDepth 100000 in
set_option maxHeartbeats 2000000 in
theorem rRunOk (s : ByteArray) (bud hp : Int) (cd : Cd) (w : World) (hs : s.size ≤ maxLen) (hrd : rdC s = some cd) (hb0 : 0 ≤ bud) (hb1 : bud ≤ 2000) (hh0 : 0 ≤ hp) (hh1 : hp ≤ 24000) :
    Calls Tryz.prog 57 #[.string s, .int .i64 bud, .int .i64 hp] w fun e w' => e = .returned (.tuple #[.agg #[.int .i64 (runI ⟨cd.fs, bud, hp⟩ cd.mn).out, .int .i64 (runI ⟨cd.fs, bud, hp⟩ cd.mn).val, .int .i64 (runI ⟨cd.fs, bud, hp⟩ cd.mn).stp], .int .i64 0]) ∧ Below w.heap.size w w' := by
  have hgood := rdC_good hrd
  obtain ⟨hmn, htg, _, _⟩ := tgo_good (bud := bud) (hp := hp) hgood
  have htp := tpg_good hgood
  obtain ⟨n, U, he, hg, hz, hne, r1, r2, r3⟩ := run_res ⟨cd.fs, bud, hp⟩ cd.mn hmn htg htp hb0 hb1
  rw [r1, r2, r3]
  obtain ⟨ra, hra⟩ : ∃ ra : Int, ra = (if U.out = 0 then (if (hdI U.cur).1 = 1 then 1 else 2) else U.out) := ⟨_, rfl⟩
  obtain ⟨rb, hrb⟩ : ∃ rb : Int, rb = (if U.out = 0 then (if (hdI U.cur).1 = 1 then (hdI U.cur).2 else 0) else 0) := ⟨_, rfl⟩
  obtain ⟨us, hus⟩ : ∃ us : Int, us = U.stp := ⟨_, rfl⟩
  rw [← hra, ← hrb, ← hus]
  have HRA : Hid _ := hra
  have HRB : Hid _ := hrb
  have HUS : Hid _ := hus
  clear hra hrb hus
  have HC : Hid _ := rRead s (w.alloc (Obj.cells #[.int .i64 0, .int .i64 0, .int .i64 0] 31)) hs
  rw [rdE_some hrd] at HC
  have HWT : Hid (∀ T g fv, WthC T g fv cd.mn ⟨cd.fs, bud, hp⟩ n) := fun T g fv => rWorth T g fv cd.mn ⟨cd.fs, bud, hp⟩ htg htp hb1 ⟨hh0, hh1⟩ n
  have HE : Hid _ := he
  have HG : Hid _ := hg
  have HZ : Hid _ := hz
  have HNE : Hid _ := hne
  have HRD : Hid _ := hrd
  generalize rdL s = rl at *
  clear r1 r2 r3 he hg hz hne hmn htg htp hgood hrd
  go_enter Tryz.func57, Tryz.ntmps57
  go_wp2_with fail
  refine (show Calls _ _ _ _ _ from HC.out).mono ?_
  rintro e w1 ⟨mn, fo, fl, fc, rfl, hb1', _, hall⟩
  clear HC
  obtain ⟨rfl, hfo⟩ := hall _ HRD.out
  have hX := (hb1'.block w.heap.size (by simp)).trans (heap_alloc_new w _)
  have hwl : w.heap.size < w1.heap.size := (Array.getElem?_eq_some_iff.1 hX).1
  have HXX : Hid _ := hX
  have HB1 : Hid (Below w.heap.size w w1) := (below_al w _).trans (hb1'.mono (by simp))
  have hfr := hfo.rd
  have hd1 : decide (bud < 0) = false := by simp; omega
  have hd2 : decide (2000 < bud) = false := by simp; omega
  have hd3 : decide (hp < 0) = false := by simp; omega
  have hd4 : decide (24000 < hp) = false := by simp; omega
  have HAL : Hid (Below w1.heap.size w1 (((w1.alloc (Obj.cells #[.int .i64 cd.mn, .slice fo fl fc] 57)).alloc (Obj.cells #[.int .i64 cd.mn, .slice fo fl fc, .int .i64 bud, .int .i64 hp, .int .i64 0, .slice none 0 0, .slice none 0 0, .slice none 0 0, .int .i64 0] 159)).alloc (Obj.cells #[.int .i64 3, .int .i64 cd.mn] 75))) := (below_al2 _ _ _).alloc (by simp; omega) _
  have hblk : (((w1.alloc (Obj.cells #[.int .i64 cd.mn, .slice fo fl fc] 57)).alloc (Obj.cells #[.int .i64 cd.mn, .slice fo fl fc, .int .i64 bud, .int .i64 hp, .int .i64 0, .slice none 0 0, .slice none 0 0, .slice none 0 0, .int .i64 0] 159)).alloc (Obj.cells #[.int .i64 3, .int .i64 cd.mn] 75)).heap[w1.heap.size + 1]? = some (.cells #[.int .i64 cd.mn, .slice fo fl fc, .int .i64 bud, .int .i64 hp, .int .i64 0, .slice none 0 0, .slice none 0 0, .slice none 0 0, .int .i64 0] 159 (0, 0)) := by
    refine (Below.heap_alloc _ _ _ (by simp)).trans ?_
    have := heap_alloc_new (w1.alloc (Obj.cells #[.int .i64 cd.mn, .slice fo fl fc] 57)) (Obj.cells #[.int .i64 cd.mn, .slice fo fl fc, .int .i64 bud, .int .i64 hp, .int .i64 0, .slice none 0 0, .slice none 0 0, .slice none 0 0, .int .i64 0] 159)
    rw [World.size_alloc] at this
    exact this
  have HRX : Hid (Rd (((w1.alloc (Obj.cells #[.int .i64 cd.mn, .slice fo fl fc] 57)).alloc (Obj.cells #[.int .i64 cd.mn, .slice fo fl fc, .int .i64 bud, .int .i64 hp, .int .i64 0, .slice none 0 0, .slice none 0 0, .slice none 0 0, .int .i64 0] 159)).alloc (Obj.cells #[.int .i64 3, .int .i64 cd.mn] 75)) w1.heap.size (.slice (some ⟨w1.heap.size + 1 + 1, 0, none⟩) 1 1) [(3, cd.mn)]) := by
    have := World.ownsRow_lit ((w1.alloc (Obj.cells #[.int .i64 cd.mn, .slice fo fl fc] 57)).alloc (Obj.cells #[.int .i64 cd.mn, .slice fo fl fc, .int .i64 bud, .int .i64 hp, .int .i64 0, .slice none 0 0, .slice none 0 0, .slice none 0 0, .int .i64 0] 159)) #[.int .i64 3, .int .i64 cd.mn] 1 (e := 75) (base := 0) (size := 2) (Nat.zero_le _) (by unfold maxLen; omega) rfl
    rw [World.size_alloc, World.size_alloc] at this
    exact Rd.own (l := [(3, cd.mn)]) this
  have HCW : Hid _ := HWT.out w1.heap.size (w1.heap.size + 1) (.slice fo fl fc) (initI cd.mn) U _ _ HE.out HG.out HZ.out ⟨_, _, _, [], [], hblk, by omega, hfr.keep HAL.out, World.ownsRow_nil _ _ _ _, rfl, fun j v n hj => by simp at hj, World.ownsRow_nil _ _ _ _, fun j v n hj => by simp at hj, World.ownsRow_nil _ _ _ _⟩ HRX.out
  clear hX hb1' hall hfo hfr hblk HRX HE HG HZ HWT
  go_wp2_with fail
  refine (show Calls _ _ _ _ _ from HCW.out).mono ?_
  rintro e w4 ⟨v, rfl, hf4, hw4, l, hl4, _, hlu⟩
  clear HCW
  have HF4 : Hid (Fx w1.heap.size w1 w4) := (Fx.of HAL.out (Nat.le_refl _)).trans hf4
  have HX4 : Hid _ := (HF4.out.bel.block w.heap.size hwl).trans HXX.out
  have HB4 : Hid (Below w.heap.size w w4) := HB1.out.trans (HF4.out.bel.mono (by omega))
  obtain ⟨av, bv, ov, vs, bs, hw4⟩ := hw4
  obtain ⟨_, _, _, _, c4, _, _, _, c8⟩ := hw4.cells
  have hg4 := hw4.lt
  have HR : Hid _ := rResult U.out U.stp l w1.heap.size v w4.drew (hl4.old (Below.drew (Below.refl _ _))) (fun h => by rw [hlu h]; exact HNE.out h)
  have e1 : (if U.out = 0 then (if (hdI l).1 = 1 then 1 else 2) else U.out : Int) = (if U.out = 0 then (if (hdI U.cur).1 = 1 then 1 else 2) else U.out) := by
    by_cases h : U.out = 0
    · rw [hlu h]
    · rw [if_neg h, if_neg h]
  have e2 : (if U.out = 0 then (if (hdI l).1 = 1 then (hdI l).2 else 0) else 0 : Int) = (if U.out = 0 then (if (hdI U.cur).1 = 1 then (hdI U.cur).2 else 0) else 0) := by
    by_cases h : U.out = 0
    · rw [hlu h]
    · rw [if_neg h, if_neg h]
  rw [e1, e2, ← HRA.out, ← HRB.out, ← HUS.out] at HR
  rw [← HUS.out] at c4
  obtain ⟨vo, vc, rfl⟩ := hl4.form
  clear e1 e2 hl4 hlu hw4 hf4 HNE
  clear HRA HRB HUS
  generalize U.out = uo at *
  generalize l.length = ll at *
  have hw4l : w.heap.size < w4.heap.size := (Array.getElem?_eq_some_iff.1 HX4.out).1
  go_wp2_with fail
  go_region_with (go_at_call 95; go_must (refine (show Calls _ _ _ _ _ from HR.out).mono ?_); rintro e w5 ⟨rfl, hb5⟩; have HX5 : Hid (w5.heap[w.heap.size]? = some (Obj.cells #[.int .i64 0, .int .i64 0, .int .i64 0] 31)) := (hb5.block w.heap.size hw4l).trans HX4.out; have HB5 : Hid (Below w.heap.size w w5) := HB4.out.trans ((Below.drew (Below.refl _ _)).trans (hb5.mono (by show w.heap.size ≤ w4.heap.size; omega))); clear hb5; obtain ⟨r0, r1, r2, z0, z1, z2, hl5⟩ := res_facts HX5.out)
  all_goals
    go_wp2_with fail
    obtain ⟨q0, q1, q2⟩ := cells_three w5 w.heap.size _ _ _ _ (.int .i64 ra) (.int .i64 rb) (.int .i64 us) HX5.out
    exact bodyPost_ret (v := .tuple #[.agg #[.int .i64 ra, .int .i64 rb, .int .i64 us], .int .i64 0]) (by simp [results, Tryz.results57, go_sem, q0, q1, q2]) rfl ⟨rfl, ((HB5.out.setCell (by exact Nat.le_refl _) _).setCell (by exact Nat.le_refl _) _).setCell (by exact Nat.le_refl _) _⟩

end Go.Proofs.YtnndoagpbcacdaaGreatDoor
