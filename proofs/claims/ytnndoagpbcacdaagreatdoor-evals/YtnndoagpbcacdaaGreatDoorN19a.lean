import Derived.Test.YtnndoagpbcacdaaGreatDoorMN2
import Derived.Test.YtnndoagpbcacdaaGreatDoorMX5
import Derived.Test.YtnndoagpbcacdaaGreatDoorMM13
namespace Go.Proofs.YtnndoagpbcacdaaGreatDoor
open Go.RowKit

/-! Run, where there is nothing to run. -/
def rnBad (bud hp : Int) : Prop := bud < 0 ∨ 2000 < bud ∨ hp < 0 ∨ 24000 < hp
theorem rdE_none {s : ByteArray} (he : rdC s = none) : rdE s ≠ 0 := by
  unfold rdC at he
  unfold rdE
  split at he
  · rename_i h; rw [if_pos h]; decide
  · rename_i h; rw [if_neg h, he]; decide
theorem rdE_some {s : ByteArray} {c : Cd} (he : rdC s = some c) : rdE s = 0 := by
  unfold rdC at he
  unfold rdE
  split at he
  · simp at he
  · rename_i h; rw [if_neg h, he]; rfl
theorem res_facts {w : World} {b : Nat} {a0 a1 a2 : Value} {t : TypeId} (h : w.heap[b]? = some (.cells #[a0, a1, a2] t (0, 0))) : w.cell? ⟨b, 0, none⟩ = some a0 ∧ w.cell? ⟨b, 1, none⟩ = some a1 ∧ w.cell? ⟨b, 2, none⟩ = some a2 ∧ w.frozen? ⟨b, 0, none⟩ = false ∧ w.frozen? ⟨b, 1, none⟩ = false ∧ w.frozen? ⟨b, 2, none⟩ = false ∧ b < w.heap.size :=
  ⟨by rw [cell_of_row _ _ 0 _ _ _ h]; rfl, by rw [cell_of_row _ _ 1 _ _ _ h]; rfl, by rw [cell_of_row _ _ 2 _ _ _ h]; rfl, frozen_of_row _ _ _ _ _ h, frozen_of_row _ _ _ _ _ h, frozen_of_row _ _ _ _ _ h, (Array.getElem?_eq_some_iff.1 h).1⟩
theorem res_three (w w1 : World) (a0 a1 a2 x0 x1 x2 : Value) (t : TypeId) (hX : w1.heap[w.heap.size]? = some (.cells #[a0, a1, a2] t (0, 0))) (hB : Below w.heap.size w w1) :
    (∀ o, ((((w1.setCell ⟨w.heap.size, 0, none⟩ x0).setCell ⟨w.heap.size, 1, none⟩ x1).setCell ⟨w.heap.size, 2, none⟩ x2).alloc o).cell? ⟨w.heap.size, 0, none⟩ = some x0) ∧
    (∀ o, ((((w1.setCell ⟨w.heap.size, 0, none⟩ x0).setCell ⟨w.heap.size, 1, none⟩ x1).setCell ⟨w.heap.size, 2, none⟩ x2).alloc o).cell? ⟨w.heap.size, 1, none⟩ = some x1) ∧
    (∀ o, ((((w1.setCell ⟨w.heap.size, 0, none⟩ x0).setCell ⟨w.heap.size, 1, none⟩ x1).setCell ⟨w.heap.size, 2, none⟩ x2).alloc o).cell? ⟨w.heap.size, 2, none⟩ = some x2) ∧
    ∀ o, Below w.heap.size w ((((w1.setCell ⟨w.heap.size, 0, none⟩ x0).setCell ⟨w.heap.size, 1, none⟩ x1).setCell ⟨w.heap.size, 2, none⟩ x2).alloc o) := by
  have hl : w.heap.size < w1.heap.size := (Array.getElem?_eq_some_iff.1 hX).1
  have h3 := blk_set (i := 2) x2 (blk_set (i := 1) x1 (blk_set (i := 0) x0 hX))
  have hsz : (((w1.setCell ⟨w.heap.size, 0, none⟩ x0).setCell ⟨w.heap.size, 1, none⟩ x1).setCell ⟨w.heap.size, 2, none⟩ x2).heap.size = w1.heap.size := by rw [sz_setc, sz_setc, sz_setc]
  have hb : Below w.heap.size w (((w1.setCell ⟨w.heap.size, 0, none⟩ x0).setCell ⟨w.heap.size, 1, none⟩ x1).setCell ⟨w.heap.size, 2, none⟩ x2) := ((hB.setCell (Nat.le_refl _) _).setCell (Nat.le_refl _) _).setCell (Nat.le_refl _) _
  refine ⟨fun o => ?_, fun o => ?_, fun o => ?_, fun o => hb.alloc (by rw [hsz]; omega) o⟩
  all_goals
    have h4 := (Below.heap_alloc (((w1.setCell ⟨w.heap.size, 0, none⟩ x0).setCell ⟨w.heap.size, 1, none⟩ x1).setCell ⟨w.heap.size, 2, none⟩ x2) o w.heap.size (by rw [hsz]; exact hl)).trans h3
    rw [cell_of_row _ _ _ _ _ _ h4]
    rfl
set_option maxHeartbeats 1000000 in
theorem mRunE (s : ByteArray) (bud hp : Int) (w : World) (hs : s.size ≤ maxLen) (he : rdC s = none) :
    Calls Tryz.prog 26 #[.string s, .int .i64 bud, .int .i64 hp] w fun e w' => e = .returned (.tuple #[.agg #[.int .i64 0, .int .i64 0, .int .i64 0], .int .i64 (rdE s)]) ∧ Below w.heap.size w w' := by
  have hne := rdE_none he
  have HC : Hid _ := pRead s (w.alloc (Obj.cells #[.int .i64 0, .int .i64 0, .int .i64 0] 31)) hs
  generalize rdE s = er at *
  generalize rdL s = rl at *
  have hne2 : (er == 0) = false := by simpa using hne
  have HN : Hid (rdC s = none) := he
  clear he
  go_enter Tryz.func26, Tryz.ntmps26
  go_wp2_with fail
  refine (show Calls _ _ _ _ _ from HC.out).mono ?_
  rintro e w1 ⟨mn, fv, rfl, hb1, hz, _⟩
  obtain ⟨rfl, rfl⟩ := hz HN.out
  clear HC
  have hX := (hb1.block w.heap.size (by simp)).trans (heap_alloc_new w _)
  have hwl : w.heap.size < w1.heap.size := (Array.getElem?_eq_some_iff.1 hX).1
  have r0 := cell_of_row w1 w.heap.size 0 _ _ _ hX
  have r1 := cell_of_row w1 w.heap.size 1 _ _ _ hX
  have r2 := cell_of_row w1 w.heap.size 2 _ _ _ hX
  simp only [List.getElem?_toArray, List.getElem?_cons_succ, List.getElem?_cons_zero] at r0 r1 r2
  have z0 := frozen_of_row w1 w.heap.size 0 _ _ hX
  have z1 := frozen_of_row w1 w.heap.size 1 _ _ hX
  have z2 := frozen_of_row w1 w.heap.size 2 _ _ hX
  have HXX : Hid _ := hX
  have HB1 : Hid (Below w.heap.size w w1) := (below_al w _).trans (hb1.mono (by simp))
  clear hX hb1
  go_wp2_with fail
  obtain ⟨q0, q1, q2, q3⟩ := res_three w w1 _ _ _ (.int .i64 0) (.int .i64 0) (.int .i64 0) _ HXX.out HB1.out
  exact bodyPost_ret (v := .tuple #[.agg #[.int .i64 0, .int .i64 0, .int .i64 0], .int .i64 er]) (by simp [results, Tryz.results26, go_sem, q0, q1, q2]) rfl ⟨rfl, q3 _⟩
set_option maxHeartbeats 2000000 in
theorem mRunA (s : ByteArray) (bud hp : Int) (cd : Cd) (w : World) (hs : s.size ≤ maxLen) (hrd : rdC s = some cd) (hb : rnBad bud hp) :
    Calls Tryz.prog 26 #[.string s, .int .i64 bud, .int .i64 hp] w fun e w' => e = .returned (.tuple #[.agg #[.int .i64 0, .int .i64 0, .int .i64 0], .int .i64 8]) ∧ Below w.heap.size w w' := by
  have HC : Hid _ := pRead s (w.alloc (Obj.cells #[.int .i64 0, .int .i64 0, .int .i64 0] 31)) hs
  rw [rdE_some hrd] at HC
  generalize rdL s = rl at *
  have HRD : Hid (rdC s = some cd) := hrd
  clear hrd
  unfold rnBad at hb
  go_enter Tryz.func26, Tryz.ntmps26
  go_wp2_with fail
  refine (show Calls _ _ _ _ _ from HC.out).mono ?_
  rintro e w1 ⟨mn, fv, rfl, hb1, hz, hall⟩
  obtain ⟨fo, fc, rfl, _, _, _⟩ := (hall _ HRD.out).2.1.rd
  clear hall
  clear HC
  have hX := (hb1.block w.heap.size (by simp)).trans (heap_alloc_new w _)
  have hwl : w.heap.size < w1.heap.size := (Array.getElem?_eq_some_iff.1 hX).1
  have r0 := cell_of_row w1 w.heap.size 0 _ _ _ hX
  have r1 := cell_of_row w1 w.heap.size 1 _ _ _ hX
  have r2 := cell_of_row w1 w.heap.size 2 _ _ _ hX
  simp only [List.getElem?_toArray, List.getElem?_cons_succ, List.getElem?_cons_zero] at r0 r1 r2
  have z0 := frozen_of_row w1 w.heap.size 0 _ _ hX
  have z1 := frozen_of_row w1 w.heap.size 1 _ _ hX
  have z2 := frozen_of_row w1 w.heap.size 2 _ _ hX
  have HXX : Hid _ := hX
  have HB1 : Hid (Below w.heap.size w w1) := (below_al w _).trans (hb1.mono (by simp))
  clear hX hb1
  by_cases h1 : bud < 0
  · have hd1 : decide (bud < 0) = true := decide_eq_true h1
    go_wp2_with fail
    obtain ⟨q0, q1, q2, q3⟩ := res_three w w1 _ _ _ (.int .i64 0) (.int .i64 0) (.int .i64 0) _ HXX.out HB1.out
    exact bodyPost_ret (v := .tuple #[.agg #[.int .i64 0, .int .i64 0, .int .i64 0], .int .i64 8]) (by simp [results, Tryz.results26, go_sem, q0, q1, q2]) rfl ⟨rfl, q3 _⟩
  · have hd1 : decide (bud < 0) = false := decide_eq_false h1
    by_cases h2 : 2000 < bud
    · have hd2 : decide (2000 < bud) = true := decide_eq_true h2
      go_wp2_with fail
      obtain ⟨q0, q1, q2, q3⟩ := res_three w w1 _ _ _ (.int .i64 0) (.int .i64 0) (.int .i64 0) _ HXX.out HB1.out
      exact bodyPost_ret (v := .tuple #[.agg #[.int .i64 0, .int .i64 0, .int .i64 0], .int .i64 8]) (by simp [results, Tryz.results26, go_sem, q0, q1, q2]) rfl ⟨rfl, q3 _⟩
    · have hd2 : decide (2000 < bud) = false := decide_eq_false h2
      by_cases h3 : hp < 0
      · have hd3 : decide (hp < 0) = true := decide_eq_true h3
        go_wp2_with fail
        obtain ⟨q0, q1, q2, q3⟩ := res_three w w1 _ _ _ (.int .i64 0) (.int .i64 0) (.int .i64 0) _ HXX.out HB1.out
        exact bodyPost_ret (v := .tuple #[.agg #[.int .i64 0, .int .i64 0, .int .i64 0], .int .i64 8]) (by simp [results, Tryz.results26, go_sem, q0, q1, q2]) rfl ⟨rfl, q3 _⟩
      · have hd3 : decide (hp < 0) = false := decide_eq_false h3
        have hd4 : decide (24000 < hp) = true := decide_eq_true (by omega)
        go_wp2_with fail
        obtain ⟨q0, q1, q2, q3⟩ := res_three w w1 _ _ _ (.int .i64 0) (.int .i64 0) (.int .i64 0) _ HXX.out HB1.out
        exact bodyPost_ret (v := .tuple #[.agg #[.int .i64 0, .int .i64 0, .int .i64 0], .int .i64 8]) (by simp [results, Tryz.results26, go_sem, q0, q1, q2]) rfl ⟨rfl, q3 _⟩

end Go.Proofs.YtnndoagpbcacdaaGreatDoor
