import Derived.Test.YtnndoagpbcacdaaDoorX7
namespace Go.Proofs.YtnndoagpbcacdaaDoor
open Go.RowKit

/-! Read, as it answers. -/
def rdC (s : ByteArray) : Option Cd := if 30000 < s.size then none else (codeR s).1
def rdL (s : ByteArray) : Int := if 30000 < s.size then 0 else if (codeR s).1.isSome then 0 else (codeR s).2
def rdE (s : ByteArray) : Int := if 30000 < s.size then 1 else if (codeR s).1.isSome then 0 else 7

set_option maxRecDepth 100000 in
set_option maxHeartbeats 8000000 in
theorem pRead (s : ByteArray) (w : World) (hs : s.size ≤ maxLen) :
    Calls Tryd.prog 28 #[.string s] w fun e w' => ∃ mn fv, e = .returned (.tuple #[.agg #[.int .i64 mn, fv], .int .i64 (rdL s), .int .i64 (rdE s)]) ∧ Below w.heap.size w w' ∧ (rdC s = none → mn = 0 ∧ fv = .slice none 0 0) ∧ ∀ c, rdC s = some c → mn = c.mn ∧ FunsOw w' fv c.fs ∧ FunsN w' w.heap.size fv c.fs := by
  unfold maxLen at hs
  by_cases hbig : 30000 < s.size
  · have HV : Hid (rdL s = 0 ∧ rdE s = 1 ∧ rdC s = none) := by simp [Hid, rdL, rdE, rdC, hbig]
    rw [HV.out.1, HV.out.2.1, HV.out.2.2]
    go_enter Tryd.func28, Tryd.ntmps28
    go_wp2_with fail
    exact bodyPost_ret (v := .tuple #[.agg #[.int .i64 0, .slice none 0 0], .int .i64 0, .int .i64 1]) (by simp [results, Tryd.results28, go_sem]) rfl ⟨0, _, rfl, (Below.refl _ _).alloc (Nat.le_refl _) _, fun _ => ⟨rfl, rfl⟩, fun c hc => by cases hc⟩
  have hs3 : s.size ≤ 30000 := by omega
  have HV : Hid (rdL s = (if (codeR s).1.isSome then 0 else (codeR s).2 : Int) ∧ rdE s = (if (codeR s).1.isSome then 0 else 7) ∧ rdC s = (codeR s).1) := by simp [Hid, rdL, rdE, rdC, hbig]
  have hB : (((w.alloc (Obj.cells #[.int .i64 0, .slice none 0 0] 36)).alloc (Obj.cells #[.string s, .int .i64 0] 85))).heap[w.heap.size + 1]? = some (.cells #[.string s, .int .i64 0] 85 (0, 0)) := by
    have := heap_alloc_new (w.alloc (Obj.cells #[.int .i64 0, .slice none 0 0] 36)) (Obj.cells #[.string s, .int .i64 0] 85)
    simpa using this
  have HC : Hid _ := pReadCode (w.heap.size + 1) s ((w.alloc (Obj.cells #[.int .i64 0, .slice none 0 0] 36)).alloc (Obj.cells #[.string s, .int .i64 0] 85)) hB hs3
  clear hB
  have hA : Below w.heap.size w ((w.alloc (Obj.cells #[.int .i64 0, .slice none 0 0] 36)).alloc (Obj.cells #[.string s, .int .i64 0] 85)) := ((Below.refl _ _).alloc (Nat.le_refl _) _).alloc (by simp) _
  have hR0 : (((w.alloc (Obj.cells #[.int .i64 0, .slice none 0 0] 36)).alloc (Obj.cells #[.string s, .int .i64 0] 85))).heap[w.heap.size]? = some (.cells #[.int .i64 0, .slice none 0 0] 36 (0, 0)) := (Below.heap_alloc _ _ _ (by simp)).trans (heap_alloc_new w _)
  rw [HV.out.1, HV.out.2.1, HV.out.2.2]
  clear HV hs hbig
  generalize codeR s = X at *
  obtain ⟨o, lnn⟩ := X
  simp only at HC ⊢
  cases o with
  | none =>
    simp only [Option.isSome_none, Bool.false_eq_true, if_false] at HC ⊢
    go_enter Tryd.func28, Tryd.ntmps28
    go_wp2_with fail
    refine (show Calls _ _ _ _ _ from HC.out).mono ?_
    rintro e w1 ⟨mn, fv, rfl, hbut, ⟨r2, hrd⟩, ⟨fo, FL, fcap, rfl⟩, _⟩
    clear HC
    have hR1 := hbut.keep hR0 (by omega)
    obtain ⟨r0, r1, _, _⟩ := two_cells hrd
    have hRl : w.heap.size < w1.heap.size := (Array.getElem?_eq_some_iff.1 hR1).1
    have hRb : w.heap.size + 1 < w1.heap.size := (Array.getElem?_eq_some_iff.1 hrd).1
    obtain ⟨x0, x1, f0, f1⟩ := two_cells hR1
    have hs4 : ((w1.setCell ⟨w.heap.size, 0, none⟩ (.int .i64 0)).setCell ⟨w.heap.size, 1, none⟩ (.slice none 0 0)).heap.size = w1.heap.size := by simp [World.setCell]
    have hR4 := (Below.heap_alloc ((w1.setCell ⟨w.heap.size, 0, none⟩ (.int .i64 0)).setCell ⟨w.heap.size, 1, none⟩ (.slice none 0 0)) (Obj.cells #[.int .i64 mn, .slice fo FL fcap] 36) w.heap.size (by rw [hs4]; omega)).trans (blk_set _ (blk_set _ hR1))
    have HQ0 : Hid _ := cell_of_row _ _ 0 _ _ _ hR4
    have HQ1 : Hid _ := cell_of_row _ _ 1 _ _ _ hR4
    have HBF : Hid (Below w.heap.size w (((w1.setCell ⟨w.heap.size, 0, none⟩ (.int .i64 0)).setCell ⟨w.heap.size, 1, none⟩ (.slice none 0 0)).alloc (Obj.cells #[.int .i64 mn, .slice fo FL fcap] 36)).drew) := Below.drew ((((hA.trans (hbut.below (by omega))).setCell (by exact Nat.le_refl _) _).setCell (by exact Nat.le_refl _) _).alloc (by rw [hs4]; omega) _)
    clear hR4
    go_wp2_with fail
    go_region
    all_goals
      go_wp2_with fail
      have q0 := HQ0.out
      have q1 := HQ1.out
      exact bodyPost_ret (v := .tuple #[.agg #[.int .i64 0, .slice none 0 0], .int .i64 lnn, .int .i64 7]) (by simp [results, Tryd.results28, go_sem, q0, q1]) rfl ⟨0, _, rfl, HBF.out, fun _ => ⟨rfl, rfl⟩, fun c hc => by cases hc⟩
  | some c =>
    simp only [Option.isSome_some, if_true] at HC ⊢
    go_enter Tryd.func28, Tryd.ntmps28
    go_wp2_with fail
    refine (show Calls _ _ _ _ _ from HC.out).mono ?_
    rintro e w1 ⟨mn, fv, rfl, hbut, ⟨r2, hrd⟩, _, hall⟩
    clear HC
    obtain ⟨hmn, hfr, hfn⟩ := hall c rfl
    have HFN : Hid _ := hfn
    clear hfn
    clear hall
    have HFR : Hid _ := hfr
    have HMN : Hid (mn = c.mn) := hmn
    obtain ⟨fo, fcap, hfv⟩ : ∃ a c2, fv = .slice a c.fs.length c2 := by obtain ⟨ys, h1, _⟩ := hfr; exact own_form h1
    subst hfv
    clear hmn hfr
    have hR1 := hbut.keep hR0 (by omega)
    have hRl : w.heap.size < w1.heap.size := (Array.getElem?_eq_some_iff.1 hR1).1
    obtain ⟨x0, x1, f0, f1⟩ := two_cells hR1
    have hs4 : ((w1.setCell ⟨w.heap.size, 0, none⟩ (.int .i64 mn)).setCell ⟨w.heap.size, 1, none⟩ (.slice fo c.fs.length fcap)).heap.size = w1.heap.size := by simp [World.setCell]
    have hR4 := (Below.heap_alloc ((w1.setCell ⟨w.heap.size, 0, none⟩ (.int .i64 mn)).setCell ⟨w.heap.size, 1, none⟩ (.slice fo c.fs.length fcap)) (Obj.cells #[.int .i64 mn, .slice fo c.fs.length fcap] 36) w.heap.size (by rw [hs4]; omega)).trans (blk_set _ (blk_set _ hR1))
    have HQ0 : Hid _ := cell_of_row _ _ 0 _ _ _ hR4
    have HQ1 : Hid _ := cell_of_row _ _ 1 _ _ _ hR4
    have HBF : Hid (Below w.heap.size w (((w1.setCell ⟨w.heap.size, 0, none⟩ (.int .i64 mn)).setCell ⟨w.heap.size, 1, none⟩ (.slice fo c.fs.length fcap)).alloc (Obj.cells #[.int .i64 mn, .slice fo c.fs.length fcap] 36))) := ((((hA.trans (hbut.below (by omega))).setCell (by exact Nat.le_refl _) _).setCell (by exact Nat.le_refl _) _).alloc (by rw [hs4]; omega) _)
    clear hR4
    go_wp2_with fail
    have q0 := HQ0.out
    have q1 := HQ1.out
    refine bodyPost_ret (v := .tuple #[.agg #[.int .i64 mn, .slice fo c.fs.length fcap], .int .i64 0, .int .i64 0]) (by simp [results, Tryd.results28, go_sem, q0, q1]) rfl ⟨mn, _, rfl, HBF.out, (fun h => by cases h), fun c' hc => ?_⟩
    cases hc
    exact ⟨HMN.out, ((FunsOw.set HFR.out hR1).set (blk_set _ hR1)).old ((Below.refl _ _).alloc (Nat.le_refl _) _), (((FunsN.set HFN.out hR1).set (blk_set _ hR1)).old ((Below.refl _ _).alloc (Nat.le_refl _) _)).base (by simp; omega)⟩

end Go.Proofs.YtnndoagpbcacdaaDoor
