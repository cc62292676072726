import Derived.Test.YtnndoagpbcacdaaGreatDoorMX6
import Derived.Test.YtnndoagpbcacdaaGreatDoorMW5
namespace Go.Proofs.YtnndoagpbcacdaaGreatDoor
open Go.RowKit

/-! Read, as it answers. -/
def rdC (s : ByteArray) : Option Cd := if 30000 < s.size then none else (codeR s).1
def rdL (s : ByteArray) : Int := if 30000 < s.size then 0 else if (codeR s).1.isSome then 0 else (codeR s).2
def rdE (s : ByteArray) : Int := if 30000 < s.size then 1 else if (codeR s).1.isSome then 0 else 7

set_option maxRecDepth 100000 in
set_option maxHeartbeats 8000000 in
theorem pRead (s : ByteArray) (w : World) (hs : s.size ≤ maxLen) :
    Calls Tryz.prog 41 #[.string s] w fun e w' => ∃ mn fv, e = .returned (.tuple #[.agg #[.int .i64 mn, fv], .int .i64 (rdL s), .int .i64 (rdE s)]) ∧ Below w.heap.size w w' ∧ (rdC s = none → mn = 0 ∧ fv = .slice none 0 0) ∧ ∀ c, rdC s = some c → mn = c.mn ∧ FunsOw w' fv c.fs ∧ FunsN w' w.heap.size fv c.fs := by
  unfold maxLen at hs
  by_cases hbig : 30000 < s.size
  · have HV : Hid (rdL s = 0 ∧ rdE s = 1 ∧ rdC s = none) := by simp [Hid, rdL, rdE, rdC, hbig]
    rw [HV.out.1, HV.out.2.1, HV.out.2.2]
    go_enter Tryz.func41, Tryz.ntmps41
    go_wp2_with fail
    exact bodyPost_ret (v := .tuple #[.agg #[.int .i64 0, .slice none 0 0], .int .i64 0, .int .i64 1]) (by simp [results, Tryz.results41, go_sem]) rfl ⟨0, _, rfl, (Below.refl _ _).alloc (Nat.le_refl _) _, fun _ => ⟨rfl, rfl⟩, fun c hc => by cases hc⟩
  have hs3 : s.size ≤ 30000 := by omega
  have HV : Hid (rdL s = (if (codeR s).1.isSome then 0 else (codeR s).2 : Int) ∧ rdE s = (if (codeR s).1.isSome then 0 else 7) ∧ rdC s = (codeR s).1) := by simp [Hid, rdL, rdE, rdC, hbig]
  have hB : (((w.alloc (Obj.cells #[.int .i64 0, .slice none 0 0] 57)).alloc (Obj.cells #[.string s, .int .i64 0] 128))).heap[w.heap.size + 1]? = some (.cells #[.string s, .int .i64 0] 128 (0, 0)) := by
    have := heap_alloc_new (w.alloc (Obj.cells #[.int .i64 0, .slice none 0 0] 57)) (Obj.cells #[.string s, .int .i64 0] 128)
    simpa using this
  have HC : Hid _ := pReadCode (w.heap.size + 1) s ((w.alloc (Obj.cells #[.int .i64 0, .slice none 0 0] 57)).alloc (Obj.cells #[.string s, .int .i64 0] 128)) hB hs3
  clear hB
  have hA : Below w.heap.size w ((w.alloc (Obj.cells #[.int .i64 0, .slice none 0 0] 57)).alloc (Obj.cells #[.string s, .int .i64 0] 128)) := ((Below.refl _ _).alloc (Nat.le_refl _) _).alloc (by simp) _
  have hR0 : (((w.alloc (Obj.cells #[.int .i64 0, .slice none 0 0] 57)).alloc (Obj.cells #[.string s, .int .i64 0] 128))).heap[w.heap.size]? = some (.cells #[.int .i64 0, .slice none 0 0] 57 (0, 0)) := (Below.heap_alloc _ _ _ (by simp)).trans (heap_alloc_new w _)
  rw [HV.out.1, HV.out.2.1, HV.out.2.2]
  clear HV hs hbig
  generalize codeR s = X at *
  obtain ⟨o, lnn⟩ := X
  simp only at HC ⊢
  cases o with
  | none =>
    simp only [Option.isSome_none, Bool.false_eq_true, if_false] at HC ⊢
    go_enter Tryz.func41, Tryz.ntmps41
    go_wp2_with fail
    refine (show Calls _ _ _ _ _ from HC.out).mono ?_
    rintro e w1 ⟨mn, fv, rfl, hbut, ⟨r2, hrd⟩, ⟨fo, FL, fcap, rfl⟩, _⟩
    clear HC
    have hR1 := hbut.keep hR0 (by omega)
    obtain ⟨r0, r1, _, _⟩ := two_cells hrd
    have hRl : w.heap.size < w1.heap.size := (Array.getElem?_eq_some_iff.1 hR1).1
    have hRb : w.heap.size + 1 < w1.heap.size := (Array.getElem?_eq_some_iff.1 hrd).1
    obtain ⟨x0, x1, f0, f1⟩ := two_cells hR1
    have hs4 : ((w1.setCell ⟨w.heap.size, 0, none⟩ (.int .i64 0)).setCell ⟨w.heap.size, 1, none⟩ (.slice none 0 0)).heap.size = w1.heap.size := by simp [World.setCell]
    have hR4 := (Below.heap_alloc ((w1.setCell ⟨w.heap.size, 0, none⟩ (.int .i64 0)).setCell ⟨w.heap.size, 1, none⟩ (.slice none 0 0)) (Obj.cells #[.int .i64 mn, .slice fo FL fcap] 57) w.heap.size (by rw [hs4]; omega)).trans (blk_set _ (blk_set _ hR1))
    have HQ0 : Hid _ := cell_of_row _ _ 0 _ _ _ hR4
    have HQ1 : Hid _ := cell_of_row _ _ 1 _ _ _ hR4
    have HBF : Hid (Below w.heap.size w (((w1.setCell ⟨w.heap.size, 0, none⟩ (.int .i64 0)).setCell ⟨w.heap.size, 1, none⟩ (.slice none 0 0)).alloc (Obj.cells #[.int .i64 mn, .slice fo FL fcap] 57)).drew) := Below.drew ((((hA.trans (hbut.below (by omega))).setCell (by exact Nat.le_refl _) _).setCell (by exact Nat.le_refl _) _).alloc (by rw [hs4]; omega) _)
    clear hR4
    go_wp2_with fail
    go_region
    all_goals
      go_wp2_with fail
      have q0 := HQ0.out
      have q1 := HQ1.out
      exact bodyPost_ret (v := .tuple #[.agg #[.int .i64 0, .slice none 0 0], .int .i64 lnn, .int .i64 7]) (by simp [results, Tryz.results41, go_sem, q0, q1]) rfl ⟨0, _, rfl, HBF.out, fun _ => ⟨rfl, rfl⟩, fun c hc => by cases hc⟩
  | some c =>
    simp only [Option.isSome_some, if_true] at HC ⊢
    go_enter Tryz.func41, Tryz.ntmps41
    go_wp2_with fail
    refine (show Calls _ _ _ _ _ from HC.out).mono ?_
    rintro e w1 ⟨mn, fv, rfl, hbut, ⟨r2, hrd⟩, _, hall⟩
    clear HC
    obtain ⟨hmn, hfr, hfn⟩ := hall c rfl
    have HFN : Hid _ := hfn
    clear hfn
    clear hall
    have HFR : Hid _ := hfr
    have HMN : Hid (mn = c.mn) := hmn
    obtain ⟨fo, fcap, hfv⟩ : ∃ a c2, fv = .slice a c.fs.length c2 := by obtain ⟨ys, h1, _⟩ := hfr; exact own_form h1
    subst hfv
    clear hmn hfr
    have hR1 := hbut.keep hR0 (by omega)
    have hRl : w.heap.size < w1.heap.size := (Array.getElem?_eq_some_iff.1 hR1).1
    obtain ⟨x0, x1, f0, f1⟩ := two_cells hR1
    have hs4 : ((w1.setCell ⟨w.heap.size, 0, none⟩ (.int .i64 mn)).setCell ⟨w.heap.size, 1, none⟩ (.slice fo c.fs.length fcap)).heap.size = w1.heap.size := by simp [World.setCell]
    have hR4 := (Below.heap_alloc ((w1.setCell ⟨w.heap.size, 0, none⟩ (.int .i64 mn)).setCell ⟨w.heap.size, 1, none⟩ (.slice fo c.fs.length fcap)) (Obj.cells #[.int .i64 mn, .slice fo c.fs.length fcap] 57) w.heap.size (by rw [hs4]; omega)).trans (blk_set _ (blk_set _ hR1))
    have HQ0 : Hid _ := cell_of_row _ _ 0 _ _ _ hR4
    have HQ1 : Hid _ := cell_of_row _ _ 1 _ _ _ hR4
    have HBF : Hid (Below w.heap.size w (((w1.setCell ⟨w.heap.size, 0, none⟩ (.int .i64 mn)).setCell ⟨w.heap.size, 1, none⟩ (.slice fo c.fs.length fcap)).alloc (Obj.cells #[.int .i64 mn, .slice fo c.fs.length fcap] 57))) := ((((hA.trans (hbut.below (by omega))).setCell (by exact Nat.le_refl _) _).setCell (by exact Nat.le_refl _) _).alloc (by rw [hs4]; omega) _)
    clear hR4
    go_wp2_with fail
    have q0 := HQ0.out
    have q1 := HQ1.out
    refine bodyPost_ret (v := .tuple #[.agg #[.int .i64 mn, .slice fo c.fs.length fcap], .int .i64 0, .int .i64 0]) (by simp [results, Tryz.results41, go_sem, q0, q1]) rfl ⟨mn, _, rfl, HBF.out, (fun h => by cases h), fun c' hc => ?_⟩
    cases hc
    exact ⟨HMN.out, ((FunsOw.set HFR.out hR1).set (blk_set _ hR1)).old ((Below.refl _ _).alloc (Nat.le_refl _) _), (((FunsN.set HFN.out hR1).set (blk_set _ hR1)).old ((Below.refl _ _).alloc (Nat.le_refl _) _)).base (by simp; omega)⟩

end Go.Proofs.YtnndoagpbcacdaaGreatDoor
namespace Go.Proofs.YtnndoagpbcacdaaGreatDoor
open Go.RowKit

/-! Code whose numbers are numbers of 64 bits. -/
def in64 (n : Int) : Prop := -9223372036854775808 ≤ n ∧ n ≤ 9223372036854775807
def CdIn (mn : Int) (fs : List Tp) : Prop := in64 mn ∧ ∀ t ∈ fs, in64 t.ar ∧ ∀ l ∈ t.ls, ∀ a ∈ l, in64 a.1 ∧ in64 a.2

/-! Package redex: Read and Write, as they are called. -/
set_option maxRecDepth 100000 in
set_option maxHeartbeats 2000000 in
theorem xRead (s : ByteArray) (w : World) (hs : s.size ≤ maxLen) :
    Calls Tryz.prog 32 #[.string s] w fun e w' => ∃ mn fo fl fc, e = .returned (.tuple #[.agg #[.int .i64 mn, .slice fo fl fc], .int .i64 (rdL s), .int .i64 (rdE s)]) ∧ Below w.heap.size w w' ∧ (rdC s = none → mn = 0 ∧ Value.slice fo fl fc = .slice none 0 0) ∧ ∀ c, rdC s = some c → mn = c.mn ∧ FunsOw w' (.slice fo fl fc) c.fs ∧ FunsN w' w.heap.size (.slice fo fl fc) c.fs := by
  have HC : Hid _ := pRead s (w.alloc (Obj.cells #[.int .i64 0, .slice none 0 0] 57)) hs
  generalize rdL s = rl at *
  generalize rdE s = re at *
  go_enter Tryz.func32, Tryz.ntmps32
  go_wp2_with fail
  refine (show Calls _ _ _ _ _ from HC.out).mono ?_
  rintro e w1 ⟨mn, fv, rfl, hb1, hno, hso⟩
  clear HC
  have hX := box_later' hb1
  obtain ⟨fo, fl, fc, rfl⟩ : ∃ fo fl fc, fv = .slice fo fl fc := by
    cases hc : rdC s with
    | none => exact ⟨none, 0, 0, (hno hc).2⟩
    | some c =>
      obtain ⟨ys, h1, _⟩ := (hso c hc).2.1
      obtain ⟨a, cp, e⟩ := own_form h1
      exact ⟨a, _, cp, e⟩
  have hbw : Below w.heap.size w w1 := ((Below.refl _ _).alloc (Nat.le_refl _) _).trans (hb1.mono (by simp))
  obtain ⟨x0, x1, f0, f1⟩ := two_cells hX
  obtain ⟨q0, q1⟩ := read2 (a := .int .i64 mn) (c := .slice fo fl fc) hX
  have hXl : w.heap.size < w1.heap.size := (Array.getElem?_eq_some_iff.1 hX).1
  have HN : Hid _ := hno
  have HS : Hid _ := hso
  clear hno hso
  go_wp2_with fail
  refine bodyPost_ret (v := .tuple #[.agg #[.int .i64 mn, .slice fo fl fc], .int .i64 rl, .int .i64 re]) (by simp [results, Tryz.results32, go_sem, q0, q1]) rfl ⟨mn, fo, fl, fc, rfl, ?_, HN.out, fun c hc => ⟨(HS.out c hc).1, ?_, ?_⟩⟩
  · exact (hbw.setCell (by exact Nat.le_refl _) _).setCell (by exact Nat.le_refl _) _
  · exact ((HS.out c hc).2.1.set hX).set (blk_set _ hX)
  · exact (((HS.out c hc).2.2.set hX).set (blk_set _ hX)).base (by simp)

set_option maxHeartbeats 2000000 in
theorem xWrite (c : Cd) (fo : Option Addr) (fl fc T : Nat) (w : World) (hT : T ≤ w.heap.size) (hf : FunsRd w T (.slice fo fl fc) c.fs) (ht : Tab w) :
    Calls Tryz.prog 33 #[.agg #[.int .i64 c.mn, .slice fo fl fc]] w fun e w' => ∃ x : ByteArray, e = .returned (.tuple #[.string x, .int .i64 (wrE c)]) ∧ x.data.toList = wrL c ∧ x.size ≤ 20000 ∧ Below w.heap.size w w' := by
  have HC : Hid _ := pWrite c (.slice fo fl fc) T (w.alloc (Obj.cells #[.int .i64 c.mn, .slice fo fl fc] 57)) (by simp; omega) (hf.keep ((Below.refl _ _).alloc hT _)) (ht.alloc _)
  generalize wrE c = er at *
  go_enter Tryz.func33, Tryz.ntmps33
  go_wp2_with fail
  refine (show Calls _ _ _ _ _ from HC.out).mono ?_
  rintro e w1 ⟨x, rfl, hx, hxs, hb1⟩
  have hbw : Below w.heap.size w w1 := ((Below.refl _ _).alloc (Nat.le_refl _) _).trans (hb1.mono (by simp))
  go_wp2_with fail
  go_ret2
  exact ⟨x, rfl, hx, hxs, hbw⟩

end Go.Proofs.YtnndoagpbcacdaaGreatDoor
