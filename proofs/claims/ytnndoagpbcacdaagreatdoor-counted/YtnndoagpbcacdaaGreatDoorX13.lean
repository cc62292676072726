import Derived.Test.YtnndoagpbcacdaaGreatDoorMX5
import Derived.Test.YtnndoagpbcacdaaGreatDoorMW5
namespace Go.Proofs.YtnndoagpbcacdaaGreatDoor
open Go.RowKit

/-! Code whose numbers are numbers of 64 bits. -/
def in64 (n : Int) : Prop := -9223372036854775808 ≤ n ∧ n ≤ 9223372036854775807
def CdIn (mn : Int) (fs : List Tp) : Prop := in64 mn ∧ ∀ t ∈ fs, in64 t.ar ∧ ∀ l ∈ t.ls, ∀ a ∈ l, in64 a.1 ∧ in64 a.2

/-! Package redex: Read and Write, as they are called. -/
set_option maxRecDepth 100000 in
set_option maxHeartbeats 2000000 in
theorem xRead (s : ByteArray) (w : World) (hs : s.size ≤ maxLen) :
    Calls Tryz.prog 32 #[.string s] w fun e w' => ∃ mn fo fl fc, e = .returned (.tuple #[.agg #[.int .i64 mn, .slice fo fl fc], .int .i64 (rdL s), .int .i64 (rdE s)]) ∧ Below w.heap.size w w' ∧ (rdC s = none → mn = 0 ∧ Value.slice fo fl fc = .slice none 0 0) ∧ ∀ c, rdC s = some c → mn = c.mn ∧ FunsOw w' (.slice fo fl fc) c.fs ∧ FunsN w' w.heap.size (.slice fo fl fc) c.fs := by
  have HC : Hid _ := pRead s (w.alloc (Obj.cells #[.int .i64 0, .slice none 0 0] 57)) hs
  generalize rdL s = rl at *
  generalize rdE s = re at *
  go_enter Tryz.func32, Tryz.ntmps32
  go_wp2_with fail
  refine (show Calls _ _ _ _ _ from HC.out).mono ?_
  rintro e w1 ⟨mn, fv, rfl, hb1, hno, hso⟩
  clear HC
  have hX := box_later' hb1
  obtain ⟨fo, fl, fc, rfl⟩ : ∃ fo fl fc, fv = .slice fo fl fc := by
    cases hc : rdC s with
    | none => exact ⟨none, 0, 0, (hno hc).2⟩
    | some c =>
      obtain ⟨ys, h1, _⟩ := (hso c hc).2.1
      obtain ⟨a, cp, e⟩ := own_form h1
      exact ⟨a, _, cp, e⟩
  have hbw : Below w.heap.size w w1 := ((Below.refl _ _).alloc (Nat.le_refl _) _).trans (hb1.mono (by simp))
  obtain ⟨x0, x1, f0, f1⟩ := two_cells hX
  obtain ⟨q0, q1⟩ := read2 (a := .int .i64 mn) (c := .slice fo fl fc) hX
  have hXl : w.heap.size < w1.heap.size := (Array.getElem?_eq_some_iff.1 hX).1
  have HN : Hid _ := hno
  have HS : Hid _ := hso
  clear hno hso
  go_wp2_with fail
  refine bodyPost_ret (v := .tuple #[.agg #[.int .i64 mn, .slice fo fl fc], .int .i64 rl, .int .i64 re]) (by simp [results, Tryz.results32, go_sem, q0, q1]) rfl ⟨mn, fo, fl, fc, rfl, ?_, HN.out, fun c hc => ⟨(HS.out c hc).1, ?_, ?_⟩⟩
  · exact (hbw.setCell (by exact Nat.le_refl _) _).setCell (by exact Nat.le_refl _) _
  · exact ((HS.out c hc).2.1.set hX).set (blk_set _ hX)
  · exact (((HS.out c hc).2.2.set hX).set (blk_set _ hX)).base (by simp)

set_option maxHeartbeats 2000000 in
theorem xWrite (c : Cd) (fo : Option Addr) (fl fc T : Nat) (w : World) (hT : T ≤ w.heap.size) (hf : FunsRd w T (.slice fo fl fc) c.fs) (ht : Tab w) :
    Calls Tryz.prog 33 #[.agg #[.int .i64 c.mn, .slice fo fl fc]] w fun e w' => ∃ x : ByteArray, e = .returned (.tuple #[.string x, .int .i64 (wrE c)]) ∧ x.data.toList = wrL c ∧ x.size ≤ 20000 ∧ Below w.heap.size w w' := by
  have HC : Hid _ := pWrite c (.slice fo fl fc) T (w.alloc (Obj.cells #[.int .i64 c.mn, .slice fo fl fc] 57)) (by simp; omega) (hf.keep ((Below.refl _ _).alloc hT _)) (ht.alloc _)
  generalize wrE c = er at *
  go_enter Tryz.func33, Tryz.ntmps33
  go_wp2_with fail
  refine (show Calls _ _ _ _ _ from HC.out).mono ?_
  rintro e w1 ⟨x, rfl, hx, hxs, hb1⟩
  have hbw : Below w.heap.size w w1 := ((Below.refl _ _).alloc (Nat.le_refl _) _).trans (hb1.mono (by simp))
  go_wp2_with fail
  go_ret2
  exact ⟨x, rfl, hx, hxs, hbw⟩

end Go.Proofs.YtnndoagpbcacdaaGreatDoor
