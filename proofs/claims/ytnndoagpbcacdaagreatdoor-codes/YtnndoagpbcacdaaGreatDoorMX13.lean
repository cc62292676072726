import Derived.Test.YtnndoagpbcacdaaGreatDoorMX5
import Derived.Test.YtnndoagpbcacdaaGreatDoorMW5
namespace Go.Proofs.YtnndoagpbcacdaaGreatDoor
open Go.RowKit

/-! Code whose numbers are numbers of 64 bits. -/
def in64 (n : Int) : Prop := -9223372036854775808 ≤ n ∧ n ≤ 9223372036854775807
def CdIn (mn : Int) (fs : List Tp) : Prop := in64 mn ∧ ∀ t ∈ fs, in64 t.ar ∧ ∀ l ∈ t.ls, ∀ a ∈ l, in64 a.1 ∧ in64 a.2

/-! Package redex: Read and Write, as they are called. -/
set_option maxRecDepth 100000 in
set_option maxHeartbeats 2000000 in
theorem xRead (s : ByteArray) (w : World) (hs : s.size ≤ maxLen) :
    Calls Tryz.prog 32 #[.string s] w fun e w' => ∃ mn fo fl fc, e = .returned (.tuple #[.agg #[.int .i64 mn, .slice fo fl fc], .int .i64 (rdL s), .int .i64 (rdE s)]) ∧ Below w.heap.size w w' ∧ (rdC s = none → mn = 0 ∧ Value.slice fo fl fc = .slice none 0 0) ∧ ∀ c, rdC s = some c → mn = c.mn ∧ FunsOw w' (.slice fo fl fc) c.fs ∧ FunsN w' w.heap.size (.slice fo fl fc) c.fs := by
  have HC : Hid _ := pRead s (w.alloc (Obj.cells #[.int .i64 0, .slice none 0 0] 57)) hs
  generalize rdL s = rl at *
  generalize rdE s = re at *
  go_enter Tryz.func32, Tryz.ntmps32
  go_wp2_with fail
  refine (show Calls _ _ _ _ _ from HC.out).mono ?_
  rintro e w1 ⟨mn, fv, rfl, hb1, hno, hso⟩
  clear HC
  have hX := box_later' hb1
  obtain ⟨fo, fl, fc, rfl⟩ : ∃ fo fl fc, fv = .slice fo fl fc := by
    cases hc : rdC s with
    | none => exact ⟨none, 0, 0, (hno hc).2⟩
    | some c =>
      obtain ⟨ys, h1, _⟩ := (hso c hc).2.1
      obtain ⟨a, cp, e⟩ := own_form h1
      exact ⟨a, _, cp, e⟩
  have hbw : Below w.heap.size w w1 := ((Below.refl _ _).alloc (Nat.le_refl _) _).trans (hb1.mono (by simp))
  obtain ⟨x0, x1, f0, f1⟩ := two_cells hX
  obtain ⟨q0, q1⟩ := read2 (a := .int .i64 mn) (c := .slice fo fl fc) hX
  have hXl : w.heap.size < w1.heap.size := (Array.getElem?_eq_some_iff.1 hX).1
  have HN : Hid _ := hno
  have HS : Hid _ := hso
  clear hno hso
  go_wp2_with fail
  refine bodyPost_ret (v := .tuple #[.agg #[.int .i64 mn, .slice fo fl fc], .int .i64 rl, .int .i64 re]) (by simp [results, Tryz.results32, go_sem, q0, q1]) rfl ⟨mn, fo, fl, fc, rfl, ?_, HN.out, fun c hc => ⟨(HS.out c hc).1, ?_, ?_⟩⟩
  · exact (hbw.setCell (by exact Nat.le_refl _) _).setCell (by exact Nat.le_refl _) _
  · exact ((HS.out c hc).2.1.set hX).set (blk_set _ hX)
  · exact (((HS.out c hc).2.2.set hX).set (blk_set _ hX)).base (by simp)

set_option maxHeartbeats 2000000 in
theorem xWrite (c : Cd) (fo : Option Addr) (fl fc T : Nat) (w : World) (hT : T ≤ w.heap.size) (hf : FunsRd w T (.slice fo fl fc) c.fs) (ht : Tab w) :
    Calls Tryz.prog 33 #[.agg #[.int .i64 c.mn, .slice fo fl fc]] w fun e w' => ∃ x : ByteArray, e = .returned (.tuple #[.string x, .int .i64 (wrE c)]) ∧ x.data.toList = wrL c ∧ x.size ≤ 20000 ∧ Below w.heap.size w w' := by
  have HC : Hid _ := pWrite c (.slice fo fl fc) T (w.alloc (Obj.cells #[.int .i64 c.mn, .slice fo fl fc] 57)) (by simp; omega) (hf.keep ((Below.refl _ _).alloc hT _)) (ht.alloc _)
  generalize wrE c = er at *
  go_enter Tryz.func33, Tryz.ntmps33
  go_wp2_with fail
  refine (show Calls _ _ _ _ _ from HC.out).mono ?_
  rintro e w1 ⟨x, rfl, hx, hxs, hb1⟩
  have hbw : Below w.heap.size w w1 := ((Below.refl _ _).alloc (Nat.le_refl _) _).trans (hb1.mono (by simp))
  go_wp2_with fail
  go_ret2
  exact ⟨x, rfl, hx, hxs, hbw⟩

end Go.Proofs.YtnndoagpbcacdaaGreatDoor
namespace Go.Proofs.YtnndoagpbcacdaaGreatDoor

/-! What is read is good code. -/
theorem linesR_good {nf : Nat} {ar : Int} {nl : Nat} : ∀ {m j : Nat} {r : ByteArray} {L : List Ln}, (linesR nf ar nl m j r).1 = some L → L.length = m ∧ goodLs nf ar nl j L = true
  | 0, j, r, L, h => by
    simp only [linesR, Option.some.injEq] at h
    subst h
    exact ⟨rfl, rfl⟩
  | m + 1, j, r, L, h => by
    rw [linesR] at h
    split at h
    · rename_i hc
      simp only [Bool.and_eq_true] at hc
      simp only [Option.map_eq_some_iff] at h
      obtain ⟨L', h1, rfl⟩ := h
      obtain ⟨h2, h3⟩ := linesR_good h1
      exact ⟨by simp [h2], by rw [goodLs, hc.2, h3]; rfl⟩
    · simp at h
theorem tmplR_good {nf : Nat} {m : Bool} {r : ByteArray} {t : Tp} (h : (tmplR nf m r).1 = some t) : goodT nf t = true ∧ (m = true → t.ar = 0) := by
  unfold tmplR at h
  split at h
  · rename_i hc
    simp only [Bool.and_eq_true] at hc
    simp only [Option.map_eq_some_iff] at h
    obtain ⟨L, h1, rfl⟩ := h
    obtain ⟨h2, h3⟩ := linesR_good h1
    have hs := hc.2
    simp only [stand, Bool.and_eq_true, decide_eq_true_eq, Bool.not_eq_true', Bool.and_eq_false_iff, decide_eq_false_iff_not] at hs
    obtain ⟨a1, a2, a3, a4, a5⟩ := hs
    refine ⟨?_, fun hm => ?_⟩
    · simp only [goodT, Bool.and_eq_true, decide_eq_true_eq]
      refine ⟨a1, a2, by omega, by omega, ?_⟩
      rw [h2]; exact h3
    · rcases a3 with a3 | a3
      · rw [hm] at a3; cases a3
      · show pairA 70 r = 0
        omega
  · simp at h
theorem funsR_good {nf : Nat} {mn : Int} : ∀ {m j : Nat} {r : ByteArray} {F : List Tp}, (funsR nf mn m j r).1 = some F → F.length = m ∧ (∀ t ∈ F, goodT nf t = true) ∧ ∀ (q : Nat) (t : Tp), ((j + q : Nat) : Int) = mn → F[q]? = some t → t.ar = 0
  | 0, j, r, F, h => by
    simp only [funsR, Option.some.injEq] at h
    subst h
    exact ⟨rfl, fun t ht => by simp at ht, fun q t _ h => by simp at h⟩
  | m + 1, j, r, F, h => by
    rw [funsR] at h
    split at h
    · simp at h
    · rename_i t ht
      simp only [Option.map_eq_some_iff] at h
      obtain ⟨F', h1, rfl⟩ := h
      obtain ⟨h2, h3, h4⟩ := funsR_good h1
      obtain ⟨g1, g2⟩ := tmplR_good ht
      refine ⟨by simp [h2], fun u hu => ?_, fun q u hq hu => ?_⟩
      · rcases List.mem_cons.1 hu with rfl | hu
        · exact g1
        · exact h3 u hu
      · cases q with
        | zero =>
          simp at hu
          subst hu
          exact g2 (by simpa using hq)
        | succ q => exact h4 q u (by rw [← hq]; congr 1; omega) (by simpa using hu)
theorem codeR_good {r : ByteArray} {c : Cd} (h : (codeR r).1 = some c) : goodC c = true := by
  unfold codeR at h
  split at h
  · rename_i hc
    simp only [Bool.and_eq_true] at hc
    have hb := hc.2
    simp only [begins, Bool.and_eq_true, decide_eq_true_eq] at hb
    obtain ⟨b1, b2, b3, b4⟩ := hb
    split at h
    · simp at h
    · rename_i F hF
      simp only at h
      split at h
      · simp only [Option.some.injEq] at h
        subst h
        obtain ⟨h2, h3, h4⟩ := funsR_good hF
        simp only [goodC, Bool.and_eq_true, decide_eq_true_eq, List.all_eq_true]
        refine ⟨by omega, by omega, b3, by omega, fun t ht => by rw [h2]; exact h3 t ht, ?_⟩
        have hlt : (pairA 77 r).toNat < F.length := by omega
        rw [List.getElem?_eq_getElem hlt]
        exact h4 _ _ (by omega) (List.getElem?_eq_getElem hlt)
      · simp at h
  · simp at h
theorem rdC_good {s : ByteArray} {c : Cd} (h : rdC s = some c) : goodC c = true := by
  unfold rdC at h
  split at h
  · simp at h
  · exact codeR_good h

end Go.Proofs.YtnndoagpbcacdaaGreatDoor
