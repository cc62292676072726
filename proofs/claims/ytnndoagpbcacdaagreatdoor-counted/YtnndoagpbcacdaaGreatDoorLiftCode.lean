import Derived.Test.YtnndoagpbcacdaaGreatDoorX13
import Derived.ProofKit
import Derived.OpenShut
import Derived.ShutString
import Derived.ChangeOld
import Derived.Below
import Derived.Deep.SlicePairs
import Derived.Lib.SmallJoins
namespace Go.Proofs.YtnndoagpbcacdaaGreatDoor
open Go.ChangeShapes Go.WideShapes Go.ChangeAt Go.RowKit

/-! Code that is handed in, as the walk is told of it. -/
theorem Tryz.cInt : Tryz.prog.cellsOf 3 = 1 := by kernel_rfl
theorem Tryz.cAtom : Tryz.prog.cellsOf 75 = 2 := by kernel_rfl
theorem Tryz.cLine : Tryz.prog.cellsOf 76 = 1 := by kernel_rfl
theorem Tryz.cLines : Tryz.prog.cellsOf 50 = 1 := by kernel_rfl
theorem Tryz.cTemplate : Tryz.prog.cellsOf 78 = 2 := by kernel_rfl
theorem Tryz.cFuns : Tryz.prog.cellsOf 55 = 1 := by kernel_rfl
theorem Tryz.cCode : Tryz.prog.cellsOf 57 = 2 := by kernel_rfl

section
variable {H : Type} {enc : TypeId × Value → H} {W : World} {base fuel : Nat} {spare : Nat → Bool} {held : Bool}

theorem addr_none {b off i : Nat} : ((⟨b, off, none⟩ : Addr).add i) = ⟨b, off + i, none⟩ := by
  unfold Addr.add; split <;> simp_all
theorem addr_of {a : Addr} {v : Value} (h : W.cell? (a.add 0) = some v) : a = ⟨a.block, a.off, none⟩ ∧ a.block < W.heap.size := by
  obtain ⟨b, off, spot⟩ := a
  have h1 := World.cell?_spot h
  have h2 := World.block_lt_of_cell? W _ h
  cases spot with
  | none => exact ⟨rfl, by simpa [addr_none] using h2⟩
  | some s => simp [Addr.add] at h1
theorem wf_in {n : Int} (h : (Lit.int .i64 n).wf = true) : in64 n := by
  simp only [Lit.wf, Bool.and_eq_true, decide_eq_true_eq] at h
  have e1 : IntKind.min .i64 = -9223372036854775808 := by decide
  have e2 : IntKind.max .i64 = 9223372036854775807 := by decide
  rw [e1, e2] at h
  exact h
theorem int_of {v : Value} {x : DataW H × List MemPlace} (h : DataW.trod enc Tryz.prog W base spare held fuel 3 [v] = some x) : ∃ n, v = .int .i64 n ∧ in64 n := by
  obtain ⟨n, q, _, hw⟩ := DataW.trod_int Tryz.underlying3 h
  simp only [List.cons.injEq, and_true] at q
  exact ⟨n, q, wf_in hw⟩

theorem atoms_of {v : Value} {x : DataW H × List MemPlace} (h : DataW.trod enc Tryz.prog W base spare held fuel 76 [v] = some x) : ∃ l : Ln, AtomsRd W W.heap.size v l ∧ ∀ a ∈ l, in64 a.1 ∧ in64 a.2 := by
  rcases Deep.open_slice_pairs Tryz.underlying76 Tryz.underlying75 Tryz.cAtom rfl rfl Tryz.cInt Tryz.cInt h with ⟨hv, _⟩ | ⟨a, len, cap, m, n, V0, V1, D0, D1, P0, P1, hv, _, hl, hm, hmm, _, hx⟩
  · simp only [List.cons.injEq, and_true] at hv
    exact ⟨[], ⟨none, 0, hv, Nat.le_refl _, by unfold maxLen; omega, .inl rfl⟩, fun a ha => by simp at ha⟩
  simp only [List.cons.injEq, and_true] at hv
  have hlm : len ≤ m := by rw [hmm]; split <;> omega
  obtain ⟨f, hf⟩ := Deep.choose_lt (α := Int × Int) (n := len) (p := fun i q => V0 i = .int .i64 q.1 ∧ V1 i = .int .i64 q.2 ∧ in64 q.1 ∧ in64 q.2) (fun i hi => by
    obtain ⟨_, _, g0, g1⟩ := hx i (by omega)
    obtain ⟨n0, e0, w0⟩ := int_of g0
    obtain ⟨n1, e1, w1⟩ := int_of g1
    exact ⟨(n0, n1), e0, e1, w0, w1⟩)
  have hlen : ((List.range len).map f).length = len := by simp
  refine ⟨(List.range len).map f, ⟨some a, cap, by rw [hlen]; exact hv, by rw [hlen]; exact hl, hm, ?_⟩, fun q hq => ?_⟩
  · by_cases h0 : len = 0
    · left; rw [hlen]; exact h0
    · right
      obtain ⟨c0, _, _, _⟩ := hx 0 (by omega)
      obtain ⟨ha, hb⟩ := addr_of c0
      refine ⟨a.block, a.off, by rw [← ha], hb, fun j hj => ?_⟩
      rw [hlen] at hj
      obtain ⟨c0, c1, _, _⟩ := hx j (by omega)
      rw [ha, addr_none] at c0 c1
      obtain ⟨e0, e1, _, _⟩ := hf j hj
      rw [e0] at c0
      rw [e1] at c1
      simp only [List.getElem_map, List.getElem_range]
      exact ⟨c0, by rw [Nat.add_assoc]; exact c1⟩
  · obtain ⟨i, hi, rfl⟩ := List.mem_map.1 hq
    exact (hf i (List.mem_range.1 hi)).2.2

theorem lines_of {v : Value} {x : DataW H × List MemPlace} (h : DataW.trod enc Tryz.prog W base spare held fuel 50 [v] = some x) : ∃ L : List Ln, LinesRd W W.heap.size v L ∧ ∀ l ∈ L, ∀ a ∈ l, in64 a.1 ∧ in64 a.2 := by
  rcases Deep.open_slice1 Tryz.underlying50 Tryz.cLine h with ⟨hv, _⟩ | ⟨a, len, cap, m, n, V, D, Pl, hv, _, hl, hm, hmm, _, hx⟩
  · simp only [List.cons.injEq, and_true] at hv
    exact ⟨[], ⟨none, 0, hv, Nat.le_refl _, by unfold maxLen; omega, .inl rfl⟩, fun a ha => by simp at ha⟩
  simp only [List.cons.injEq, and_true] at hv
  have hlm : len ≤ m := by rw [hmm]; split <;> omega
  obtain ⟨f, hf⟩ := Deep.choose_lt (α := Ln) (n := len) (p := fun i l => AtomsRd W W.heap.size (V i) l ∧ ∀ a ∈ l, in64 a.1 ∧ in64 a.2) (fun i hi => atoms_of (hx i (by omega)).2)
  have hlen : ((List.range len).map f).length = len := by simp
  refine ⟨(List.range len).map f, ⟨some a, cap, by rw [hlen]; exact hv, by rw [hlen]; exact hl, hm, ?_⟩, fun q hq => ?_⟩
  · by_cases h0 : len = 0
    · left; rw [hlen]; exact h0
    · right
      obtain ⟨c0, _⟩ := hx 0 (by omega)
      obtain ⟨ha, hb⟩ := addr_of c0
      refine ⟨a.block, a.off, by rw [← ha], hb, fun j hj => ?_⟩
      rw [hlen] at hj
      obtain ⟨c0, _⟩ := hx j (by omega)
      rw [ha, addr_none] at c0
      simp only [List.getElem_map, List.getElem_range]
      exact ⟨_, c0, (hf j hj).1⟩
  · obtain ⟨i, hi, rfl⟩ := List.mem_map.1 hq
    exact (hf i (List.mem_range.1 hi)).2

theorem funs_of {v : Value} {x : DataW H × List MemPlace} (h : DataW.trod enc Tryz.prog W base spare held fuel 55 [v] = some x) : ∃ F : List Tp, FunsRd W W.heap.size v F ∧ ∀ t ∈ F, in64 t.ar ∧ ∀ l ∈ t.ls, ∀ a ∈ l, in64 a.1 ∧ in64 a.2 := by
  rcases Deep.open_slice_pairs Tryz.underlying55 Tryz.underlying78 Tryz.cTemplate rfl rfl Tryz.cInt Tryz.cLines h with ⟨hv, _⟩ | ⟨a, len, cap, m, n, V0, V1, D0, D1, P0, P1, hv, _, hl, hm, hmm, _, hx⟩
  · simp only [List.cons.injEq, and_true] at hv
    exact ⟨[], ⟨none, 0, hv, Nat.le_refl _, by unfold maxLen; omega, .inl rfl⟩, fun a ha => by simp at ha⟩
  simp only [List.cons.injEq, and_true] at hv
  have hlm : len ≤ m := by rw [hmm]; split <;> omega
  haveI : Inhabited Tp := ⟨⟨0, []⟩⟩
  obtain ⟨f, hf⟩ := Deep.choose_lt (α := Tp) (n := len) (p := fun i t => V0 i = .int .i64 t.ar ∧ LinesRd W W.heap.size (V1 i) t.ls ∧ in64 t.ar ∧ ∀ l ∈ t.ls, ∀ a ∈ l, in64 a.1 ∧ in64 a.2) (fun i hi => by
    obtain ⟨_, _, g0, g1⟩ := hx i (by omega)
    obtain ⟨n0, e0, w0⟩ := int_of g0
    obtain ⟨L, e1, w1⟩ := lines_of g1
    exact ⟨⟨n0, L⟩, e0, e1, w0, w1⟩)
  have hlen : ((List.range len).map f).length = len := by simp
  refine ⟨(List.range len).map f, ⟨some a, cap, by rw [hlen]; exact hv, by rw [hlen]; exact hl, hm, ?_⟩, fun q hq => ?_⟩
  · by_cases h0 : len = 0
    · left; rw [hlen]; exact h0
    · right
      obtain ⟨c0, _, _, _⟩ := hx 0 (by omega)
      obtain ⟨ha, hb⟩ := addr_of c0
      refine ⟨a.block, a.off, by rw [← ha], hb, fun j hj => ?_⟩
      rw [hlen] at hj
      obtain ⟨c0, c1, _, _⟩ := hx j (by omega)
      rw [ha, addr_none] at c0 c1
      obtain ⟨e0, e1, _, _⟩ := hf j hj
      rw [e0] at c0
      simp only [List.getElem_map, List.getElem_range]
      exact ⟨V1 j, c0, by rw [Nat.add_assoc]; exact c1, e1⟩
  · obtain ⟨i, hi, rfl⟩ := List.mem_map.1 hq
    exact (hf i (List.mem_range.1 hi)).2.2

theorem code_of {v0 v1 : Value} {x : DataW H × List MemPlace} (h : DataW.trod enc Tryz.prog W base spare held fuel 57 [v0, v1] = some x) : ∃ (mn : Int) (F : List Tp), v0 = .int .i64 mn ∧ FunsRd W W.heap.size v1 F ∧ CdIn mn F := by
  obtain ⟨y0, y1, n, _, _, g0, g1⟩ := trod_struct2 Tryz.underlying57 h
  have g0' : DataW.trod enc Tryz.prog W base spare held n 3 (([v0, v1].drop 0).take (Tryz.prog.cellsOf 3)) = some y0 := g0
  have g1' : DataW.trod enc Tryz.prog W base spare held n 55 (([v0, v1].drop 1).take (Tryz.prog.cellsOf 55)) = some y1 := g1
  rw [Tryz.cInt] at g0'
  rw [Tryz.cFuns] at g1'
  simp only [List.drop_zero, List.drop_succ_cons, List.take_succ_cons, List.take_zero] at g0' g1'
  obtain ⟨mn, e0, w0⟩ := int_of g0'
  obtain ⟨F, e1, w1⟩ := funs_of g1'
  exact ⟨mn, F, e0, e1, w0, w1⟩

end

end Go.Proofs.YtnndoagpbcacdaaGreatDoor
