import Derived.Test.YtnndoagpbcacdaaGreatDoorLiftCode
import Derived.Test.YtnndoagpbcacdaaGreatDoorMG6
namespace Go.Proofs.YtnndoagpbcacdaaGreatDoor
open Go.ChangeShapes Go.WideShapes Go.ChangeAt Go.RowKit

/-! A list of numbers that is handed in, as the walk is told of it. -/
section
variable {H : Type} {enc : TypeId × Value → H} {W : World} {base fuel : Nat} {spare : Nat → Bool} {held : Bool}
theorem ints_of {v : Value} {x : DataW H × List MemPlace} (h : DataW.trod enc Tryz.prog W base spare held fuel 35 [v] = some x) : ∃ l : List Int, IntsRd W W.heap.size v l ∧ ∀ c ∈ l, in64 c := by
  rcases Deep.open_slice1 Tryz.underlying35 Tryz.cInt h with ⟨hv, _⟩ | ⟨a, len, cap, m, n, V, D, Pl, hv, _, hl, hm, hmm, _, hx⟩
  · simp only [List.cons.injEq, and_true] at hv
    exact ⟨[], ⟨none, 0, hv, Nat.le_refl _, by unfold maxLen; omega, .inl rfl⟩, fun a ha => by simp at ha⟩
  simp only [List.cons.injEq, and_true] at hv
  have hlm : len ≤ m := by rw [hmm]; split <;> omega
  obtain ⟨f, hf⟩ := Deep.choose_lt (α := Int) (n := len) (p := fun i c => V i = .int .i64 c ∧ in64 c) (fun i hi => int_of (hx i (by omega)).2)
  have hlen : ((List.range len).map f).length = len := by simp
  refine ⟨(List.range len).map f, ⟨some a, cap, by rw [hlen]; exact hv, by rw [hlen]; exact hl, hm, ?_⟩, fun q hq => ?_⟩
  · by_cases h0 : len = 0
    · left; rw [hlen]; exact h0
    · right
      obtain ⟨c0, _⟩ := hx 0 (by omega)
      obtain ⟨ha, hb⟩ := addr_of c0
      refine ⟨a.block, a.off, by rw [← ha], hb, fun j hj => ?_⟩
      rw [hlen] at hj
      obtain ⟨c0, _⟩ := hx j (by omega)
      rw [ha, addr_none] at c0
      simp only [List.getElem_map, List.getElem_range]
      rw [(hf j hj).1] at c0
      exact c0
  · obtain ⟨i, hi, rfl⟩ := List.mem_map.1 hq
    exact (hf i (List.mem_range.1 hi)).2
end

end Go.Proofs.YtnndoagpbcacdaaGreatDoor
