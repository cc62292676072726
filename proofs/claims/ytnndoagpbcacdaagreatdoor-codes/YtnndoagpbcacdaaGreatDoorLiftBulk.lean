import Derived.Test.YtnndoagpbcacdaaGreatDoorLiftCode
import Derived.Test.YtnndoagpbcacdaaGreatDoorLiftLaid
import Derived.Test.YtnndoagpbcacdaaGreatDoorZ5
namespace Go.Proofs.YtnndoagpbcacdaaGreatDoor
open Go.ChangeShapes Go.WideShapes Go.ChangeAt Go.RowKit

/-! What the bound on the bulk of a script gives. -/
theorem bulk_one {H : Type} (d : DataW H) : 1 ≤ Rows.uptoBulk d := by
  cases d with
  | lit l => cases l <;> simp [Rows.uptoBulk]
  | nil => simp [Rows.uptoBulk]
  | ptr d => simp [Rows.uptoBulk]
  | slice elems spare => simp [Rows.uptoBulk]
  | agg parts => simp [Rows.uptoBulk]
  | iface t d => simp [Rows.uptoBulk]
  | map entries => simp [Rows.uptoBulk]
  | held h => simp [Rows.uptoBulk]
theorem bulk_part {H : Type} {d : DataW H} {l : List (DataW H)} (h : d ∈ l) : Rows.uptoBulk d ≤ Rows.uptoBulkAll l := by
  induction l with
  | nil => cases h
  | cons x r ih =>
    simp only [Rows.uptoBulkAll]
    cases List.mem_cons.1 h with
    | inl e => subst e; omega
    | inr e => have := ih e; omega
theorem bulk_len {H : Type} (l : List (DataW H)) : l.length ≤ Rows.uptoBulkAll l := by
  induction l with
  | nil => simp [Rows.uptoBulkAll]
  | cons x r ih => have := bulk_one x; simp only [Rows.uptoBulkAll, List.length_cons]; omega
theorem bulk_slice {H : Type} {n : Nat} {D : Nat → DataW H} {sp : List (DataW H)} : n ≤ Rows.uptoBulk (.slice ((List.range n).map D) sp) ∧ ∀ i, i < n → Rows.uptoBulk (D i) ≤ Rows.uptoBulk (.slice ((List.range n).map D) sp) := by
  have h1 := bulk_len ((List.range n).map D)
  rw [List.length_map, List.length_range] at h1
  simp only [Rows.uptoBulk]
  refine ⟨by omega, fun i hi => ?_⟩
  have := bulk_part (d := D i) (l := (List.range n).map D) (List.mem_map.2 ⟨i, List.mem_range.2 hi, rfl⟩)
  omega
theorem bulk_agg {H : Type} {d : DataW H} {l : List (DataW H)} (h : d ∈ l) : Rows.uptoBulk d ≤ Rows.uptoBulk (.agg l) := by
  have := bulk_part h
  simp only [Rows.uptoBulk]
  omega

section
variable {H : Type} {enc : TypeId × Value → H} {W : World} {base fuel : Nat} {spare : Nat → Bool} {held : Bool}
theorem atoms_sm {v : Value} {x : DataW H × List MemPlace} (h : DataW.trod enc Tryz.prog W base spare held fuel 76 [v] = some x) : ∃ l : Ln, AtomsRd W W.heap.size v l ∧ l.length ≤ Rows.uptoBulk x.1 := by
  obtain ⟨l, hl, _⟩ := atoms_of h
  refine ⟨l, hl, ?_⟩
  obtain ⟨a, cap, rfl, _⟩ := hl
  rcases Deep.open_slice Tryz.underlying76 h with ⟨hv, _⟩ | ⟨a', len, cap', m, n, D, Pl, hv, _, _, _, _, rfl, _⟩
  · simp at hv; omega
  · simp at hv
    rw [hv.2.1]
    exact bulk_slice.1
theorem lines_sm {v : Value} {x : DataW H × List MemPlace} (h : DataW.trod enc Tryz.prog W base spare held fuel 50 [v] = some x) : ∃ L : List Ln, LinesRd W W.heap.size v L ∧ L.length ≤ Rows.uptoBulk x.1 ∧ ∀ l ∈ L, l.length ≤ Rows.uptoBulk x.1 := by
  rcases Deep.open_slice1 Tryz.underlying50 Tryz.cLine h with ⟨hv, _⟩ | ⟨a, len, cap, m, n, V, D, Pl, hv, _, hl, hm, hmm, rfl, hx⟩
  · simp only [List.cons.injEq, and_true] at hv
    exact ⟨[], ⟨none, 0, hv, Nat.le_refl _, by unfold maxLen; omega, .inl rfl⟩, Nat.zero_le _, fun a ha => by simp at ha⟩
  simp only [List.cons.injEq, and_true] at hv
  have hlm : len ≤ m := by rw [hmm]; split <;> omega
  obtain ⟨f, hf⟩ := Deep.choose_lt (α := Ln) (n := len) (p := fun i l => AtomsRd W W.heap.size (V i) l ∧ l.length ≤ Rows.uptoBulk (D i)) (fun i hi => atoms_sm (hx i (by omega)).2)
  have hlen : ((List.range len).map f).length = len := by simp
  refine ⟨(List.range len).map f, ⟨some a, cap, by rw [hlen]; exact hv, by rw [hlen]; exact hl, hm, ?_⟩, by rw [hlen]; exact bulk_slice.1, fun q hq => ?_⟩
  · by_cases h0 : len = 0
    · left; rw [hlen]; exact h0
    · right
      obtain ⟨c0, _⟩ := hx 0 (by omega)
      obtain ⟨ha, hb⟩ := addr_of c0
      refine ⟨a.block, a.off, by rw [← ha], hb, fun j hj => ?_⟩
      rw [hlen] at hj
      obtain ⟨c0, _⟩ := hx j (by omega)
      rw [ha, addr_none] at c0
      simp only [List.getElem_map, List.getElem_range]
      exact ⟨_, c0, (hf j hj).1⟩
  · obtain ⟨i, hi, rfl⟩ := List.mem_map.1 hq
    exact Nat.le_trans (hf i (List.mem_range.1 hi)).2 (bulk_slice.2 i (List.mem_range.1 hi))
theorem funs_sm {v : Value} {x : DataW H × List MemPlace} (h : DataW.trod enc Tryz.prog W base spare held fuel 55 [v] = some x) : ∃ F : List Tp, FunsRd W W.heap.size v F ∧ F.length ≤ Rows.uptoBulk x.1 ∧ ∀ t ∈ F, t.ls.length ≤ Rows.uptoBulk x.1 ∧ ∀ l ∈ t.ls, l.length ≤ Rows.uptoBulk x.1 := by
  rcases Deep.open_slice_pairs Tryz.underlying55 Tryz.underlying78 Tryz.cTemplate rfl rfl Tryz.cInt Tryz.cLines h with ⟨hv, _⟩ | ⟨a, len, cap, m, n, V0, V1, D0, D1, P0, P1, hv, _, hl, hm, hmm, rfl, hx⟩
  · simp only [List.cons.injEq, and_true] at hv
    exact ⟨[], ⟨none, 0, hv, Nat.le_refl _, by unfold maxLen; omega, .inl rfl⟩, Nat.zero_le _, fun a ha => by simp at ha⟩
  simp only [List.cons.injEq, and_true] at hv
  have hlm : len ≤ m := by rw [hmm]; split <;> omega
  haveI : Inhabited Tp := ⟨⟨0, []⟩⟩
  obtain ⟨f, hf⟩ := Deep.choose_lt (α := Tp) (n := len) (p := fun i t => V0 i = .int .i64 t.ar ∧ LinesRd W W.heap.size (V1 i) t.ls ∧ t.ls.length ≤ Rows.uptoBulk (D1 i) ∧ ∀ l ∈ t.ls, l.length ≤ Rows.uptoBulk (D1 i)) (fun i hi => by
    obtain ⟨_, _, g0, g1⟩ := hx i (by omega)
    obtain ⟨n0, e0, w0⟩ := int_of g0
    obtain ⟨L, e1, w1⟩ := lines_sm g1
    exact ⟨⟨n0, L⟩, e0, e1, w1⟩)
  have hlen : ((List.range len).map f).length = len := by simp
  refine ⟨(List.range len).map f, ⟨some a, cap, by rw [hlen]; exact hv, by rw [hlen]; exact hl, hm, ?_⟩, by rw [hlen]; exact bulk_slice.1, fun q hq => ?_⟩
  · by_cases h0 : len = 0
    · left; rw [hlen]; exact h0
    · right
      obtain ⟨c0, _, _, _⟩ := hx 0 (by omega)
      obtain ⟨ha, hb⟩ := addr_of c0
      refine ⟨a.block, a.off, by rw [← ha], hb, fun j hj => ?_⟩
      rw [hlen] at hj
      obtain ⟨c0, c1, _, _⟩ := hx j (by omega)
      rw [ha, addr_none] at c0 c1
      obtain ⟨e0, e1, _, _⟩ := hf j hj
      rw [e0] at c0
      simp only [List.getElem_map, List.getElem_range]
      exact ⟨V1 j, c0, by rw [Nat.add_assoc]; exact c1, e1⟩
  · obtain ⟨i, hi, rfl⟩ := List.mem_map.1 hq
    have hi' := List.mem_range.1 hi
    have hb : Rows.uptoBulk (D1 i) ≤ Rows.uptoBulk (.slice ((List.range len).map fun i => .agg [D0 i, D1 i]) ((List.range (m - len)).map fun j => .agg [D0 (len + j), D1 (len + j)])) :=
      Nat.le_trans (bulk_agg (l := [D0 i, D1 i]) (by simp)) (bulk_slice (D := fun i => .agg [D0 i, D1 i]).2 i hi')
    obtain ⟨_, _, g1, g2⟩ := hf i hi'
    exact ⟨Nat.le_trans g1 hb, fun l hl => Nat.le_trans (g2 l hl) hb⟩

/-- A script of bulk at most N: its length, and each step's code. -/
theorem ops_sm {a : Option Addr} {len cap : Nat} {x : DataW H × List MemPlace}
    (h : DataW.trod enc Tryz.prog W base spare held fuel 22 [.slice a len cap] = some x) (hN : Rows.uptoBulk x.1 ≤ 1048576) :
    len ≤ 1048576 ∧ ∀ (b off i : Nat) (c : Int) (fo : Option Addr) (fl fc : Nat), a = some ⟨b, off, none⟩ → i < len → W.cell? ⟨b, off + i * 6 + 4, none⟩ = some (.int .i64 c) → W.cell? ⟨b, off + i * 6 + 5, none⟩ = some (.slice fo fl fc) → ∃ fs, FunsRd W W.heap.size (.slice fo fl fc) fs ∧ SmallC fs := by
  rcases Deep.open_slice Tryz.underlying22 h with ⟨hcs, _⟩ | ⟨ad, l, c, m, n, D, Pl, hcs, hb, hl, hm, hmm, rfl, hx⟩
  · simp at hcs
    exact ⟨by omega, fun b off i c fo fl fc ha => by rw [hcs.1] at ha; cases ha⟩
  · simp at hcs
    obtain ⟨rfl, rfl, rfl⟩ := hcs
    have hbs := bulk_slice (n := len) (D := D) (sp := (List.range (m - len)).map fun j => D (len + j))
    refine ⟨Nat.le_trans hbs.1 hN, fun b off i c fo fl fc ha hi h4 h5 => ?_⟩
    have hlm : len ≤ m := by rw [hmm]; split <;> omega
    obtain rfl : ad = ⟨b, off, none⟩ := by simpa using ha
    rw [Tryz.cellsOp] at hx
    obtain ⟨cs', h1, h2⟩ := hx i (by omega)
    obtain ⟨_, hlen, hcell⟩ := World.cells?_some h1
    obtain ⟨v0, v1, v2, v3, v4, v5, rfl⟩ := six_of hlen
    rw [add_none] at hcell
    have e5 := hcell 5 (by omega)
    simp only [add_none, List.getElem?_cons_zero, List.getElem?_cons_succ] at e5
    rw [h5] at e5
    obtain ⟨ys, kf, _, hye, _, hyl, hf⟩ := DataW.trod_struct Tryz.underlying59 h2
    have g4 : DataW.trod enc Tryz.prog W base spare held kf 57 (([v0, v1, v2, v3, v4, v5].drop 4).take (Tryz.prog.cellsOf 57)) = ys[4]? := hf 4 _ rfl
    rw [Tryz.cellsCode] at g4
    simp only [List.drop_zero, List.drop_succ_cons, List.take_succ_cons, List.take_zero] at g4
    have hy4l : 4 < ys.length := by rw [hyl]; decide
    rw [List.getElem?_eq_getElem hy4l] at g4
    obtain ⟨zs, kz, _, hze, _, hzl, hz⟩ := DataW.trod_struct Tryz.underlying57 g4
    have z1 : DataW.trod enc Tryz.prog W base spare held kz 55 (([v4, v5].drop 1).take (Tryz.prog.cellsOf 55)) = zs[1]? := hz 1 _ rfl
    rw [Tryz.cellsFuns] at z1
    simp only [List.drop_zero, List.drop_succ_cons, List.take_succ_cons, List.take_zero] at z1
    have hz1l : 1 < zs.length := by rw [hzl]; decide
    rw [List.getElem?_eq_getElem hz1l] at z1
    have hv5 : v5 = .slice fo fl fc := (Option.some.inj e5).symm
    subst hv5
    obtain ⟨F, hF, f1, f2⟩ := funs_sm z1
    have hb1 : Rows.uptoBulk zs[1].1 ≤ 1048576 := by
      have q1 : Rows.uptoBulk zs[1].1 ≤ Rows.uptoBulk ys[4].1 := by
        rw [hze]
        exact bulk_agg (List.mem_map.2 ⟨zs[1], List.getElem_mem hz1l, rfl⟩)
      have q2 : Rows.uptoBulk ys[4].1 ≤ Rows.uptoBulk (D i) := by
        have he : D i = .agg (ys.map (·.1)) := by have := congrArg Prod.fst hye; exact this
        rw [he]
        exact bulk_agg (List.mem_map.2 ⟨ys[4], List.getElem_mem hy4l, rfl⟩)
      exact Nat.le_trans q1 (Nat.le_trans q2 (Nat.le_trans (hbs.2 i hi) hN))
    exact ⟨F, hF, Nat.le_trans f1 hb1, fun t ht => ⟨Nat.le_trans (f2 t ht).1 hb1, fun l hl => Nat.le_trans ((f2 t ht).2 l hl) hb1⟩⟩
end

end Go.Proofs.YtnndoagpbcacdaaGreatDoor
