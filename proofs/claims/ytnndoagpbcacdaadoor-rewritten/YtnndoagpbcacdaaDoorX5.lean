import Derived.Test.YtnndoagpbcacdaaDoorX4
import Derived.Test.YtnndoagpbcacdaaDoorE0
namespace Go.Proofs.YtnndoagpbcacdaaDoor
open Go.RowKit

/-! Package codetext: read.go: templates. -/
def linesR (nf : Nat) (ar : Int) (nl : Nat) : Nat → Nat → ByteArray → Option (List Ln) × ByteArray × Nat
  | 0, _, r => (some [], r, 0)
  | m + 1, j, r => if atomsOk r && goodL nf ar nl j (atomsL r) then ((linesR nf ar nl m (j + 1) (restF r)).1.map (atomsL r :: ·), (linesR nf ar nl m (j + 1) (restF r)).2.1, (linesR nf ar nl m (j + 1) (restF r)).2.2 + 1) else (none, restF r, 1)
def tmplR (nf : Nat) (m : Bool) (r : ByteArray) : Option Tp × ByteArray × Nat :=
  if pairOk 70 r && stand (pairA 70 r) (pairB 70 r) m then ((linesR nf (pairA 70 r) ((pairB 70 r).toNat + 1) ((pairB 70 r).toNat + 1) 0 (restF r)).1.map (fun L => ⟨pairA 70 r, L⟩), (linesR nf (pairA 70 r) ((pairB 70 r).toNat + 1) ((pairB 70 r).toNat + 1) 0 (restF r)).2.1, (linesR nf (pairA 70 r) ((pairB 70 r).toNat + 1) ((pairB 70 r).toNat + 1) 0 (restF r)).2.2 + 1) else (none, restF r, 1)
theorem LinesB.but {b : Nat} {w w' : World} {B : Nat} {lv : Value} {L : List Ln} {r : ByteArray} {ln : Int} (h : LinesB w B lv L) (hb : But b w w') (hr : RdBlk w b r ln) : LinesB w' B lv L := by
  obtain ⟨vs, h1, h2⟩ := h
  refine ⟨vs, ownsRow_but h1 hb hr (by decide), fun j hj => ?_⟩
  obtain ⟨v, e1, e2, e3⟩ := h2 j hj
  exact ⟨v, e1, ownsRow_but e2 hb hr (by decide), e3⟩
theorem LinesB.old {w w' : World} {B : Nat} {lv : Value} {L : List Ln} (h : LinesB w B lv L) (hb : Below w.heap.size w w') : LinesB w' B lv L := by
  obtain ⟨vs, h1, h2⟩ := h
  exact ⟨vs, ownsRow_old h1 hb, h2.old hb (fun _ _ h => h)⟩
theorem LinesB.set {w : World} {B k i : Nat} {lv u : Value} {L : List Ln} {cs : Array Value} (h : LinesB w B lv L) (hb : w.heap[k]? = some (.cells cs 64 (0, 0))) : LinesB (w.setCell ⟨k, i, none⟩ u) B lv L := by
  obtain ⟨vs, h1, h2⟩ := h
  refine ⟨vs, ownsRow_set h1 hb (by decide), fun j hj => ?_⟩
  obtain ⟨v, e1, e2, e3⟩ := h2 j hj
  exact ⟨v, e1, ownsRow_set e2 hb (by decide), e3⟩
/-- Rows in rising blocks. -/
def IncV (vs : List Value) : Prop := ∀ (i j : Nat) (u v : Value) (a b : Nat), i < j → vs[i]? = some u → vs[j]? = some v → u.ownBlock = some a → v.ownBlock = some b → a < b
theorem IncV.nil : IncV [] := by intro i j u v a b _ h; simp at h
theorem IncV.snoc {vs : List Value} {x : Value} {T : Nat} (h : IncV vs) (hb : ∀ u ∈ vs, ∀ a, u.ownBlock = some a → a < T) (hx : ∀ b, x.ownBlock = some b → T ≤ b) : IncV (vs ++ [x]) := by
  intro i j u v a b hij hi hj ha hb'
  by_cases hjl : j < vs.length
  · rw [List.getElem?_append_left (by omega)] at hi
    rw [List.getElem?_append_left hjl] at hj
    exact h i j u v a b hij hi hj ha hb'
  · have hj2 : j = vs.length := by
      have := (List.getElem?_eq_some_iff.1 hj).1
      simp at this
      omega
    subst hj2
    rw [List.getElem?_append_left (by omega)] at hi
    rw [List.getElem?_append_right (Nat.le_refl _)] at hj
    simp at hj
    subst hj
    have h1 := hb u (List.mem_of_getElem? hi) a ha
    have h2 := hx b hb'
    omega
def LinesV (w : World) (B : Nat) (lv : Value) (L : List Ln) (vs : List Value) : Prop := w.ownsRow B 61 1 lv L.length vs ∧ RowsAt w B (fun _ => True) vs L ∧ IncV vs
theorem LinesV.lb {w : World} {B : Nat} {lv : Value} {L : List Ln} {vs : List Value} (h : LinesV w B lv L vs) : LinesB w B lv L := ⟨vs, h.1, h.2.1⟩
theorem LinesV.lt {w : World} {B : Nat} {lv : Value} {L : List Ln} {vs : List Value} (h : LinesV w B lv L vs) : ∀ u ∈ vs, ∀ a, u.ownBlock = some a → a < w.heap.size := by
  intro u hu a ha
  obtain ⟨j, hj, rfl⟩ := List.mem_iff_getElem.1 hu
  have hl : vs.length = L.length := by have := h.1.1; simpa using this
  obtain ⟨v, e1, e2, _⟩ := h.2.1 j (by omega)
  rw [List.getElem?_eq_getElem hj] at e1
  cases e1
  exact (e2.lt a ha).2
theorem LinesV.but {b : Nat} {w w' : World} {B : Nat} {lv : Value} {L : List Ln} {vs : List Value} {r : ByteArray} {ln : Int} (h : LinesV w B lv L vs) (hb : But b w w') (hr : RdBlk w b r ln) : LinesV w' B lv L vs := by
  refine ⟨ownsRow_but h.1 hb hr (by decide), fun j hj => ?_, h.2.2⟩
  obtain ⟨v, e1, e2, e3⟩ := h.2.1 j hj
  exact ⟨v, e1, ownsRow_but e2 hb hr (by decide), e3⟩
theorem LinesV.old {w w' : World} {B : Nat} {lv : Value} {L : List Ln} {vs : List Value} (h : LinesV w B lv L vs) (hb : Below w.heap.size w w') : LinesV w' B lv L vs := ⟨ownsRow_old h.1 hb, h.2.1.old hb (fun _ _ h => h), h.2.2⟩
theorem LinesV.set {w : World} {B k i : Nat} {lv u : Value} {L : List Ln} {vs : List Value} {cs : Array Value} (h : LinesV w B lv L vs) (hb : w.heap[k]? = some (.cells cs 64 (0, 0))) : LinesV (w.setCell ⟨k, i, none⟩ u) B lv L vs := by
  refine ⟨ownsRow_set h.1 hb (by decide), fun j hj => ?_, h.2.2⟩
  obtain ⟨v, e1, e2, e3⟩ := h.2.1 j hj
  exact ⟨v, e1, ownsRow_set e2 hb (by decide), e3⟩
theorem atomsRd_of {w : World} {B : Nat} {v : Value} {l : Ln} (h : w.ownsRow B 60 2 v l.length (acs l)) : AtomsRd w w.heap.size v l := atoms_rd (ownsRow_base h (Nat.zero_le _)) (fun k hk => (h.lt k hk).2)

end Go.Proofs.YtnndoagpbcacdaaDoor
