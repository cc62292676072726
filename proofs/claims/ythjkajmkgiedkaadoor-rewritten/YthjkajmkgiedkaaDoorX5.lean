import Derived.Test.YthjkajmkgiedkaaDoorX4
import Derived.Test.YthjkajmkgiedkaaDoorE0
namespace Go.Proofs.YthjkajmkgiedkaaDoor
open Go.RowKit

/-! Package codetext: read.go: templates. -/
def linesR (nf : Nat) (ar : Int) (nl : Nat) : Nat → Nat → ByteArray → Option (List Ln) × ByteArray × Nat
  | 0, _, r => (some [], r, 0)
  | m + 1, j, r => if atomsOk r && goodL nf ar nl j (atomsL r) then ((linesR nf ar nl m (j + 1) (restF r)).1.map (atomsL r :: ·), (linesR nf ar nl m (j + 1) (restF r)).2.1, (linesR nf ar nl m (j + 1) (restF r)).2.2 + 1) else (none, restF r, 1)
def tmplR (nf : Nat) (m : Bool) (r : ByteArray) : Option Tp × ByteArray × Nat :=
  if pairOk 70 r && stand (pairA 70 r) (pairB 70 r) m then ((linesR nf (pairA 70 r) ((pairB 70 r).toNat + 1) ((pairB 70 r).toNat + 1) 0 (restF r)).1.map (fun L => ⟨pairA 70 r, L⟩), (linesR nf (pairA 70 r) ((pairB 70 r).toNat + 1) ((pairB 70 r).toNat + 1) 0 (restF r)).2.1, (linesR nf (pairA 70 r) ((pairB 70 r).toNat + 1) ((pairB 70 r).toNat + 1) 0 (restF r)).2.2 + 1) else (none, restF r, 1)
theorem LinesB.but {b : Nat} {w w' : World} {B : Nat} {lv : Value} {L : List Ln} {r : ByteArray} {ln : Int} (h : LinesB w B lv L) (hb : But b w w') (hr : RdBlk w b r ln) : LinesB w' B lv L := by
  obtain ⟨vs, h1, h2⟩ := h
  refine ⟨vs, ownsRow_but h1 hb hr (by decide), fun j hj => ?_⟩
  obtain ⟨v, e1, e2, e3⟩ := h2 j hj
  exact ⟨v, e1, ownsRow_but e2 hb hr (by decide), e3⟩
theorem LinesB.old {w w' : World} {B : Nat} {lv : Value} {L : List Ln} (h : LinesB w B lv L) (hb : Below w.heap.size w w') : LinesB w' B lv L := by
  obtain ⟨vs, h1, h2⟩ := h
  exact ⟨vs, ownsRow_old h1 hb, h2.old hb (fun _ _ h => h)⟩
theorem LinesB.set {w : World} {B k i : Nat} {lv u : Value} {L : List Ln} {cs : Array Value} (h : LinesB w B lv L) (hb : w.heap[k]? = some (.cells cs 64 (0, 0))) : LinesB (w.setCell ⟨k, i, none⟩ u) B lv L := by
  obtain ⟨vs, h1, h2⟩ := h
  refine ⟨vs, ownsRow_set h1 hb (by decide), fun j hj => ?_⟩
  obtain ⟨v, e1, e2, e3⟩ := h2 j hj
  exact ⟨v, e1, ownsRow_set e2 hb (by decide), e3⟩
theorem atomsRd_of {w : World} {B : Nat} {v : Value} {l : Ln} (h : w.ownsRow B 60 2 v l.length (acs l)) : AtomsRd w w.heap.size v l := atoms_rd (ownsRow_base h (Nat.zero_le _)) (fun k hk => (h.lt k hk).2)

end Go.Proofs.YthjkajmkgiedkaaDoor
