import Derived.Test.YtnndoagpbcacdaaGreatDoorMM0
import Derived.Test.YtnndoagpbcacdaaGreatDoorK7
import Derived.Test.YtnndoagpbcacdaaGreatDoorMX9
namespace Go.Proofs.YtnndoagpbcacdaaGreatDoor

/-! Collected's text and its code. -/
def colA : List UInt8 := [109, 97, 105, 110, 32, 61, 32, 108, 32]
def colB : List UInt8 := [59, 32, 108, 32, 110, 32, 61, 32, 63, 32, 110, 32, 48, 32, 40, 107, 32, 55, 41, 32, 108, 32, 40, 45, 32, 110, 32, 49, 41, 59, 32, 107, 32, 120, 32, 121, 32, 61, 32, 120, 59]
def colT (k : Nat) : ByteArray := ⟨(colA ++ decL k ++ colB).toArray⟩
def tpP (t : Tp) : Int × List Ln := (t.ar, t.ls)
theorem tpP_inj {a b : List Tp} (h : a.map tpP = b.map tpP) : a = b := by
  induction a generalizing b with
  | nil => cases b with
    | nil => rfl
    | cons y b => simp at h
  | cons x a ih => cases b with
    | nil => simp at h
    | cons y b =>
      simp only [List.map_cons, List.cons.injEq] at h
      obtain ⟨h1, h2⟩ := h
      rw [ih h2]
      cases x
      cases y
      simp only [tpP, Prod.mk.injEq] at h1
      rw [h1.1, h1.2]
/-! Tokens, counted down. -/
def endN : Nat → ByteArray → Nat → Nat → Nat
  | 0, _, _, e => e
  | f + 1, s, i, e => if e < s.size then (if goesB (bt s i) (bt s e) then endN f s i (e + 1) else e) else e
theorem endN_eq (s : ByteArray) (i : Nat) : ∀ (f e : Nat), s.size - e ≤ f → endF s i e = endN f s i e
  | 0, e, h => by rw [endF, if_neg (by omega)]; rfl
  | f + 1, e, h => by
    rw [endF, endN]
    split
    · split
      · exact endN_eq s i f (e + 1) (by omega)
      · rfl
    · rfl
def toksN : Nat → ByteArray → Nat → List Tk
  | 0, _, _ => []
  | f + 1, s, i => if i < s.size then (if isB (bt s i) then [] else [⟨i, s.extract i (endN 20 s i (i + 1))⟩]) ++ toksN f s (endN 20 s i (i + 1)) else []
def shortN : Nat → ByteArray → Nat → Bool
  | 0, _, _ => false
  | f + 1, s, i => if i < s.size then decide (endN 20 s i (i + 1) = endN s.size s i (i + 1)) && shortN f s (endN 20 s i (i + 1)) else true
theorem toksN_eq (s : ByteArray) : ∀ (f i : Nat), shortN f s i = true → toksF s i = toksN f s i
  | 0, i, h => by simp [shortN] at h
  | f + 1, i, h => by
    rw [shortN] at h
    rw [toksF, toksN]
    by_cases hi : i < s.size
    · rw [if_pos hi] at h ⊢
      rw [if_pos hi]
      simp only [Bool.and_eq_true, decide_eq_true_eq] at h
      rw [endN_eq s i s.size (i + 1) (by omega), ← h.1, toksN_eq s f _ h.2]
    · rw [if_neg hi, if_neg hi]
def colOk (k : Nat) : Bool := shortN 60 (colT k) 0 && (decide ((colT k).size ≤ 1000) && (decide ((gAll (colT k).size g0 (toksN 60 (colT k) 0)).2 = 0) && (decide ((orErr (twiceF (cAll (toksN 60 (colT k) 0)).ds 0 (cAll (toksN 60 (colT k) 0)).ds) 4).2 = 0) && (decide ((orErr (unkF (cAll (toksN 60 (colT k) 0)).ds (cAll (toksN 60 (colT k) 0)).ds) 5).2 = 0) && (decide (mainE (cAll (toksN 60 (colT k) 0)).ds = 0) && (decide ((codeOf (cAll (toksN 60 (colT k) 0)).ds).mn = 0) && decide ((codeOf (cAll (toksN 60 (colT k) 0)).ds).fs.map tpP = (cc k).map tpP)))))))
theorem col_ok {k : Nat} (h : colOk k = true) : (chk (colT k)).2 = 0 ∧ codeOf (cAll (toksF (colT k) 0)).ds = ⟨0, cc k⟩ := by
  simp only [colOk, Bool.and_eq_true, decide_eq_true_eq] at h
  obtain ⟨h0, h1, h2, h3, h4, h5, h6, h7⟩ := h
  have e := toksN_eq (colT k) 60 0 h0
  rw [← e] at h2 h3 h4 h5 h6 h7
  refine ⟨?_, ?_⟩
  · unfold chk
    rw [if_neg (by omega), if_neg (by rw [h2]; simp), if_neg (by rw [h3]; simp), if_neg (by rw [h4]; simp)]
    exact h5
  · have h8 := tpP_inj h7
    generalize codeOf (cAll (toksF (colT k) 0)).ds = x at *
    cases x
    simp only at h6 h8
    rw [h6, h8]

end Go.Proofs.YtnndoagpbcacdaaGreatDoor
