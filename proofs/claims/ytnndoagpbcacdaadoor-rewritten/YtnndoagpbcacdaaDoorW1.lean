import Derived.Test.YtnndoagpbcacdaaDoorD0
import Derived.Deep.RegionWith
namespace Go.Proofs.YtnndoagpbcacdaaDoor
open Go.RowKit

/-! Package codetext: good.go. -/
def pA (nf ar inn num : Int) (a : Int × Int) : Bool :=
  if a.1 = 1 then decide (0 ≤ a.2) && decide (a.2 ≤ 999999) else if a.1 = 2 then decide (0 ≤ a.2) && decide (a.2 < ar) else if a.1 = 3 then decide (0 ≤ a.2) && decide (a.2 < nf) else if a.1 = 4 then decide (0 ≤ a.2) && decide (a.2 ≤ 4) else if a.1 = 5 then decide (num ≤ a.2) && decide (a.2 < inn) else false
theorem pA_goodA (nf : Nat) (ar : Int) (nl j : Nat) (a : Int × Int) : pA nf ar ((nl : Int) - 1) j a = goodA nf ar nl j a := by
  obtain ⟨k, n⟩ := a
  unfold pA goodA boundF
  simp only
  by_cases h1 : k = 1
  · subst h1; simp; rw [Bool.eq_iff_iff]; simp; omega
  by_cases h2 : k = 2
  · subst h2; simp
  by_cases h3 : k = 3
  · subst h3; simp
  by_cases h4 : k = 4
  · subst h4; simp; rw [Bool.eq_iff_iff]; simp; omega
  by_cases h5 : k = 5
  · subst h5; simp; rw [Bool.eq_iff_iff]; simp; omega
  simp [h1, h2, h3, h4, h5]

set_option maxHeartbeats 4000000 in
theorem pHoldsAtom (nf ar inn num k n : Int) (w : World) :
    Calls Tryd.prog 86 #[.agg #[.int .i64 nf, .int .i64 ar, .int .i64 inn], .int .i64 num, .agg #[.int .i64 k, .int .i64 n]] w fun e w' => e = .returned (.bool (pA nf ar inn num (k, n))) ∧ Below w.heap.size w w' := by
  by_cases h1 : k = 1
  · subst h1
    by_cases p1 : 0 ≤ n
    · by_cases p2 : n ≤ 999999
      · have HE : Hid (true = pA nf ar inn num (1, n)) := by simp [Hid, pA, p1, p2]
        go_enter Tryd.func86, Tryd.ntmps86
        go_wp2_with fail
        go_ret
        exact ⟨ret_bool HE.out, ((Below.refl _ _).alloc (Nat.le_refl _) _).alloc (by simp) _⟩
      · have HE : Hid (false = pA nf ar inn num (1, n)) := by simp [Hid, pA]; omega
        go_enter Tryd.func86, Tryd.ntmps86
        go_wp2_with fail
        go_ret
        exact ⟨ret_bool HE.out, ((Below.refl _ _).alloc (Nat.le_refl _) _).alloc (by simp) _⟩
    · have HE : Hid (false = pA nf ar inn num (1, n)) := by simp [Hid, pA]; omega
      go_enter Tryd.func86, Tryd.ntmps86
      go_wp2_with fail
      go_ret
      exact ⟨ret_bool HE.out, ((Below.refl _ _).alloc (Nat.le_refl _) _).alloc (by simp) _⟩
  by_cases h2 : k = 2
  · subst h2
    by_cases p1 : 0 ≤ n
    · by_cases p2 : n < ar
      · have HE : Hid (true = pA nf ar inn num (2, n)) := by simp [Hid, pA, p1, p2]
        go_enter Tryd.func86, Tryd.ntmps86
        go_wp2_with fail
        go_ret
        exact ⟨ret_bool HE.out, ((Below.refl _ _).alloc (Nat.le_refl _) _).alloc (by simp) _⟩
      · have HE : Hid (false = pA nf ar inn num (2, n)) := by simp [Hid, pA]; omega
        go_enter Tryd.func86, Tryd.ntmps86
        go_wp2_with fail
        go_ret
        exact ⟨ret_bool HE.out, ((Below.refl _ _).alloc (Nat.le_refl _) _).alloc (by simp) _⟩
    · have HE : Hid (false = pA nf ar inn num (2, n)) := by simp [Hid, pA]; omega
      go_enter Tryd.func86, Tryd.ntmps86
      go_wp2_with fail
      go_ret
      exact ⟨ret_bool HE.out, ((Below.refl _ _).alloc (Nat.le_refl _) _).alloc (by simp) _⟩
  by_cases h3 : k = 3
  · subst h3
    by_cases p1 : 0 ≤ n
    · by_cases p2 : n < nf
      · have HE : Hid (true = pA nf ar inn num (3, n)) := by simp [Hid, pA, p1, p2]
        go_enter Tryd.func86, Tryd.ntmps86
        go_wp2_with fail
        go_ret
        exact ⟨ret_bool HE.out, ((Below.refl _ _).alloc (Nat.le_refl _) _).alloc (by simp) _⟩
      · have HE : Hid (false = pA nf ar inn num (3, n)) := by simp [Hid, pA]; omega
        go_enter Tryd.func86, Tryd.ntmps86
        go_wp2_with fail
        go_ret
        exact ⟨ret_bool HE.out, ((Below.refl _ _).alloc (Nat.le_refl _) _).alloc (by simp) _⟩
    · have HE : Hid (false = pA nf ar inn num (3, n)) := by simp [Hid, pA]; omega
      go_enter Tryd.func86, Tryd.ntmps86
      go_wp2_with fail
      go_ret
      exact ⟨ret_bool HE.out, ((Below.refl _ _).alloc (Nat.le_refl _) _).alloc (by simp) _⟩
  by_cases h4 : k = 4
  · subst h4
    by_cases p1 : 0 ≤ n
    · by_cases p2 : n ≤ 4
      · have HE : Hid (true = pA nf ar inn num (4, n)) := by simp [Hid, pA, p1, p2]
        go_enter Tryd.func86, Tryd.ntmps86
        go_wp2_with fail
        go_ret
        exact ⟨ret_bool HE.out, ((Below.refl _ _).alloc (Nat.le_refl _) _).alloc (by simp) _⟩
      · have HE : Hid (false = pA nf ar inn num (4, n)) := by simp [Hid, pA]; omega
        go_enter Tryd.func86, Tryd.ntmps86
        go_wp2_with fail
        go_ret
        exact ⟨ret_bool HE.out, ((Below.refl _ _).alloc (Nat.le_refl _) _).alloc (by simp) _⟩
    · have HE : Hid (false = pA nf ar inn num (4, n)) := by simp [Hid, pA]; omega
      go_enter Tryd.func86, Tryd.ntmps86
      go_wp2_with fail
      go_ret
      exact ⟨ret_bool HE.out, ((Below.refl _ _).alloc (Nat.le_refl _) _).alloc (by simp) _⟩
  by_cases h5 : k = 5
  · subst h5
    by_cases p1 : num ≤ n
    · by_cases p2 : n < inn
      · have HE : Hid (true = pA nf ar inn num (5, n)) := by simp [Hid, pA, p1, p2]
        go_enter Tryd.func86, Tryd.ntmps86
        go_wp2_with fail
        go_ret
        exact ⟨ret_bool HE.out, ((Below.refl _ _).alloc (Nat.le_refl _) _).alloc (by simp) _⟩
      · have HE : Hid (false = pA nf ar inn num (5, n)) := by simp [Hid, pA]; omega
        go_enter Tryd.func86, Tryd.ntmps86
        go_wp2_with fail
        go_ret
        exact ⟨ret_bool HE.out, ((Below.refl _ _).alloc (Nat.le_refl _) _).alloc (by simp) _⟩
    · have HE : Hid (false = pA nf ar inn num (5, n)) := by simp [Hid, pA]; omega
      go_enter Tryd.func86, Tryd.ntmps86
      go_wp2_with fail
      go_ret
      exact ⟨ret_bool HE.out, ((Below.refl _ _).alloc (Nat.le_refl _) _).alloc (by simp) _⟩
  have HE : Hid (false = pA nf ar inn num (k, n)) := by simp [Hid, pA, h1, h2, h3, h4, h5]
  have g1 : (k == 1) = false := by simpa using h1
  have g2 : (k == 2) = false := by simpa using h2
  have g3 : (k == 3) = false := by simpa using h3
  have g4 : (k == 4) = false := by simpa using h4
  have g5 : (k == 5) = false := by simpa using h5
  go_enter Tryd.func86, Tryd.ntmps86
  go_wp2_with fail
  go_ret
  exact ⟨ret_bool HE.out, ((Below.refl _ _).alloc (Nat.le_refl _) _).alloc (by simp) _⟩
end Go.Proofs.YtnndoagpbcacdaaDoor
