import Derived.Test.YtnndoagpbcacdaaDoorX10
namespace Go.Proofs.YtnndoagpbcacdaaDoor
open Go.RowKit

/-! Package redexkeep: grow.go: code. -/
def bentF (n lo hi : Int) : Int := if lo ≤ n ∧ n ≤ hi then n else lo + (if n < 0 then -(n + 1) else n) % (hi - lo + 1)
theorem bentF_in (n lo hi : Int) (h : lo ≤ hi) : lo ≤ bentF n lo hi ∧ bentF n lo hi ≤ hi := by
  unfold bentF
  split
  · assumption
  · have h1 := Int.emod_nonneg (if n < 0 then -(n + 1) else n) (show hi - lo + 1 ≠ 0 by omega)
    have h2 := Int.emod_lt_of_pos (if n < 0 then -(n + 1) else n) (show 0 < hi - lo + 1 by omega)
    omega
theorem bentF_id (n lo hi : Int) (h1 : lo ≤ n) (h2 : n ≤ hi) : bentF n lo hi = n := by unfold bentF; rw [if_pos ⟨h1, h2⟩]

set_option maxHeartbeats 2000000 in
theorem kBent (n lo hi : Int) (w : World) (h1 : -9223372036854775808 ≤ n) (h2 : n ≤ 9223372036854775807) (l0 : 0 ≤ lo) (lh : lo ≤ hi) (hh : hi ≤ 1000000) :
    Calls Tryd.prog 29 #[.int .i64 n, .int .i64 lo, .int .i64 hi] w fun e w' => e = .returned (.int .i64 (bentF n lo hi)) ∧ w' = w := by
  by_cases p1 : lo ≤ n
  · by_cases p2 : n ≤ hi
    · have HE : Hid (n = bentF n lo hi) := (bentF_id n lo hi p1 p2).symm
      go_enter Tryd.func29, Tryd.ntmps29
      go_wp2_with fail
      go_ret
      exact ⟨ret_int HE.out, rfl⟩
    · have p2' : decide (n ≤ hi) = false := by simpa using p2
      have n0 : ¬ n < 0 := by omega
      have nn : 0 ≤ n := by omega
      have HE : Hid (lo + n % (hi - lo + 1) = bentF n lo hi) := by show _ = _; unfold bentF; rw [if_neg (fun h => p2 h.2), if_neg n0]
      have hm1 := Int.emod_nonneg n (show hi - lo + 1 ≠ 0 by omega)
      have hm2 := Int.emod_lt_of_pos n (show 0 < hi - lo + 1 by omega)
      have ht : Int.tmod n (hi - lo + 1) = n % (hi - lo + 1) := Int.tmod_eq_emod_of_nonneg nn
      have hd : ¬ hi - lo + 1 = 0 := by omega
      go_enter Tryd.func29, Tryd.ntmps29
      go_wp2_with fail
      go_ret
      exact ⟨ret_int (by first | exact HE.out | (rw [ht]; exact HE.out)), rfl⟩
  · have p1' : decide (lo ≤ n) = false := by simpa using p1
    have hd : ¬ hi - lo + 1 = 0 := by omega
    by_cases n0 : n < 0
    · have nn : 0 ≤ -(n + 1) := by omega
      have HE : Hid (lo + (-(n + 1)) % (hi - lo + 1) = bentF n lo hi) := by show _ = _; unfold bentF; rw [if_neg (fun h => p1 h.1), if_pos n0]
      have hm1 := Int.emod_nonneg (-(n + 1)) hd
      have hm2 := Int.emod_lt_of_pos (-(n + 1)) (show 0 < hi - lo + 1 by omega)
      have ht : Int.tmod (-(n + 1)) (hi - lo + 1) = (-(n + 1)) % (hi - lo + 1) := Int.tmod_eq_emod_of_nonneg nn
      go_enter Tryd.func29, Tryd.ntmps29
      go_wp2_with fail
      go_ret
      exact ⟨ret_int (by first | exact HE.out | (rw [ht]; exact HE.out)), rfl⟩
    · have nn : 0 ≤ n := by omega
      have n0' : decide (n < 0) = false := by simpa using n0
      have HE : Hid (lo + n % (hi - lo + 1) = bentF n lo hi) := by show _ = _; unfold bentF; rw [if_neg (fun h => p1 h.1), if_neg n0]
      have hm1 := Int.emod_nonneg n hd
      have hm2 := Int.emod_lt_of_pos n (show 0 < hi - lo + 1 by omega)
      have ht : Int.tmod n (hi - lo + 1) = n % (hi - lo + 1) := Int.tmod_eq_emod_of_nonneg nn
      go_enter Tryd.func29, Tryd.ntmps29
      go_wp2_with fail
      go_ret
      exact ⟨ret_int (by first | exact HE.out | (rw [ht]; exact HE.out)), rfl⟩

end Go.Proofs.YtnndoagpbcacdaaDoor
