import Derived.Test.YtnndoagpbcacdaaGreatDoorMX9
import Derived.Test.YtnndoagpbcacdaaGreatDoorMB0
namespace Go.Proofs.YtnndoagpbcacdaaGreatDoor
open Go.RowKit

/-! Package redexkeep: grow.go: code. -/
def bentF (n lo hi : Int) : Int := if lo ≤ n ∧ n ≤ hi then n else lo + (if n < 0 then -(n + 1) else n) % (hi - lo + 1)
theorem bentF_in (n lo hi : Int) (h : lo ≤ hi) : lo ≤ bentF n lo hi ∧ bentF n lo hi ≤ hi := by
  unfold bentF
  split
  · assumption
  · have h1 := Int.emod_nonneg (if n < 0 then -(n + 1) else n) (show hi - lo + 1 ≠ 0 by omega)
    have h2 := Int.emod_lt_of_pos (if n < 0 then -(n + 1) else n) (show 0 < hi - lo + 1 by omega)
    omega
theorem bentF_id (n lo hi : Int) (h1 : lo ≤ n) (h2 : n ≤ hi) : bentF n lo hi = n := by unfold bentF; rw [if_pos ⟨h1, h2⟩]

set_option maxHeartbeats 2000000 in
theorem kBent (n lo hi : Int) (w : World) (h1 : -9223372036854775808 ≤ n) (h2 : n ≤ 9223372036854775807) (l0 : 0 ≤ lo) (lh : lo ≤ hi) (hh : hi ≤ 1000000) :
    Calls Tryz.prog 13 #[.int .i64 n, .int .i64 lo, .int .i64 hi] w fun e w' => e = .returned (.int .i64 (bentF n lo hi)) ∧ w' = w := by
  by_cases p1 : lo ≤ n
  · by_cases p2 : n ≤ hi
    · have HE : Hid (n = bentF n lo hi) := (bentF_id n lo hi p1 p2).symm
      go_enter Tryz.func13, Tryz.ntmps13
      go_wp2_with fail
      go_ret
      exact ⟨ret_int HE.out, rfl⟩
    · have p2' : decide (n ≤ hi) = false := by simpa using p2
      have n0 : ¬ n < 0 := by omega
      have nn : 0 ≤ n := by omega
      have HE : Hid (lo + n % (hi - lo + 1) = bentF n lo hi) := by show _ = _; unfold bentF; rw [if_neg (fun h => p2 h.2), if_neg n0]
      have hm1 := Int.emod_nonneg n (show hi - lo + 1 ≠ 0 by omega)
      have hm2 := Int.emod_lt_of_pos n (show 0 < hi - lo + 1 by omega)
      have ht : Int.tmod n (hi - lo + 1) = n % (hi - lo + 1) := Int.tmod_eq_emod_of_nonneg nn
      have hd : ¬ hi - lo + 1 = 0 := by omega
      go_enter Tryz.func13, Tryz.ntmps13
      go_wp2_with fail
      go_ret
      exact ⟨ret_int (by first | exact HE.out | (rw [ht]; exact HE.out)), rfl⟩
  · have p1' : decide (lo ≤ n) = false := by simpa using p1
    have hd : ¬ hi - lo + 1 = 0 := by omega
    by_cases n0 : n < 0
    · have nn : 0 ≤ -(n + 1) := by omega
      have HE : Hid (lo + (-(n + 1)) % (hi - lo + 1) = bentF n lo hi) := by show _ = _; unfold bentF; rw [if_neg (fun h => p1 h.1), if_pos n0]
      have hm1 := Int.emod_nonneg (-(n + 1)) hd
      have hm2 := Int.emod_lt_of_pos (-(n + 1)) (show 0 < hi - lo + 1 by omega)
      have ht : Int.tmod (-(n + 1)) (hi - lo + 1) = (-(n + 1)) % (hi - lo + 1) := Int.tmod_eq_emod_of_nonneg nn
      go_enter Tryz.func13, Tryz.ntmps13
      go_wp2_with fail
      go_ret
      exact ⟨ret_int (by first | exact HE.out | (rw [ht]; exact HE.out)), rfl⟩
    · have nn : 0 ≤ n := by omega
      have n0' : decide (n < 0) = false := by simpa using n0
      have HE : Hid (lo + n % (hi - lo + 1) = bentF n lo hi) := by show _ = _; unfold bentF; rw [if_neg (fun h => p1 h.1), if_neg n0]
      have hm1 := Int.emod_nonneg n hd
      have hm2 := Int.emod_lt_of_pos n (show 0 < hi - lo + 1 by omega)
      have ht : Int.tmod n (hi - lo + 1) = n % (hi - lo + 1) := Int.tmod_eq_emod_of_nonneg nn
      go_enter Tryz.func13, Tryz.ntmps13
      go_wp2_with fail
      go_ret
      exact ⟨ret_int (by first | exact HE.out | (rw [ht]; exact HE.out)), rfl⟩

end Go.Proofs.YtnndoagpbcacdaaGreatDoor
namespace Go.Proofs.YtnndoagpbcacdaaGreatDoor
open Go.RowKit

/-! Package redexkeep: decimal. -/
def decR (n m : Nat) (l : List UInt8) : Prop := (m < 10 ∧ decL n = l) ∨ (10 ≤ m ∧ decL n = decL (m / 10) ++ l)
theorem decR_init (n : Nat) : decR n n [UInt8.ofNat (48 + n % 10)] := by
  by_cases h : n < 10
  · exact .inl ⟨h, by rw [decL_lt n h, Nat.mod_eq_of_lt h]⟩
  · exact .inr ⟨by omega, decL_ge n h⟩
theorem decR_step {n m : Nat} {l : List UInt8} (h : decR n m l) (hm : 10 ≤ m) : decR n (m / 10) (UInt8.ofNat (48 + m / 10 % 10) :: l) := by
  rcases h with ⟨h1, _⟩ | ⟨_, h2⟩
  · omega
  · by_cases h : m / 10 < 10
    · exact .inl ⟨h, by rw [h2, decL_lt _ h, Nat.mod_eq_of_lt h]; rfl⟩
    · exact .inr ⟨by omega, by rw [h2, decL_ge _ h, List.append_assoc]; rfl⟩

set_option maxHeartbeats 1000000 in
theorem kDecimal (n : Nat) (w : World) (hn : n ≤ 1000000) :
    Calls Tryz.prog 15 #[.int .i64 n] w fun e w' => ∃ x : ByteArray, e = .returned (.string x) ∧ x.data.toList = decL n ∧ Below w.heap.size w w' := by
  have kc := conv_byte
  have HD : Hid (decR n n [UInt8.ofNat (48 + n % 10)]) := decR_init n
  go_enter Tryz.func15, Tryz.ntmps15
  go_wp2_with fail
  go_loopw [0, 3] (fun y z wr => ∃ (m : Nat) (x : ByteArray), m ≤ 1000000 ∧ y = .int .i64 m ∧ z = .string x ∧ x.size + m ≤ 1000001 ∧ Hid (decR n m x.data.toList) ∧ Hid (Below w.heap.size w wr)) (fun y _ _ => (intOf y).toNat)
  case atStart =>
    refine ⟨n, _, hn, rfl, rfl, ?_, ?_, (Below.refl _ _).alloc (Nat.le_refl _) _⟩
    · show 1 + n ≤ _; omega
    · have e : (strOfNums [48 + (n : Int) % 10]).data.toList = [UInt8.ofNat (48 + n % 10)] := by
        show [UInt8.ofNat (48 + (n : Int) % 10).toNat] = _
        rw [show (48 + (n : Int) % 10).toNat = 48 + n % 10 by omega]
      show decR _ _ _
      rw [e]; exact HD.out
  case round =>
    obtain ⟨m, x, hm, rfl, rfl, hxs, HR, HB⟩ := hrel
    have hsz := HB.out.size
    by_cases h9 : 9 < m
    · have hd : decide ((9 : Int) < (m : Int)) = true := by simp; omega
      have HS : Hid (decR n (m / 10) (UInt8.ofNat (48 + m / 10 % 10) :: x.data.toList)) := decR_step HR.out (by omega)
      have hss : (strOfNums [48 + (m : Int) / 10 % 10]).size = 1 := rfl
      have hq1 : 0 ≤ (m : Int) / 10 := by omega
      have hq2 : (m : Int) / 10 ≤ 100000 := by omega
      have hmm : m / 10 ≤ 100000 := by omega
      have HLT : Hid (m / 10 + 1 ≤ m) := by show _ ≤ _; omega
      go_wp2_with fail
      go_roundw
      case rel =>
        refine ⟨m / 10, _, by omega, by go_num, rfl, ?_, ?_, HB.out.alloc hsz _⟩
        · have := HLT.out
          show (_ ++ x).size + _ ≤ _
          rw [ByteArray.size_append]
          show 1 + x.size + _ ≤ _
          omega
        · show decR _ _ _
          rw [show ∀ a b : ByteArray, (a ++ b).data.toList = a.data.toList ++ b.data.toList from fun a b => by simp [ByteArray.data_append]]
          have e : (strOfNums [48 + (m : Int) / 10 % 10]).data.toList = [UInt8.ofNat (48 + m / 10 % 10)] := by
            show [UInt8.ofNat (48 + (m : Int) / 10 % 10).toNat] = _
            rw [show (48 + (m : Int) / 10 % 10).toNat = 48 + m / 10 % 10 by omega]
          first
            | (rw [e]; exact HS.out)
            | exact HS.out
      case measure => simp [intOf]; omega
    · have hd : decide ((9 : Int) < (m : Int)) = false := by simp; omega
      have hd2 : ¬ (9 : Int) < (m : Int) := by omega
      have HF : Hid (x.data.toList = decL n) := by
        rcases HR.out with ⟨_, h⟩ | ⟨h, _⟩
        · exact h.symm
        · omega
      go_wp2_with fail
      go_ret
      exact ⟨_, rfl, HF.out, HB.out⟩

end Go.Proofs.YtnndoagpbcacdaaGreatDoor
