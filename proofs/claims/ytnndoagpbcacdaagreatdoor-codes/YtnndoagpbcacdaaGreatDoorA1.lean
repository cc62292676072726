import Derived.Test.YtnndoagpbcacdaaGreatDoorRows
import Derived.WalkKit
import Derived.WalkSpells
import Derived.WalkLawsBesides
import Derived.BigQuiet
import Derived.Deep.QuietTactic
namespace Go.Proofs.YtnndoagpbcacdaaGreatDoor
open Go.RowKit

def isL (c : Int) : Bool := decide (97 ≤ c ∧ c ≤ 122)
def isD (c : Int) : Bool := decide (48 ≤ c ∧ c ≤ 57)
def isB (c : Int) : Bool := decide (c = 32 ∨ c = 10)
def goesB (a b : Int) : Bool := if isL a then isL b || isD b else isD a && isD b

theorem ret_bool {a b : Bool} (h : a = b) : Ending.returned (.bool a) = .returned (.bool b) := by rw [h]
theorem ret_int {k : IntKind} {a b : Int} (h : a = b) : Ending.returned (.int k a) = .returned (.int k b) := by rw [h]

set_option maxHeartbeats 400000 in
theorem sIsLetter (c : Int) (w : World) :
    Calls Tryz.prog 147 #[.int .u8 c] w fun e w' => e = .returned (.bool (isL c)) ∧ w' = w := by
  by_cases h1 : 97 ≤ c
  · by_cases h2 : c ≤ 122
    all_goals
      go_enter Tryz.func147, Tryz.ntmps147
      go_wp2
      go_ret
      exact ⟨ret_bool (by simp [isL, *]), rfl⟩
  · go_enter Tryz.func147, Tryz.ntmps147
    go_wp2
    go_ret
    exact ⟨ret_bool (by simp [isL]; omega), rfl⟩

set_option maxHeartbeats 400000 in
theorem sIsDigit (c : Int) (w : World) :
    Calls Tryz.prog 148 #[.int .u8 c] w fun e w' => e = .returned (.bool (isD c)) ∧ w' = w := by
  by_cases h1 : 48 ≤ c
  · by_cases h2 : c ≤ 57
    all_goals
      go_enter Tryz.func148, Tryz.ntmps148
      go_wp2
      go_ret
      exact ⟨ret_bool (by simp [isD, *]), rfl⟩
  · go_enter Tryz.func148, Tryz.ntmps148
    go_wp2
    go_ret
    exact ⟨ret_bool (by simp [isD]; omega), rfl⟩

set_option maxHeartbeats 400000 in
theorem sIsBlank (c : Int) (w : World) :
    Calls Tryz.prog 98 #[.int .u8 c] w fun e w' => e = .returned (.bool (isB c)) ∧ w' = w := by
  by_cases h1 : (c == 32) = true
  · go_enter Tryz.func98, Tryz.ntmps98
    go_wp2
    go_ret
    exact ⟨ret_bool (by simp at h1; simp [isB, h1]), rfl⟩
  · have h1' : (c == 32) = false := by simpa using h1
    clear h1
    go_enter Tryz.func98, Tryz.ntmps98
    go_wp2
    go_ret
    exact ⟨ret_bool (by simp at h1'; rw [Bool.eq_iff_iff]; simp [isB, h1']), rfl⟩

set_option maxHeartbeats 400000 in
theorem sGoesOn (a b : Int) (w : World) :
    Calls Tryz.prog 97 #[.int .u8 a, .int .u8 b] w fun e w' => e = .returned (.bool (goesB a b)) ∧ w' = w := by
  cases ha : isL a
  · cases hd : isD a
    all_goals
      go_enter Tryz.func97, Tryz.ntmps97
      go_wp2_with (first | (go_at_call 147; refine (sIsLetter _ _).mono ?_; rintro e w' ⟨rfl, rfl⟩) | (go_at_call 148; refine (sIsDigit _ _).mono ?_; rintro e w' ⟨rfl, rfl⟩))
      go_ret
      exact ⟨ret_bool (by simp [goesB, *]), rfl⟩
  · cases hb : isL b
    all_goals
      go_enter Tryz.func97, Tryz.ntmps97
      go_wp2_with (first | (go_at_call 147; refine (sIsLetter _ _).mono ?_; rintro e w' ⟨rfl, rfl⟩) | (go_at_call 148; refine (sIsDigit _ _).mono ?_; rintro e w' ⟨rfl, rfl⟩))
      go_ret
      exact ⟨ret_bool (by simp [goesB, *]), rfl⟩

set_option maxHeartbeats 400000 in
theorem sKindUpTo (k l m : Int) (w : World) :
    Calls Tryz.prog 149 #[.int .i64 k, .int .i64 l, .int .i64 m] w fun e w' => e = .returned (.int .i64 (if m < l then 0 else k)) ∧ w' = w := by
  by_cases h : m < l
  all_goals
    go_enter Tryz.func149, Tryz.ntmps149
    go_wp2
    go_ret
    exact ⟨ret_int (by simp [*]), rfl⟩

/-- The kind of a token by its first byte and its length. -/
def kindC (c : Int) (n : Nat) : Int :=
  if isL c then (if 8 < n then 0 else 1) else if isD c then (if 6 < n then 0 else 2)
  else if c = 43 ∨ c = 45 ∨ c = 42 ∨ c = 60 ∨ c = 63 then 3 else if c = 61 then 4 else if c = 59 then 5 else if c = 40 then 6 else if c = 41 then 7 else 0
/-- Byte i of a text, as a number. -/
def bt (t : ByteArray) (i : Nat) : Int := ((t.data[i]?.getD 0).toNat : Int)
theorem bt_eq (t : ByteArray) (i : Nat) (h : i < t.size) : ((t[i]'h).toNat : Int) = bt t i := by
  unfold bt
  rw [Array.getElem?_eq_getElem (show i < t.data.size from h)]
  rfl
theorem size_len (t : ByteArray) : t.size = t.data.toList.length := by
  show t.data.size = _
  simp
def kindOf (t : ByteArray) : Int := kindC (bt t 0) t.size
theorem nonempty_of (t : ByteArray) (h : 0 < t.size) : t.toList.isEmpty = false := by
  rw [ByteArray.toList_eq]
  rw [size_len] at h
  cases hl : t.data.toList with
  | nil => rw [hl] at h; simp at h
  | cons _ _ => rfl

set_option maxHeartbeats 400000 in
theorem sTokenKind (t : ByteArray) (w : World) (ht : 0 < t.size) (hm : t.size ≤ 1000) :
    Calls Tryz.prog 99 #[.string t] w fun e w' => e = .returned (.int .i64 (kindOf t)) ∧ w' = w := by
  have hne := nonempty_of t ht
  unfold kindOf
  have hc := bt_eq t 0 ht
  generalize bt t 0 = c at *
  cases hl : isL c
  · cases hd : isD c
    · go_enter Tryz.func99, Tryz.ntmps99
      go_wp2_with (first | (go_at_call 147; refine (sIsLetter _ _).mono ?_; rintro e w' ⟨rfl, rfl⟩) | (go_at_call 148; refine (sIsDigit _ _).mono ?_; rintro e w' ⟨rfl, rfl⟩))
      all_goals (go_ret; exact ⟨ret_int (by simp_all [kindC]), rfl⟩)
    · go_enter Tryz.func99, Tryz.ntmps99
      go_wp2_with (first | (go_at_call 147; refine (sIsLetter _ _).mono ?_; rintro e w' ⟨rfl, rfl⟩) | (go_at_call 148; refine (sIsDigit _ _).mono ?_; rintro e w' ⟨rfl, rfl⟩) | (go_at_call 149; refine (sKindUpTo _ _ _ _).mono ?_; rintro e w' ⟨rfl, rfl⟩))
      all_goals (go_ret; exact ⟨ret_int (by simp [kindC, *]; try omega), rfl⟩)
  · go_enter Tryz.func99, Tryz.ntmps99
    go_wp2_with (first | (go_at_call 147; refine (sIsLetter _ _).mono ?_; rintro e w' ⟨rfl, rfl⟩) | (go_at_call 149; refine (sKindUpTo _ _ _ _).mono ?_; rintro e w' ⟨rfl, rfl⟩))
    all_goals (go_ret; exact ⟨ret_int (by simp [kindC, *]; try omega), rfl⟩)

end Go.Proofs.YtnndoagpbcacdaaGreatDoor
