import Derived.Test.YtnndoagpbcacdaaDoorX1
namespace Go.Proofs.YtnndoagpbcacdaaDoor
open Go.RowKit

/-! Package codetext: read.go: atoms, words. -/
def atV (s : ByteArray) : Int × Int := if s.size = 0 then (0, 0) else (kL (bt s 0), numV (s.extract 1 s.size))
def atK (s : ByteArray) : Bool := decide (s.size ≠ 0) && numOk (s.extract 1 s.size)

set_option maxHeartbeats 2000000 in
theorem pReadAtom (s : ByteArray) (w : World) (hs : s.size ≤ 1000000) :
    Calls Tryd.prog 85 #[.string s] w fun e w' => e = .returned (.tuple #[.agg #[.int .i64 (atV s).1, .int .i64 (atV s).2], .bool (atK s)]) ∧ Below w.heap.size w w' := by
  by_cases h0 : s.size = 0
  · have HB : Hid (atV s = (0, 0) ∧ atK s = false) := by simp [Hid, atV, atK, h0]
    rw [HB.out.1, HB.out.2]
    have he : s.toList = [] := by
      have : s.data.toList = [] := List.length_eq_zero_iff.1 (by rw [← size_len]; exact h0)
      rw [ByteArray.toList_eq]; exact this
    have he2 : (s.toList == []) = true := by rw [he]; rfl
    clear he HB h0
    go_enter Tryd.func85, Tryd.ntmps85
    go_wp2_with fail
    exact bodyPost_ret (v := .tuple #[.agg #[.int .i64 0, .int .i64 0], .bool false]) (by simp [results, Tryd.results85, go_sem]) rfl ⟨rfl, (Below.refl _ _).alloc (Nat.le_refl _) _⟩
  have hne : (s.toList == []) = false := by
    rw [beq_eq_false_iff_ne]
    intro e
    rw [ByteArray.toList_eq] at e
    have := size_len s
    rw [e] at this
    exact h0 this
  have HB : Hid (atV s = (kL (bt s 0), numV (s.extract 1 s.size)) ∧ atK s = numOk (s.extract 1 s.size)) := by simp [Hid, atV, atK, h0]
  rw [HB.out.1, HB.out.2]
  have hb0 := bt_eq s 0 (by omega)
  have HN : Hid _ := fun w => pReadNumber (s.extract 1 s.size) w
  have HK : Hid _ := fun w => pKindOf (bt s 0) w
  generalize hT : s.extract 1 s.size = t at *
  go_enter Tryd.func85, Tryd.ntmps85
  go_wp2_with fail
  refine (show Calls _ _ _ _ _ from HN.out _).mono ?_
  rintro e w1 ⟨rfl, rfl⟩
  go_wp2_with fail
  refine (show Calls _ _ _ _ _ from HK.out _).mono ?_
  rintro e w1 ⟨rfl, rfl⟩
  go_wp2_with fail
  exact bodyPost_ret (v := .tuple #[.agg #[.int .i64 (kL (bt s 0)), .int .i64 (numV t)], .bool (numOk t)]) (by simp [results, Tryd.results85, go_sem]) rfl ⟨rfl, (Below.refl _ _).alloc (Nat.le_refl _) _⟩

end Go.Proofs.YtnndoagpbcacdaaDoor
