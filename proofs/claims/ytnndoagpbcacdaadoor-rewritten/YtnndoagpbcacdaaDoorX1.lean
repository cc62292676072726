import Derived.Test.YtnndoagpbcacdaaDoorW7
namespace Go.Proofs.YtnndoagpbcacdaaDoor
open Go.RowKit

/-! Package codetext: read.go: words. -/
def numOk (s : ByteArray) : Bool := decide (1 ≤ s.size) && (decide (s.size ≤ 6) && (!(decide (bt s 0 = 48) && decide (1 < s.size)) && s.data.toList.all fun c => decide (48 ≤ c.toNat) && decide (c.toNat ≤ 57)))
def numV (s : ByteArray) : Int := if numOk s then valL s.data.toList else 0
theorem numV_le (s : ByteArray) : 0 ≤ numV s ∧ numV s ≤ 999999 := by
  unfold numV
  split
  · rename_i h
    simp only [numOk, Bool.and_eq_true, decide_eq_true_eq, List.all_eq_true] at h
    obtain ⟨_, h6, _, hd⟩ := h
    have h1 := valL_le s.data.toList hd
    rw [size_len] at h6
    have h3 : (10 : Int) ^ s.data.toList.length ≤ 10 ^ 6 := by exact_mod_cast Nat.pow_le_pow_right (by decide) h6
    have h4 : (10 : Int) ^ 6 = 1000000 := by decide
    omega
  · omega
theorem all_bad {l : List UInt8} {f : UInt8 → Bool} (k : Nat) (h : k < l.length) (hf : f l[k] = false) : l.all f = false := by
  rw [List.all_eq_false]; exact ⟨l[k], List.getElem_mem h, by rw [hf]; simp⟩

set_option maxHeartbeats 2000000 in
theorem pReadNumber (s : ByteArray) (w : World) :
    Calls Tryd.prog 72 #[.string s] w fun e w' => e = .returned (.tuple #[.int .i64 (numV s), .bool (numOk s)]) ∧ w' = w := by
  have bad : numOk s = false → Hid (numV s = 0 ∧ numOk s = false) := fun h => ⟨by unfold numV; rw [h]; rfl, h⟩
  by_cases h0 : s.size = 0
  · have HB := bad (by simp [numOk, h0])
    rw [HB.out.1, HB.out.2]
    have he : s.toList = [] := by
      have : s.data.toList = [] := List.length_eq_zero_iff.1 (by rw [← size_len]; exact h0)
      rw [ByteArray.toList_eq]; exact this
    have he2 : (s.toList == []) = true := by rw [he]; rfl
    clear he bad HB h0
    go_enter Tryd.func72, Tryd.ntmps72
    go_wp2_with fail
    go_ret2
    exact ⟨rfl, rfl⟩
  have hne : (s.toList == []) = false := by
    rw [beq_eq_false_iff_ne]
    intro e
    rw [ByteArray.toList_eq] at e
    have := size_len s
    rw [e] at this
    exact h0 this
  by_cases h6 : 6 < s.size
  · have HB := bad (by simp [numOk]; omega)
    rw [HB.out.1, HB.out.2]
    go_enter Tryd.func72, Tryd.ntmps72
    go_wp2_with fail
    go_ret2
    exact ⟨rfl, rfl⟩
  have hb0 := bt_eq s 0 (by omega)
  by_cases hz : bt s 0 = 48
  · by_cases h1 : 1 < s.size
    · have HB := bad (by simp [numOk, hz, h1])
      rw [HB.out.1, HB.out.2]
      go_enter Tryd.func72, Tryd.ntmps72
      go_wp2_with fail
      go_ret2
      exact ⟨rfl, rfl⟩
    have h1' : ¬ (1 : Int) < (s.size : Int) := by omega
    have HSL : Hid (s.size = s.data.toList.length) := size_len s
    go_enter Tryd.func72, Tryd.ntmps72
    go_wp2_with fail
    clear hb0
    go_loop [4, 5] (fun a b => ∃ k : Nat, k ≤ s.size ∧ b = .int .i64 k ∧ a = .int .i64 (valL (s.data.toList.take k)) ∧ Hid (digL (s.data.toList.take k))) (fun _ b => s.size - (intOf b).toNat)
    case atStart => exact ⟨0, Nat.zero_le _, rfl, rfl, fun c hc => by simp at hc⟩
    case round =>
      obtain ⟨k, hk, rfl, rfl, HD⟩ := hrel
      by_cases hlt : k < s.size
      · have hkl : k < s.data.toList.length := by rw [← HSL.out]; exact hlt
        have hbk := bt_eq s k hlt
        have hbg := bt_get s k hkl
        by_cases q1 : bt s k < 48
        · have HB := bad (by unfold numOk; rw [all_bad k hkl (by rw [hbg] at q1; rw [Bool.and_eq_false_iff]; left; exact decide_eq_false (by omega))]; simp)
          clear hbg
          go_wp2_with fail
          go_ret2
          exact ⟨by rw [HB.out.1, HB.out.2]; rfl, rfl⟩
        have q1' : decide (bt s k < 48) = false := by simpa using q1
        by_cases q2 : 57 < bt s k
        · have HB := bad (by unfold numOk; rw [all_bad k hkl (by rw [hbg] at q2; rw [Bool.and_eq_false_iff]; right; exact decide_eq_false (by omega))]; simp)
          clear hbg
          go_wp2_with fail
          go_ret2
          exact ⟨by rw [HB.out.1, HB.out.2]; rfl, rfl⟩
        have q2' : decide (57 < bt s k) = false := by simpa using q2
        have hb1 : 48 ≤ bt s k := by omega
        have hb2 : bt s k ≤ 57 := by omega
        have hv := valL_le (s.data.toList.take k) HD.out
        have hv0 := hv.1
        have hv1 : valL (s.data.toList.take k) ≤ 99999 := by
          have h1 := hv.2
          have h2 : (s.data.toList.take k).length ≤ 5 := by rw [List.length_take]; omega
          have h3 : (10 : Int) ^ (s.data.toList.take k).length ≤ 10 ^ 5 := by exact_mod_cast Nat.pow_le_pow_right (by decide) h2
          have h4 : (10 : Int) ^ 5 = 100000 := by decide
          omega
        have HN : Hid (valL (s.data.toList.take (k + 1)) = 10 * valL (s.data.toList.take k) + (bt s k - 48)) := by
          show _ = _
          rw [List.take_succ_eq_append_getElem hkl, valL_snoc, hbg]
        have HD2 : Hid (digL (s.data.toList.take (k + 1))) := by
          intro c hc
          rw [List.take_succ_eq_append_getElem hkl] at hc
          rcases List.mem_append.1 hc with hc | hc
          · exact HD.out c hc
          · simp only [List.mem_cons, List.not_mem_nil, or_false] at hc
            subst hc
            rw [hbg] at hb1 hb2
            omega
        clear hv hbg
        go_wp2_with fail
        go_round
        case rel => exact ⟨k + 1, hlt, by go_num, by rw [HN.out], HD2⟩
        case measure => simp [intOf]; omega
      · have HE : Hid (s.data.toList.take k = s.data.toList) := List.take_of_length_le (by rw [← HSL.out]; omega)
        rw [HE.out] at HD ⊢
        have HOK : Hid (numOk s = true ∧ numV s = valL s.data.toList) := by
          have : numOk s = true := by
            simp only [numOk, Bool.and_eq_true, decide_eq_true_eq, List.all_eq_true]
            refine ⟨by omega, by omega, by simp [hz]; omega, fun c hc => HD.out c hc⟩
          exact ⟨this, by unfold numV; rw [this]; rfl⟩
        go_wp2_with fail
        go_ret2
        exact ⟨by rw [HOK.out.1, HOK.out.2]; rfl, rfl⟩
  have hz' : (bt s 0 == 48) = false := by simpa using hz
  have HSL : Hid (s.size = s.data.toList.length) := size_len s
  go_enter Tryd.func72, Tryd.ntmps72
  go_wp2_with fail
  clear hb0
  go_loop [4, 5] (fun a b => ∃ k : Nat, k ≤ s.size ∧ b = .int .i64 k ∧ a = .int .i64 (valL (s.data.toList.take k)) ∧ Hid (digL (s.data.toList.take k))) (fun _ b => s.size - (intOf b).toNat)
  case atStart => exact ⟨0, Nat.zero_le _, rfl, rfl, fun c hc => by simp at hc⟩
  case round =>
    obtain ⟨k, hk, rfl, rfl, HD⟩ := hrel
    by_cases hlt : k < s.size
    · have hkl : k < s.data.toList.length := by rw [← HSL.out]; exact hlt
      have hbk := bt_eq s k hlt
      have hbg := bt_get s k hkl
      by_cases q1 : bt s k < 48
      · have HB := bad (by unfold numOk; rw [all_bad k hkl (by rw [hbg] at q1; rw [Bool.and_eq_false_iff]; left; exact decide_eq_false (by omega))]; simp)
        clear hbg
        go_wp2_with fail
        go_ret2
        exact ⟨by rw [HB.out.1, HB.out.2]; rfl, rfl⟩
      have q1' : decide (bt s k < 48) = false := by simpa using q1
      by_cases q2 : 57 < bt s k
      · have HB := bad (by unfold numOk; rw [all_bad k hkl (by rw [hbg] at q2; rw [Bool.and_eq_false_iff]; right; exact decide_eq_false (by omega))]; simp)
        clear hbg
        go_wp2_with fail
        go_ret2
        exact ⟨by rw [HB.out.1, HB.out.2]; rfl, rfl⟩
      have q2' : decide (57 < bt s k) = false := by simpa using q2
      have hb1 : 48 ≤ bt s k := by omega
      have hb2 : bt s k ≤ 57 := by omega
      have hv := valL_le (s.data.toList.take k) HD.out
      have hv0 := hv.1
      have hv1 : valL (s.data.toList.take k) ≤ 99999 := by
        have h1 := hv.2
        have h2 : (s.data.toList.take k).length ≤ 5 := by rw [List.length_take]; omega
        have h3 : (10 : Int) ^ (s.data.toList.take k).length ≤ 10 ^ 5 := by exact_mod_cast Nat.pow_le_pow_right (by decide) h2
        have h4 : (10 : Int) ^ 5 = 100000 := by decide
        omega
      have HN : Hid (valL (s.data.toList.take (k + 1)) = 10 * valL (s.data.toList.take k) + (bt s k - 48)) := by
        show _ = _
        rw [List.take_succ_eq_append_getElem hkl, valL_snoc, hbg]
      have HD2 : Hid (digL (s.data.toList.take (k + 1))) := by
        intro c hc
        rw [List.take_succ_eq_append_getElem hkl] at hc
        rcases List.mem_append.1 hc with hc | hc
        · exact HD.out c hc
        · simp only [List.mem_cons, List.not_mem_nil, or_false] at hc
          subst hc
          rw [hbg] at hb1 hb2
          omega
      clear hv hbg
      go_wp2_with fail
      go_round
      case rel => exact ⟨k + 1, hlt, by go_num, by rw [HN.out], HD2⟩
      case measure => simp [intOf]; omega
    · have HE : Hid (s.data.toList.take k = s.data.toList) := List.take_of_length_le (by rw [← HSL.out]; omega)
      rw [HE.out] at HD ⊢
      have HOK : Hid (numOk s = true ∧ numV s = valL s.data.toList) := by
        have : numOk s = true := by
          simp only [numOk, Bool.and_eq_true, decide_eq_true_eq, List.all_eq_true]
          refine ⟨by omega, by omega, by simp [hz], fun c hc => HD.out c hc⟩
        exact ⟨this, by unfold numV; rw [this]; rfl⟩
      go_wp2_with fail
      go_ret2
      exact ⟨by rw [HOK.out.1, HOK.out.2]; rfl, rfl⟩

def kL (c : Int) : Int := if c = 110 then 1 else if c = 97 then 2 else if c = 102 then 3 else if c = 112 then 4 else if c = 120 then 5 else 0
set_option maxHeartbeats 1000000 in
theorem pKindOf (c : Int) (w : World) :
    Calls Tryd.prog 93 #[.int .u8 c] w fun e w' => e = .returned (.int .i64 (kL c)) ∧ w' = w := by
  by_cases h1 : c = 110
  · subst h1
    go_enter Tryd.func93, Tryd.ntmps93
    go_wp2_with fail
    go_ret
    exact ⟨rfl, rfl⟩
  by_cases h2 : c = 97
  · subst h2
    go_enter Tryd.func93, Tryd.ntmps93
    go_wp2_with fail
    go_ret
    exact ⟨rfl, rfl⟩
  by_cases h3 : c = 102
  · subst h3
    go_enter Tryd.func93, Tryd.ntmps93
    go_wp2_with fail
    go_ret
    exact ⟨rfl, rfl⟩
  by_cases h4 : c = 112
  · subst h4
    go_enter Tryd.func93, Tryd.ntmps93
    go_wp2_with fail
    go_ret
    exact ⟨rfl, rfl⟩
  by_cases h5 : c = 120
  · subst h5
    go_enter Tryd.func93, Tryd.ntmps93
    go_wp2_with fail
    go_ret
    exact ⟨rfl, rfl⟩
  have HK : Hid (kL c = 0) := by simp [Hid, kL, h1, h2, h3, h4, h5]
  rw [HK.out]
  have g1 : (c == 110) = false := by simpa using h1
  have g2 : (c == 97) = false := by simpa using h2
  have g3 : (c == 102) = false := by simpa using h3
  have g4 : (c == 112) = false := by simpa using h4
  have g5 : (c == 120) = false := by simpa using h5
  go_enter Tryd.func93, Tryd.ntmps93
  go_wp2_with fail
  go_ret
  exact ⟨rfl, rfl⟩

end Go.Proofs.YtnndoagpbcacdaaDoor
