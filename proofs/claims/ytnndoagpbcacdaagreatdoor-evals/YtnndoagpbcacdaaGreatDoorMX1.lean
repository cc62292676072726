import Derived.Test.YtnndoagpbcacdaaGreatDoorMW5
import Derived.Test.YtnndoagpbcacdaaGreatDoorMB0
namespace Go.Proofs.YtnndoagpbcacdaaGreatDoor
open Go.RowKit

/-! Package codetext: read.go: words. -/
def numOk (s : ByteArray) : Bool := decide (1 ≤ s.size) && (decide (s.size ≤ 6) && (!(decide (bt s 0 = 48) && decide (1 < s.size)) && s.data.toList.all fun c => decide (48 ≤ c.toNat) && decide (c.toNat ≤ 57)))
def numV (s : ByteArray) : Int := if numOk s then valL s.data.toList else 0
theorem numV_le (s : ByteArray) : 0 ≤ numV s ∧ numV s ≤ 999999 := by
  unfold numV
  split
  · rename_i h
    simp only [numOk, Bool.and_eq_true, decide_eq_true_eq, List.all_eq_true] at h
    obtain ⟨_, h6, _, hd⟩ := h
    have h1 := valL_le s.data.toList hd
    rw [size_len] at h6
    have h3 : (10 : Int) ^ s.data.toList.length ≤ 10 ^ 6 := by exact_mod_cast Nat.pow_le_pow_right (by decide) h6
    have h4 : (10 : Int) ^ 6 = 1000000 := by decide
    omega
  · omega
theorem all_bad {l : List UInt8} {f : UInt8 → Bool} (k : Nat) (h : k < l.length) (hf : f l[k] = false) : l.all f = false := by
  rw [List.all_eq_false]; exact ⟨l[k], List.getElem_mem h, by rw [hf]; simp⟩

set_option maxHeartbeats 2000000 in
theorem pReadNumber (s : ByteArray) (w : World) :
    Calls Tryz.prog 158 #[.string s] w fun e w' => e = .returned (.tuple #[.int .i64 (numV s), .bool (numOk s)]) ∧ w' = w := by
  have bad : numOk s = false → Hid (numV s = 0 ∧ numOk s = false) := fun h => ⟨by unfold numV; rw [h]; rfl, h⟩
  by_cases h0 : s.size = 0
  · have HB := bad (by simp [numOk, h0])
    rw [HB.out.1, HB.out.2]
    have he : s.toList = [] := by
      have : s.data.toList = [] := List.length_eq_zero_iff.1 (by rw [← size_len]; exact h0)
      rw [ByteArray.toList_eq]; exact this
    have he2 : (s.toList == []) = true := by rw [he]; rfl
    clear he bad HB h0
    go_enter Tryz.func158, Tryz.ntmps158
    go_wp2_with fail
    go_ret2
    exact ⟨rfl, rfl⟩
  have hne : (s.toList == []) = false := by
    rw [beq_eq_false_iff_ne]
    intro e
    rw [ByteArray.toList_eq] at e
    have := size_len s
    rw [e] at this
    exact h0 this
  by_cases h6 : 6 < s.size
  · have HB := bad (by simp [numOk]; omega)
    rw [HB.out.1, HB.out.2]
    go_enter Tryz.func158, Tryz.ntmps158
    go_wp2_with fail
    go_ret2
    exact ⟨rfl, rfl⟩
  have hb0 := bt_eq s 0 (by omega)
  by_cases hz : bt s 0 = 48
  · by_cases h1 : 1 < s.size
    · have HB := bad (by simp [numOk, hz, h1])
      rw [HB.out.1, HB.out.2]
      go_enter Tryz.func158, Tryz.ntmps158
      go_wp2_with fail
      go_ret2
      exact ⟨rfl, rfl⟩
    have h1' : ¬ (1 : Int) < (s.size : Int) := by omega
    have HSL : Hid (s.size = s.data.toList.length) := size_len s
    go_enter Tryz.func158, Tryz.ntmps158
    go_wp2_with fail
    clear hb0
    go_loop [4, 5] (fun a b => ∃ k : Nat, k ≤ s.size ∧ b = .int .i64 k ∧ a = .int .i64 (valL (s.data.toList.take k)) ∧ Hid (digL (s.data.toList.take k))) (fun _ b => s.size - (intOf b).toNat)
    case atStart => exact ⟨0, Nat.zero_le _, rfl, rfl, fun c hc => by simp at hc⟩
    case round =>
      obtain ⟨k, hk, rfl, rfl, HD⟩ := hrel
      by_cases hlt : k < s.size
      · have hkl : k < s.data.toList.length := by rw [← HSL.out]; exact hlt
        have hbk := bt_eq s k hlt
        have hbg := bt_get s k hkl
        by_cases q1 : bt s k < 48
        · have HB := bad (by unfold numOk; rw [all_bad k hkl (by rw [hbg] at q1; rw [Bool.and_eq_false_iff]; left; exact decide_eq_false (by omega))]; simp)
          clear hbg
          go_wp2_with fail
          go_ret2
          exact ⟨by rw [HB.out.1, HB.out.2]; rfl, rfl⟩
        have q1' : decide (bt s k < 48) = false := by simpa using q1
        by_cases q2 : 57 < bt s k
        · have HB := bad (by unfold numOk; rw [all_bad k hkl (by rw [hbg] at q2; rw [Bool.and_eq_false_iff]; right; exact decide_eq_false (by omega))]; simp)
          clear hbg
          go_wp2_with fail
          go_ret2
          exact ⟨by rw [HB.out.1, HB.out.2]; rfl, rfl⟩
        have q2' : decide (57 < bt s k) = false := by simpa using q2
        have hb1 : 48 ≤ bt s k := by omega
        have hb2 : bt s k ≤ 57 := by omega
        have hv := valL_le (s.data.toList.take k) HD.out
        have hv0 := hv.1
        have hv1 : valL (s.data.toList.take k) ≤ 99999 := by
          have h1 := hv.2
          have h2 : (s.data.toList.take k).length ≤ 5 := by rw [List.length_take]; omega
          have h3 : (10 : Int) ^ (s.data.toList.take k).length ≤ 10 ^ 5 := by exact_mod_cast Nat.pow_le_pow_right (by decide) h2
          have h4 : (10 : Int) ^ 5 = 100000 := by decide
          omega
        have HN : Hid (valL (s.data.toList.take (k + 1)) = 10 * valL (s.data.toList.take k) + (bt s k - 48)) := by
          show _ = _
          rw [List.take_succ_eq_append_getElem hkl, valL_snoc, hbg]
        have HD2 : Hid (digL (s.data.toList.take (k + 1))) := by
          intro c hc
          rw [List.take_succ_eq_append_getElem hkl] at hc
          rcases List.mem_append.1 hc with hc | hc
          · exact HD.out c hc
          · simp only [List.mem_cons, List.not_mem_nil, or_false] at hc
            subst hc
            rw [hbg] at hb1 hb2
            omega
        clear hv hbg
        go_wp2_with fail
        go_round
        case rel => exact ⟨k + 1, hlt, by go_num, by rw [HN.out], HD2⟩
        case measure => simp [intOf]; omega
      · have HE : Hid (s.data.toList.take k = s.data.toList) := List.take_of_length_le (by rw [← HSL.out]; omega)
        rw [HE.out] at HD ⊢
        have HOK : Hid (numOk s = true ∧ numV s = valL s.data.toList) := by
          have : numOk s = true := by
            simp only [numOk, Bool.and_eq_true, decide_eq_true_eq, List.all_eq_true]
            refine ⟨by omega, by omega, by simp [hz]; omega, fun c hc => HD.out c hc⟩
          exact ⟨this, by unfold numV; rw [this]; rfl⟩
        go_wp2_with fail
        go_ret2
        exact ⟨by rw [HOK.out.1, HOK.out.2]; rfl, rfl⟩
  have hz' : (bt s 0 == 48) = false := by simpa using hz
  have HSL : Hid (s.size = s.data.toList.length) := size_len s
  go_enter Tryz.func158, Tryz.ntmps158
  go_wp2_with fail
  clear hb0
  go_loop [4, 5] (fun a b => ∃ k : Nat, k ≤ s.size ∧ b = .int .i64 k ∧ a = .int .i64 (valL (s.data.toList.take k)) ∧ Hid (digL (s.data.toList.take k))) (fun _ b => s.size - (intOf b).toNat)
  case atStart => exact ⟨0, Nat.zero_le _, rfl, rfl, fun c hc => by simp at hc⟩
  case round =>
    obtain ⟨k, hk, rfl, rfl, HD⟩ := hrel
    by_cases hlt : k < s.size
    · have hkl : k < s.data.toList.length := by rw [← HSL.out]; exact hlt
      have hbk := bt_eq s k hlt
      have hbg := bt_get s k hkl
      by_cases q1 : bt s k < 48
      · have HB := bad (by unfold numOk; rw [all_bad k hkl (by rw [hbg] at q1; rw [Bool.and_eq_false_iff]; left; exact decide_eq_false (by omega))]; simp)
        clear hbg
        go_wp2_with fail
        go_ret2
        exact ⟨by rw [HB.out.1, HB.out.2]; rfl, rfl⟩
      have q1' : decide (bt s k < 48) = false := by simpa using q1
      by_cases q2 : 57 < bt s k
      · have HB := bad (by unfold numOk; rw [all_bad k hkl (by rw [hbg] at q2; rw [Bool.and_eq_false_iff]; right; exact decide_eq_false (by omega))]; simp)
        clear hbg
        go_wp2_with fail
        go_ret2
        exact ⟨by rw [HB.out.1, HB.out.2]; rfl, rfl⟩
      have q2' : decide (57 < bt s k) = false := by simpa using q2
      have hb1 : 48 ≤ bt s k := by omega
      have hb2 : bt s k ≤ 57 := by omega
      have hv := valL_le (s.data.toList.take k) HD.out
      have hv0 := hv.1
      have hv1 : valL (s.data.toList.take k) ≤ 99999 := by
        have h1 := hv.2
        have h2 : (s.data.toList.take k).length ≤ 5 := by rw [List.length_take]; omega
        have h3 : (10 : Int) ^ (s.data.toList.take k).length ≤ 10 ^ 5 := by exact_mod_cast Nat.pow_le_pow_right (by decide) h2
        have h4 : (10 : Int) ^ 5 = 100000 := by decide
        omega
      have HN : Hid (valL (s.data.toList.take (k + 1)) = 10 * valL (s.data.toList.take k) + (bt s k - 48)) := by
        show _ = _
        rw [List.take_succ_eq_append_getElem hkl, valL_snoc, hbg]
      have HD2 : Hid (digL (s.data.toList.take (k + 1))) := by
        intro c hc
        rw [List.take_succ_eq_append_getElem hkl] at hc
        rcases List.mem_append.1 hc with hc | hc
        · exact HD.out c hc
        · simp only [List.mem_cons, List.not_mem_nil, or_false] at hc
          subst hc
          rw [hbg] at hb1 hb2
          omega
      clear hv hbg
      go_wp2_with fail
      go_round
      case rel => exact ⟨k + 1, hlt, by go_num, by rw [HN.out], HD2⟩
      case measure => simp [intOf]; omega
    · have HE : Hid (s.data.toList.take k = s.data.toList) := List.take_of_length_le (by rw [← HSL.out]; omega)
      rw [HE.out] at HD ⊢
      have HOK : Hid (numOk s = true ∧ numV s = valL s.data.toList) := by
        have : numOk s = true := by
          simp only [numOk, Bool.and_eq_true, decide_eq_true_eq, List.all_eq_true]
          refine ⟨by omega, by omega, by simp [hz], fun c hc => HD.out c hc⟩
        exact ⟨this, by unfold numV; rw [this]; rfl⟩
      go_wp2_with fail
      go_ret2
      exact ⟨by rw [HOK.out.1, HOK.out.2]; rfl, rfl⟩

def kL (c : Int) : Int := if c = 110 then 1 else if c = 97 then 2 else if c = 102 then 3 else if c = 112 then 4 else if c = 120 then 5 else 0
set_option maxHeartbeats 1000000 in
theorem pKindOf (c : Int) (w : World) :
    Calls Tryz.prog 203 #[.int .u8 c] w fun e w' => e = .returned (.int .i64 (kL c)) ∧ w' = w := by
  by_cases h1 : c = 110
  · subst h1
    go_enter Tryz.func203, Tryz.ntmps203
    go_wp2_with fail
    go_ret
    exact ⟨rfl, rfl⟩
  by_cases h2 : c = 97
  · subst h2
    go_enter Tryz.func203, Tryz.ntmps203
    go_wp2_with fail
    go_ret
    exact ⟨rfl, rfl⟩
  by_cases h3 : c = 102
  · subst h3
    go_enter Tryz.func203, Tryz.ntmps203
    go_wp2_with fail
    go_ret
    exact ⟨rfl, rfl⟩
  by_cases h4 : c = 112
  · subst h4
    go_enter Tryz.func203, Tryz.ntmps203
    go_wp2_with fail
    go_ret
    exact ⟨rfl, rfl⟩
  by_cases h5 : c = 120
  · subst h5
    go_enter Tryz.func203, Tryz.ntmps203
    go_wp2_with fail
    go_ret
    exact ⟨rfl, rfl⟩
  have HK : Hid (kL c = 0) := by simp [Hid, kL, h1, h2, h3, h4, h5]
  rw [HK.out]
  have g1 : (c == 110) = false := by simpa using h1
  have g2 : (c == 97) = false := by simpa using h2
  have g3 : (c == 102) = false := by simpa using h3
  have g4 : (c == 112) = false := by simpa using h4
  have g5 : (c == 120) = false := by simpa using h5
  go_enter Tryz.func203, Tryz.ntmps203
  go_wp2_with fail
  go_ret
  exact ⟨rfl, rfl⟩

end Go.Proofs.YtnndoagpbcacdaaGreatDoor
namespace Go.Proofs.YtnndoagpbcacdaaGreatDoor
open Go.RowKit

/-! Package codetext: read.go: atoms, words. -/
def atV (s : ByteArray) : Int × Int := if s.size = 0 then (0, 0) else (kL (bt s 0), numV (s.extract 1 s.size))
def atK (s : ByteArray) : Bool := decide (s.size ≠ 0) && numOk (s.extract 1 s.size)

set_option maxHeartbeats 2000000 in
theorem pReadAtom (s : ByteArray) (w : World) (hs : s.size ≤ 1000000) :
    Calls Tryz.prog 192 #[.string s] w fun e w' => e = .returned (.tuple #[.agg #[.int .i64 (atV s).1, .int .i64 (atV s).2], .bool (atK s)]) ∧ Below w.heap.size w w' := by
  by_cases h0 : s.size = 0
  · have HB : Hid (atV s = (0, 0) ∧ atK s = false) := by simp [Hid, atV, atK, h0]
    rw [HB.out.1, HB.out.2]
    have he : s.toList = [] := by
      have : s.data.toList = [] := List.length_eq_zero_iff.1 (by rw [← size_len]; exact h0)
      rw [ByteArray.toList_eq]; exact this
    have he2 : (s.toList == []) = true := by rw [he]; rfl
    clear he HB h0
    go_enter Tryz.func192, Tryz.ntmps192
    go_wp2_with fail
    exact bodyPost_ret (v := .tuple #[.agg #[.int .i64 0, .int .i64 0], .bool false]) (by simp [results, Tryz.results192, go_sem]) rfl ⟨rfl, (Below.refl _ _).alloc (Nat.le_refl _) _⟩
  have hne : (s.toList == []) = false := by
    rw [beq_eq_false_iff_ne]
    intro e
    rw [ByteArray.toList_eq] at e
    have := size_len s
    rw [e] at this
    exact h0 this
  have HB : Hid (atV s = (kL (bt s 0), numV (s.extract 1 s.size)) ∧ atK s = numOk (s.extract 1 s.size)) := by simp [Hid, atV, atK, h0]
  rw [HB.out.1, HB.out.2]
  have hb0 := bt_eq s 0 (by omega)
  have HN : Hid _ := fun w => pReadNumber (s.extract 1 s.size) w
  have HK : Hid _ := fun w => pKindOf (bt s 0) w
  generalize hT : s.extract 1 s.size = t at *
  go_enter Tryz.func192, Tryz.ntmps192
  go_wp2_with fail
  refine (show Calls _ _ _ _ _ from HN.out _).mono ?_
  rintro e w1 ⟨rfl, rfl⟩
  go_wp2_with fail
  refine (show Calls _ _ _ _ _ from HK.out _).mono ?_
  rintro e w1 ⟨rfl, rfl⟩
  go_wp2_with fail
  exact bodyPost_ret (v := .tuple #[.agg #[.int .i64 (kL (bt s 0)), .int .i64 (numV t)], .bool (numOk t)]) (by simp [results, Tryz.results192, go_sem]) rfl ⟨rfl, (Below.refl _ _).alloc (Nat.le_refl _) _⟩

end Go.Proofs.YtnndoagpbcacdaaGreatDoor
namespace Go.Proofs.YtnndoagpbcacdaaGreatDoor
open Go.RowKit

/-! The reader in memory; what else it leaves alone. -/
def RdBlk (w : World) (b : Nat) (r : ByteArray) (ln : Int) : Prop := w.heap[b]? = some (.cells #[.string r, .int .i64 ln] 128 (0, 0))
structure But (b : Nat) (w w' : World) : Prop where
  bel : Below b w w'
  oth : ∀ k, k < w.heap.size → k ≠ b → w'.heap[k]? = w.heap[k]?
theorem But.refl (b : Nat) (w : World) : But b w w := ⟨Below.refl _ _, fun _ _ _ => rfl⟩
theorem But.size {b : Nat} {w w' : World} (h : But b w w') : w.heap.size ≤ w'.heap.size := h.bel.size
theorem But.trans {b : Nat} {w w' w'' : World} (h : But b w w') (h' : But b w' w'') : But b w w'' :=
  ⟨h.bel.trans h'.bel, fun k hk hn => (h'.oth k (Nat.lt_of_lt_of_le hk h.size) hn).trans (h.oth k hk hn)⟩
theorem But.of {b : Nat} {w w' : World} (h : Below w.heap.size w w') (hb : b ≤ w.heap.size) : But b w w' := ⟨h.mono hb, fun k hk _ => h.block k hk⟩
theorem But.set {b i : Nat} {w w' : World} {v : Value} (h : But b w w') : But b w (w'.setCell ⟨b, i, none⟩ v) :=
  ⟨h.bel.setCell (by exact Nat.le_refl b) _, fun k hk hn => (heap_set_ne _ hn).trans (h.oth k hk hn)⟩
theorem But.grown {b : Nat} {w w' w'' : World} {base n size : Nat} {e : TypeId} {v : Value} {xs : List Value} (h : But b w w') (hr : w'.ownsRow base e size v n xs) (hg : w'.grownBy w'' v.ownBlock) (hb : w.heap.size ≤ base) (hbb : b ≤ w.heap.size) : But b w w'' :=
  ⟨h.bel.grown hg (Nat.le_trans hbb h.size) (fun k hk => by have := (hr.lt k hk).1; omega), fun k hk hn => (hg.block k (Nat.lt_of_lt_of_le hk h.size) (fun e1 => by have := (hr.lt k e1.symm).1; omega)).trans (h.oth k hk hn)⟩
theorem But.below {b : Nat} {w w' : World} (h : But b w w') {B : Nat} (hB : B ≤ b) : Below B w w' := h.bel.mono hB
theorem ownsRow_but {b : Nat} {w w' : World} {base n size : Nat} {e : TypeId} {v : Value} {xs : List Value} {r : ByteArray} {ln : Int} (h : w.ownsRow base e size v n xs) (hb : But b w w') (hr : RdBlk w b r ln) (hne : e ≠ 128) : w'.ownsRow base e size v n xs := by
  refine ⟨h.1, ?_⟩
  rcases h.2 with hn | ⟨g, cap, cur, hv, hg, hh, q⟩
  · exact .inl hn
  · refine .inr ⟨g, cap, cur, hv, hg, ?_, q⟩
    rw [hb.oth g (Array.getElem?_eq_some_iff.1 hh).1 (fun e1 => by subst e1; unfold RdBlk at hr; rw [hr] at hh; simp at hh; exact hne hh.2.symm)]
    exact hh

/-- The words of a line, and where the next one begins. -/
def wrd (r : ByteArray) (b i : Nat) (acc : List ByteArray) : Option (List ByteArray × Nat) :=
  if h : i < r.size then (if bt r i = 10 then some (acc ++ [r.extract b i], i + 1) else if bt r i = 32 then wrd r (i + 1) (i + 1) (acc ++ [r.extract b i]) else wrd r b (i + 1) acc) else none
termination_by r.size - i
theorem wrd_end (r : ByteArray) (b i : Nat) (acc : List ByteArray) (h : ¬ i < r.size) : wrd r b i acc = none := by rw [wrd, dif_neg h]
theorem wrd_nl (r : ByteArray) (b i : Nat) (acc : List ByteArray) (h : i < r.size) (h1 : bt r i = 10) : wrd r b i acc = some (acc ++ [r.extract b i], i + 1) := by rw [wrd, dif_pos h, if_pos h1]
theorem wrd_sp (r : ByteArray) (b i : Nat) (acc : List ByteArray) (h : i < r.size) (h1 : bt r i = 32) : wrd r b i acc = wrd r (i + 1) (i + 1) (acc ++ [r.extract b i]) := by rw [wrd, dif_pos h, if_neg (by omega), if_pos h1]
theorem wrd_go (r : ByteArray) (b i : Nat) (acc : List ByteArray) (h : i < r.size) (h1 : bt r i ≠ 10) (h2 : bt r i ≠ 32) : wrd r b i acc = wrd r b (i + 1) acc := by rw [wrd, dif_pos h, if_neg h1, if_neg h2]
def sts (l : List ByteArray) : List Value := l.map fun s => .string s
theorem sts_snoc (l : List ByteArray) (s : ByteArray) : sts (l ++ [s]) = sts l ++ [.string s] := by simp [sts]

set_option maxRecDepth 100000 in
set_option maxHeartbeats 4000000 in
theorem pReadWords (b : Nat) (r : ByteArray) (ln : Int) (w : World) (h : RdBlk w b r ln) (hr : r.size ≤ 30000) (hl0 : 0 ≤ ln) (hl1 : ln ≤ 100000) :
    Calls Tryz.prog 157 #[.pointer (some ⟨b, 0, none⟩)] w fun e w' => ∃ v, e = .returned v ∧ But b w w' ∧ ((wrd r 0 0 [] = none ∧ v = .slice none 0 0 ∧ RdBlk w' b r (ln + 1)) ∨ ∃ ws k, wrd r 0 0 [] = some (ws, k) ∧ w'.ownsRow w.heap.size 9 1 v ws.length (sts ws) ∧ RdBlk w' b (r.extract k r.size) (ln + 1) ∧ k ≤ r.size ∧ ws.length ≤ 30001 ∧ ∀ s ∈ ws, s.size ≤ 30000) := by
  obtain ⟨i, hi, hz0, hz1, hz2⟩ := info_parts Tryz.infoStr
  have hblt : b < w.heap.size := (Array.getElem?_eq_some_iff.1 h).1
  have c1 := cell_of_row w b 1 _ _ _ h
  simp only [List.getElem?_toArray, List.getElem?_cons_succ, List.getElem?_cons_zero] at c1
  have f1 := frozen_of_row w b 1 _ _ h
  have HB1 : Hid (RdBlk (w.setCell ⟨b, 1, none⟩ (.int .i64 (ln + 1))) b r (ln + 1)) := blk_set _ h
  generalize hR : wrd r 0 0 [] = R
  have HR : Hid (wrd r 0 0 [] = R) := hR
  clear hR
  go_enter Tryz.func157, Tryz.ntmps157
  go_wp2_with fail
  go_loopw [3, 4, 5] (fun x y z wr => ∃ (bg k : Nat) (acc : List ByteArray), bg ≤ k ∧ k ≤ r.size ∧ y = .int .i64 bg ∧ z = .int .i64 k ∧ Hid (wrd r bg k acc = R) ∧ acc.length ≤ k ∧ Hid (∀ s ∈ acc, s.size ≤ 30000) ∧ wr.ownsRow w.heap.size 9 1 x acc.length (sts acc) ∧ RdBlk wr b r (ln + 1) ∧ But b w wr) (fun _ _ z _ => r.size - (intOf z).toNat)
  case atStart => exact ⟨0, 0, [], Nat.le_refl _, Nat.zero_le _, rfl, rfl, HR, Nat.le_refl _, fun s hs => by simp at hs, World.ownsRow_nil _ _ _ _, HB1.out, (But.refl b w).set⟩
  case round =>
    obtain ⟨bg, k, acc, hbg, hk, rfl, rfl, HW, hal, HAS, hrow, hrd, hbut⟩ := hrel
    clear c1 f1
    have hbsz := hbut.size
    have hbw : b < wr.heap.size := by omega
    have c0 := cell_of_row wr b 0 _ _ _ hrd
    simp only [List.getElem?_toArray, List.getElem?_cons_zero] at c0
    have f0 := frozen_of_row wr b 0 _ _ hrd
    obtain ⟨ao, cap, hx⟩ := own_form hrow
    subst hx
    by_cases hlt : k < r.size
    · have hbk := bt_eq r k hlt
      by_cases q1 : bt r k = 10
      · have HE : Hid (some (acc ++ [r.extract bg k], k + 1) = R) := (wrd_nl r bg k acc hlt q1).symm.trans HW.out
        have q1b : (bt r k == 10) = true := by simp [q1]
        have q1n : (bt r k != 10) = false := by simp [q1]
        have q2n : (bt r k != 32) = true := by simp [q1]
        have HES : Hid ((r.extract bg k).size ≤ 30000) := by show _ ≤ _; rw [ByteArray.size_extract]; omega
        clear q1 HW
        go_wp2_with (at_builtin; go_must (refine wpList_append_lies _ rfl _ _ _ rfl w.heap.size 9 i _ 1 16 Tryz.underlying37 hi hz0 hz1 hz2 rfl (by omega) (.slice ao acc.length cap) acc.length (sts acc) rfl ?hown _ 1 _ [.string (r.extract bg k)] rfl rfl ?hnews ?h1 (by omega) ?h63 ?hbytes ?hbase _ rfl ?_))
        case hown => exact hrow.alloc _
        case hnews => exact World.news_of_block (heap_alloc_new wr _)
        case h1 => simp [Value.oneCell']
        case h63 => unfold maxLen; omega
        case hbytes => omega
        case hbase => simp; omega
        intro g cap2 w2 hown2 hgrow hat hlt2
        have hrd2 : RdBlk w2 b r (ln + 1) := grown_type (hrow.alloc _) hgrow (by decide) ((Below.heap_alloc wr _ b hbw).trans hrd)
        have hbut2 : But b w w2 := (hbut.trans (But.of ((Below.refl _ _).alloc (Nat.le_refl _) _) (by omega))).grown (hrow.alloc _) hgrow (Nat.le_refl _) (by omega)
        clear hat hgrow c0 f0
        have c0 := cell_of_row w2 b 0 _ _ _ hrd2
        simp only [List.getElem?_toArray, List.getElem?_cons_zero] at c0
        have f0 := frozen_of_row w2 b 0 _ _ hrd2
        go_wp2_with fail
        go_ret
        refine ⟨_, rfl, hbut2.set, .inr ⟨acc ++ [r.extract bg k], k + 1, HE.out.symm, ?_, blk_set _ hrd2, hlt, by simp; omega, ?_⟩⟩
        · rw [List.length_append, sts_snoc]; exact ownsRow_set hown2 hrd2 (by decide)
        · intro s hs
          rcases List.mem_append.1 hs with hs | hs
          · exact HAS.out s hs
          · simp only [List.mem_cons, List.not_mem_nil, or_false] at hs
            rw [hs]; exact HES.out
      · have q1b : (bt r k == 10) = false := by simpa using q1
        have q1n : (bt r k != 10) = true := by simpa using q1
        by_cases q2 : bt r k = 32
        · have HE : Hid (wrd r (k + 1) (k + 1) (acc ++ [r.extract bg k]) = R) := (wrd_sp r bg k acc hlt q2).symm.trans HW.out
          have q2n : (bt r k != 32) = false := by simp [q2]
          have HES : Hid ((r.extract bg k).size ≤ 30000) := by show _ ≤ _; rw [ByteArray.size_extract]; omega
          clear q1 q2 HW
          go_wp2_with (at_builtin; go_must (refine wpList_append_lies _ rfl _ _ _ rfl w.heap.size 9 i _ 1 16 Tryz.underlying37 hi hz0 hz1 hz2 rfl (by omega) (.slice ao acc.length cap) acc.length (sts acc) rfl ?hown _ 1 _ [.string (r.extract bg k)] rfl rfl ?hnews ?h1 (by omega) ?h63 ?hbytes ?hbase _ rfl ?_))
          case hown => exact hrow.alloc _
          case hnews => exact World.news_of_block (heap_alloc_new wr _)
          case h1 => simp [Value.oneCell']
          case h63 => unfold maxLen; omega
          case hbytes => omega
          case hbase => simp; omega
          intro g cap2 w2 hown2 hgrow hat hlt2
          have hrd2 : RdBlk w2 b r (ln + 1) := grown_type (hrow.alloc _) hgrow (by decide) ((Below.heap_alloc wr _ b hbw).trans hrd)
          have hbut2 : But b w w2 := (hbut.trans (But.of ((Below.refl _ _).alloc (Nat.le_refl _) _) (by omega))).grown (hrow.alloc _) hgrow (Nat.le_refl _) (by omega)
          clear hat hgrow c0 f0
          go_wp2_with fail
          go_roundw
          case rel =>
            refine ⟨k + 1, k + 1, acc ++ [r.extract bg k], Nat.le_refl _, hlt, by go_num, by go_num, HE, by simp; omega, ?_, by rw [List.length_append, sts_snoc]; exact hown2, hrd2, hbut2⟩
            intro s hs
            rcases List.mem_append.1 hs with hs | hs
            · exact HAS.out s hs
            · simp only [List.mem_cons, List.not_mem_nil, or_false] at hs
              rw [hs]; exact HES.out
          case measure => simp [intOf]; omega
        · have HE : Hid (wrd r bg (k + 1) acc = R) := (wrd_go r bg k acc hlt q1 q2).symm.trans HW.out
          have q2n : (bt r k != 32) = true := by simpa using q2
          clear HW
          go_wp2_with fail
          go_roundw
          case rel => exact ⟨bg, k + 1, acc, by omega, hlt, rfl, by go_num, HE, by omega, HAS, hrow, hrd, hbut⟩
          case measure => simp [intOf]; omega
    · have HE : Hid (none = R) := (wrd_end r bg k acc hlt).symm.trans HW.out
      go_wp2_with fail
      go_ret
      exact ⟨_, rfl, hbut, .inl ⟨HE.out.symm, rfl, hrd⟩⟩

end Go.Proofs.YtnndoagpbcacdaaGreatDoor
namespace Go.Proofs.YtnndoagpbcacdaaGreatDoor
open Go.RowKit

/-! Package codetext: read.go: lines. -/
def restF (r : ByteArray) : ByteArray := match wrd r 0 0 [] with
  | none => r
  | some (_, k) => r.extract k r.size
def pairOk (c : UInt8) (r : ByteArray) : Bool := match wrd r 0 0 [] with
  | none => false
  | some (ws, _) => decide (ws.length = 3) && (((ws[0]?.getD default).toList == [c]) && (numOk (ws[1]?.getD default) && numOk (ws[2]?.getD default)))
def pairA (c : UInt8) (r : ByteArray) : Int := match wrd r 0 0 [] with
  | none => 0
  | some (ws, _) => if decide (ws.length = 3) && (((ws[0]?.getD default).toList == [c]) && numOk (ws[1]?.getD default)) then numV (ws[1]?.getD default) else 0
def pairB (c : UInt8) (r : ByteArray) : Int := match wrd r 0 0 [] with
  | none => 0
  | some (ws, _) => if decide (ws.length = 3) && (((ws[0]?.getD default).toList == [c]) && numOk (ws[1]?.getD default)) then numV (ws[2]?.getD default) else 0
def atomsOk (r : ByteArray) : Bool := match wrd r 0 0 [] with
  | none => true
  | some (ws, _) => ws.all atK
def atomsL (r : ByteArray) : Ln := match wrd r 0 0 [] with
  | none => []
  | some (ws, _) => if ws.all atK then ws.map atV else []
theorem restF_size (r : ByteArray) : (restF r).size ≤ r.size := by
  unfold restF
  split
  · exact Nat.le_refl _
  · rw [ByteArray.size_extract]; omega

set_option maxRecDepth 100000 in
set_option maxHeartbeats 4000000 in
theorem pReadPair (c : UInt8) (b : Nat) (r : ByteArray) (ln : Int) (w : World) (h : RdBlk w b r ln) (hr : r.size ≤ 30000) (hl0 : 0 ≤ ln) (hl1 : ln ≤ 100000) :
    Calls Tryz.prog 110 #[.pointer (some ⟨b, 0, none⟩), .string ⟨#[c]⟩] w fun e w' => e = .returned (.tuple #[.int .i64 (pairA c r), .int .i64 (pairB c r), .bool (pairOk c r)]) ∧ But b w w' ∧ RdBlk w' b (restF r) (ln + 1) := by
  have HC : Hid _ := pReadWords b r ln w h hr hl0 hl1
  generalize hA : pairA c r = PA
  generalize hB : pairB c r = PB
  generalize hO : pairOk c r = PO
  generalize hF : restF r = RF
  have HV : Hid (pairA c r = PA ∧ pairB c r = PB ∧ pairOk c r = PO ∧ restF r = RF) := ⟨hA, hB, hO, hF⟩
  clear hA hB hO hF
  unfold pairA pairB pairOk restF at HV
  cases hw : wrd r 0 0 [] with
  | none =>
    rw [hw] at HC HV
    have HV2 : Hid (PA = 0 ∧ PB = 0 ∧ PO = false ∧ RF = r) := ⟨HV.out.1.symm, HV.out.2.1.symm, HV.out.2.2.1.symm, HV.out.2.2.2.symm⟩
    clear HV hw
    go_enter Tryz.func110, Tryz.ntmps110
    go_wp2_with fail
    refine (show Calls _ _ _ _ _ from HC.out).mono ?_
    rintro e w1 ⟨v, rfl, hbut, hx⟩
    rcases hx with ⟨_, rfl, hrd⟩ | ⟨ws, k, he, _⟩
    · go_wp2_with fail
      go_ret3
      exact ⟨by rw [HV2.out.1, HV2.out.2.1, HV2.out.2.2.1]; rfl, hbut, by rw [HV2.out.2.2.2]; exact hrd⟩
    · cases he
  | some p =>
    obtain ⟨ws, k⟩ := p
    rw [hw] at HC HV
    simp only at HV
    clear hw
    go_enter Tryz.func110, Tryz.ntmps110
    go_wp2_with fail
    refine (show Calls _ _ _ _ _ from HC.out).mono ?_
    rintro e w1 ⟨v, rfl, hbut, hx⟩
    rcases hx with ⟨he, _⟩ | ⟨ws', k', he, hrow, hrd, hk, hwl, hws⟩
    · cases he
    cases he
    clear HC
    rw [HV.out.2.2.2] at hrd
    obtain ⟨ao, cap, rfl⟩ := own_form hrow
    by_cases h3 : ws.length = 3
    · match ws, h3 with
      | [s0, s1, s2], _ =>
        obtain ⟨q, cap', hq, _, hqlt⟩ := hrow.form (by simp)
        cases hq
        have c0 : w1.cell? ⟨q, 0, none⟩ = some (.string s0) := row_cell hrow 0 _ rfl
        have c1 : w1.cell? ⟨q, 1, none⟩ = some (.string s1) := row_cell hrow 1 _ rfl
        have c2 : w1.cell? ⟨q, 2, none⟩ = some (.string s2) := row_cell hrow 2 _ rfl
        have HN1 : Hid _ := fun w => pReadNumber s1 w
        have HN2 : Hid _ := fun w => pReadNumber s2 w
        have HV3 : Hid ((if ((s0.toList == [c]) && numOk s1) then numV s1 else 0) = PA ∧ (if ((s0.toList == [c]) && numOk s1) then numV s2 else 0) = PB ∧ ((s0.toList == [c]) && (numOk s1 && numOk s2)) = PO) := by
          have h := HV.out
          simp only [List.length_cons, List.length_nil, List.getElem?_cons_zero, List.getElem?_cons_succ, Option.getD_some, Nat.reduceAdd, decide_true, Bool.true_and] at h
          exact ⟨h.1, h.2.1, h.2.2.1⟩
        clear HV
        simp only [List.length_cons, List.length_nil] at hrow
        clear hws hwl
        cases hc : (s0.toList == [c])
        · have hcn : (s0.toList != [c]) = true := by simpa using hc
          have HV4 : Hid (PA = 0 ∧ PB = 0 ∧ PO = false) := by rw [hc] at HV3; exact ⟨HV3.out.1.symm, HV3.out.2.1.symm, HV3.out.2.2.symm⟩
          go_wp2_with fail
          go_ret3
          exact ⟨by rw [HV4.out.1, HV4.out.2.1, HV4.out.2.2]; rfl, hbut, hrd⟩
        · have hcn : (s0.toList != [c]) = false := by simpa using hc
          cases h1 : numOk s1
          · have HV4 : Hid (PA = 0 ∧ PB = 0 ∧ PO = false) := by rw [hc, h1] at HV3; exact ⟨HV3.out.1.symm, HV3.out.2.1.symm, HV3.out.2.2.symm⟩
            rw [h1] at HN1
            go_wp2_with fail
            refine (show Calls _ _ _ _ _ from HN1.out _).mono ?_
            rintro e w2 ⟨rfl, rfl⟩
            go_wp2_with fail
            go_ret3
            exact ⟨by rw [HV4.out.1, HV4.out.2.1, HV4.out.2.2]; rfl, hbut, hrd⟩
          · have HV4 : Hid (PA = numV s1 ∧ PB = numV s2 ∧ PO = numOk s2) := by rw [hc, h1] at HV3; exact ⟨HV3.out.1.symm, HV3.out.2.1.symm, HV3.out.2.2.symm⟩
            rw [h1] at HN1
            generalize numV s1 = n1 at *
            generalize numV s2 = n2 at *
            generalize numOk s2 = o2 at *
            go_wp2_with fail
            refine (show Calls _ _ _ _ _ from HN1.out _).mono ?_
            rintro e w2 ⟨rfl, rfl⟩
            go_wp2_with fail
            refine (show Calls _ _ _ _ _ from HN2.out _).mono ?_
            rintro e w2 ⟨rfl, rfl⟩
            go_wp2_with fail
            go_ret3
            exact ⟨by rw [HV4.out.1, HV4.out.2.1, HV4.out.2.2]; rfl, hbut, hrd⟩
    · have h3' : ((ws.length : Int) != 3) = true := by simp; omega
      have h3n : ¬ (ws.length : Int) = 3 := by omega
      have HV4 : Hid (PA = 0 ∧ PB = 0 ∧ PO = false) := by
        have h := HV.out
        rw [decide_eq_false h3] at h
        exact ⟨h.1.symm, h.2.1.symm, h.2.2.1.symm⟩
      clear HV
      go_wp2_with fail
      go_ret3
      exact ⟨by rw [HV4.out.1, HV4.out.2.1, HV4.out.2.2]; rfl, hbut, hrd⟩

theorem all_take_snoc {α : Type} (f : α → Bool) (l : List α) (k : Nat) (h : k < l.length) (h1 : (l.take k).all f = true) (h2 : f l[k] = true) : (l.take (k + 1)).all f = true := by
  rw [List.take_succ_eq_append_getElem h, List.all_append, h1]; simp [h2]

set_option maxRecDepth 100000 in
set_option maxHeartbeats 4000000 in
theorem pReadAtoms (b : Nat) (r : ByteArray) (ln : Int) (w : World) (h : RdBlk w b r ln) (hr : r.size ≤ 30000) (hl0 : 0 ≤ ln) (hl1 : ln ≤ 100000) :
    Calls Tryz.prog 159 #[.pointer (some ⟨b, 0, none⟩)] w fun e w' => ∃ v, e = .returned (.tuple #[v, .bool (atomsOk r)]) ∧ But b w w' ∧ RdBlk w' b (restF r) (ln + 1) ∧ w'.ownsRow w.heap.size 75 2 v (atomsL r).length (acs (atomsL r)) := by
  have HC : Hid _ := pReadWords b r ln w h hr hl0 hl1
  obtain ⟨i, hi, hz0, hz1, hz2⟩ := info_parts Tryz.infoAtom
  have hblt : b < w.heap.size := (Array.getElem?_eq_some_iff.1 h).1
  generalize hA : atomsL r = PA
  generalize hO : atomsOk r = PO
  generalize hF : restF r = RF
  have HV : Hid (atomsL r = PA ∧ atomsOk r = PO ∧ restF r = RF) := ⟨hA, hO, hF⟩
  clear hA hO hF
  unfold atomsL atomsOk restF at HV
  cases hw : wrd r 0 0 [] with
  | none =>
    rw [hw] at HC HV
    have HV2 : Hid (PA = [] ∧ PO = true ∧ RF = r) := ⟨HV.out.1.symm, HV.out.2.1.symm, HV.out.2.2.symm⟩
    clear HV hw
    go_enter Tryz.func159, Tryz.ntmps159
    go_wp2_with fail
    refine (show Calls _ _ _ _ _ from HC.out).mono ?_
    rintro e w1 ⟨v, rfl, hbut, hx⟩
    rcases hx with ⟨_, rfl, hrd⟩ | ⟨ws, k, he, _⟩
    · clear HC
      go_wp2_with fail
      go_loopw [5, 14] (fun x y wr => x = .slice none 0 0 ∧ y = .int .i64 0 ∧ wr = w1) (fun _ _ _ => 0)
      case atStart => exact ⟨rfl, rfl, rfl⟩
      case round =>
        obtain ⟨rfl, rfl, rfl⟩ := hrel
        go_wp2_with fail
        go_ret2
        exact ⟨_, by rw [HV2.out.2.1]; rfl, hbut, by rw [HV2.out.2.2]; exact hrd, by rw [HV2.out.1]; exact World.ownsRow_nil _ _ _ _⟩
    · cases he
  | some p =>
    obtain ⟨ws, k⟩ := p
    rw [hw] at HC HV
    simp only at HV
    clear hw
    go_enter Tryz.func159, Tryz.ntmps159
    go_wp2_with fail
    refine (show Calls _ _ _ _ _ from HC.out).mono ?_
    rintro e w1 ⟨v, rfl, hbut, hx⟩
    rcases hx with ⟨he, _⟩ | ⟨ws', k', he, hrow, hrd, hk, hwl, hws⟩
    · cases he
    cases he
    clear HC
    rw [HV.out.2.2] at hrd
    have HWS : Hid _ := hws
    clear hws
    obtain ⟨ao, cap, rfl⟩ := own_form hrow
    have hsz1 := hbut.size
    go_wp2_with fail
    go_loopw [5, 14] (fun x y wr => ∃ j : Nat, j ≤ ws.length ∧ y = .int .i64 j ∧ Hid ((ws.take j).all atK = true) ∧ wr.ownsRow w1.heap.size 75 2 x j (acs ((ws.take j).map atV)) ∧ Below w1.heap.size w1 wr) (fun _ y _ => ws.length - (intOf y).toNat)
    case atStart => exact ⟨0, Nat.zero_le _, rfl, by simp [Hid], World.ownsRow_nil _ _ _ _, Below.refl _ _⟩
    case round =>
      obtain ⟨j, hj, rfl, HAK, hor, hb⟩ := hrel
      have hbsz := hb.size
      obtain ⟨xo, xcap, hx⟩ := own_form hor
      subst hx
      by_cases hlt : j < ws.length
      · have hrw := ownsRow_old hrow hb
        obtain ⟨q, cap', hq, _, hqlt⟩ := hrw.form (by omega)
        cases hq
        have c0 : wr.cell? ⟨q, j, none⟩ = some (.string ws[j]) := row_cell hrw j _ (by unfold sts; rw [List.getElem?_map, List.getElem?_eq_getElem hlt]; rfl)
        have HC : Hid _ := pReadAtom ws[j] wr (by have := HWS.out ws[j] (List.getElem_mem hlt); omega)
        have HMS : Hid _ := map_snoc atV ws j hlt
        have HMK : Hid (atK ws[j] = true → (ws.take (j + 1)).all atK = true) := all_take_snoc atK ws j hlt HAK.out
        have HMB : Hid (atK ws[j] = false → PA = [] ∧ PO = false) := fun hf => by
          have : ws.all atK = false := by rw [List.all_eq_false]; exact ⟨ws[j], List.getElem_mem hlt, by rw [hf]; simp⟩
          have hv := HV.out
          rw [this] at hv
          exact ⟨hv.1.symm, hv.2.1.symm⟩
        have hjj : ((ws.take j).map atV).length = j := by simp; omega
        generalize hav : atV ws[j] = av at *
        generalize hak : atK ws[j] = ak at *
        clear hav hak
        obtain ⟨a1, a2⟩ := av
        simp only at HC
        cases ak
        · have HB2 : Hid (PA = [] ∧ PO = false) := HMB.out rfl
          go_wp2_with fail
          refine (show Calls _ _ _ _ _ from HC.out).mono ?_
          rintro e w2 ⟨rfl, hb2⟩
          go_wp2_with fail
          go_ret2
          refine ⟨_, by rw [HB2.out.2]; rfl, hbut.trans (But.of ((hb.trans (hb2.mono hbsz)).alloc (by have := hb2.size; omega) _) (by omega)), ?_, by rw [HB2.out.1]; exact World.ownsRow_nil _ _ _ _⟩
          exact (Below.heap_alloc w2 _ b (by have := hb2.size; omega)).trans ((hb2.block b (by omega)).trans ((hb.block b (by omega)).trans hrd))
        · have HAK2 : Hid _ := HMK.out rfl
          go_wp2_with fail
          refine (show Calls _ _ _ _ _ from HC.out).mono ?_
          rintro e w2 ⟨rfl, hb2⟩
          have hor2 := ownsRow_old hor hb2
          have hs2 := hb2.size
          go_wp2_with (at_builtin; go_must (refine wpList_append_lies _ rfl _ _ _ rfl w1.heap.size 75 i _ 2 16 Tryz.underlying76 hi hz0 hz1 hz2 rfl (by omega) (.slice xo j xcap) j (acs ((ws.take j).map atV)) rfl ?hown _ 1 _ [.int .i64 a1, .int .i64 a2] rfl rfl ?hnews ?h1 (by omega) ?h63 ?hbytes ?hbase _ rfl ?_))
          case hown => exact (hor2.alloc _).alloc _
          case hnews => exact World.news_of_block (by have := heap_alloc_new (w2.alloc (Obj.cells #[.int .i64 a1, .int .i64 a2] 75)) (Obj.cells #[.int .i64 a1, .int .i64 a2] 75); simpa using this)
          case h1 => simp [Value.oneCell']
          case h63 => unfold maxLen; omega
          case hbytes => omega
          case hbase => simp; omega
          intro g cap2 w3 hown3 hgrow hat hlt3
          have hb3 : Below w1.heap.size w1 w3 := (((hb.trans (hb2.mono hbsz)).alloc (by omega) _).alloc (by simp; omega) _).grown hgrow (by simp; omega) (fun k hk => (hor2.lt k hk).1)
          clear hgrow hat
          go_wp2_with fail
          go_roundw
          case rel => exact ⟨j + 1, hlt, by go_num, HAK2, by rw [HMS.out, acs_snoc, List.map_take]; exact hown3, hb3⟩
          case measure => simp [intOf]; omega
      · have hj2 : j = ws.length := by omega
        subst hj2
        rw [List.take_length] at hor HAK
        have HB2 : Hid (PA = ws.map atV ∧ PO = true) := by
          have hv := HV.out
          rw [HAK.out] at hv
          exact ⟨hv.1.symm, hv.2.1.symm⟩
        go_wp2_with fail
        go_ret2
        exact ⟨_, by rw [HB2.out.2]; rfl, hbut.trans (But.of hb (by omega)), (hb.block b (by omega)).trans hrd, by rw [HB2.out.1, List.length_map]; exact ownsRow_base hor hsz1⟩

end Go.Proofs.YtnndoagpbcacdaaGreatDoor
