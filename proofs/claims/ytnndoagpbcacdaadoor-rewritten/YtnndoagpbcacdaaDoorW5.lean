import Derived.Test.YtnndoagpbcacdaaDoorW4
import Derived.Test.YtnndoagpbcacdaaDoorItoa
import Derived.Deep.DeepCutAuto
import Derived.WalkSmall
namespace Go.Proofs.YtnndoagpbcacdaaDoor
open Go.RowKit

/-! Package codetext: write.go. -/
def Tab (w : World) : Prop := Lib.TabIs Tryd.prog w (Rows.spacedRow.named.headD default) .u64 Lib.pow10Tab
theorem pow_glob : Tryd.prog.globalNamed (Rows.spacedRow.named.headD default) = some 0 := by kernel_rfl
theorem Tab.below {w w' : World} (h : Tab w) (hb : Below w.heap.size w w') : Tab w' := by
  unfold Tab Lib.TabIs World.var? at h ⊢
  rw [pow_glob] at h ⊢
  simp only [Option.bind_some] at h ⊢
  have hlt : 0 < w.heap.size := by
    rcases Nat.lt_or_ge 0 w.heap.size with h' | h'
    · exact h'
    · rw [Array.getElem?_eq_none h'] at h; cases h
  rw [hb.block 0 hlt]
  exact h
theorem Tab.alloc {w : World} (h : Tab w) (o : Obj) : Tab (w.alloc o) := h.below ((Below.refl _ _).alloc (Nat.le_refl _) _)
theorem Tab.drew {w : World} (h : Tab w) : Tab w.drew := h.below (Below.drew (Below.refl _ _))
theorem below_growN (w : World) (k : Nat) (os : Array Obj) : Below w.heap.size w (Sort.grow (w.drewN k) os) := by
  have e : (w.drewN k).heap = w.heap := rfl
  refine (below_drewN (Below.refl _ _) k).trans ⟨rfl, rfl, rfl, by simp [Sort.grow], fun b hb => ?_⟩
  simp only [Sort.grow]
  rw [Array.getElem?_append_left (by rw [e]; exact hb)]
theorem decL_lib (n : Nat) : Lib.decDigits n = decL n := by
  fun_induction decL n with
  | case1 n h => rw [Lib.decDigits, dif_pos h]
  | case2 n h ih => rw [Lib.decDigits, dif_neg h, ih]

theorem pItoa (n : Int) (w : World) (h0 : 0 ≤ n) (h1 : n ≤ 1000000) (ht : Tab w) :
    Calls Tryd.prog 60 #[.int .i64 n] w fun e w' => ∃ x : ByteArray, e = .returned (.string x) ∧ x.data.toList = decL n.toNat ∧ Below w.heap.size w w' := by
  refine (show Calls Tryd.prog 60 #[.int .i64 n] w _ from Any.strconv_Itoa Tryd.laysM171 n (by omega) (by omega) w ht).mono ?_
  rintro e w1 ⟨rfl, k, os, rfl⟩
  refine ⟨_, rfl, ?_, below_growN w k os⟩
  simp only [Lib.itoa]
  rw [if_neg (by omega), decL_lib]

def hdL (c : UInt8) (a b : Nat) : List UInt8 := c :: 32 :: (decL a ++ 32 :: (decL b ++ [10]))
set_option maxRecDepth 100000 in
set_option maxHeartbeats 1000000 in
theorem pWritePair (c : UInt8) (a b : Int) (w : World) (a0 : 0 ≤ a) (a1 : a ≤ 999999) (b0 : 0 ≤ b) (b1 : b ≤ 999999) (ht : Tab w) :
    Calls Tryd.prog 41 #[.string ⟨#[c]⟩, .int .i64 a, .int .i64 b] w fun e w' => ∃ x : ByteArray, e = .returned (.string x) ∧ x.data.toList = hdL c a.toNat b.toNat ∧ Below w.heap.size w w' := by
  have HA : Hid _ := pItoa a w a0 (by omega) ht
  have HB : Hid _ := fun w' (h : Below w.heap.size w w') => pItoa b w' b0 (by omega) (ht.below h)
  have HLA : Hid _ := decL_len6 a.toNat (by omega)
  have HLB : Hid _ := decL_len6 b.toNat (by omega)
  go_enter Tryd.func41, Tryd.ntmps41
  go_wp2_with fail
  refine (show Calls _ _ _ _ _ from HA.out).mono ?_
  rintro e w1 ⟨x, rfl, hx, hb1⟩
  have hxs : x.size ≤ 6 := by rw [size_len, hx]; exact HLA.out
  have HX : Hid _ := hx
  clear hx
  go_wp2_with fail
  refine (show Calls _ _ _ _ _ from HB.out w1 hb1).mono ?_
  rintro e w2 ⟨y, rfl, hy, hb2⟩
  have hys : y.size ≤ 6 := by rw [size_len, hy]; exact HLB.out
  have HY : Hid _ := hy
  clear hy
  go_wp2_with fail
  go_ret
  refine ⟨_, rfl, ?_, hb1.trans (hb2.mono hb1.size)⟩
  simp only [toL_append]
  rw [HX.out, HY.out]
  simp [hdL]

set_option maxHeartbeats 1000000 in
theorem pLetterOf (k : Int) (w : World) (h1 : 1 ≤ k) (h5 : k ≤ 5) :
    Calls Tryd.prog 76 #[.int .i64 k] w fun e w' => e = .returned (.string ⟨#[letK k]⟩) ∧ w' = w := by
  have : k = 1 ∨ k = 2 ∨ k = 3 ∨ k = 4 ∨ k = 5 := by omega
  rcases this with rfl | rfl | rfl | rfl | rfl
  all_goals
    go_enter Tryd.func76, Tryd.ntmps76
    go_wp2_with fail
    go_ret
    exact ⟨rfl, rfl⟩

end Go.Proofs.YtnndoagpbcacdaaDoor
