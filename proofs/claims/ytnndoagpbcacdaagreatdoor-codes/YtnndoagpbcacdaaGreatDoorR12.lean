import Derived.Test.YtnndoagpbcacdaaGreatDoorR10
import Derived.Test.YtnndoagpbcacdaaGreatDoorS1
namespace Go.Proofs.YtnndoagpbcacdaaGreatDoor
open Go.RowKit

set_option maxRecDepth 100000 in
set_option maxHeartbeats 1000000 in
theorem rDecimal (f : Nat) : ∀ (n : Nat) (w : World), n ≤ f → n ≤ 1000000 →
    Calls Tryz.prog 92 #[.int .i64 n] w fun e w' => ∃ x : ByteArray, e = .returned (.string x) ∧ x.data.toList = decL n ∧ Below w.heap.size w w' := by
  induction f with
  | zero =>
    intro n w hn hm
    have hn0 : n = 0 := by omega
    subst hn0
    have kc := conv_byte
    go_enter Tryz.func92, Tryz.ntmps92
    go_wp2_with fail
    go_ret
    exact ⟨_, rfl, by rw [decL_lt 0 (by decide)]; rfl, (Below.refl _ _).alloc (Nat.le_refl _) _⟩
  | succ f ih =>
    intro n w hn hm
    have kc := conv_byte
    have HIH : Hid _ := ih
    clear ih
    by_cases h10 : n < 10
    · have HD : Hid (decL n = [UInt8.ofNat (48 + n)]) := decL_lt n h10
      go_enter Tryz.func92, Tryz.ntmps92
      go_wp2_with fail
      go_ret
      refine ⟨_, rfl, ?_, (Below.refl _ _).alloc (Nat.le_refl _) _⟩
      rw [HD.out]
      show [UInt8.ofNat (48 + (n : Int) % 10).toNat] = _
      rw [show (48 + (n : Int) % 10).toNat = 48 + n by omega]
    · have HD : Hid (decL n = decL (n / 10) ++ [UInt8.ofNat (48 + n % 10)]) := decL_ge n h10
      go_enter Tryz.func92, Tryz.ntmps92
      go_wp2_with fail
      have ed : (n : Int) / 10 = ((n / 10 : Nat) : Int) := by omega
      rw [ed]
      have HC := HIH.out (n / 10) (w.alloc (Obj.cells #[.int .u8 (48 + (n : Int) % 10)] 5)) (by omega) (by omega)
      refine (show Calls _ _ _ _ _ from HC).mono ?_
      clear HC HIH ed
      rintro e w1 ⟨x, rfl, hx, hb1⟩
      have hxs : x.size ≤ 1000000 := by rw [size_len, hx]; have := decL_len (n / 10); omega
      have hb2 : Below w.heap.size w w1 := ((Below.refl _ _).alloc (Nat.le_refl _) _).trans (hb1.mono (by simp))
      have HX : Hid _ := hx
      have hss : (strOfNums [48 + (n : Int) % 10]).size = 1 := rfl
      clear hx hb1
      go_wp2_with fail
      go_ret
      refine ⟨_, rfl, ?_, hb2⟩
      rw [show ∀ a b : ByteArray, (a ++ b).data.toList = a.data.toList ++ b.data.toList from fun a b => by simp [ByteArray.data_append], HX.out, HD.out]
      show _ ++ [UInt8.ofNat (48 + (n : Int) % 10).toNat] = _
      rw [show (48 + (n : Int) % 10).toNat = 48 + n % 10 by omega]

/-! A number's digits without needless noughts are its value's. -/
theorem dec_snoc (v : Nat) (c : UInt8) (h : 48 ≤ c.toNat ∧ c.toNat ≤ 57) (hv : 0 < v) : decL (10 * v + (c.toNat - 48)) = decL v ++ [c] := by
  rw [decL_ge _ (by omega), show (10 * v + (c.toNat - 48)) / 10 = v by omega, show (10 * v + (c.toNat - 48)) % 10 = c.toNat - 48 by omega, show 48 + (c.toNat - 48) = c.toNat by omega]
  simp
theorem fold_nat (l : List UInt8) : ∀ acc : Nat, digL l → l.foldl (fun n c => 10 * n + ((c.toNat : Int) - 48)) (acc : Int) = ((l.foldl (fun n c => 10 * n + (c.toNat - 48)) acc : Nat) : Int) := by
  induction l with
  | nil => intro acc _; rfl
  | cons c r ih =>
    intro acc h
    have hc := h c (by simp)
    rw [List.foldl_cons, List.foldl_cons, ← ih _ (fun x hx => h x (by simp [hx]))]
    congr 1
    omega
theorem dec_fold (l : List UInt8) : ∀ v : Nat, digL l → 0 < v → decL (l.foldl (fun n c => 10 * n + (c.toNat - 48)) v) = decL v ++ l := by
  induction l with
  | nil => intro v _ _; simp
  | cons c r ih =>
    intro v h hv
    have hc := h c (by simp)
    rw [List.foldl_cons, ih _ (fun x hx => h x (by simp [hx])) (by omega), dec_snoc v c hc hv]
    simp
theorem dec_val (l : List UInt8) (h : digL l) (h0 : l ≠ []) : decL (valL l).toNat = dropZ l := by
  have hv : valL l = ((l.foldl (fun n c => 10 * n + (c.toNat - 48)) 0 : Nat) : Int) := fold_nat l 0 h
  rw [hv, Int.toNat_natCast]
  clear hv
  induction l with
  | nil => exact absurd rfl h0
  | cons c r ih =>
    have hc := h c (by simp)
    have hr : digL r := fun x hx => h x (by simp [hx])
    rw [List.foldl_cons]
    cases r with
    | nil =>
      simp only [List.foldl_nil, dropZ]
      rw [decL_lt _ (by omega), show 48 + (10 * 0 + (c.toNat - 48)) = c.toNat by omega]
      simp
    | cons d r =>
      rw [dropZ]
      by_cases h48 : c = 48
      · rw [if_pos h48]
        have : 10 * 0 + (c.toNat - 48) = 0 := by rw [h48]; rfl
        rw [this]
        exact ih hr (by simp)
      · rw [if_neg h48]
        have hpos : 0 < 10 * 0 + (c.toNat - 48) := by
          have : c.toNat ≠ 48 := fun e => h48 (UInt8.toNat_inj.1 (by rw [e]; rfl))
          omega
        rw [dec_fold _ _ hr hpos, decL_lt _ (by omega), show 48 + (10 * 0 + (c.toNat - 48)) = c.toNat by omega]
        simp

end Go.Proofs.YtnndoagpbcacdaaGreatDoor
