import Derived.Test.YtnndoagpbcacdaaDoorW5
namespace Go.Proofs.YtnndoagpbcacdaaDoor
open Go.RowKit

theorem lnL_snoc0 (l : Ln) (h : 0 < l.length) : (((l.take 1).flatMap atL)).drop 1 = letK l[0].1 :: decL l[0].2.toNat := by
  cases l with
  | nil => simp at h
  | cons a l => simp [atL]

set_option maxRecDepth 100000 in
set_option maxHeartbeats 4000000 in
theorem pWriteAtoms (l : Ln) (v : Value) (T : Nat) (w : World) (hl : l.length ≤ 1000) (hok : ∀ a ∈ l, atOk a) (hT : T ≤ w.heap.size) (hv : AtomsRd w T v l) (ht : Tab w) :
    Calls Tryd.prog 61 #[v] w fun e w' => ∃ x : ByteArray, e = .returned (.string x) ∧ x.data.toList = lnL l ++ [10] ∧ Below w.heap.size w w' := by
  obtain ⟨ad, cap, rfl, hc1, hc2, hcs⟩ := hv
  have HOK : Hid _ := hok
  have HT : Hid (Tab w) := ht
  clear hok ht
  go_enter Tryd.func61, Tryd.ntmps61
  go_wp2_with fail
  go_loopw [3, 8] (fun x y wr => ∃ (k : Nat) (sx : ByteArray), k ≤ l.length ∧ y = .int .i64 k ∧ x = .string sx ∧ Hid (sx.data.toList = ((l.take k).flatMap atL).drop 1) ∧ sx.size ≤ 8 * k ∧ Below w.heap.size w wr) (fun _ y _ => l.length - (intOf y).toNat)
  case atStart => exact ⟨0, _, Nat.zero_le _, rfl, rfl, by simp [Hid], Nat.le_refl _, Below.refl _ _⟩
  case round =>
    obtain ⟨k, sx, hk, rfl, rfl, HSX, hsx, hb⟩ := hrel
    have hbsz := hb.size
    by_cases hlt : k < l.length
    · rcases hcs with h0 | ⟨b, off, rfl, hbl, hcell⟩
      · omega
      obtain ⟨c0, c1⟩ := hcell k hlt
      rw [← hb.cell (p := ⟨b, off + k * 2, none⟩) (show b < _ by omega)] at c0
      rw [← hb.cell (p := ⟨b, off + k * 2 + 1, none⟩) (show b < _ by omega)] at c1
      obtain ⟨o1, o2, o3, o4⟩ := HOK.out l[k] (List.getElem_mem hlt)
      have HA : Hid (((l.take (k + 1)).flatMap atL) = (l.take k).flatMap atL ++ (32 :: letK l[k].1 :: decL l[k].2.toNat)) := ln_snoc l k hlt
      generalize hp : l[k] = p at *
      clear hp
      obtain ⟨pk, pn⟩ := p
      simp only at o1 o2 o3 o4 c0 c1
      have HD : Hid _ := decL_len6 pn.toNat (by omega)
      have HL : Hid _ := fun w => pLetterOf pk w o1 o2
      have HI : Hid (Calls Tryd.prog 60 #[.int .i64 pn] (wr.alloc (Obj.cells #[.int .i64 pk, .int .i64 pn] 60)).drew fun e w1 => ∃ y : ByteArray, e = .returned (.string y) ∧ w1.cell? ⟨wr.heap.size, 0, none⟩ = some (.int .i64 pk) ∧ y.size ≤ 6 ∧ Hid (y.data.toList = decL pn.toNat ∧ Below w.heap.size w w1)) := by
        refine (pItoa pn _ o3 (by omega) (((Tab.below HT.out hb).alloc _).drew)).mono ?_
        rintro e w1 ⟨y, rfl, hy, hb1⟩
        refine ⟨y, rfl, ?_, by rw [size_len, hy]; exact HD.out, hy, (Below.drew (hb.alloc hb.size _)).trans (hb1.mono (by simp [heap_drew]; omega))⟩
        rw [cell_of_row w1 wr.heap.size 0 _ _ _ (box_later hb1)]; rfl
      clear hcell o1 o2 o3 o4
      by_cases hm0 : (0 : Int) < (k : Int)
      · go_wp2_with fail
        go_region_with (first
          | (go_at_call 76; go_must (refine (show Calls _ _ _ _ _ from HL.out _).mono ?_); rintro e w1 ⟨rfl, rfl⟩)
          | (go_at_call 60; go_must (refine (show Calls _ _ _ _ _ from HI.out).mono ?_); rintro e w1 ⟨y, rfl, y0, hys, HYB⟩))
        all_goals
          go_wp2_with fail
          go_roundw
          case rel =>
            refine ⟨k + 1, _, hlt, by go_num, rfl, ?_, ?_, HYB.out.2⟩
            · show _ = _
              simp only [toL_append]
              rw [HYB.out.1, HSX.out, HA.out, sp_drop _ _ (ln_ne l k (by omega) (by omega))]
              simp
            · simp only [ByteArray.size_append]
              simp only [ByteArray.size]
              simp
              have : sx.data.size = sx.size := rfl
              have : y.data.size = y.size := rfl
              omega
          case measure => simp [intOf]; omega
      · go_wp2_with fail
        go_region_with (first
          | (go_at_call 76; go_must (refine (show Calls _ _ _ _ _ from HL.out _).mono ?_); rintro e w1 ⟨rfl, rfl⟩)
          | (go_at_call 60; go_must (refine (show Calls _ _ _ _ _ from HI.out).mono ?_); rintro e w1 ⟨y, rfl, y0, hys, HYB⟩))
        all_goals
          go_wp2_with fail
          go_roundw
          case rel =>
            refine ⟨k + 1, _, hlt, by go_num, rfl, ?_, ?_, HYB.out.2⟩
            · show _ = _
              simp only [toL_append]
              have hk0 : k = 0 := by omega
              rw [HYB.out.1, HSX.out, HA.out, hk0]
              simp
            · simp only [ByteArray.size_append]
              simp only [ByteArray.size]
              simp
              have : sx.data.size = sx.size := rfl
              have : y.data.size = y.size := rfl
              omega
          case measure => simp [intOf]; omega
    · have hk2 : k = l.length := by omega
      subst hk2
      rw [List.take_length] at HSX
      go_wp2_with fail
      go_ret
      refine ⟨_, rfl, ?_, hb⟩
      simp only [toL_append]
      rw [HSX.out]
      rfl

end Go.Proofs.YtnndoagpbcacdaaDoor
