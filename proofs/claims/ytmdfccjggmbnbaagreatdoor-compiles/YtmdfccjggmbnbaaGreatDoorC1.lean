import Derived.Test.YtmdfccjggmbnbaaGreatDoorD0
namespace Go.Proofs.YtmdfccjggmbnbaaGreatDoor
open Go.RowKit

set_option maxRecDepth 100000 in
set_option maxHeartbeats 4000000 in
theorem rSpelt (l : Ln) (v : Value) (T : Nat) (w : World) (hl : l.length ≤ 1000) (hok : ∀ a ∈ l, atOk a) (hT : T ≤ w.heap.size) (hv : AtomsRd w T v l) :
    Calls Tryz.prog 57 #[v] w fun e w' => ∃ x : ByteArray, e = .returned (.string x) ∧ x.data.toList = lnL l ∧ Below w.heap.size w w' := by
  obtain ⟨ad, cap, rfl, hc1, hc2, hcs⟩ := hv
  have HOK : Hid _ := hok
  clear hok
  go_enter Tryz.func57, Tryz.ntmps57
  go_wp2_with fail
  go_loopw [3, 4] (fun x y wr => ∃ (k : Nat) (sx : ByteArray), k ≤ l.length ∧ y = .int .i64 k ∧ x = .string sx ∧ Hid (sx.data.toList = ((l.take k).flatMap atL).drop 1) ∧ sx.size ≤ 8 * k ∧ Below w.heap.size w wr) (fun _ y _ => l.length - (intOf y).toNat)
  case atStart => exact ⟨0, _, Nat.zero_le _, rfl, rfl, by simp [Hid], Nat.le_refl _, Below.refl _ _⟩
  case round =>
    obtain ⟨k, sx, hk, rfl, rfl, HSX, hsx, hb⟩ := hrel
    have hbsz := hb.size
    by_cases hlt : k < l.length
    · rcases hcs with h0 | ⟨b, off, rfl, hbl, hcell⟩
      · omega
      obtain ⟨c0, c1⟩ := hcell k hlt
      rw [← hb.cell (p := ⟨b, off + k * 2, none⟩) (show b < _ by omega)] at c0
      rw [← hb.cell (p := ⟨b, off + k * 2 + 1, none⟩) (show b < _ by omega)] at c1
      obtain ⟨o1, o2, o3, o4⟩ := HOK.out l[k] (List.getElem_mem hlt)
      have HA : Hid (((l.take (k + 1)).flatMap atL) = (l.take k).flatMap atL ++ (32 :: letK l[k].1 :: decL l[k].2.toNat)) := ln_snoc l k hlt
      generalize hp : l[k] = p at *
      clear hp
      obtain ⟨pk, pn⟩ := p
      simp only at o1 o2 o3 o4 c0 c1
      obtain ⟨kn, rfl⟩ := Int.eq_ofNat_of_zero_le (show 0 ≤ pk by omega)
      obtain ⟨nn, rfl⟩ := Int.eq_ofNat_of_zero_le o3
      have hk1 : 1 ≤ kn := by omega
      have hk5 : kn ≤ 5 := by omega
      have hn6 : nn ≤ 999999 := by omega
      have hd6 := decL_len6 nn hn6
      have HEK : Hid _ := ext_kind kn hk1 hk5
      have hes : ((⟨#[110, 97, 102, 112, 120]⟩ : ByteArray).extract (kn - 1) kn).size = 1 := by rw [size_len, HEK.out]; rfl
      have HC : Hid _ := fun w => rDecimal nn nn w (Nat.le_refl _) (by omega)
      clear hcell o1 o2 o3 o4
      by_cases hm0 : (0 : Int) < (k : Int)
      · go_wp2_with fail
        refine (show Calls _ _ _ _ _ from HC.out _).mono ?_
        clear HC
        rintro e w1 ⟨y, rfl, hy, hb1⟩
        have hys : y.size ≤ 6 := by rw [size_len, hy]; exact hd6
        have hb1' := hb.trans (hb1.mono hbsz)
        have HY : Hid _ := hy
        rw [← hb1.cell (p := ⟨b, off + k * 2, none⟩) (show b < _ by omega)] at c0
        clear hy c1
        have hs1 : (sx ++ ⟨#[32]⟩ : ByteArray).size = sx.size + 1 := by rw [ByteArray.size_append]; rfl
        go_wp2_with fail
        go_region
        all_goals
          go_wp2_with fail
          go_roundw
          case rel =>
            refine ⟨k + 1, _, hlt, by go_num, rfl, ?_, ?_, Below.drew hb1'⟩
            · show _ = _
              simp only [toL_append]
              rw [HEK.out, HY.out, HSX.out, HA.out, sp_drop _ _ (ln_ne l k (by omega) (by omega))]
              simp
            · simp only [ByteArray.size_append, hes]
              simp only [ByteArray.size]
              simp
              have : sx.data.size = sx.size := rfl
              have : y.data.size = y.size := rfl
              omega
          case measure => simp [intOf]; omega
      · go_wp2_with fail
        refine (show Calls _ _ _ _ _ from HC.out _).mono ?_
        clear HC
        rintro e w1 ⟨y, rfl, hy, hb1⟩
        have hys : y.size ≤ 6 := by rw [size_len, hy]; exact hd6
        have hb1' := hb.trans (hb1.mono hbsz)
        have HY : Hid _ := hy
        rw [← hb1.cell (p := ⟨b, off + k * 2, none⟩) (show b < _ by omega)] at c0
        clear hy c1
        go_wp2_with fail
        go_region
        all_goals
          go_wp2_with fail
          go_roundw
          case rel =>
            refine ⟨k + 1, _, hlt, by go_num, rfl, ?_, ?_, Below.drew hb1'⟩
            · show _ = _
              simp only [toL_append]
              have hk0 : k = 0 := by omega
              rw [HEK.out, HY.out, HSX.out, HA.out, hk0]
              simp
            · simp only [ByteArray.size_append, hes]
              omega
          case measure => simp [intOf]; omega
    · have hk2 : k = l.length := by omega
      subst hk2
      rw [List.take_length] at HSX
      go_wp2_with fail
      go_ret
      exact ⟨sx, rfl, HSX.out, hb⟩

end Go.Proofs.YtmdfccjggmbnbaaGreatDoor
