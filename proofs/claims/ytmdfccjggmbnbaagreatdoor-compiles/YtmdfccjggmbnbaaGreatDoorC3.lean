import Derived.Test.YtmdfccjggmbnbaaGreatDoorC2
namespace Go.Proofs.YtmdfccjggmbnbaaGreatDoor
open Go.RowKit

set_option maxRecDepth 100000 in
set_option maxHeartbeats 4000000 in
theorem rGood (c : Cd) (fv : Value) (T : Nat) (w : World) (hT : T ≤ w.heap.size) (hf : FunsRd w T fv c.fs) :
    Calls Tryz.prog 55 #[.agg #[.int .i64 c.mn, fv]] w fun e w' => e = .returned (.bool (goodC c)) ∧ Below w.heap.size w w' := by
  obtain ⟨mn, fs⟩ := c
  obtain ⟨fo, fcap, hfv, hc1, hc2, hcs⟩ := hf
  simp only at *
  subst hfv
  have hc3 := hc2
  unfold maxLen at hc3
  generalize hR : goodC ⟨mn, fs⟩ = R
  have HR : Hid ((decide (1 ≤ fs.length) && (decide (fs.length ≤ 16) && (decide (0 ≤ mn) && (decide (mn < fs.length) && (fs.all (goodT fs.length) && decide ((fs[mn.toNat]?.getD ⟨0, []⟩).ar = 0)))))) = R) := hR
  clear hR
  by_cases g1 : fs.length < 1
  · have HF : Hid (false = R) := by rw [← HR.out]; simp [Hid]; omega
    go_enter Tryz.func55, Tryz.ntmps55
    go_wp2_with fail
    go_ret
    exact ⟨ret_bool HF.out, (Below.refl _ _).alloc (Nat.le_refl _) _⟩
  by_cases g2 : 16 < fs.length
  · have HF : Hid (false = R) := by rw [← HR.out]; simp [Hid]; omega
    go_enter Tryz.func55, Tryz.ntmps55
    go_wp2_with fail
    go_ret
    exact ⟨ret_bool HF.out, (Below.refl _ _).alloc (Nat.le_refl _) _⟩
  by_cases g3 : mn < 0
  · have HF : Hid (false = R) := by rw [← HR.out]; simp [Hid]; omega
    go_enter Tryz.func55, Tryz.ntmps55
    go_wp2_with fail
    go_ret
    exact ⟨ret_bool HF.out, (Below.refl _ _).alloc (Nat.le_refl _) _⟩
  have g3' : decide (mn < 0) = false := by simpa using g3
  by_cases g4 : (fs.length : Int) ≤ mn
  · have HF : Hid (false = R) := by rw [← HR.out]; simp [Hid]; omega
    go_enter Tryz.func55, Tryz.ntmps55
    go_wp2_with fail
    go_ret
    exact ⟨ret_bool HF.out, (Below.refl _ _).alloc (Nat.le_refl _) _⟩
  obtain ⟨m, rfl⟩ := Int.eq_ofNat_of_zero_le (show 0 ≤ mn by omega)
  have hm : m < fs.length := by omega
  have HR2 : Hid (((fs.drop 0).all (goodT fs.length) && decide (fs[m].ar = 0)) = R) := by
    rw [← HR.out]
    show _ = _
    rw [Int.toNat_natCast, List.getElem?_eq_getElem hm, Option.getD_some]
    simp [show 1 ≤ fs.length by omega, show fs.length ≤ 16 by omega, hm]
  clear HR
  rcases hcs with h0 | ⟨b, off, rfl, hbl, hcell⟩
  · omega
  go_enter Tryz.func55, Tryz.ntmps55
  go_wp2_with fail
  go_loopw [3] (fun x wr => ∃ (j : Nat), j ≤ fs.length ∧ x = .int .i64 j ∧ Hid (((fs.drop j).all (goodT fs.length) && decide (fs[m].ar = 0)) = R) ∧ Below w.heap.size w wr ∧ wr.heap[w.heap.size]? = some (.cells #[.int .i64 m, .slice (some ⟨b, off, none⟩) fs.length fcap] 34 (0, 0))) (fun x _ => fs.length - (intOf x).toNat)
  case atStart => exact ⟨0, Nat.zero_le _, rfl, HR2, (Below.refl _ _).alloc (Nat.le_refl _) _, heap_alloc_new w _⟩
  case round =>
    obtain ⟨j, hj, rfl, HG, hb, hbC⟩ := hrel
    have hbsz := hb.size
    have hwlt : w.heap.size < wr.heap.size := (Array.getElem?_eq_some_iff.1 hbC).1
    have C0 := cell_of_row wr w.heap.size 0 _ _ _ hbC
    have C1 := cell_of_row wr w.heap.size 1 _ _ _ hbC
    simp only [List.getElem?_toArray, List.getElem?_cons_succ, List.getElem?_cons_zero] at C0 C1
    by_cases hlt : j < fs.length
    · obtain ⟨lv, e0, e1, hls⟩ := hcell j hlt
      rw [← hb.cell (p := ⟨b, off + j * 2, none⟩) (show b < _ by omega)] at e0
      rw [← hb.cell (p := ⟨b, off + j * 2 + 1, none⟩) (show b < _ by omega)] at e1
      have HC : Hid _ := rTemplate fs[j] m (some ⟨b, off, none⟩) fs.length fcap lv T wr.drew (by simp [heap_drew]; omega) (by unfold maxLen; omega) ((hls.keep (hb.mono hT)).keep (Below.drew (Below.refl _ _)))
      have HS : Hid ((goodT fs.length fs[j] && ((fs.drop (j + 1)).all (goodT fs.length) && decide (fs[m].ar = 0))) = R) := by rw [← HG.out, all_in _ fs j hlt, Bool.and_assoc]; exact rfl
      obtain ⟨la, lc, rfl, hl1, hl2, _⟩ := hls
      unfold maxLen at hl2
      clear HG hcell
      generalize hg : goodT fs.length fs[j] = g at *
      clear hg
      go_wp2_with fail
      go_cut [4] (fun vx wc => vx = .bool g ∧ Below wr.heap.size wr wc)
      case first =>
        go_region_with (go_at_call 91; go_must (refine (show Calls _ _ _ _ _ from HC.out).mono ?_); rintro e w1 ⟨rfl, hb1⟩)
        all_goals
          go_wp2_with fail
          go_meet
          case rel => exact ⟨rfl, (Below.drew (Below.refl _ _)).trans (hb1.mono (by simp [heap_drew]))⟩
      case rest =>
        obtain ⟨hx, hbc⟩ := hcut
        subst hx
        clear HC C0 C1 e0 e1
        cases g
        · have HF : Hid (false = R) := by rw [← HS.out]; rfl
          go_wp2_with fail
          go_ret
          exact ⟨ret_bool HF.out, hb.trans (hbc.mono hbsz)⟩
        · have HS2 : Hid (((fs.drop (j + 1)).all (goodT fs.length) && decide (fs[m].ar = 0)) = R) := by rw [← HS.out]; simp [Hid]
          go_wp2_with fail
          go_roundw
          case rel => exact ⟨j + 1, hlt, by go_num, HS2, hb.trans (hbc.mono hbsz), (hbc.block _ hwlt).trans hbC⟩
          case measure => simp [intOf]; omega
    · obtain ⟨lv, e0, e1, hls⟩ := hcell m hm
      rw [← hb.cell (p := ⟨b, off + m * 2, none⟩) (show b < _ by omega)] at e0
      have HF : Hid (decide (fs[m].ar = 0) = R) := by rw [← HG.out, List.drop_eq_nil_of_le (by omega)]; rfl
      clear hcell e1 hls HG
      generalize fs[m].ar = am at *
      by_cases h0 : am = 0
      · have HF2 : Hid (true = R) := by rw [← HF.out]; simp [Hid, h0]
        subst h0
        go_wp2_with fail
        go_ret
        exact ⟨ret_bool HF2.out, hb⟩
      · have HF2 : Hid (false = R) := by rw [← HF.out]; simp [Hid, h0]
        have h0' : (am == 0) = false := by simpa using h0
        go_wp2_with fail
        go_ret
        exact ⟨ret_bool HF2.out, hb⟩

end Go.Proofs.YtmdfccjggmbnbaaGreatDoor
