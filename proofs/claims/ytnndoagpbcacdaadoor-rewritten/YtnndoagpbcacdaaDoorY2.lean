import Derived.Test.YtnndoagpbcacdaaDoorY1
import Derived.Deep.QuietTactic
import Derived.BigQuiet
namespace Go.Proofs.YtnndoagpbcacdaaDoor
open Go.RowKit

set_option maxRecDepth 100000 in
set_option maxHeartbeats 8000000 in
theorem kSame (mn : Int) (fs : List Tp) (fv1 fv2 : Value) (w : World) (h1 : FunsRd w w.heap.size fv1 fs) (h2 : FunsRd w w.heap.size fv2 fs) :
    Calls Tryd.prog 16 #[.agg #[.int .i64 mn, fv1], .agg #[.int .i64 mn, fv2]] w fun e w' => e = .returned (.bool true) ∧ Below w.heap.size w w' := by
  obtain ⟨o1, c1, rfl, hc11, hc12, hcs1⟩ := h1
  obtain ⟨o2, c2, rfl, hc21, hc22, hcs2⟩ := h2
  unfold maxLen at hc12 hc22
  have hA : (((w.alloc (Obj.cells #[.int .i64 mn, .slice o1 fs.length c1] 36)).alloc (Obj.cells #[.int .i64 mn, .slice o2 fs.length c2] 36))).heap[w.heap.size]? = some (.cells #[.int .i64 mn, .slice o1 fs.length c1] 36 (0, 0)) ∧ (((w.alloc (Obj.cells #[.int .i64 mn, .slice o1 fs.length c1] 36)).alloc (Obj.cells #[.int .i64 mn, .slice o2 fs.length c2] 36))).heap[w.heap.size + 1]? = some (.cells #[.int .i64 mn, .slice o2 fs.length c2] 36 (0, 0)) := two_later (Below.refl _ _)
  have m1 : (mn == mn) = true := by simp
  have m2 : (mn != mn) = false := by simp
  go_enter Tryd.func16, Tryd.ntmps16
  go_wp2_with fail
  go_loopw [5] (fun x wr => ∃ j : Nat, j ≤ fs.length ∧ x = .int .i64 j ∧ Below w.heap.size w wr ∧ wr.heap[w.heap.size]? = some (.cells #[.int .i64 mn, .slice o1 fs.length c1] 36 (0, 0)) ∧ wr.heap[w.heap.size + 1]? = some (.cells #[.int .i64 mn, .slice o2 fs.length c2] 36 (0, 0))) (fun x _ => fs.length - (intOf x).toNat)
  case atStart => exact ⟨0, Nat.zero_le _, rfl, ((Below.refl _ _).alloc (Nat.le_refl _) _).alloc (by simp) _, hA.1, hA.2⟩
  case round =>
    clear hA
    obtain ⟨j, hj, rfl, hb, hX1, hX2⟩ := hrel
    have hbsz := hb.size
    have l2 : w.heap.size + 1 < wr.heap.size := (Array.getElem?_eq_some_iff.1 hX2).1
    have l1 : w.heap.size < wr.heap.size := by omega
    obtain ⟨_, a1, _, _⟩ := two_cells hX1
    obtain ⟨_, a2, _, _⟩ := two_cells hX2
    by_cases hlt : j < fs.length
    · rcases hcs1 with h0 | ⟨b1, f1, rfl, hb1, hcell1⟩
      · omega
      rcases hcs2 with h0 | ⟨b2, f2, rfl, hb2, hcell2⟩
      · omega
      obtain ⟨lv1, e10, e11, hl1⟩ := hcell1 j hlt
      obtain ⟨lv2, e20, e21, hl2⟩ := hcell2 j hlt
      rw [← hb.cell (p := ⟨b1, f1 + j * 2, none⟩) (show b1 < _ by omega)] at e10
      rw [← hb.cell (p := ⟨b1, f1 + j * 2 + 1, none⟩) (show b1 < _ by omega)] at e11
      rw [← hb.cell (p := ⟨b2, f2 + j * 2, none⟩) (show b2 < _ by omega)] at e20
      rw [← hb.cell (p := ⟨b2, f2 + j * 2 + 1, none⟩) (show b2 < _ by omega)] at e21
      have lb1 : b1 < wr.heap.size := by omega
      have lb2 : b2 < wr.heap.size := by omega
      generalize fs[j] = t at *
      obtain ⟨ar, ls⟩ := t
      simp only at *
      obtain ⟨p1, d1, rfl, hd11, hd12, hls1⟩ := hl1
      obtain ⟨p2, d2, rfl, hd21, hd22, hls2⟩ := hl2
      unfold maxLen at hd12 hd22
      have n1 : (ar == ar) = true := by simp
      have n2 : (ar != ar) = false := by simp
      obtain ⟨B, hB⟩ : ∃ B, B = wr.heap.size := ⟨_, rfl⟩
      have hT : ((wr.alloc (Obj.cells #[.int .i64 ar, .slice p1 ls.length d1] 64)).alloc (Obj.cells #[.int .i64 ar, .slice p2 ls.length d2] 64)).heap[B]? = some (.cells #[.int .i64 ar, .slice p1 ls.length d1] 64 (0, 0)) ∧ ((wr.alloc (Obj.cells #[.int .i64 ar, .slice p1 ls.length d1] 64)).alloc (Obj.cells #[.int .i64 ar, .slice p2 ls.length d2] 64)).heap[B + 1]? = some (.cells #[.int .i64 ar, .slice p2 ls.length d2] 64 (0, 0)) := by rw [hB]; exact two_later (Below.refl _ _)
      have hbW : Below w.heap.size w ((wr.alloc (Obj.cells #[.int .i64 ar, .slice p1 ls.length d1] 64)).alloc (Obj.cells #[.int .i64 ar, .slice p2 ls.length d2] 64)) := (hb.alloc hbsz _).alloc (by simp; omega) _
      have hX1' := (Below.heap_alloc (wr.alloc (Obj.cells #[.int .i64 ar, .slice p1 ls.length d1] 64)) (Obj.cells #[.int .i64 ar, .slice p2 ls.length d2] 64) w.heap.size (by simp; omega)).trans ((Below.heap_alloc wr (Obj.cells #[.int .i64 ar, .slice p1 ls.length d1] 64) _ l1).trans hX1)
      have hX2' := (Below.heap_alloc (wr.alloc (Obj.cells #[.int .i64 ar, .slice p1 ls.length d1] 64)) (Obj.cells #[.int .i64 ar, .slice p2 ls.length d2] 64) (w.heap.size + 1) (by simp; omega)).trans ((Below.heap_alloc wr (Obj.cells #[.int .i64 ar, .slice p1 ls.length d1] 64) _ l2).trans hX2)
      go_wp2_with fail
      rw [← hB]
      have hBl : w.heap.size ≤ B := by omega
      clear hB
      go_loopw [8] (fun x wx => ∃ i : Nat, i ≤ ls.length ∧ x = .int .i64 i ∧ Below w.heap.size w wx ∧ wx.heap[w.heap.size]? = some (.cells #[.int .i64 mn, .slice (some ⟨b1, f1, none⟩) fs.length c1] 36 (0, 0)) ∧ wx.heap[w.heap.size + 1]? = some (.cells #[.int .i64 mn, .slice (some ⟨b2, f2, none⟩) fs.length c2] 36 (0, 0)) ∧ wx.heap[B]? = some (.cells #[.int .i64 ar, .slice p1 ls.length d1] 64 (0, 0)) ∧ wx.heap[B + 1]? = some (.cells #[.int .i64 ar, .slice p2 ls.length d2] 64 (0, 0))) (fun x _ => ls.length - (intOf x).toNat)
      case atStart => exact ⟨0, Nat.zero_le _, rfl, hbW, hX1', hX2', hT.1, hT.2⟩
      case round =>
        clear hX1' hX2' hbW hT e10 e11 e20 e21 a1 a2 hX1 hX2 hb hbsz l1 l2 lb1 lb2
        obtain ⟨i, hi, rfl, hb, hX1, hX2, hT1, hT2⟩ := hrel
        obtain ⟨_, t1, _, _⟩ := two_cells hT1
        obtain ⟨_, t2, _, _⟩ := two_cells hT2
        by_cases hil : i < ls.length
        · rcases hls1 with h0 | ⟨q1, g1, rfl, hq1, hlc1⟩
          · omega
          rcases hls2 with h0 | ⟨q2, g2, rfl, hq2, hlc2⟩
          · omega
          obtain ⟨av1, u1, hat1⟩ := hlc1 i hil
          obtain ⟨av2, u2, hat2⟩ := hlc2 i hil
          have HU1 : Hid _ := u1
          have HU2 : Hid _ := u2
          rw [← hb.cell (p := ⟨q1, g1 + i, none⟩) (show q1 < _ by omega)] at u1
          rw [← hb.cell (p := ⟨q2, g2 + i, none⟩) (show q2 < _ by omega)] at u2
          generalize ls[i] = l at *
          obtain ⟨s1, k1, rfl, hk11, hk12, hac1⟩ := hat1
          obtain ⟨s2, k2, rfl, hk21, hk22, hac2⟩ := hat2
          unfold maxLen at hk12 hk22
          have v1 : (((l.length : Nat) : Int) == (l.length : Int)) = true := by simp
          have v2 : (((l.length : Nat) : Int) != (l.length : Int)) = false := by simp
          go_wp2_with fail
          go_quiet (fail)
          go_wp2_with fail
          have hbq := below_drewN hb nq
          go_loopw [9] (fun x wx => ∃ k : Nat, k ≤ l.length ∧ x = .int .i64 k ∧ Below w.heap.size w wx ∧ wx.heap[w.heap.size]? = some (.cells #[.int .i64 mn, .slice (some ⟨b1, f1, none⟩) fs.length c1] 36 (0, 0)) ∧ wx.heap[w.heap.size + 1]? = some (.cells #[.int .i64 mn, .slice (some ⟨b2, f2, none⟩) fs.length c2] 36 (0, 0)) ∧ wx.heap[B]? = some (.cells #[.int .i64 ar, .slice (some ⟨q1, g1, none⟩) ls.length d1] 64 (0, 0)) ∧ wx.heap[B + 1]? = some (.cells #[.int .i64 ar, .slice (some ⟨q2, g2, none⟩) ls.length d2] 64 (0, 0))) (fun x _ => l.length - (intOf x).toNat)
          case atStart => exact ⟨0, Nat.zero_le _, rfl, hbq, hX1, hX2, hT1, hT2⟩
          case round =>
            clear hbq hb hX1 hX2 hT1 hT2 t1 t2 u1 u2
            obtain ⟨k, hk, rfl, hb, hX1, hX2, hT1, hT2⟩ := hrel
            obtain ⟨_, t1, _, _⟩ := two_cells hT1
            obtain ⟨_, t2, _, _⟩ := two_cells hT2
            have u1 := HU1.out
            have u2 := HU2.out
            rw [← hb.cell (p := ⟨q1, g1 + i, none⟩) (show q1 < _ by omega)] at u1
            rw [← hb.cell (p := ⟨q2, g2 + i, none⟩) (show q2 < _ by omega)] at u2
            by_cases hkl : k < l.length
            · rcases hac1 with h0 | ⟨r1, y1, rfl, hr1, hc1'⟩
              · omega
              rcases hac2 with h0 | ⟨r2, y2, rfl, hr2, hc2'⟩
              · omega
              obtain ⟨z10, z11⟩ := hc1' k hkl
              obtain ⟨z20, z21⟩ := hc2' k hkl
              rw [← hb.cell (p := ⟨r1, y1 + k * 2, none⟩) (show r1 < _ by omega)] at z10
              rw [← hb.cell (p := ⟨r1, y1 + k * 2 + 1, none⟩) (show r1 < _ by omega)] at z11
              rw [← hb.cell (p := ⟨r2, y2 + k * 2, none⟩) (show r2 < _ by omega)] at z20
              rw [← hb.cell (p := ⟨r2, y2 + k * 2 + 1, none⟩) (show r2 < _ by omega)] at z21
              generalize l[k].1 = ka at *
              generalize l[k].2 = na at *
              go_wp2_with fail
              go_quiet (fail)
              go_wp2_with fail
              go_roundw
              case rel => exact ⟨k + 1, hkl, by go_num, below_drewN hb _, hX1, hX2, hT1, hT2⟩
              case measure => simp [intOf]; omega
            · go_wp2_with fail
              go_roundw
              case rel => exact ⟨i + 1, hil, by go_num, hb, hX1, hX2, hT1, hT2⟩
              case measure => simp [intOf]; omega
        · go_wp2_with fail
          go_roundw
          case rel => exact ⟨j + 1, hlt, by go_num, hb, hX1, hX2⟩
          case measure => simp [intOf]; omega
    · go_wp2_with fail
      go_ret
      exact ⟨rfl, hb⟩

end Go.Proofs.YtnndoagpbcacdaaDoor
