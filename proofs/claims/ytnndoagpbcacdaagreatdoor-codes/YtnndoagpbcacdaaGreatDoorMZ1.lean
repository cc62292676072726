import Derived.Test.YtnndoagpbcacdaaGreatDoorMX9
import Derived.Deep.QuietTactic
import Derived.BigQuiet
import Derived.Laws.CopyOwn
namespace Go.Proofs.YtnndoagpbcacdaaGreatDoor
open Go.RowKit

set_option maxRecDepth 100000 in
set_option maxHeartbeats 8000000 in
theorem lSame (mn : Int) (fs : List Tp) (fv1 fv2 : Value) (w : World) (h1 : FunsRd w w.heap.size fv1 fs) (h2 : FunsRd w w.heap.size fv2 fs) :
    Calls Tryz.prog 52 #[.agg #[.int .i64 mn, fv1], .agg #[.int .i64 mn, fv2]] w fun e w' => e = .returned (.bool true) ∧ Below w.heap.size w w' := by
  obtain ⟨o1, c1, rfl, hc11, hc12, hcs1⟩ := h1
  obtain ⟨o2, c2, rfl, hc21, hc22, hcs2⟩ := h2
  unfold maxLen at hc12 hc22
  have hA : (((w.alloc (Obj.cells #[.int .i64 mn, .slice o1 fs.length c1] 57)).alloc (Obj.cells #[.int .i64 mn, .slice o2 fs.length c2] 57))).heap[w.heap.size]? = some (.cells #[.int .i64 mn, .slice o1 fs.length c1] 57 (0, 0)) ∧ (((w.alloc (Obj.cells #[.int .i64 mn, .slice o1 fs.length c1] 57)).alloc (Obj.cells #[.int .i64 mn, .slice o2 fs.length c2] 57))).heap[w.heap.size + 1]? = some (.cells #[.int .i64 mn, .slice o2 fs.length c2] 57 (0, 0)) := two_later (Below.refl _ _)
  have m1 : (mn == mn) = true := by simp
  have m2 : (mn != mn) = false := by simp
  go_enter Tryz.func52, Tryz.ntmps52
  go_wp2_with fail
  go_loopw [5] (fun x wr => ∃ j : Nat, j ≤ fs.length ∧ x = .int .i64 j ∧ Below w.heap.size w wr ∧ wr.heap[w.heap.size]? = some (.cells #[.int .i64 mn, .slice o1 fs.length c1] 57 (0, 0)) ∧ wr.heap[w.heap.size + 1]? = some (.cells #[.int .i64 mn, .slice o2 fs.length c2] 57 (0, 0))) (fun x _ => fs.length - (intOf x).toNat)
  case atStart => exact ⟨0, Nat.zero_le _, rfl, ((Below.refl _ _).alloc (Nat.le_refl _) _).alloc (by simp) _, hA.1, hA.2⟩
  case round =>
    clear hA
    obtain ⟨j, hj, rfl, hb, hX1, hX2⟩ := hrel
    have hbsz := hb.size
    have l2 : w.heap.size + 1 < wr.heap.size := (Array.getElem?_eq_some_iff.1 hX2).1
    have l1 : w.heap.size < wr.heap.size := by omega
    obtain ⟨_, a1, _, _⟩ := two_cells hX1
    obtain ⟨_, a2, _, _⟩ := two_cells hX2
    by_cases hlt : j < fs.length
    · rcases hcs1 with h0 | ⟨b1, f1, rfl, hb1, hcell1⟩
      · omega
      rcases hcs2 with h0 | ⟨b2, f2, rfl, hb2, hcell2⟩
      · omega
      obtain ⟨lv1, e10, e11, hl1⟩ := hcell1 j hlt
      obtain ⟨lv2, e20, e21, hl2⟩ := hcell2 j hlt
      rw [← hb.cell (p := ⟨b1, f1 + j * 2, none⟩) (show b1 < _ by omega)] at e10
      rw [← hb.cell (p := ⟨b1, f1 + j * 2 + 1, none⟩) (show b1 < _ by omega)] at e11
      rw [← hb.cell (p := ⟨b2, f2 + j * 2, none⟩) (show b2 < _ by omega)] at e20
      rw [← hb.cell (p := ⟨b2, f2 + j * 2 + 1, none⟩) (show b2 < _ by omega)] at e21
      have lb1 : b1 < wr.heap.size := by omega
      have lb2 : b2 < wr.heap.size := by omega
      generalize fs[j] = t at *
      obtain ⟨ar, ls⟩ := t
      simp only at *
      obtain ⟨p1, d1, rfl, hd11, hd12, hls1⟩ := hl1
      obtain ⟨p2, d2, rfl, hd21, hd22, hls2⟩ := hl2
      unfold maxLen at hd12 hd22
      have n1 : (ar == ar) = true := by simp
      have n2 : (ar != ar) = false := by simp
      obtain ⟨B, hB⟩ : ∃ B, B = wr.heap.size := ⟨_, rfl⟩
      have hT : ((wr.alloc (Obj.cells #[.int .i64 ar, .slice p1 ls.length d1] 78)).alloc (Obj.cells #[.int .i64 ar, .slice p2 ls.length d2] 78)).heap[B]? = some (.cells #[.int .i64 ar, .slice p1 ls.length d1] 78 (0, 0)) ∧ ((wr.alloc (Obj.cells #[.int .i64 ar, .slice p1 ls.length d1] 78)).alloc (Obj.cells #[.int .i64 ar, .slice p2 ls.length d2] 78)).heap[B + 1]? = some (.cells #[.int .i64 ar, .slice p2 ls.length d2] 78 (0, 0)) := by rw [hB]; exact two_later (Below.refl _ _)
      have hbW : Below w.heap.size w ((wr.alloc (Obj.cells #[.int .i64 ar, .slice p1 ls.length d1] 78)).alloc (Obj.cells #[.int .i64 ar, .slice p2 ls.length d2] 78)) := (hb.alloc hbsz _).alloc (by simp; omega) _
      have hX1' := (Below.heap_alloc (wr.alloc (Obj.cells #[.int .i64 ar, .slice p1 ls.length d1] 78)) (Obj.cells #[.int .i64 ar, .slice p2 ls.length d2] 78) w.heap.size (by simp; omega)).trans ((Below.heap_alloc wr (Obj.cells #[.int .i64 ar, .slice p1 ls.length d1] 78) _ l1).trans hX1)
      have hX2' := (Below.heap_alloc (wr.alloc (Obj.cells #[.int .i64 ar, .slice p1 ls.length d1] 78)) (Obj.cells #[.int .i64 ar, .slice p2 ls.length d2] 78) (w.heap.size + 1) (by simp; omega)).trans ((Below.heap_alloc wr (Obj.cells #[.int .i64 ar, .slice p1 ls.length d1] 78) _ l2).trans hX2)
      go_wp2_with fail
      rw [← hB]
      have hBl : w.heap.size ≤ B := by omega
      clear hB
      go_loopw [8] (fun x wx => ∃ i : Nat, i ≤ ls.length ∧ x = .int .i64 i ∧ Below w.heap.size w wx ∧ wx.heap[w.heap.size]? = some (.cells #[.int .i64 mn, .slice (some ⟨b1, f1, none⟩) fs.length c1] 57 (0, 0)) ∧ wx.heap[w.heap.size + 1]? = some (.cells #[.int .i64 mn, .slice (some ⟨b2, f2, none⟩) fs.length c2] 57 (0, 0)) ∧ wx.heap[B]? = some (.cells #[.int .i64 ar, .slice p1 ls.length d1] 78 (0, 0)) ∧ wx.heap[B + 1]? = some (.cells #[.int .i64 ar, .slice p2 ls.length d2] 78 (0, 0))) (fun x _ => ls.length - (intOf x).toNat)
      case atStart => exact ⟨0, Nat.zero_le _, rfl, hbW, hX1', hX2', hT.1, hT.2⟩
      case round =>
        clear hX1' hX2' hbW hT e10 e11 e20 e21 a1 a2 hX1 hX2 hb hbsz l1 l2 lb1 lb2
        obtain ⟨i, hi, rfl, hb, hX1, hX2, hT1, hT2⟩ := hrel
        obtain ⟨_, t1, _, _⟩ := two_cells hT1
        obtain ⟨_, t2, _, _⟩ := two_cells hT2
        by_cases hil : i < ls.length
        · rcases hls1 with h0 | ⟨q1, g1, rfl, hq1, hlc1⟩
          · omega
          rcases hls2 with h0 | ⟨q2, g2, rfl, hq2, hlc2⟩
          · omega
          obtain ⟨av1, u1, hat1⟩ := hlc1 i hil
          obtain ⟨av2, u2, hat2⟩ := hlc2 i hil
          have HU1 : Hid _ := u1
          have HU2 : Hid _ := u2
          rw [← hb.cell (p := ⟨q1, g1 + i, none⟩) (show q1 < _ by omega)] at u1
          rw [← hb.cell (p := ⟨q2, g2 + i, none⟩) (show q2 < _ by omega)] at u2
          generalize ls[i] = l at *
          obtain ⟨s1, k1, rfl, hk11, hk12, hac1⟩ := hat1
          obtain ⟨s2, k2, rfl, hk21, hk22, hac2⟩ := hat2
          unfold maxLen at hk12 hk22
          have v1 : (((l.length : Nat) : Int) == (l.length : Int)) = true := by simp
          have v2 : (((l.length : Nat) : Int) != (l.length : Int)) = false := by simp
          go_wp2_with fail
          go_quiet (fail)
          go_wp2_with fail
          have hbq := below_drewN hb nq
          go_loopw [9] (fun x wx => ∃ k : Nat, k ≤ l.length ∧ x = .int .i64 k ∧ Below w.heap.size w wx ∧ wx.heap[w.heap.size]? = some (.cells #[.int .i64 mn, .slice (some ⟨b1, f1, none⟩) fs.length c1] 57 (0, 0)) ∧ wx.heap[w.heap.size + 1]? = some (.cells #[.int .i64 mn, .slice (some ⟨b2, f2, none⟩) fs.length c2] 57 (0, 0)) ∧ wx.heap[B]? = some (.cells #[.int .i64 ar, .slice (some ⟨q1, g1, none⟩) ls.length d1] 78 (0, 0)) ∧ wx.heap[B + 1]? = some (.cells #[.int .i64 ar, .slice (some ⟨q2, g2, none⟩) ls.length d2] 78 (0, 0))) (fun x _ => l.length - (intOf x).toNat)
          case atStart => exact ⟨0, Nat.zero_le _, rfl, hbq, hX1, hX2, hT1, hT2⟩
          case round =>
            clear hbq hb hX1 hX2 hT1 hT2 t1 t2 u1 u2
            obtain ⟨k, hk, rfl, hb, hX1, hX2, hT1, hT2⟩ := hrel
            obtain ⟨_, t1, _, _⟩ := two_cells hT1
            obtain ⟨_, t2, _, _⟩ := two_cells hT2
            have u1 := HU1.out
            have u2 := HU2.out
            rw [← hb.cell (p := ⟨q1, g1 + i, none⟩) (show q1 < _ by omega)] at u1
            rw [← hb.cell (p := ⟨q2, g2 + i, none⟩) (show q2 < _ by omega)] at u2
            by_cases hkl : k < l.length
            · rcases hac1 with h0 | ⟨r1, y1, rfl, hr1, hc1'⟩
              · omega
              rcases hac2 with h0 | ⟨r2, y2, rfl, hr2, hc2'⟩
              · omega
              obtain ⟨z10, z11⟩ := hc1' k hkl
              obtain ⟨z20, z21⟩ := hc2' k hkl
              rw [← hb.cell (p := ⟨r1, y1 + k * 2, none⟩) (show r1 < _ by omega)] at z10
              rw [← hb.cell (p := ⟨r1, y1 + k * 2 + 1, none⟩) (show r1 < _ by omega)] at z11
              rw [← hb.cell (p := ⟨r2, y2 + k * 2, none⟩) (show r2 < _ by omega)] at z20
              rw [← hb.cell (p := ⟨r2, y2 + k * 2 + 1, none⟩) (show r2 < _ by omega)] at z21
              generalize l[k].1 = ka at *
              generalize l[k].2 = na at *
              go_wp2_with fail
              go_quiet (fail)
              go_wp2_with fail
              go_roundw
              case rel => exact ⟨k + 1, hkl, by go_num, below_drewN hb _, hX1, hX2, hT1, hT2⟩
              case measure => simp [intOf]; omega
            · go_wp2_with fail
              go_roundw
              case rel => exact ⟨i + 1, hil, by go_num, hb, hX1, hX2, hT1, hT2⟩
              case measure => simp [intOf]; omega
        · go_wp2_with fail
          go_roundw
          case rel => exact ⟨j + 1, hlt, by go_num, hb, hX1, hX2⟩
          case measure => simp [intOf]; omega
    · go_wp2_with fail
      go_ret
      exact ⟨rfl, hb⟩

end Go.Proofs.YtnndoagpbcacdaaGreatDoor
namespace Go.Proofs.YtnndoagpbcacdaaGreatDoor
open Go.RowKit

/-! The law's lent code: as c, in lists with spare room. -/
def AtLent (w : World) (v : Value) (l : Ln) : Prop := ∃ e, v = .slice (some ⟨e, 0, none⟩) l.length (l.length + 1) ∧ l.length + 1 ≤ maxLen ∧ e < w.heap.size ∧ (∀ j (h : j < l.length), w.cell? ⟨e, j * 2, none⟩ = some (.int .i64 l[j].1) ∧ w.cell? ⟨e, j * 2 + 1, none⟩ = some (.int .i64 l[j].2)) ∧ w.cell? ⟨e, l.length * 2, none⟩ = some (.int .i64 77) ∧ w.cell? ⟨e, l.length * 2 + 1, none⟩ = some (.int .i64 0)
def LnLent (w : World) (v : Value) (L : List Ln) : Prop := ∃ e d, v = .slice (some ⟨e, 0, none⟩) L.length (L.length + 1) ∧ L.length + 1 ≤ maxLen ∧ e < w.heap.size ∧ (∀ j (h : j < L.length), ∃ u, w.cell? ⟨e, j, none⟩ = some u ∧ AtLent w u L[j]) ∧ w.cell? ⟨e, L.length, none⟩ = some (.slice (some ⟨d, 0, none⟩) 1 1) ∧ d < w.heap.size ∧ w.cell? ⟨d, 0, none⟩ = some (.int .i64 77) ∧ w.cell? ⟨d, 1, none⟩ = some (.int .i64 0)
def FnLent (w : World) (v : Value) (F : List Tp) : Prop := ∃ e, v = .slice (some ⟨e, 0, none⟩) F.length (F.length + 1) ∧ F.length + 1 ≤ maxLen ∧ e < w.heap.size ∧ (∀ j (h : j < F.length), ∃ u, w.cell? ⟨e, j * 2, none⟩ = some (.int .i64 F[j].ar) ∧ w.cell? ⟨e, j * 2 + 1, none⟩ = some u ∧ LnLent w u F[j].ls) ∧ w.cell? ⟨e, F.length * 2, none⟩ = some (.int .i64 77) ∧ w.cell? ⟨e, F.length * 2 + 1, none⟩ = some (.slice none 0 0)
theorem cell_keep2 {w w' : World} {b k : Nat} {v : Value} (h : w.cell? ⟨b, k, none⟩ = some v) (hb : Below w.heap.size w w') : w'.cell? ⟨b, k, none⟩ = some v := by
  have hlt := World.block_lt_of_cell? w _ h
  rw [hb.cell (p := ⟨b, k, none⟩) hlt]
  exact h
theorem AtLent.keep {w w' : World} {v : Value} {l : Ln} (h : AtLent w v l) (hb : Below w.heap.size w w') : AtLent w' v l := by
  obtain ⟨e, h1, h2, h3, h4, h5, h6⟩ := h
  exact ⟨e, h1, h2, by have := hb.size; omega, fun j hj => ⟨cell_keep2 (h4 j hj).1 hb, cell_keep2 (h4 j hj).2 hb⟩, cell_keep2 h5 hb, cell_keep2 h6 hb⟩
theorem LnLent.keep {w w' : World} {v : Value} {L : List Ln} (h : LnLent w v L) (hb : Below w.heap.size w w') : LnLent w' v L := by
  obtain ⟨e, d, h1, h2, h3, h4, h5, h6, h7, h8⟩ := h
  refine ⟨e, d, h1, h2, by have := hb.size; omega, fun j hj => ?_, cell_keep2 h5 hb, by have := hb.size; omega, cell_keep2 h7 hb, cell_keep2 h8 hb⟩
  obtain ⟨u, g1, g2⟩ := h4 j hj
  exact ⟨u, cell_keep2 g1 hb, g2.keep hb⟩
theorem FnLent.keep {w w' : World} {v : Value} {F : List Tp} (h : FnLent w v F) (hb : Below w.heap.size w w') : FnLent w' v F := by
  obtain ⟨e, h1, h2, h3, h4, h5, h6⟩ := h
  refine ⟨e, h1, h2, by have := hb.size; omega, fun j hj => ?_, cell_keep2 h5 hb, cell_keep2 h6 hb⟩
  obtain ⟨u, g1, g2, g3⟩ := h4 j hj
  exact ⟨u, cell_keep2 g1 hb, cell_keep2 g2 hb, g3.keep hb⟩
theorem AtLent.rd {w : World} {v : Value} {l : Ln} (h : AtLent w v l) : AtomsRd w w.heap.size v l := by
  obtain ⟨e, h1, h2, h3, h4, _, _⟩ := h
  exact ⟨_, _, h1, by omega, h2, .inr ⟨e, 0, rfl, h3, fun j hj => by rw [Nat.zero_add]; exact h4 j hj⟩⟩
theorem LnLent.rd {w : World} {v : Value} {L : List Ln} (h : LnLent w v L) : LinesRd w w.heap.size v L := by
  obtain ⟨e, d, h1, h2, h3, h4, _⟩ := h
  refine ⟨_, _, h1, by omega, h2, .inr ⟨e, 0, rfl, h3, fun j hj => ?_⟩⟩
  obtain ⟨u, g1, g2⟩ := h4 j hj
  exact ⟨u, by rw [Nat.zero_add]; exact g1, g2.rd⟩
theorem FnLent.rd {w : World} {v : Value} {F : List Tp} (h : FnLent w v F) : FunsRd w w.heap.size v F := by
  obtain ⟨e, h1, h2, h3, h4, _⟩ := h
  refine ⟨_, _, h1, by omega, h2, .inr ⟨e, 0, rfl, h3, fun j hj => ?_⟩⟩
  obtain ⟨u, g1, g2, g3⟩ := h4 j hj
  exact ⟨u, by rw [Nat.zero_add]; exact g1, by rw [Nat.zero_add]; exact g2, g3.rd⟩
theorem FunsRd.upZ {w : World} {T T' : Nat} {v : Value} {F : List Tp} (h : FunsRd w T v F) (hT : T ≤ T') : FunsRd w T' v F := by
  obtain ⟨a, cap, h1, h2, h3, h4⟩ := h
  refine ⟨a, cap, h1, h2, h3, ?_⟩
  rcases h4 with h4 | ⟨b, off, rfl, hbl, hc⟩
  · exact .inl h4
  · refine .inr ⟨b, off, rfl, by omega, fun j hj => ?_⟩
    obtain ⟨lv, e1, e2, e3⟩ := hc j hj
    refine ⟨lv, e1, e2, ?_⟩
    obtain ⟨a, cap, g1, g2, g3, g4⟩ := e3
    refine ⟨a, cap, g1, g2, g3, ?_⟩
    rcases g4 with g4 | ⟨b, off, rfl, gbl, gc⟩
    · exact .inl g4
    · refine .inr ⟨b, off, rfl, by omega, fun j hj => ?_⟩
      obtain ⟨lv, k1, k2⟩ := gc j hj
      refine ⟨lv, k1, ?_⟩
      obtain ⟨a, cap, q1, q2, q3, q4⟩ := k2
      refine ⟨a, cap, q1, q2, q3, ?_⟩
      rcases q4 with q4 | ⟨b, off, rfl, qbl, qc⟩
      · exact .inl q4
      · exact .inr ⟨b, off, rfl, by omega, qc⟩

set_option maxRecDepth 100000 in
set_option maxHeartbeats 8000000 in
theorem lKept (mn : Int) (fs : List Tp) (fv1 fv2 : Value) (w : World) (h1 : FnLent w fv1 fs) (h2 : FunsRd w w.heap.size fv2 fs) :
    Calls Tryz.prog 55 #[.agg #[.int .i64 mn, fv1], .agg #[.int .i64 mn, fv2]] w fun e w' => e = .returned (.bool true) ∧ Below w.heap.size w w' := by
  have hA0 : Below w.heap.size w ((w.alloc (Obj.cells #[.int .i64 mn, fv1] 57)).alloc (Obj.cells #[.int .i64 mn, fv2] 57)) := ((Below.refl _ _).alloc (Nat.le_refl _) _).alloc (by simp) _
  have HC : Hid _ := lSame mn fs fv1 fv2 ((w.alloc (Obj.cells #[.int .i64 mn, fv1] 57)).alloc (Obj.cells #[.int .i64 mn, fv2] 57)) ((FunsRd.keep h1.rd hA0).upZ hA0.size) ((h2.keep hA0).upZ hA0.size)
  have HF : Hid (FnLent w fv1 fs) := h1
  obtain ⟨e, rfl, hml, helt, _, _, _⟩ := h1
  obtain ⟨o2, c2, rfl, _, _, _⟩ := h2
  unfold maxLen at hml
  go_enter Tryz.func55, Tryz.ntmps55
  go_wp2_with fail
  refine (show Calls _ _ _ _ _ from HC.out).mono ?_
  rintro e' w1 ⟨rfl, hb1⟩
  clear HC
  obtain ⟨hX1, _⟩ := two_later hb1
  have hb1w : Below w.heap.size w w1 := hA0.trans (hb1.mono hA0.size)
  have hF1 := FnLent.keep HF.out hb1w
  have hbs1 := hb1w.size
  clear hb1 hA0 HF
  obtain ⟨e2, he2, _, he2l, hcell, hz0, hz1⟩ := hF1
  cases he2
  obtain ⟨_, a1, _, _⟩ := two_cells hX1
  have hXl : w.heap.size < w1.heap.size := (Array.getElem?_eq_some_iff.1 hX1).1
  have HCL : Hid _ := hcell
  clear hcell
  go_wp2_with fail
  go_loopw [8] (fun y wr => ∃ i : Nat, i ≤ fs.length ∧ y = .int .i64 i ∧ wr = w1) (fun y _ => fs.length - (intOf y).toNat)
  case atStart => exact ⟨0, Nat.zero_le _, rfl, rfl⟩
  case round =>
    obtain ⟨i, hi, rfl, rfl⟩ := hrel
    by_cases hlt : i < fs.length
    · obtain ⟨u, g0, g1, hL⟩ := HCL.out i hlt
      generalize fs[i] = t at *
      obtain ⟨ar, ls⟩ := t
      simp only at *
      obtain ⟨b, d, rfl, hm, hbl, hlc, hl0, hdl, hd0, hd1⟩ := hL
      unfold maxLen at hm
      have HLC : Hid _ := hlc
      clear hlc
      have m1 : ((77 : Int) == 77) = true := rfl
      have m2 : ((0 : Int) == 0) = true := rfl
      go_wp2_with fail
      go_loopw [11] (fun y wr' => ∃ j : Nat, j ≤ ls.length ∧ y = .int .i64 j ∧ wr' = wr) (fun y _ => ls.length - (intOf y).toNat)
      case atStart => exact ⟨0, Nat.zero_le _, rfl, rfl⟩
      case round =>
        obtain ⟨j, hj, rfl, rfl⟩ := hrel
        by_cases hjl : j < ls.length
        · obtain ⟨v, x0, hA⟩ := HLC.out j hjl
          generalize ls[j] = l at *
          obtain ⟨q, rfl, hk, hql, _, y0, y1⟩ := hA
          unfold maxLen at hk
          go_wp2_with fail
          go_roundw
          case rel => exact ⟨j + 1, hjl, by go_num, trivial⟩
          case measure => simp [intOf]; omega
        · have hjl' : ¬ (j : Int) < (ls.length : Int) := by omega
          go_wp2_with fail
          go_roundw
          case rel => exact ⟨i + 1, hlt, by go_num, trivial⟩
          case measure => simp [intOf]; omega
    · have hlt' : ¬ (i : Int) < (fs.length : Int) := by omega
      go_wp2_with fail
      go_ret
      exact ⟨rfl, hb1w⟩

end Go.Proofs.YtnndoagpbcacdaaGreatDoor
namespace Go.Proofs.YtnndoagpbcacdaaGreatDoor
open Go.RowKit

/-! copy of a row whose elements are several cells. -/
theorem run_copy_z (P : Program) (w : World) (dT sT ty elem : TypeId) (g o dLen dCap : Nat) (a : Addr) (sLen sCap z : Nat) (cur : Array Value) (t : TypeId) (cs : List Value)
    (hu : P.underlying dT = some (.slice elem)) (hs : (P.info? elem).map (·.size) = some z)
    (hg : w.heap[g]? = some (.cells cur t (0, 0))) (hn : cs.length = Nat.min sLen dLen * z)
    (hsrc : ∀ j v, cs[j]? = some v → w.cell? (a.add j) = some v) (hfit : o + cs.length ≤ cur.size) (h1 : ∀ v ∈ cs, v.oneCell' = true) :
    (Builtin.copy_ #[dT, sT] ty #[.slice (some ⟨g, o, none⟩) dLen dCap, .slice (some a) sLen sCap]).run P w =
      .ok (goInt (Nat.min sLen dLen)) (w.setRow g (cur.toList.take o ++ cs ++ cur.toList.drop (o + cs.length)).toArray) := by
  have hl := run_loadCells_list (P := P) w a cs hsrc
  have hst := run_storeCells_at P g o t cs 0 cur w hg (by simpa using hfit) h1
  cases hq : P.info? elem with
  | none => simp [hq] at hs
  | some i =>
    have hi : i.size = z := by simpa [hq] using hs
    simp [Builtin.copy_, run_underlying hu, Builtin.lenOf, Builtin.firstCells, sizeOf, typeInfo, hq, hi, ← hn, hl, hst]
theorem run_copy_none_z (P : Program) (w : World) (dT sT ty elem : TypeId) (a : Addr) (dLen dCap sCap : Nat) (hu : P.underlying dT = some (.slice elem)) (hs : ((P.info? elem).map (·.size)).isSome = true) :
    (Builtin.copy_ #[dT, sT] ty #[.slice (some a) dLen dCap, .slice none 0 sCap]).run P w = .ok (goInt 0) w := by
  cases hq : P.info? elem with
  | none => simp [hq] at hs
  | some i => simp [Builtin.copy_, run_underlying hu, Builtin.lenOf, Builtin.firstCells, sizeOf, typeInfo, hq, storeCells]

/-- A list that came in, laid over the head of a row that was made. -/
theorem run_copy_head (P : Program) (w : World) (dT sT ty elem : TypeId) (z : Nat) (hu : P.underlying dT = some (.slice elem)) (hsz : (P.info? elem).map (·.size) = some z)
    (g dLen dCap : Nat) (sp : Option Addr) (sLen sCap : Nat) (hle : sLen ≤ dLen)
    (cur : Array Value) (t : TypeId) (hg : w.heap[g]? = some (.cells cur t (0, 0))) (cs : List Value) (hn : cs.length = sLen * z)
    (hsrc : sLen = 0 ∨ ∃ ad, sp = some ad ∧ ∀ j v, cs[j]? = some v → w.cell? (ad.add j) = some v) (hfit : cs.length ≤ cur.size) (h1 : ∀ v ∈ cs, v.oneCell' = true) :
    (Builtin.copy_ #[dT, sT] ty #[.slice (some ⟨g, 0, none⟩) dLen dCap, .slice sp sLen sCap]).run P w = .ok (goInt sLen) (w.setRow g (cs ++ cur.toList.drop cs.length).toArray) := by
  have hmin : Nat.min sLen dLen = sLen := Nat.min_eq_left hle
  have hself : w.setRow g cur = w := setRow_self w g cur t (0, 0) hg
  cases sp with
  | none =>
    rcases hsrc with h0 | ⟨ad, hc, _⟩
    · subst h0
      obtain rfl : cs = [] := List.eq_nil_of_length_eq_zero (by simpa using hn)
      rw [run_copy_none_z P w dT sT ty elem _ dLen dCap sCap hu (by rw [hsz]; rfl)]
      simp [hself]
    · cases hc
  | some ad =>
    have hsrc' : ∀ j v, cs[j]? = some v → w.cell? (ad.add j) = some v := by
      rcases hsrc with h0 | ⟨ad', hc, h2⟩
      · obtain rfl : cs = [] := List.eq_nil_of_length_eq_zero (by simpa [h0] using hn)
        intro j v hv; simp at hv
      · cases hc; exact h2
    have := run_copy_z P w dT sT ty elem g 0 dLen dCap ad sLen sCap z cur t cs hu hsz hg (by rw [hmin]; exact hn) hsrc' (by omega) h1
    rw [hmin] at this
    simpa using this

end Go.Proofs.YtnndoagpbcacdaaGreatDoor
