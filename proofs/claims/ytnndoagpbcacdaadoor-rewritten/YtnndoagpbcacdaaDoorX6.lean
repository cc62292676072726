import Derived.Test.YtnndoagpbcacdaaDoorX5
namespace Go.Proofs.YtnndoagpbcacdaaDoor
open Go.RowKit

theorem read2 {w : World} {k : Nat} {u v a c : Value} {t : TypeId} (h : w.heap[k]? = some (.cells #[u, v] t (0, 0))) : (w.setCell ⟨k, 0, none⟩ a).cell? ⟨k, 0, none⟩ = some a ∧ ((w.setCell ⟨k, 0, none⟩ a).setCell ⟨k, 1, none⟩ c).cell? ⟨k, 1, none⟩ = some c :=
  ⟨by rw [cell_of_row _ _ _ _ _ _ (blk_set _ h)]; rfl, by rw [cell_of_row _ _ _ _ _ _ (blk_set _ (blk_set _ h))]; rfl⟩
theorem two_cells {w : World} {k : Nat} {u v : Value} {t : TypeId} (h : w.heap[k]? = some (.cells #[u, v] t (0, 0))) : w.cell? ⟨k, 0, none⟩ = some u ∧ w.cell? ⟨k, 1, none⟩ = some v ∧ w.frozen? ⟨k, 0, none⟩ = false ∧ w.frozen? ⟨k, 1, none⟩ = false :=
  ⟨by rw [cell_of_row w k 0 _ _ _ h]; rfl, by rw [cell_of_row w k 1 _ _ _ h]; rfl, frozen_of_row w k 0 _ _ h, frozen_of_row w k 1 _ _ h⟩
theorem three_cells {w : World} {k : Nat} {u v x : Value} {t : TypeId} (h : w.heap[k]? = some (.cells #[u, v, x] t (0, 0))) : w.cell? ⟨k, 0, none⟩ = some u ∧ w.cell? ⟨k, 1, none⟩ = some v ∧ w.cell? ⟨k, 2, none⟩ = some x :=
  ⟨by rw [cell_of_row w k 0 _ _ _ h]; rfl, by rw [cell_of_row w k 1 _ _ _ h]; rfl, by rw [cell_of_row w k 2 _ _ _ h]; rfl⟩
theorem ownsRow_base2 {w : World} {base base' : Nat} {e : TypeId} {size n : Nat} {v : Value} {xs : List Value} (h : w.ownsRow base e size v n xs) (hb : base' ≤ base) : w.ownsRow base' e size v n xs := ownsRow_base h hb
theorem But.keep {b k : Nat} {w w' : World} {o : Obj} (h : But b w w') (hk : w.heap[k]? = some o) (hn : k ≠ b) : w'.heap[k]? = some o := (h.oth k (Array.getElem?_eq_some_iff.1 hk).1 hn).trans hk
theorem But.put {b k i : Nat} {w w' : World} {v : Value} (h : But b w w') (hb : b ≤ w.heap.size) (hk : w.heap.size ≤ k) : But b w (w'.setCell ⟨k, i, none⟩ v) :=
  ⟨h.bel.setCell (by show b ≤ k; omega) _, fun j hj hn => (heap_set_ne _ (show j ≠ k by omega)).trans (h.oth j hj hn)⟩
theorem RdBlk.put {b k i : Nat} {w : World} {v : Value} {r : ByteArray} {ln : Int} (h : RdBlk w b r ln) (hk : b ≠ k) : RdBlk (w.setCell ⟨k, i, none⟩ v) b r ln := (heap_set_ne _ hk).trans h
theorem RdBlk.old {b : Nat} {w w' : World} {r : ByteArray} {ln : Int} (h : RdBlk w b r ln) (hb : Below w.heap.size w w') : RdBlk w' b r ln := (hb.block b (Array.getElem?_eq_some_iff.1 h).1).trans h

/-- What a template comes to, as it is answered. -/
def tpAns (w' : World) (B : Nat) (o : Option Tp) (v : Value) : Prop := match o with
  | none => v = .agg #[.int .i64 0, .slice none 0 0]
  | some t => ∃ lv vs, v = .agg #[.int .i64 t.ar, lv] ∧ LinesV w' B lv t.ls vs

set_option maxRecDepth 100000 in
set_option maxHeartbeats 8000000 in
theorem pReadTemplate (nf : Nat) (m : Bool) (b : Nat) (r : ByteArray) (ln : Int) (w : World) (h : RdBlk w b r ln) (hr : r.size ≤ 30000) (hl0 : 0 ≤ ln) (hl1 : ln ≤ 90000) :
    Calls Tryd.prog 57 #[.pointer (some ⟨b, 0, none⟩), .int .i64 nf, .bool m] w fun e w' => ∃ v, e = .returned (.tuple #[v, .bool (tmplR nf m r).1.isSome]) ∧ But b w w' ∧ RdBlk w' b (tmplR nf m r).2.1 (ln + (tmplR nf m r).2.2) ∧ tpAns w' w.heap.size (tmplR nf m r).1 v := by
  have hblt : b < w.heap.size := (Array.getElem?_eq_some_iff.1 h).1
  have hbA : But b w (w.alloc (Obj.cells #[.int .i64 0, .slice none 0 0] 64)) := But.of ((Below.refl _ _).alloc (Nat.le_refl _) _) (by omega)
  have HC : Hid _ := pReadPair 70 b r ln (w.alloc (Obj.cells #[.int .i64 0, .slice none 0 0] 64)) (h.old ((Below.refl _ _).alloc (Nat.le_refl _) _)) hr hl0 (by omega)
  have HR : Hid (tmplR nf m r = tmplR nf m r) := rfl
  generalize hX : tmplR nf m r = X
  have HX : Hid (tmplR nf m r = X) := hX
  clear hX HR
  unfold tmplR at HX
  have hrf := restF_size r
  obtain ⟨i2, hi2, hy0, hy1, hy2⟩ := info_parts Tryd.infoLine
  generalize pairA 70 r = PA at *
  generalize pairB 70 r = PB at *
  generalize restF r = RF at *
  cases hok : pairOk 70 r
  · rw [hok] at HC HX
    have HX2 : Hid (X = (none, RF, 1)) := HX.out.symm
    rw [HX2.out]
    clear HX hok
    go_enter Tryd.func57, Tryd.ntmps57
    go_wp2_with fail
    refine (show Calls _ _ _ _ _ from HC.out).mono ?_
    rintro e w1 ⟨rfl, hbut, hrd⟩
    clear HC
    have hb1 := hbA.trans hbut
    have hR0 := hbut.keep (heap_alloc_new w _) (by omega)
    have hs1 := hb1.size
    have hRlt : w.heap.size < w1.heap.size := (Array.getElem?_eq_some_iff.1 hR0).1
    obtain ⟨x0, x1, f0, f1⟩ := two_cells hR0
    have hs3 : ((w1.setCell ⟨w.heap.size, 0, none⟩ (.int .i64 0)).setCell ⟨w.heap.size, 1, none⟩ (.slice none 0 0)).heap.size = w1.heap.size := by simp [World.setCell]
    have hR3 := (Below.heap_alloc ((w1.setCell ⟨w.heap.size, 0, none⟩ (.int .i64 0)).setCell ⟨w.heap.size, 1, none⟩ (.slice none 0 0)) (Obj.cells #[.int .i64 nf, .int .i64 PA, .int .i64 PB] 108) w.heap.size (by rw [hs3]; exact hRlt)).trans (blk_set _ (blk_set _ hR0))
    have HQ0 : Hid _ := cell_of_row _ _ 0 _ _ _ hR3
    have HQ1 : Hid _ := cell_of_row _ _ 1 _ _ _ hR3
    clear hR3
    go_wp2_with fail
    have q0 := HQ0.out
    have q1 := HQ1.out
    refine bodyPost_ret (v := .tuple #[.agg #[.int .i64 0, .slice none 0 0], .bool false]) (by simp [results, Tryd.results57, go_sem, q0, q1]) rfl ⟨_, rfl, ?_, ?_, rfl⟩
    · exact ((hb1.put (by omega) (Nat.le_refl _)).put (by omega) (Nat.le_refl _)).trans (But.of ((Below.refl _ _).alloc (Nat.le_refl _) _) (by rw [hs3]; omega))
    · exact ((hrd.put (by omega)).put (by omega)).old ((Below.refl _ _).alloc (Nat.le_refl _) _)
  rw [hok] at HC HX
  clear hok
  cases hst : stand PA PB m
  · rw [hst] at HX
    have HX2 : Hid (X = (none, RF, 1)) := HX.out.symm
    rw [HX2.out]
    have HM : Hid _ := fun w => pMayStand nf PA PB m w
    rw [hst] at HM
    clear HX hst
    go_enter Tryd.func57, Tryd.ntmps57
    go_wp2_with fail
    refine (show Calls _ _ _ _ _ from HC.out).mono ?_
    rintro e w1 ⟨rfl, hbut, hrd⟩
    clear HC
    have hb1 := hbA.trans hbut
    have hR0 := hbut.keep (heap_alloc_new w _) (by omega)
    have hs1 := hb1.size
    have hRlt : w.heap.size < w1.heap.size := (Array.getElem?_eq_some_iff.1 hR0).1
    go_wp2_with fail
    refine (show Calls _ _ _ _ _ from HM.out _).mono ?_
    rintro e w2 ⟨rfl, hbm⟩
    have hb2 : Below w1.heap.size w1 w2 := ((Below.refl _ _).alloc (Nat.le_refl _) _).trans (hbm.mono (by simp))
    clear HM hbm
    have hR2 := (hb2.block _ hRlt).trans hR0
    obtain ⟨x0, x1, f0, f1⟩ := two_cells hR2
    obtain ⟨q0, q1⟩ := read2 (a := .int .i64 0) (c := .slice none 0 0) hR2
    go_wp2_with fail
    refine bodyPost_ret (v := .tuple #[.agg #[.int .i64 0, .slice none 0 0], .bool false]) (by simp [results, Tryd.results57, go_sem, q0, q1]) rfl ⟨_, rfl, ?_, ?_, rfl⟩
    · exact ((hb1.trans (But.of hb2 (by omega))).put (by omega) (Nat.le_refl _)).put (by omega) (Nat.le_refl _)
    · exact ((hrd.old hb2).put (by omega)).put (by omega)
  rw [hst] at HX
  have HM : Hid _ := fun w => pMayStand nf PA PB m w
  rw [hst] at HM
  simp only [stand, Bool.and_eq_true, decide_eq_true_eq] at hst
  obtain ⟨p1, p2, _, p3, p4⟩ := hst
  obtain ⟨n, rfl⟩ := Int.eq_ofNat_of_zero_le p3
  have hn12 : n ≤ 12 := by omega
  rw [Int.toNat_natCast] at HX
  have HX1 : Hid (((linesR nf PA (n + 1) (n + 1) 0 RF).1.map (fun L => (⟨PA, L⟩ : Tp)), (linesR nf PA (n + 1) (n + 1) 0 RF).2.1, (linesR nf PA (n + 1) (n + 1) 0 RF).2.2 + 1) = X) := by show _ = _; have := HX.out; simpa using this
  clear HX p3 p4
  have hRF : RF.size ≤ 30000 := by omega
  generalize hY : linesR nf PA (n + 1) (n + 1) 0 RF = Y at *
  have HY : Hid (linesR nf PA (n + 1) (n + 1 - 0) 0 RF = Y) := hY
  clear hY hrf
  have HN1 : Hid (((n + 1 : Nat) : Int) - 1 = (n : Int)) := by show _ = _; omega
  go_enter Tryd.func57, Tryd.ntmps57
  go_wp2_with fail
  refine (show Calls _ _ _ _ _ from HC.out).mono ?_
  rintro e w1 ⟨rfl, hbut, hrd⟩
  clear HC
  have hb1 := hbA.trans hbut
  have hR0 := hbut.keep (heap_alloc_new w _) (by omega)
  have hs1 := hb1.size
  have hRlt : w.heap.size < w1.heap.size := (Array.getElem?_eq_some_iff.1 hR0).1
  go_wp2_with fail
  refine (show Calls _ _ _ _ _ from HM.out _).mono ?_
  rintro e w2 ⟨rfl, hbm⟩
  have hS2 := box_later' hbm
  have hb2 : Below w1.heap.size w1 w2 := ((Below.refl _ _).alloc (Nat.le_refl _) _).trans (hbm.mono (by simp))
  clear HM hbm
  have hR2 := (hb2.block _ hRlt).trans hR0
  have hSlt : w1.heap.size < w2.heap.size := (Array.getElem?_eq_some_iff.1 hS2).1
  have hbw2 := hb1.trans (But.of hb2 (by omega))
  have hrd2 := hrd.old hb2
  clear hR0 hrd hbut
  obtain ⟨SB, hSB⟩ : ∃ SB, SB = w1.heap.size := ⟨_, rfl⟩
  obtain ⟨TB, hTB⟩ : ∃ TB, TB = w2.heap.size := ⟨_, rfl⟩
  have hSBl : w.heap.size < SB := by omega
  have hTBl : SB < TB := by omega
  rw [← hSB] at hS2
  have HT0 : Hid ((w2.alloc (Obj.cells #[.int .i64 PA, .slice none 0 0] 64)).heap[TB]? = some (.cells #[.int .i64 PA, .slice none 0 0] 64 (0, 0))) := by rw [hTB]; exact heap_alloc_new w2 _
  have hSw : SB < w2.heap.size := by omega
  have hTw : TB ≤ w2.heap.size := by omega
  go_wp2_with fail
  rw [← hSB, ← hTB]
  clear hSB hTB
  go_loopw [13] (fun y wr => ∃ (j : Nat) (L : List Ln) (rj : ByteArray) (lv : Value), j ≤ n + 1 ∧ y = .int .i64 j ∧ Hid (Y = ((linesR nf PA (n + 1) (n + 1 - j) j rj).1.map (L ++ ·), (linesR nf PA (n + 1) (n + 1 - j) j rj).2.1, (linesR nf PA (n + 1) (n + 1 - j) j rj).2.2 + j)) ∧ Hid (L.length = j) ∧ rj.size ≤ 30000 ∧ But b w wr ∧ RdBlk wr b rj (ln + 1 + j) ∧ wr.heap[w.heap.size]? = some (.cells #[.int .i64 0, .slice none 0 0] 64 (0, 0)) ∧ wr.heap[SB]? = some (.cells #[.int .i64 nf, .int .i64 PA, .int .i64 n] 108 (0, 0)) ∧ wr.heap[TB]? = some (.cells #[.int .i64 PA, lv] 64 (0, 0)) ∧ ∃ vs, LinesV wr (TB + 1) lv L vs) (fun y _ => n + 2 - (intOf y).toNat)
  case atStart =>
    refine ⟨0, [], RF, .slice none 0 0, Nat.zero_le _, rfl, ?_, rfl, hRF, hbw2.trans (But.of ((Below.refl _ _).alloc (Nat.le_refl _) _) (by omega)), ?_, (Below.heap_alloc w2 _ _ (by omega)).trans hR2, (Below.heap_alloc w2 _ _ (by omega)).trans hS2, HT0.out, [], World.ownsRow_nil _ _ _ _, fun j hj => by simp at hj, IncV.nil⟩
    · rw [HY.out]; simp [Hid]
    · have := hrd2.old ((Below.refl w2.heap.size w2).alloc (Nat.le_refl _) (Obj.cells #[.int .i64 PA, .slice none 0 0] 64))
      simpa using this
  case round =>
    clear hbw2 hrd2 hR2 hS2 HT0 HY hb2 hb1
    obtain ⟨j, L, rj, lv, hj, rfl, HLR, HLL, hrj, hbw, hrd, hR, hS, hTT, vs, hLB⟩ := hrel
    have hbsz := hbw.size
    have hRl : w.heap.size < wr.heap.size := (Array.getElem?_eq_some_iff.1 hR).1
    have hSl : SB < wr.heap.size := (Array.getElem?_eq_some_iff.1 hS).1
    have hTl : TB < wr.heap.size := (Array.getElem?_eq_some_iff.1 hTT).1
    by_cases hlt : j < n + 1
    · have hle : (j : Int) ≤ (n : Int) := by omega
      have HC : Hid _ := pReadAtoms b rj (ln + 1 + j) wr hrd hrj (by omega) (by omega)
      have HLR2 : Hid (Y = ((if atomsOk rj && goodL nf PA (n + 1) j (atomsL rj) then ((linesR nf PA (n + 1) (n - j) (j + 1) (restF rj)).1.map (atomsL rj :: ·), (linesR nf PA (n + 1) (n - j) (j + 1) (restF rj)).2.1, (linesR nf PA (n + 1) (n - j) (j + 1) (restF rj)).2.2 + 1) else (none, restF rj, 1)).1.map (L ++ ·), (if atomsOk rj && goodL nf PA (n + 1) j (atomsL rj) then ((linesR nf PA (n + 1) (n - j) (j + 1) (restF rj)).1.map (atomsL rj :: ·), (linesR nf PA (n + 1) (n - j) (j + 1) (restF rj)).2.1, (linesR nf PA (n + 1) (n - j) (j + 1) (restF rj)).2.2 + 1) else (none, restF rj, 1)).2.1, (if atomsOk rj && goodL nf PA (n + 1) j (atomsL rj) then ((linesR nf PA (n + 1) (n - j) (j + 1) (restF rj)).1.map (atomsL rj :: ·), (linesR nf PA (n + 1) (n - j) (j + 1) (restF rj)).2.1, (linesR nf PA (n + 1) (n - j) (j + 1) (restF rj)).2.2 + 1) else (none, restF rj, 1)).2.2 + j)) := by
        have h := HLR.out
        rw [show n + 1 - j = (n - j) + 1 by omega] at h
        exact h
      have HRS : Hid _ := restF_size rj
      have HHL : Hid _ := fun v T w (h1 : T ≤ w.heap.size) (h2 : AtomsRd w T v (atomsL rj)) => pHoldsLine nf PA (n + 1) j (atomsL rj) v T w h1 h2
      rw [HN1.out] at HHL
      clear HLR
      generalize restF rj = RJ at *
      generalize atomsL rj = l at *
      have bad : (atomsOk rj && goodL nf PA (n + 1) j l) = false → Hid (X = (none, RJ, j + 1 + 1)) := fun hf => by
        show _ = _
        have h := HLR2.out
        rw [hf] at h
        simp only [Bool.false_eq_true, if_false, Option.map_none] at h
        rw [← HX1.out, h]
        simp only [Option.map_none]
        rw [Nat.add_comm 1 j]
      have BAD : Hid _ := bad
      clear bad
      cases hok : atomsOk rj
      · have HX2 := BAD.out (by rw [hok]; rfl)
        rw [hok] at HC
        have hok2 : atomsOk rj = false := hok
        clear hok HLR2 HHL BAD
        go_wp2_with fail
        refine (show Calls _ _ _ _ _ from HC.out).mono ?_
        rintro e w3 ⟨v, rfl, hbut, hrd3, hvr⟩
        clear HC
        obtain ⟨vo, vcap, rfl⟩ := own_form hvr
        have hR3 := hbut.keep hR (by omega)
        obtain ⟨x0, x1, f0, f1⟩ := two_cells hR3
        obtain ⟨q0, q1⟩ := read2 (a := .int .i64 0) (c := .slice none 0 0) hR3
        go_wp2_with fail
        refine bodyPost_ret (v := .tuple #[.agg #[.int .i64 0, .slice none 0 0], .bool false]) (by simp [results, Tryd.results57, go_sem, q0, q1]) rfl ⟨_, by rw [HX2.out]; rfl, ?_, ?_, ?_⟩
        · exact ((hbw.trans hbut).put (by omega) (Nat.le_refl _)).put (by omega) (Nat.le_refl _)
        · rw [HX2.out]
          have := (hrd3.put (k := w.heap.size) (i := 0) (v := .int .i64 0) (by omega)).put (k := w.heap.size) (i := 1) (v := .slice none 0 0) (by omega)
          rw [show ln + ((j + 1 + 1 : Nat) : Int) = ln + 1 + (j : Int) + 1 by omega]
          exact this
        · rw [HX2.out]; exact rfl
      · rw [hok] at HC HLR2 BAD
        clear hok
        cases hgl : goodL nf PA (n + 1) j l
        · have HX2 := BAD.out (by rw [hgl]; rfl)
          rw [hgl] at HHL
          clear HLR2 BAD hgl
          go_wp2_with fail
          refine (show Calls _ _ _ _ _ from HC.out).mono ?_
          rintro e w3 ⟨v, rfl, hbut, hrd3, hvr⟩
          clear HC
          have HH2 : Hid _ := HHL.out v w3.heap.size w3 (Nat.le_refl _) (atomsRd_of hvr)
          obtain ⟨vo, vcap, rfl⟩ := own_form hvr
          have hR3 := hbut.keep hR (by omega)
          have hS3 := hbut.keep hS (by omega)
          obtain ⟨y0, y1, y2⟩ := three_cells hS3
          have hs3 := hbut.size
          clear HHL
          go_wp2_with fail
          refine (show Calls _ _ _ _ _ from HH2.out).mono ?_
          rintro e w4 ⟨rfl, hb4⟩
          clear HH2 y0 y1 y2
          have hR4 := (hb4.block _ (by omega)).trans hR3
          obtain ⟨x0, x1, f0, f1⟩ := two_cells hR4
          obtain ⟨q0, q1⟩ := read2 (a := .int .i64 0) (c := .slice none 0 0) hR4
          go_wp2_with fail
          refine bodyPost_ret (v := .tuple #[.agg #[.int .i64 0, .slice none 0 0], .bool false]) (by simp [results, Tryd.results57, go_sem, q0, q1]) rfl ⟨_, by rw [HX2.out]; rfl, ?_, ?_, ?_⟩
          · exact (((hbw.trans hbut).trans (But.of hb4 (by omega))).put (by omega) (Nat.le_refl _)).put (by omega) (Nat.le_refl _)
          · rw [HX2.out]
            have := ((hrd3.old hb4).put (k := w.heap.size) (i := 0) (v := .int .i64 0) (by omega)).put (k := w.heap.size) (i := 1) (v := .slice none 0 0) (by omega)
            rw [show ln + ((j + 1 + 1 : Nat) : Int) = ln + 1 + (j : Int) + 1 by omega]
            exact this
          · rw [HX2.out]; exact rfl
        · have HLR3 : Hid (Y = ((linesR nf PA (n + 1) (n + 1 - (j + 1)) (j + 1) RJ).1.map ((L ++ [l]) ++ ·), (linesR nf PA (n + 1) (n + 1 - (j + 1)) (j + 1) RJ).2.1, (linesR nf PA (n + 1) (n + 1 - (j + 1)) (j + 1) RJ).2.2 + (j + 1))) := by
            show _ = _
            have h := HLR2.out
            rw [hgl] at h
            simp only [Bool.and_self, if_true, Option.map_map] at h
            rw [h, show n + 1 - (j + 1) = n - j by omega]
            congr 1
            · congr 1
              funext M
              simp
            · congr 1
              omega
          rw [hgl] at HHL
          clear HLR2 BAD hgl
          go_wp2_with fail
          refine (show Calls _ _ _ _ _ from HC.out).mono ?_
          rintro e w3 ⟨v, rfl, hbut, hrd3, hvr⟩
          clear HC
          have HH2 : Hid _ := HHL.out v w3.heap.size w3 (Nat.le_refl _) (atomsRd_of hvr)
          obtain ⟨vo, vcap, rfl⟩ := own_form hvr
          have hR3 := hbut.keep hR (by omega)
          have hS3 := hbut.keep hS (by omega)
          have hT3 := hbut.keep hTT (by omega)
          have hLB3 := hLB.but hbut hrd
          obtain ⟨y0, y1, y2⟩ := three_cells hS3
          have hs3 := hbut.size
          clear HHL
          go_wp2_with fail
          refine (show Calls _ _ _ _ _ from HH2.out).mono ?_
          rintro e w4 ⟨rfl, hb4⟩
          clear HH2 y0 y1 y2
          have hR4 := (hb4.block _ (by omega)).trans hR3
          have hS4 := (hb4.block _ (by omega)).trans hS3
          have hT4 := (hb4.block _ (by omega)).trans hT3
          have hrd4 := hrd3.old hb4
          have hv4 := ownsRow_old hvr hb4
          have hvlt := hLB.lt
          obtain ⟨hlr4, hrw4, hin4⟩ := hLB3.old hb4
          have hs4 := hb4.size
          obtain ⟨t0, t1, _, ft1⟩ := two_cells hT4
          obtain ⟨lo, lcap, rfl⟩ := own_form hlr4
          have hLl : L.length ≤ 20 := by have := HLL.out; omega
          go_wp2_with (at_builtin; go_must (refine wpList_append_lies _ rfl _ _ _ rfl (TB + 1) 61 i2 _ 1 24 Tryd.underlying62 hi2 hy0 hy1 hy2 rfl (by omega) (.slice lo L.length lcap) L.length vs rfl ?hown _ 1 _ [.slice vo l.length vcap] rfl rfl ?hnews ?h1 (by omega) ?h63 ?hbytes ?hbase _ rfl ?_))
          case hown => exact hlr4.alloc _
          case hnews => exact World.news_of_block (heap_alloc_new w4 _)
          case h1 => simp [Value.oneCell']
          case h63 => unfold maxLen; omega
          case hbytes => omega
          case hbase => simp; omega
          intro g cap2 w5 hown5 hgrow5 hat5 hlt5
          have hA4 : Below w4.heap.size w4 (w4.alloc (Obj.cells #[.slice vo l.length vcap] 61)) := (Below.refl _ _).alloc (Nat.le_refl _) _
          have hR5 := grown_type (hlr4.alloc _) hgrow5 (by decide) ((hA4.block _ (by omega)).trans hR4)
          have hS5 := grown_type (hlr4.alloc _) hgrow5 (by decide) ((hA4.block _ (by omega)).trans hS4)
          have hT5 := grown_type (hlr4.alloc _) hgrow5 (by decide) ((hA4.block _ (by omega)).trans hT4)
          have hrd5 : RdBlk w5 b RJ (ln + 1 + j + 1) := grown_type (hlr4.alloc _) hgrow5 (by decide) ((hA4.block b (by omega)).trans hrd4)
          have hbw5 : But b w w5 := (((hbw.trans hbut).trans (But.of hb4 (by omega))).trans (But.of hA4 (by omega))).grown (hlr4.alloc _) hgrow5 (by omega) (by omega)
          have hLB5 : LinesV w5 (TB + 1) (.slice (some ⟨g, 0, none⟩) (L.length + 1) cap2) (L ++ [l]) (vs ++ [.slice vo l.length vcap]) := by
            refine ⟨by rw [List.length_append]; exact hown5, RowsAt.app (by have := hlr4.1; simpa using this) ((hrw4.old hA4 (fun _ _ h => h)).type (hlr4.alloc _) hgrow5 (fun _ h => h)) ?_, hin4.snoc hvlt (fun b hb => (hvr.lt b hb).1)⟩
            intro q hq
            have hq0 : q = 0 := by simpa using hq
            subst hq0
            exact ⟨_, rfl, own_grown_type (hlr4.alloc _) hgrow5 (by decide) ((ownsRow_base2 hv4 (by omega)).alloc _), fun _ _ => trivial⟩
          obtain ⟨z0, z1, _, fz1⟩ := two_cells hT5
          clear hgrow5 hat5 t0 t1 ft1
          go_wp2_with fail
          go_roundw
          case rel =>
            refine ⟨j + 1, L ++ [l], RJ, _, hlt, by go_num, HLR3, by have := HLL.out; simp [Hid, this], by have := HRS.out; omega, hbw5.put (by omega) (by omega), ?_, (heap_set_ne _ (by omega)).trans hR5, (heap_set_ne _ (by omega)).trans hS5, blk_set _ hT5, _, hLB5.set hT5⟩
            have := hrd5.put (k := TB) (i := 1) (v := .slice (some ⟨g, 0, none⟩) (L.length + 1) cap2) (by omega)
            rw [show ln + 1 + ((j + 1 : Nat) : Int) = ln + 1 + (j : Int) + 1 by omega]
            exact this
          case measure => simp [intOf]; omega
    · have hj2 : j = n + 1 := by omega
      have hle : ¬ (j : Int) ≤ (n : Int) := by omega
      have HX2 : Hid (X = (some ⟨PA, L⟩, rj, n + 1 + 1)) := by
        show _ = _
        have h := HLR.out
        rw [hj2, Nat.sub_self] at h
        simp only [linesR, Option.map_some, List.append_nil, Nat.zero_add] at h
        rw [← HX1.out, h]; rfl
      obtain ⟨x0, x1, f0, f1⟩ := two_cells hR
      obtain ⟨t0, t1, _, _⟩ := two_cells hTT
      obtain ⟨lo, lcap, hlv⟩ : ∃ a c, lv = .slice a L.length c := by obtain ⟨h1, _⟩ := hLB; obtain ⟨a, c, e⟩ := own_form h1; exact ⟨a, c, e⟩
      subst hlv
      obtain ⟨q0, q1⟩ := read2 (a := .int .i64 PA) (c := .slice lo L.length lcap) hR
      have hne : TB ≠ w.heap.size := by omega
      go_wp2_with fail
      refine bodyPost_ret (v := .tuple #[.agg #[.int .i64 PA, .slice lo L.length lcap], .bool true]) (by simp [results, Tryd.results57, go_sem, q0, q1]) rfl ⟨_, by rw [HX2.out]; rfl, ?_, ?_, ?_⟩
      · exact (hbw.put (by omega) (Nat.le_refl _)).put (by omega) (Nat.le_refl _)
      · rw [HX2.out]
        have := (hrd.put (k := w.heap.size) (i := 0) (v := .int .i64 PA) (by omega)).put (k := w.heap.size) (i := 1) (v := .slice lo L.length lcap) (by omega)
        rw [show ln + ((n + 1 + 1 : Nat) : Int) = ln + 1 + (j : Int) by omega]
        exact this
      · rw [HX2.out]
        refine ⟨_, vs, rfl, ?_⟩
        obtain ⟨e1, e2, e3⟩ := (hLB.set hR).set (blk_set _ hR)
        exact ⟨ownsRow_base e1 (by omega), fun q hq => by obtain ⟨v, a1, a2, a3⟩ := e2 q hq; exact ⟨v, a1, ownsRow_base a2 (by omega), a3⟩, e3⟩

end Go.Proofs.YtnndoagpbcacdaaDoor
