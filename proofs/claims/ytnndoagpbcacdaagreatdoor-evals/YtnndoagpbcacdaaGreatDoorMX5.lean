import Derived.Test.YtnndoagpbcacdaaGreatDoorMX1
import Derived.Test.YtnndoagpbcacdaaGreatDoorMB0
namespace Go.Proofs.YtnndoagpbcacdaaGreatDoor
open Go.RowKit

/-! Package codetext: read.go: templates. -/
def linesR (nf : Nat) (ar : Int) (nl : Nat) : Nat → Nat → ByteArray → Option (List Ln) × ByteArray × Nat
  | 0, _, r => (some [], r, 0)
  | m + 1, j, r => if atomsOk r && goodL nf ar nl j (atomsL r) then ((linesR nf ar nl m (j + 1) (restF r)).1.map (atomsL r :: ·), (linesR nf ar nl m (j + 1) (restF r)).2.1, (linesR nf ar nl m (j + 1) (restF r)).2.2 + 1) else (none, restF r, 1)
def tmplR (nf : Nat) (m : Bool) (r : ByteArray) : Option Tp × ByteArray × Nat :=
  if pairOk 70 r && stand (pairA 70 r) (pairB 70 r) m then ((linesR nf (pairA 70 r) ((pairB 70 r).toNat + 1) ((pairB 70 r).toNat + 1) 0 (restF r)).1.map (fun L => ⟨pairA 70 r, L⟩), (linesR nf (pairA 70 r) ((pairB 70 r).toNat + 1) ((pairB 70 r).toNat + 1) 0 (restF r)).2.1, (linesR nf (pairA 70 r) ((pairB 70 r).toNat + 1) ((pairB 70 r).toNat + 1) 0 (restF r)).2.2 + 1) else (none, restF r, 1)
theorem LinesB.but {b : Nat} {w w' : World} {B : Nat} {lv : Value} {L : List Ln} {r : ByteArray} {ln : Int} (h : LinesB w B lv L) (hb : But b w w') (hr : RdBlk w b r ln) : LinesB w' B lv L := by
  obtain ⟨vs, h1, h2⟩ := h
  refine ⟨vs, ownsRow_but h1 hb hr (by decide), fun j hj => ?_⟩
  obtain ⟨v, e1, e2, e3⟩ := h2 j hj
  exact ⟨v, e1, ownsRow_but e2 hb hr (by decide), e3⟩
theorem LinesB.old {w w' : World} {B : Nat} {lv : Value} {L : List Ln} (h : LinesB w B lv L) (hb : Below w.heap.size w w') : LinesB w' B lv L := by
  obtain ⟨vs, h1, h2⟩ := h
  exact ⟨vs, ownsRow_old h1 hb, h2.old hb (fun _ _ h => h)⟩
theorem LinesB.set {w : World} {B k i : Nat} {lv u : Value} {L : List Ln} {cs : Array Value} (h : LinesB w B lv L) (hb : w.heap[k]? = some (.cells cs 78 (0, 0))) : LinesB (w.setCell ⟨k, i, none⟩ u) B lv L := by
  obtain ⟨vs, h1, h2⟩ := h
  refine ⟨vs, ownsRow_set h1 hb (by decide), fun j hj => ?_⟩
  obtain ⟨v, e1, e2, e3⟩ := h2 j hj
  exact ⟨v, e1, ownsRow_set e2 hb (by decide), e3⟩
/-- Rows in rising blocks. -/
def IncV (vs : List Value) : Prop := ∀ (i j : Nat) (u v : Value) (a b : Nat), i < j → vs[i]? = some u → vs[j]? = some v → u.ownBlock = some a → v.ownBlock = some b → a < b
theorem IncV.nil : IncV [] := by intro i j u v a b _ h; simp at h
theorem IncV.snoc {vs : List Value} {x : Value} {T : Nat} (h : IncV vs) (hb : ∀ u ∈ vs, ∀ a, u.ownBlock = some a → a < T) (hx : ∀ b, x.ownBlock = some b → T ≤ b) : IncV (vs ++ [x]) := by
  intro i j u v a b hij hi hj ha hb'
  by_cases hjl : j < vs.length
  · rw [List.getElem?_append_left (by omega)] at hi
    rw [List.getElem?_append_left hjl] at hj
    exact h i j u v a b hij hi hj ha hb'
  · have hj2 : j = vs.length := by
      have := (List.getElem?_eq_some_iff.1 hj).1
      simp at this
      omega
    subst hj2
    rw [List.getElem?_append_left (by omega)] at hi
    rw [List.getElem?_append_right (Nat.le_refl _)] at hj
    simp at hj
    subst hj
    have h1 := hb u (List.mem_of_getElem? hi) a ha
    have h2 := hx b hb'
    omega
def LinesV (w : World) (B : Nat) (lv : Value) (L : List Ln) (vs : List Value) : Prop := w.ownsRow B 76 1 lv L.length vs ∧ RowsAt w B (fun _ => True) vs L ∧ IncV vs
theorem LinesV.lb {w : World} {B : Nat} {lv : Value} {L : List Ln} {vs : List Value} (h : LinesV w B lv L vs) : LinesB w B lv L := ⟨vs, h.1, h.2.1⟩
theorem LinesV.lt {w : World} {B : Nat} {lv : Value} {L : List Ln} {vs : List Value} (h : LinesV w B lv L vs) : ∀ u ∈ vs, ∀ a, u.ownBlock = some a → a < w.heap.size := by
  intro u hu a ha
  obtain ⟨j, hj, rfl⟩ := List.mem_iff_getElem.1 hu
  have hl : vs.length = L.length := by have := h.1.1; simpa using this
  obtain ⟨v, e1, e2, _⟩ := h.2.1 j (by omega)
  rw [List.getElem?_eq_getElem hj] at e1
  cases e1
  exact (e2.lt a ha).2
theorem LinesV.but {b : Nat} {w w' : World} {B : Nat} {lv : Value} {L : List Ln} {vs : List Value} {r : ByteArray} {ln : Int} (h : LinesV w B lv L vs) (hb : But b w w') (hr : RdBlk w b r ln) : LinesV w' B lv L vs := by
  refine ⟨ownsRow_but h.1 hb hr (by decide), fun j hj => ?_, h.2.2⟩
  obtain ⟨v, e1, e2, e3⟩ := h.2.1 j hj
  exact ⟨v, e1, ownsRow_but e2 hb hr (by decide), e3⟩
theorem LinesV.old {w w' : World} {B : Nat} {lv : Value} {L : List Ln} {vs : List Value} (h : LinesV w B lv L vs) (hb : Below w.heap.size w w') : LinesV w' B lv L vs := ⟨ownsRow_old h.1 hb, h.2.1.old hb (fun _ _ h => h), h.2.2⟩
theorem LinesV.set {w : World} {B k i : Nat} {lv u : Value} {L : List Ln} {vs : List Value} {cs : Array Value} (h : LinesV w B lv L vs) (hb : w.heap[k]? = some (.cells cs 78 (0, 0))) : LinesV (w.setCell ⟨k, i, none⟩ u) B lv L vs := by
  refine ⟨ownsRow_set h.1 hb (by decide), fun j hj => ?_, h.2.2⟩
  obtain ⟨v, e1, e2, e3⟩ := h.2.1 j hj
  exact ⟨v, e1, ownsRow_set e2 hb (by decide), e3⟩
theorem atomsRd_of {w : World} {B : Nat} {v : Value} {l : Ln} (h : w.ownsRow B 75 2 v l.length (acs l)) : AtomsRd w w.heap.size v l := atoms_rd (ownsRow_base h (Nat.zero_le _)) (fun k hk => (h.lt k hk).2)

end Go.Proofs.YtnndoagpbcacdaaGreatDoor
namespace Go.Proofs.YtnndoagpbcacdaaGreatDoor
open Go.RowKit

theorem read2 {w : World} {k : Nat} {u v a c : Value} {t : TypeId} (h : w.heap[k]? = some (.cells #[u, v] t (0, 0))) : (w.setCell ⟨k, 0, none⟩ a).cell? ⟨k, 0, none⟩ = some a ∧ ((w.setCell ⟨k, 0, none⟩ a).setCell ⟨k, 1, none⟩ c).cell? ⟨k, 1, none⟩ = some c :=
  ⟨by rw [cell_of_row _ _ _ _ _ _ (blk_set _ h)]; rfl, by rw [cell_of_row _ _ _ _ _ _ (blk_set _ (blk_set _ h))]; rfl⟩
theorem two_cells {w : World} {k : Nat} {u v : Value} {t : TypeId} (h : w.heap[k]? = some (.cells #[u, v] t (0, 0))) : w.cell? ⟨k, 0, none⟩ = some u ∧ w.cell? ⟨k, 1, none⟩ = some v ∧ w.frozen? ⟨k, 0, none⟩ = false ∧ w.frozen? ⟨k, 1, none⟩ = false :=
  ⟨by rw [cell_of_row w k 0 _ _ _ h]; rfl, by rw [cell_of_row w k 1 _ _ _ h]; rfl, frozen_of_row w k 0 _ _ h, frozen_of_row w k 1 _ _ h⟩
theorem three_cells {w : World} {k : Nat} {u v x : Value} {t : TypeId} (h : w.heap[k]? = some (.cells #[u, v, x] t (0, 0))) : w.cell? ⟨k, 0, none⟩ = some u ∧ w.cell? ⟨k, 1, none⟩ = some v ∧ w.cell? ⟨k, 2, none⟩ = some x :=
  ⟨by rw [cell_of_row w k 0 _ _ _ h]; rfl, by rw [cell_of_row w k 1 _ _ _ h]; rfl, by rw [cell_of_row w k 2 _ _ _ h]; rfl⟩
theorem ownsRow_base2 {w : World} {base base' : Nat} {e : TypeId} {size n : Nat} {v : Value} {xs : List Value} (h : w.ownsRow base e size v n xs) (hb : base' ≤ base) : w.ownsRow base' e size v n xs := ownsRow_base h hb
theorem But.keep {b k : Nat} {w w' : World} {o : Obj} (h : But b w w') (hk : w.heap[k]? = some o) (hn : k ≠ b) : w'.heap[k]? = some o := (h.oth k (Array.getElem?_eq_some_iff.1 hk).1 hn).trans hk
theorem But.put {b k i : Nat} {w w' : World} {v : Value} (h : But b w w') (hb : b ≤ w.heap.size) (hk : w.heap.size ≤ k) : But b w (w'.setCell ⟨k, i, none⟩ v) :=
  ⟨h.bel.setCell (by show b ≤ k; omega) _, fun j hj hn => (heap_set_ne _ (show j ≠ k by omega)).trans (h.oth j hj hn)⟩
theorem RdBlk.put {b k i : Nat} {w : World} {v : Value} {r : ByteArray} {ln : Int} (h : RdBlk w b r ln) (hk : b ≠ k) : RdBlk (w.setCell ⟨k, i, none⟩ v) b r ln := (heap_set_ne _ hk).trans h
theorem RdBlk.old {b : Nat} {w w' : World} {r : ByteArray} {ln : Int} (h : RdBlk w b r ln) (hb : Below w.heap.size w w') : RdBlk w' b r ln := (hb.block b (Array.getElem?_eq_some_iff.1 h).1).trans h

/-- What a template comes to, as it is answered. -/
def tpAns (w' : World) (B : Nat) (o : Option Tp) (v : Value) : Prop := match o with
  | none => v = .agg #[.int .i64 0, .slice none 0 0]
  | some t => ∃ lv vs, v = .agg #[.int .i64 t.ar, lv] ∧ LinesV w' B lv t.ls vs

set_option maxRecDepth 100000 in
set_option maxHeartbeats 8000000 in
theorem pReadTemplate (nf : Nat) (m : Bool) (b : Nat) (r : ByteArray) (ln : Int) (w : World) (h : RdBlk w b r ln) (hr : r.size ≤ 30000) (hl0 : 0 ≤ ln) (hl1 : ln ≤ 90000) :
    Calls Tryz.prog 111 #[.pointer (some ⟨b, 0, none⟩), .int .i64 nf, .bool m] w fun e w' => ∃ v, e = .returned (.tuple #[v, .bool (tmplR nf m r).1.isSome]) ∧ But b w w' ∧ RdBlk w' b (tmplR nf m r).2.1 (ln + (tmplR nf m r).2.2) ∧ tpAns w' w.heap.size (tmplR nf m r).1 v := by
  have hblt : b < w.heap.size := (Array.getElem?_eq_some_iff.1 h).1
  have hbA : But b w (w.alloc (Obj.cells #[.int .i64 0, .slice none 0 0] 78)) := But.of ((Below.refl _ _).alloc (Nat.le_refl _) _) (by omega)
  have HC : Hid _ := pReadPair 70 b r ln (w.alloc (Obj.cells #[.int .i64 0, .slice none 0 0] 78)) (h.old ((Below.refl _ _).alloc (Nat.le_refl _) _)) hr hl0 (by omega)
  have HR : Hid (tmplR nf m r = tmplR nf m r) := rfl
  generalize hX : tmplR nf m r = X
  have HX : Hid (tmplR nf m r = X) := hX
  clear hX HR
  unfold tmplR at HX
  have hrf := restF_size r
  obtain ⟨i2, hi2, hy0, hy1, hy2⟩ := info_parts Tryz.infoLine
  generalize pairA 70 r = PA at *
  generalize pairB 70 r = PB at *
  generalize restF r = RF at *
  cases hok : pairOk 70 r
  · rw [hok] at HC HX
    have HX2 : Hid (X = (none, RF, 1)) := HX.out.symm
    rw [HX2.out]
    clear HX hok
    go_enter Tryz.func111, Tryz.ntmps111
    go_wp2_with fail
    refine (show Calls _ _ _ _ _ from HC.out).mono ?_
    rintro e w1 ⟨rfl, hbut, hrd⟩
    clear HC
    have hb1 := hbA.trans hbut
    have hR0 := hbut.keep (heap_alloc_new w _) (by omega)
    have hs1 := hb1.size
    have hRlt : w.heap.size < w1.heap.size := (Array.getElem?_eq_some_iff.1 hR0).1
    obtain ⟨x0, x1, f0, f1⟩ := two_cells hR0
    have hs3 : ((w1.setCell ⟨w.heap.size, 0, none⟩ (.int .i64 0)).setCell ⟨w.heap.size, 1, none⟩ (.slice none 0 0)).heap.size = w1.heap.size := by simp [World.setCell]
    have hR3 := (Below.heap_alloc ((w1.setCell ⟨w.heap.size, 0, none⟩ (.int .i64 0)).setCell ⟨w.heap.size, 1, none⟩ (.slice none 0 0)) (Obj.cells #[.int .i64 nf, .int .i64 PA, .int .i64 PB] 177) w.heap.size (by rw [hs3]; exact hRlt)).trans (blk_set _ (blk_set _ hR0))
    have HQ0 : Hid _ := cell_of_row _ _ 0 _ _ _ hR3
    have HQ1 : Hid _ := cell_of_row _ _ 1 _ _ _ hR3
    clear hR3
    go_wp2_with fail
    have q0 := HQ0.out
    have q1 := HQ1.out
    refine bodyPost_ret (v := .tuple #[.agg #[.int .i64 0, .slice none 0 0], .bool false]) (by simp [results, Tryz.results111, go_sem, q0, q1]) rfl ⟨_, rfl, ?_, ?_, rfl⟩
    · exact ((hb1.put (by omega) (Nat.le_refl _)).put (by omega) (Nat.le_refl _)).trans (But.of ((Below.refl _ _).alloc (Nat.le_refl _) _) (by rw [hs3]; omega))
    · exact ((hrd.put (by omega)).put (by omega)).old ((Below.refl _ _).alloc (Nat.le_refl _) _)
  rw [hok] at HC HX
  clear hok
  cases hst : stand PA PB m
  · rw [hst] at HX
    have HX2 : Hid (X = (none, RF, 1)) := HX.out.symm
    rw [HX2.out]
    have HM : Hid _ := fun w => pMayStand nf PA PB m w
    rw [hst] at HM
    clear HX hst
    go_enter Tryz.func111, Tryz.ntmps111
    go_wp2_with fail
    refine (show Calls _ _ _ _ _ from HC.out).mono ?_
    rintro e w1 ⟨rfl, hbut, hrd⟩
    clear HC
    have hb1 := hbA.trans hbut
    have hR0 := hbut.keep (heap_alloc_new w _) (by omega)
    have hs1 := hb1.size
    have hRlt : w.heap.size < w1.heap.size := (Array.getElem?_eq_some_iff.1 hR0).1
    go_wp2_with fail
    refine (show Calls _ _ _ _ _ from HM.out _).mono ?_
    rintro e w2 ⟨rfl, hbm⟩
    have hb2 : Below w1.heap.size w1 w2 := ((Below.refl _ _).alloc (Nat.le_refl _) _).trans (hbm.mono (by simp))
    clear HM hbm
    have hR2 := (hb2.block _ hRlt).trans hR0
    obtain ⟨x0, x1, f0, f1⟩ := two_cells hR2
    obtain ⟨q0, q1⟩ := read2 (a := .int .i64 0) (c := .slice none 0 0) hR2
    go_wp2_with fail
    refine bodyPost_ret (v := .tuple #[.agg #[.int .i64 0, .slice none 0 0], .bool false]) (by simp [results, Tryz.results111, go_sem, q0, q1]) rfl ⟨_, rfl, ?_, ?_, rfl⟩
    · exact ((hb1.trans (But.of hb2 (by omega))).put (by omega) (Nat.le_refl _)).put (by omega) (Nat.le_refl _)
    · exact ((hrd.old hb2).put (by omega)).put (by omega)
  rw [hst] at HX
  have HM : Hid _ := fun w => pMayStand nf PA PB m w
  rw [hst] at HM
  simp only [stand, Bool.and_eq_true, decide_eq_true_eq] at hst
  obtain ⟨p1, p2, _, p3, p4⟩ := hst
  obtain ⟨n, rfl⟩ := Int.eq_ofNat_of_zero_le p3
  have hn12 : n ≤ 12 := by omega
  rw [Int.toNat_natCast] at HX
  have HX1 : Hid (((linesR nf PA (n + 1) (n + 1) 0 RF).1.map (fun L => (⟨PA, L⟩ : Tp)), (linesR nf PA (n + 1) (n + 1) 0 RF).2.1, (linesR nf PA (n + 1) (n + 1) 0 RF).2.2 + 1) = X) := by show _ = _; have := HX.out; simpa using this
  clear HX p3 p4
  have hRF : RF.size ≤ 30000 := by omega
  generalize hY : linesR nf PA (n + 1) (n + 1) 0 RF = Y at *
  have HY : Hid (linesR nf PA (n + 1) (n + 1 - 0) 0 RF = Y) := hY
  clear hY hrf
  have HN1 : Hid (((n + 1 : Nat) : Int) - 1 = (n : Int)) := by show _ = _; omega
  go_enter Tryz.func111, Tryz.ntmps111
  go_wp2_with fail
  refine (show Calls _ _ _ _ _ from HC.out).mono ?_
  rintro e w1 ⟨rfl, hbut, hrd⟩
  clear HC
  have hb1 := hbA.trans hbut
  have hR0 := hbut.keep (heap_alloc_new w _) (by omega)
  have hs1 := hb1.size
  have hRlt : w.heap.size < w1.heap.size := (Array.getElem?_eq_some_iff.1 hR0).1
  go_wp2_with fail
  refine (show Calls _ _ _ _ _ from HM.out _).mono ?_
  rintro e w2 ⟨rfl, hbm⟩
  have hS2 := box_later' hbm
  have hb2 : Below w1.heap.size w1 w2 := ((Below.refl _ _).alloc (Nat.le_refl _) _).trans (hbm.mono (by simp))
  clear HM hbm
  have hR2 := (hb2.block _ hRlt).trans hR0
  have hSlt : w1.heap.size < w2.heap.size := (Array.getElem?_eq_some_iff.1 hS2).1
  have hbw2 := hb1.trans (But.of hb2 (by omega))
  have hrd2 := hrd.old hb2
  clear hR0 hrd hbut
  obtain ⟨SB, hSB⟩ : ∃ SB, SB = w1.heap.size := ⟨_, rfl⟩
  obtain ⟨TB, hTB⟩ : ∃ TB, TB = w2.heap.size := ⟨_, rfl⟩
  have hSBl : w.heap.size < SB := by omega
  have hTBl : SB < TB := by omega
  rw [← hSB] at hS2
  have HT0 : Hid ((w2.alloc (Obj.cells #[.int .i64 PA, .slice none 0 0] 78)).heap[TB]? = some (.cells #[.int .i64 PA, .slice none 0 0] 78 (0, 0))) := by rw [hTB]; exact heap_alloc_new w2 _
  have hSw : SB < w2.heap.size := by omega
  have hTw : TB ≤ w2.heap.size := by omega
  go_wp2_with fail
  rw [← hSB, ← hTB]
  clear hSB hTB
  go_loopw [13] (fun y wr => ∃ (j : Nat) (L : List Ln) (rj : ByteArray) (lv : Value), j ≤ n + 1 ∧ y = .int .i64 j ∧ Hid (Y = ((linesR nf PA (n + 1) (n + 1 - j) j rj).1.map (L ++ ·), (linesR nf PA (n + 1) (n + 1 - j) j rj).2.1, (linesR nf PA (n + 1) (n + 1 - j) j rj).2.2 + j)) ∧ Hid (L.length = j) ∧ rj.size ≤ 30000 ∧ But b w wr ∧ RdBlk wr b rj (ln + 1 + j) ∧ wr.heap[w.heap.size]? = some (.cells #[.int .i64 0, .slice none 0 0] 78 (0, 0)) ∧ wr.heap[SB]? = some (.cells #[.int .i64 nf, .int .i64 PA, .int .i64 n] 177 (0, 0)) ∧ wr.heap[TB]? = some (.cells #[.int .i64 PA, lv] 78 (0, 0)) ∧ ∃ vs, LinesV wr (TB + 1) lv L vs) (fun y _ => n + 2 - (intOf y).toNat)
  case atStart =>
    refine ⟨0, [], RF, .slice none 0 0, Nat.zero_le _, rfl, ?_, rfl, hRF, hbw2.trans (But.of ((Below.refl _ _).alloc (Nat.le_refl _) _) (by omega)), ?_, (Below.heap_alloc w2 _ _ (by omega)).trans hR2, (Below.heap_alloc w2 _ _ (by omega)).trans hS2, HT0.out, [], World.ownsRow_nil _ _ _ _, fun j hj => by simp at hj, IncV.nil⟩
    · rw [HY.out]; simp [Hid]
    · have := hrd2.old ((Below.refl w2.heap.size w2).alloc (Nat.le_refl _) (Obj.cells #[.int .i64 PA, .slice none 0 0] 78))
      simpa using this
  case round =>
    clear hbw2 hrd2 hR2 hS2 HT0 HY hb2 hb1
    obtain ⟨j, L, rj, lv, hj, rfl, HLR, HLL, hrj, hbw, hrd, hR, hS, hTT, vs, hLB⟩ := hrel
    have hbsz := hbw.size
    have hRl : w.heap.size < wr.heap.size := (Array.getElem?_eq_some_iff.1 hR).1
    have hSl : SB < wr.heap.size := (Array.getElem?_eq_some_iff.1 hS).1
    have hTl : TB < wr.heap.size := (Array.getElem?_eq_some_iff.1 hTT).1
    by_cases hlt : j < n + 1
    · have hle : (j : Int) ≤ (n : Int) := by omega
      have HC : Hid _ := pReadAtoms b rj (ln + 1 + j) wr hrd hrj (by omega) (by omega)
      have HLR2 : Hid (Y = ((if atomsOk rj && goodL nf PA (n + 1) j (atomsL rj) then ((linesR nf PA (n + 1) (n - j) (j + 1) (restF rj)).1.map (atomsL rj :: ·), (linesR nf PA (n + 1) (n - j) (j + 1) (restF rj)).2.1, (linesR nf PA (n + 1) (n - j) (j + 1) (restF rj)).2.2 + 1) else (none, restF rj, 1)).1.map (L ++ ·), (if atomsOk rj && goodL nf PA (n + 1) j (atomsL rj) then ((linesR nf PA (n + 1) (n - j) (j + 1) (restF rj)).1.map (atomsL rj :: ·), (linesR nf PA (n + 1) (n - j) (j + 1) (restF rj)).2.1, (linesR nf PA (n + 1) (n - j) (j + 1) (restF rj)).2.2 + 1) else (none, restF rj, 1)).2.1, (if atomsOk rj && goodL nf PA (n + 1) j (atomsL rj) then ((linesR nf PA (n + 1) (n - j) (j + 1) (restF rj)).1.map (atomsL rj :: ·), (linesR nf PA (n + 1) (n - j) (j + 1) (restF rj)).2.1, (linesR nf PA (n + 1) (n - j) (j + 1) (restF rj)).2.2 + 1) else (none, restF rj, 1)).2.2 + j)) := by
        have h := HLR.out
        rw [show n + 1 - j = (n - j) + 1 by omega] at h
        exact h
      have HRS : Hid _ := restF_size rj
      have HHL : Hid _ := fun v T w (h1 : T ≤ w.heap.size) (h2 : AtomsRd w T v (atomsL rj)) => pHoldsLine nf PA (n + 1) j (atomsL rj) v T w h1 h2
      rw [HN1.out] at HHL
      clear HLR
      generalize restF rj = RJ at *
      generalize atomsL rj = l at *
      have bad : (atomsOk rj && goodL nf PA (n + 1) j l) = false → Hid (X = (none, RJ, j + 1 + 1)) := fun hf => by
        show _ = _
        have h := HLR2.out
        rw [hf] at h
        simp only [Bool.false_eq_true, if_false, Option.map_none] at h
        rw [← HX1.out, h]
        simp only [Option.map_none]
        rw [Nat.add_comm 1 j]
      have BAD : Hid _ := bad
      clear bad
      cases hok : atomsOk rj
      · have HX2 := BAD.out (by rw [hok]; rfl)
        rw [hok] at HC
        have hok2 : atomsOk rj = false := hok
        clear hok HLR2 HHL BAD
        go_wp2_with fail
        refine (show Calls _ _ _ _ _ from HC.out).mono ?_
        rintro e w3 ⟨v, rfl, hbut, hrd3, hvr⟩
        clear HC
        obtain ⟨vo, vcap, rfl⟩ := own_form hvr
        have hR3 := hbut.keep hR (by omega)
        obtain ⟨x0, x1, f0, f1⟩ := two_cells hR3
        obtain ⟨q0, q1⟩ := read2 (a := .int .i64 0) (c := .slice none 0 0) hR3
        go_wp2_with fail
        refine bodyPost_ret (v := .tuple #[.agg #[.int .i64 0, .slice none 0 0], .bool false]) (by simp [results, Tryz.results111, go_sem, q0, q1]) rfl ⟨_, by rw [HX2.out]; rfl, ?_, ?_, ?_⟩
        · exact ((hbw.trans hbut).put (by omega) (Nat.le_refl _)).put (by omega) (Nat.le_refl _)
        · rw [HX2.out]
          have := (hrd3.put (k := w.heap.size) (i := 0) (v := .int .i64 0) (by omega)).put (k := w.heap.size) (i := 1) (v := .slice none 0 0) (by omega)
          rw [show ln + ((j + 1 + 1 : Nat) : Int) = ln + 1 + (j : Int) + 1 by omega]
          exact this
        · rw [HX2.out]; exact rfl
      · rw [hok] at HC HLR2 BAD
        clear hok
        cases hgl : goodL nf PA (n + 1) j l
        · have HX2 := BAD.out (by rw [hgl]; rfl)
          rw [hgl] at HHL
          clear HLR2 BAD hgl
          go_wp2_with fail
          refine (show Calls _ _ _ _ _ from HC.out).mono ?_
          rintro e w3 ⟨v, rfl, hbut, hrd3, hvr⟩
          clear HC
          have HH2 : Hid _ := HHL.out v w3.heap.size w3 (Nat.le_refl _) (atomsRd_of hvr)
          obtain ⟨vo, vcap, rfl⟩ := own_form hvr
          have hR3 := hbut.keep hR (by omega)
          have hS3 := hbut.keep hS (by omega)
          obtain ⟨y0, y1, y2⟩ := three_cells hS3
          have hs3 := hbut.size
          clear HHL
          go_wp2_with fail
          refine (show Calls _ _ _ _ _ from HH2.out).mono ?_
          rintro e w4 ⟨rfl, hb4⟩
          clear HH2 y0 y1 y2
          have hR4 := (hb4.block _ (by omega)).trans hR3
          obtain ⟨x0, x1, f0, f1⟩ := two_cells hR4
          obtain ⟨q0, q1⟩ := read2 (a := .int .i64 0) (c := .slice none 0 0) hR4
          go_wp2_with fail
          refine bodyPost_ret (v := .tuple #[.agg #[.int .i64 0, .slice none 0 0], .bool false]) (by simp [results, Tryz.results111, go_sem, q0, q1]) rfl ⟨_, by rw [HX2.out]; rfl, ?_, ?_, ?_⟩
          · exact (((hbw.trans hbut).trans (But.of hb4 (by omega))).put (by omega) (Nat.le_refl _)).put (by omega) (Nat.le_refl _)
          · rw [HX2.out]
            have := ((hrd3.old hb4).put (k := w.heap.size) (i := 0) (v := .int .i64 0) (by omega)).put (k := w.heap.size) (i := 1) (v := .slice none 0 0) (by omega)
            rw [show ln + ((j + 1 + 1 : Nat) : Int) = ln + 1 + (j : Int) + 1 by omega]
            exact this
          · rw [HX2.out]; exact rfl
        · have HLR3 : Hid (Y = ((linesR nf PA (n + 1) (n + 1 - (j + 1)) (j + 1) RJ).1.map ((L ++ [l]) ++ ·), (linesR nf PA (n + 1) (n + 1 - (j + 1)) (j + 1) RJ).2.1, (linesR nf PA (n + 1) (n + 1 - (j + 1)) (j + 1) RJ).2.2 + (j + 1))) := by
            show _ = _
            have h := HLR2.out
            rw [hgl] at h
            simp only [Bool.and_self, if_true, Option.map_map] at h
            rw [h, show n + 1 - (j + 1) = n - j by omega]
            congr 1
            · congr 1
              funext M
              simp
            · congr 1
              omega
          rw [hgl] at HHL
          clear HLR2 BAD hgl
          go_wp2_with fail
          refine (show Calls _ _ _ _ _ from HC.out).mono ?_
          rintro e w3 ⟨v, rfl, hbut, hrd3, hvr⟩
          clear HC
          have HH2 : Hid _ := HHL.out v w3.heap.size w3 (Nat.le_refl _) (atomsRd_of hvr)
          obtain ⟨vo, vcap, rfl⟩ := own_form hvr
          have hR3 := hbut.keep hR (by omega)
          have hS3 := hbut.keep hS (by omega)
          have hT3 := hbut.keep hTT (by omega)
          have hLB3 := hLB.but hbut hrd
          obtain ⟨y0, y1, y2⟩ := three_cells hS3
          have hs3 := hbut.size
          clear HHL
          go_wp2_with fail
          refine (show Calls _ _ _ _ _ from HH2.out).mono ?_
          rintro e w4 ⟨rfl, hb4⟩
          clear HH2 y0 y1 y2
          have hR4 := (hb4.block _ (by omega)).trans hR3
          have hS4 := (hb4.block _ (by omega)).trans hS3
          have hT4 := (hb4.block _ (by omega)).trans hT3
          have hrd4 := hrd3.old hb4
          have hv4 := ownsRow_old hvr hb4
          have hvlt := hLB.lt
          obtain ⟨hlr4, hrw4, hin4⟩ := hLB3.old hb4
          have hs4 := hb4.size
          obtain ⟨t0, t1, _, ft1⟩ := two_cells hT4
          obtain ⟨lo, lcap, rfl⟩ := own_form hlr4
          have hLl : L.length ≤ 20 := by have := HLL.out; omega
          go_wp2_with (at_builtin; go_must (refine wpList_append_lies _ rfl _ _ _ rfl (TB + 1) 76 i2 _ 1 24 Tryz.underlying50 hi2 hy0 hy1 hy2 rfl (by omega) (.slice lo L.length lcap) L.length vs rfl ?hown _ 1 _ [.slice vo l.length vcap] rfl rfl ?hnews ?h1 (by omega) ?h63 ?hbytes ?hbase _ rfl ?_))
          case hown => exact hlr4.alloc _
          case hnews => exact World.news_of_block (heap_alloc_new w4 _)
          case h1 => simp [Value.oneCell']
          case h63 => unfold maxLen; omega
          case hbytes => omega
          case hbase => simp; omega
          intro g cap2 w5 hown5 hgrow5 hat5 hlt5
          have hA4 : Below w4.heap.size w4 (w4.alloc (Obj.cells #[.slice vo l.length vcap] 76)) := (Below.refl _ _).alloc (Nat.le_refl _) _
          have hR5 := grown_type (hlr4.alloc _) hgrow5 (by decide) ((hA4.block _ (by omega)).trans hR4)
          have hS5 := grown_type (hlr4.alloc _) hgrow5 (by decide) ((hA4.block _ (by omega)).trans hS4)
          have hT5 := grown_type (hlr4.alloc _) hgrow5 (by decide) ((hA4.block _ (by omega)).trans hT4)
          have hrd5 : RdBlk w5 b RJ (ln + 1 + j + 1) := grown_type (hlr4.alloc _) hgrow5 (by decide) ((hA4.block b (by omega)).trans hrd4)
          have hbw5 : But b w w5 := (((hbw.trans hbut).trans (But.of hb4 (by omega))).trans (But.of hA4 (by omega))).grown (hlr4.alloc _) hgrow5 (by omega) (by omega)
          have hLB5 : LinesV w5 (TB + 1) (.slice (some ⟨g, 0, none⟩) (L.length + 1) cap2) (L ++ [l]) (vs ++ [.slice vo l.length vcap]) := by
            refine ⟨by rw [List.length_append]; exact hown5, RowsAt.app (by have := hlr4.1; simpa using this) ((hrw4.old hA4 (fun _ _ h => h)).type (hlr4.alloc _) hgrow5 (fun _ h => h)) ?_, hin4.snoc hvlt (fun b hb => (hvr.lt b hb).1)⟩
            intro q hq
            have hq0 : q = 0 := by simpa using hq
            subst hq0
            exact ⟨_, rfl, own_grown_type (hlr4.alloc _) hgrow5 (by decide) ((ownsRow_base2 hv4 (by omega)).alloc _), fun _ _ => trivial⟩
          obtain ⟨z0, z1, _, fz1⟩ := two_cells hT5
          clear hgrow5 hat5 t0 t1 ft1
          go_wp2_with fail
          go_roundw
          case rel =>
            refine ⟨j + 1, L ++ [l], RJ, _, hlt, by go_num, HLR3, by have := HLL.out; simp [Hid, this], by have := HRS.out; omega, hbw5.put (by omega) (by omega), ?_, (heap_set_ne _ (by omega)).trans hR5, (heap_set_ne _ (by omega)).trans hS5, blk_set _ hT5, _, hLB5.set hT5⟩
            have := hrd5.put (k := TB) (i := 1) (v := .slice (some ⟨g, 0, none⟩) (L.length + 1) cap2) (by omega)
            rw [show ln + 1 + ((j + 1 : Nat) : Int) = ln + 1 + (j : Int) + 1 by omega]
            exact this
          case measure => simp [intOf]; omega
    · have hj2 : j = n + 1 := by omega
      have hle : ¬ (j : Int) ≤ (n : Int) := by omega
      have HX2 : Hid (X = (some ⟨PA, L⟩, rj, n + 1 + 1)) := by
        show _ = _
        have h := HLR.out
        rw [hj2, Nat.sub_self] at h
        simp only [linesR, Option.map_some, List.append_nil, Nat.zero_add] at h
        rw [← HX1.out, h]; rfl
      obtain ⟨x0, x1, f0, f1⟩ := two_cells hR
      obtain ⟨t0, t1, _, _⟩ := two_cells hTT
      obtain ⟨lo, lcap, hlv⟩ : ∃ a c, lv = .slice a L.length c := by obtain ⟨h1, _⟩ := hLB; obtain ⟨a, c, e⟩ := own_form h1; exact ⟨a, c, e⟩
      subst hlv
      obtain ⟨q0, q1⟩ := read2 (a := .int .i64 PA) (c := .slice lo L.length lcap) hR
      have hne : TB ≠ w.heap.size := by omega
      go_wp2_with fail
      refine bodyPost_ret (v := .tuple #[.agg #[.int .i64 PA, .slice lo L.length lcap], .bool true]) (by simp [results, Tryz.results111, go_sem, q0, q1]) rfl ⟨_, by rw [HX2.out]; rfl, ?_, ?_, ?_⟩
      · exact (hbw.put (by omega) (Nat.le_refl _)).put (by omega) (Nat.le_refl _)
      · rw [HX2.out]
        have := (hrd.put (k := w.heap.size) (i := 0) (v := .int .i64 PA) (by omega)).put (k := w.heap.size) (i := 1) (v := .slice lo L.length lcap) (by omega)
        rw [show ln + ((n + 1 + 1 : Nat) : Int) = ln + 1 + (j : Int) by omega]
        exact this
      · rw [HX2.out]
        refine ⟨_, vs, rfl, ?_⟩
        obtain ⟨e1, e2, e3⟩ := (hLB.set hR).set (blk_set _ hR)
        exact ⟨ownsRow_base e1 (by omega), fun q hq => by obtain ⟨v, a1, a2, a3⟩ := e2 q hq; exact ⟨v, a1, ownsRow_base a2 (by omega), a3⟩, e3⟩

end Go.Proofs.YtnndoagpbcacdaaGreatDoor
namespace Go.Proofs.YtnndoagpbcacdaaGreatDoor
open Go.RowKit

/-! Package codetext: read.go: code. -/
def funsR (nf : Nat) (mn : Int) : Nat → Nat → ByteArray → Option (List Tp) × ByteArray × Nat
  | 0, _, r => (some [], r, 0)
  | m + 1, j, r => match (tmplR nf ((j : Int) == mn) r).1 with
    | none => (none, (tmplR nf ((j : Int) == mn) r).2)
    | some t => ((funsR nf mn m (j + 1) (tmplR nf ((j : Int) == mn) r).2.1).1.map (t :: ·), (funsR nf mn m (j + 1) (tmplR nf ((j : Int) == mn) r).2.1).2.1, (funsR nf mn m (j + 1) (tmplR nf ((j : Int) == mn) r).2.1).2.2 + (tmplR nf ((j : Int) == mn) r).2.2)
/-- The code of a text, if it is one; the line that was asked for last. -/
def codeR (r : ByteArray) : Option Cd × Nat :=
  if pairOk 77 r && begins (pairA 77 r) (pairB 77 r) then
    match (funsR (pairB 77 r).toNat (pairA 77 r) (pairB 77 r).toNat 0 (restF r)).1 with
    | none => (none, (funsR (pairB 77 r).toNat (pairA 77 r) (pairB 77 r).toNat 0 (restF r)).2.2 + 1)
    | some F => (if (funsR (pairB 77 r).toNat (pairA 77 r) (pairB 77 r).toNat 0 (restF r)).2.1.size = 0 then some ⟨pairA 77 r, F⟩ else none, (funsR (pairB 77 r).toNat (pairA 77 r) (pairB 77 r).toNat 0 (restF r)).2.2 + 2)
  else (none, 1)
theorem LinesOw.but {b T : Nat} {w w' : World} {lv : Value} {L : List Ln} {r : ByteArray} {ln : Int} (h : LinesOw w T lv L) (hb : But b w w') (hr : RdBlk w b r ln) : LinesOw w' T lv L := by
  obtain ⟨vs, h1, h2, h3⟩ := h
  refine ⟨vs, ownsRow_but h1 hb hr (by decide), h2, fun j hj => ?_⟩
  obtain ⟨v, e1, e2, e3⟩ := h3 j hj
  exact ⟨v, e1, ownsRow_but e2 hb hr (by decide), e3⟩
theorem FuOw.but {b T : Nat} {w w' : World} {r : ByteArray} {ln : Int} (hb : But b w w') (hr : RdBlk w b r ln) : ∀ {F : List Tp} {xs : List Value}, FuOw w T F xs → FuOw w' T F xs
  | [], _, h => h
  | _ :: _, _, ⟨lv, ys, h1, h2, h3⟩ => ⟨lv, ys, h1, h2.but hb hr, FuOw.but hb hr h3⟩
/-- Templates in rows of their own. -/
def FunsOw (w : World) (fv : Value) (F : List Tp) : Prop := ∃ ys, w.ownsRow 0 78 2 fv F.length ys ∧ FuOw w w.heap.size F ys
theorem FunsOw.rd {w : World} {fv : Value} {F : List Tp} (h : FunsOw w fv F) : FunsRd w w.heap.size fv F := by
  obtain ⟨ys, h1, h2⟩ := h
  exact FuOw.rd h1 (fun k hk => (h1.lt k hk).2) h2
theorem FunsOw.set {w : World} {fv u : Value} {F : List Tp} {b i : Nat} {cs : Array Value} (h : FunsOw w fv F) (hb : w.heap[b]? = some (.cells cs 57 (0, 0))) : FunsOw (w.setCell ⟨b, i, none⟩ u) fv F := by
  obtain ⟨ys, h1, h2⟩ := h
  refine ⟨ys, ownsRow_set h1 hb (by decide), ?_⟩
  have e : (w.setCell ⟨b, i, none⟩ u).heap.size = w.heap.size := by simp [World.setCell]
  rw [e]
  exact FuOw.set hb h2
theorem FunsOw.old {w w' : World} {fv : Value} {F : List Tp} (h : FunsOw w fv F) (hb : Below w.heap.size w w') : FunsOw w' fv F := by
  obtain ⟨ys, h1, h2⟩ := h
  exact ⟨ys, ownsRow_old h1 hb, (h2.keep hb).up hb.size⟩
/-- Templates in rising spans of blocks, from lo on, up to hi. -/
def FuI (w : World) : Nat → List Tp → List Value → Nat → Prop
  | lo, [], xs, hi => xs = [] ∧ lo ≤ hi
  | lo, t :: r, xs, hi => ∃ lv ys vs mid, xs = .int .i64 t.ar :: lv :: ys ∧ LinesV w lo lv t.ls vs ∧ (∀ k, lv.ownBlock = some k → k < mid) ∧ (∀ u ∈ vs, ∀ k, u.ownBlock = some k → k < mid) ∧ lo ≤ mid ∧ FuI w mid r ys hi
theorem LinesV.base {w : World} {B B' : Nat} {lv : Value} {L : List Ln} {vs : List Value} (h : LinesV w B lv L vs) (hB : B' ≤ B) : LinesV w B' lv L vs :=
  ⟨ownsRow_base h.1 hB, fun j hj => by obtain ⟨v, e1, e2, e3⟩ := h.2.1 j hj; exact ⟨v, e1, ownsRow_base e2 hB, e3⟩, h.2.2⟩
theorem LinesV.type {w w' : World} {B base size n : Nat} {lv v0 : Value} {L : List Ln} {vs xs0 : List Value} (hr : w.ownsRow base 78 size v0 n xs0) (hg : w.grownBy w' v0.ownBlock) (h : LinesV w B lv L vs) : LinesV w' B lv L vs :=
  ⟨own_grown_type hr hg (by decide) h.1, fun j hj => by obtain ⟨v, e1, e2, e3⟩ := h.2.1 j hj; exact ⟨v, e1, own_grown_type hr hg (by decide) e2, e3⟩, h.2.2⟩
theorem LinesV.setC {w : World} {B k i : Nat} {lv u : Value} {L : List Ln} {vs : List Value} {cs : Array Value} (h : LinesV w B lv L vs) (hb : w.heap[k]? = some (.cells cs 57 (0, 0))) : LinesV (w.setCell ⟨k, i, none⟩ u) B lv L vs :=
  ⟨ownsRow_set h.1 hb (by decide), fun j hj => by obtain ⟨v, e1, e2, e3⟩ := h.2.1 j hj; exact ⟨v, e1, ownsRow_set e2 hb (by decide), e3⟩, h.2.2⟩
theorem FuI.map {w w' : World} (f : ∀ {B lv L vs}, LinesV w B lv L vs → LinesV w' B lv L vs) : ∀ {F : List Tp} {lo hi : Nat} {xs : List Value}, FuI w lo F xs hi → FuI w' lo F xs hi
  | [], _, _, _, h => h
  | _ :: _, _, _, _, ⟨lv, ys, vs, mid, h1, h2, h3, h4, h5, h6⟩ => ⟨lv, ys, vs, mid, h1, f h2, h3, h4, h5, FuI.map f h6⟩
theorem FuI.up {w : World} : ∀ {F : List Tp} {lo hi hi' : Nat} {xs : List Value}, FuI w lo F xs hi → hi ≤ hi' → FuI w lo F xs hi'
  | [], _, _, _, _, h, hh => ⟨h.1, Nat.le_trans h.2 hh⟩
  | _ :: _, _, _, _, _, ⟨lv, ys, vs, mid, h1, h2, h3, h4, h5, h6⟩, hh => ⟨lv, ys, vs, mid, h1, h2, h3, h4, h5, FuI.up h6 hh⟩
theorem FuI.snoc {w : World} {t : Tp} {lv : Value} {vs : List Value} {hi hi' : Nat} (ht : LinesV w hi lv t.ls vs) (h1 : ∀ k, lv.ownBlock = some k → k < hi') (h2 : ∀ u ∈ vs, ∀ k, u.ownBlock = some k → k < hi') (hh : hi ≤ hi') : ∀ {F : List Tp} {lo : Nat} {xs : List Value}, FuI w lo F xs hi → FuI w lo (F ++ [t]) (xs ++ [.int .i64 t.ar, lv]) hi'
  | [], lo, xs, h => by rw [h.1]; exact ⟨lv, [], vs, hi', rfl, ht.base h.2, h1, h2, Nat.le_trans h.2 hh, rfl, Nat.le_refl _⟩
  | _ :: _, _, _, ⟨l, ys, us, mid, g1, g2, g3, g4, g5, g6⟩ => ⟨l, ys ++ [.int .i64 t.ar, lv], us, mid, by rw [g1]; simp, g2, g3, g4, g5, FuI.snoc ht h1 h2 hh g6⟩
/-- Templates in rows of their own, all in blocks from B on that differ. -/
def FunsN (w : World) (B : Nat) (fv : Value) (F : List Tp) : Prop := ∃ ys, w.ownsRow B 78 2 fv F.length ys ∧ FuI w B F ys w.heap.size
theorem FunsN.set {w : World} {B : Nat} {fv u : Value} {F : List Tp} {b i : Nat} {cs : Array Value} (h : FunsN w B fv F) (hb : w.heap[b]? = some (.cells cs 57 (0, 0))) : FunsN (w.setCell ⟨b, i, none⟩ u) B fv F := by
  obtain ⟨ys, h1, h2⟩ := h
  have e : (w.setCell ⟨b, i, none⟩ u).heap.size = w.heap.size := by simp [World.setCell]
  refine ⟨ys, ownsRow_set h1 hb (by decide), ?_⟩
  rw [e]
  exact h2.map (fun h => h.setC hb)
theorem FunsN.old {w w' : World} {B : Nat} {fv : Value} {F : List Tp} (h : FunsN w B fv F) (hb : Below w.heap.size w w') : FunsN w' B fv F := by
  obtain ⟨ys, h1, h2⟩ := h
  exact ⟨ys, ownsRow_old h1 hb, (h2.map (fun h => h.old hb)).up hb.size⟩
theorem FuI.base {w : World} : ∀ {F : List Tp} {lo lo' hi : Nat} {xs : List Value}, FuI w lo F xs hi → lo' ≤ lo → FuI w lo' F xs hi
  | [], _, _, _, _, h, hh => ⟨h.1, Nat.le_trans hh h.2⟩
  | _ :: _, _, _, _, _, ⟨lv, ys, vs, mid, h1, h2, h3, h4, h5, h6⟩, hh => ⟨lv, ys, vs, mid, h1, h2.base hh, h3, h4, Nat.le_trans hh h5, h6⟩
theorem FunsN.base {w : World} {B B' : Nat} {fv : Value} {F : List Tp} (h : FunsN w B fv F) (hB : B' ≤ B) : FunsN w B' fv F := by
  obtain ⟨ys, h1, h2⟩ := h
  exact ⟨ys, ownsRow_base h1 hB, h2.base hB⟩
theorem tmplR_size (nf : Nat) (m : Bool) (r : ByteArray) : (tmplR nf m r).2.1.size ≤ r.size ∧ (tmplR nf m r).2.2 ≤ 20 := by
  have hl : ∀ (ar : Int) (nl k j : Nat) (r : ByteArray), (linesR nf ar nl k j r).2.1.size ≤ r.size ∧ (linesR nf ar nl k j r).2.2 ≤ k := by
    intro ar nl k
    induction k with
    | zero => intro j r; exact ⟨Nat.le_refl _, Nat.le_refl _⟩
    | succ k ih =>
      intro j r
      have h1 := restF_size r
      have h2 := ih (j + 1) (restF r)
      unfold linesR
      split
      · exact ⟨Nat.le_trans h2.1 h1, Nat.succ_le_succ h2.2⟩
      · exact ⟨h1, by simp⟩
  have h1 := restF_size r
  unfold tmplR
  split
  · rename_i hc
    have h2 := hl (pairA 70 r) ((pairB 70 r).toNat + 1) ((pairB 70 r).toNat + 1) 0 (restF r)
    simp only [Bool.and_eq_true, stand, decide_eq_true_eq] at hc
    exact ⟨Nat.le_trans h2.1 h1, by have := h2.2; simp only; omega⟩
  · exact ⟨h1, by simp⟩

set_option maxRecDepth 100000 in
set_option maxHeartbeats 8000000 in
theorem pReadCode (b : Nat) (r : ByteArray) (w : World) (h : RdBlk w b r 0) (hr : r.size ≤ 30000) :
    Calls Tryz.prog 73 #[.pointer (some ⟨b, 0, none⟩)] w fun e w' => ∃ mn fv, e = .returned (.tuple #[.agg #[.int .i64 mn, fv], .bool (codeR r).1.isSome]) ∧ But b w w' ∧ (∃ r2, RdBlk w' b r2 (codeR r).2) ∧ (∃ fo fl fc, fv = .slice fo fl fc) ∧ ∀ c, (codeR r).1 = some c → mn = c.mn ∧ FunsOw w' fv c.fs ∧ FunsN w' w.heap.size fv c.fs := by
  have hblt : b < w.heap.size := (Array.getElem?_eq_some_iff.1 h).1
  have hbA : But b w (w.alloc (Obj.cells #[.int .i64 0, .slice none 0 0] 57)) := But.of ((Below.refl _ _).alloc (Nat.le_refl _) _) (by omega)
  have HC : Hid _ := pReadPair 77 b r 0 (w.alloc (Obj.cells #[.int .i64 0, .slice none 0 0] 57)) (h.old ((Below.refl _ _).alloc (Nat.le_refl _) _)) hr (by omega) (by omega)
  generalize hX : codeR r = X
  have HX : Hid (codeR r = X) := hX
  clear hX
  unfold codeR at HX
  have hrf := restF_size r
  obtain ⟨i, hi, hz0, hz1, hz2⟩ := info_parts Tryz.infoTemplate
  generalize pairA 77 r = PA at *
  generalize pairB 77 r = PB at *
  generalize restF r = RF at *
  cases hok : pairOk 77 r
  · rw [hok] at HC HX
    have HX2 : Hid (X = (none, 1)) := HX.out.symm
    rw [HX2.out]
    clear HX hok
    go_enter Tryz.func73, Tryz.ntmps73
    go_wp2_with fail
    refine (show Calls _ _ _ _ _ from HC.out).mono ?_
    rintro e w1 ⟨rfl, hbut, hrd⟩
    clear HC
    have hb1 := hbA.trans hbut
    have hR0 := hbut.keep (heap_alloc_new w _) (by omega)
    have hRlt : w.heap.size < w1.heap.size := (Array.getElem?_eq_some_iff.1 hR0).1
    obtain ⟨x0, x1, f0, f1⟩ := two_cells hR0
    obtain ⟨q0, q1⟩ := read2 (a := .int .i64 0) (c := .slice none 0 0) hR0
    go_wp2_with fail
    refine bodyPost_ret (v := .tuple #[.agg #[.int .i64 0, .slice none 0 0], .bool false]) (by simp [results, Tryz.results73, go_sem, q0, q1]) rfl ⟨0, _, rfl, ?_, ⟨RF, ?_⟩, ⟨_, _, _, rfl⟩, fun c hc => by simp at hc⟩
    · exact (hb1.put (by omega) (Nat.le_refl _)).put (by omega) (Nat.le_refl _)
    · exact (hrd.put (by omega)).put (by omega)
  rw [hok] at HC HX
  clear hok
  have HM : Hid _ := fun w => pMayBegin PA PB w
  cases hst : begins PA PB
  · rw [hst] at HX HM
    have HX2 : Hid (X = (none, 1)) := HX.out.symm
    rw [HX2.out]
    clear HX hst
    go_enter Tryz.func73, Tryz.ntmps73
    go_wp2_with fail
    refine (show Calls _ _ _ _ _ from HC.out).mono ?_
    rintro e w1 ⟨rfl, hbut, hrd⟩
    clear HC
    have hb1 := hbA.trans hbut
    have hR0 := hbut.keep (heap_alloc_new w _) (by omega)
    have hRlt : w.heap.size < w1.heap.size := (Array.getElem?_eq_some_iff.1 hR0).1
    obtain ⟨x0, x1, f0, f1⟩ := two_cells hR0
    obtain ⟨q0, q1⟩ := read2 (a := .int .i64 0) (c := .slice none 0 0) hR0
    go_wp2_with fail
    refine (show Calls _ _ _ _ _ from HM.out _).mono ?_
    rintro e w2 ⟨rfl, rfl⟩
    go_wp2_with fail
    refine bodyPost_ret (v := .tuple #[.agg #[.int .i64 0, .slice none 0 0], .bool false]) (by simp [results, Tryz.results73, go_sem, q0, q1]) rfl ⟨0, _, rfl, ?_, ⟨RF, ?_⟩, ⟨_, _, _, rfl⟩, fun c hc => by simp at hc⟩
    · exact (hb1.put (by omega) (Nat.le_refl _)).put (by omega) (Nat.le_refl _)
    · exact (hrd.put (by omega)).put (by omega)
  rw [hst] at HX HM
  simp only [begins, Bool.and_eq_true, decide_eq_true_eq] at hst
  obtain ⟨p1, p2, p3, p4⟩ := hst
  obtain ⟨n, rfl⟩ := Int.eq_ofNat_of_zero_le (show 0 ≤ PB by omega)
  have hn16 : n ≤ 16 := by omega
  rw [Int.toNat_natCast] at HX
  have hRF : RF.size ≤ 30000 := by omega
  have HX1 : Hid ((match (funsR n PA n 0 RF).1 with
    | none => (none, (funsR n PA n 0 RF).2.2 + 1)
    | some F => (if (funsR n PA n 0 RF).2.1.size = 0 then some (⟨PA, F⟩ : Cd) else none, (funsR n PA n 0 RF).2.2 + 2)) = X) := by show _ = _; have := HX.out; simpa using this
  clear HX
  generalize hY : funsR n PA n 0 RF = Y at *
  have HY : Hid (funsR n PA (n - 0) 0 RF = Y) := hY
  clear hY hrf p1 p2
  go_enter Tryz.func73, Tryz.ntmps73
  go_wp2_with fail
  refine (show Calls _ _ _ _ _ from HC.out).mono ?_
  rintro e w1 ⟨rfl, hbut, hrd⟩
  clear HC
  have hb1 := hbA.trans hbut
  have hR0 := hbut.keep (heap_alloc_new w _) (by omega)
  have hRlt : w.heap.size < w1.heap.size := (Array.getElem?_eq_some_iff.1 hR0).1
  go_wp2_with fail
  refine (show Calls _ _ _ _ _ from HM.out _).mono ?_
  rintro e w2 ⟨rfl, rfl⟩
  clear HM hbut
  obtain ⟨CB, hCB⟩ : ∃ CB, CB = w2.heap.size := ⟨_, rfl⟩
  have hCl : w.heap.size < CB := by omega
  have hCw : CB ≤ w2.heap.size := by omega
  have HT0 : Hid ((w2.alloc (Obj.cells #[.int .i64 PA, .slice none 0 0] 57)).heap[CB]? = some (.cells #[.int .i64 PA, .slice none 0 0] 57 (0, 0))) := by rw [hCB]; exact heap_alloc_new w2 _
  have HCS : Hid (CB < (w2.alloc (Obj.cells #[.int .i64 PA, .slice none 0 0] 57)).heap.size) := by simp [Hid]; omega
  go_wp2_with fail
  rw [← hCB]
  clear hCB
  go_loopw [8] (fun y wr => ∃ (j : Nat) (F : List Tp) (rj : ByteArray) (c : Nat) (fv : Value) (ys : List Value) (T : Nat), j ≤ n ∧ y = .int .i64 j ∧ Hid (Y = ((funsR n PA (n - j) j rj).1.map (F ++ ·), (funsR n PA (n - j) j rj).2.1, (funsR n PA (n - j) j rj).2.2 + c)) ∧ Hid (F.length = j) ∧ rj.size ≤ 30000 ∧ c ≤ 20 * j ∧ But b w wr ∧ RdBlk wr b rj (1 + c) ∧ wr.heap[w.heap.size]? = some (.cells #[.int .i64 0, .slice none 0 0] 57 (0, 0)) ∧ wr.heap[CB]? = some (.cells #[.int .i64 PA, fv] 57 (0, 0)) ∧ wr.ownsRow (CB + 1) 78 2 fv F.length ys ∧ CB < T ∧ T ≤ wr.heap.size ∧ FuOw wr T F ys ∧ FuI wr (CB + 1) F ys T) (fun y _ => n - (intOf y).toNat)
  case atStart =>
    refine ⟨0, [], RF, 0, .slice none 0 0, [], CB + 1, Nat.zero_le _, rfl, ?_, rfl, hRF, by omega, hb1.trans (But.of ((Below.refl _ _).alloc (Nat.le_refl _) _) (by omega)), ?_, (Below.heap_alloc w2 _ _ (by omega)).trans hR0, HT0.out, World.ownsRow_nil _ _ _ _, by omega, HCS.out, rfl, rfl, Nat.le_refl _⟩
    · rw [HY.out]; simp [Hid]
    · have := hrd.old ((Below.refl w2.heap.size w2).alloc (Nat.le_refl _) (Obj.cells #[.int .i64 PA, .slice none 0 0] 57))
      simpa using this
  case round =>
    clear hrd hR0 HT0 HCS HY hb1
    obtain ⟨j, F, rj, cn, fv, ys, T, hj, rfl, HFR, HFL, hrj, hcn, hbw, hrd, hR, hCC, hrow, hTlo, hThi, hfu, hfi⟩ := hrel
    have hbsz := hbw.size
    have hRl : w.heap.size < wr.heap.size := (Array.getElem?_eq_some_iff.1 hR).1
    have hCl2 : CB < wr.heap.size := (Array.getElem?_eq_some_iff.1 hCC).1
    by_cases hlt : j < n
    · have HC : Hid _ := pReadTemplate n ((j : Int) == PA) b rj (1 + cn) wr hrd hrj (by omega) (by omega)
      have HFR2 : Hid (Y = ((match (tmplR n ((j : Int) == PA) rj).1 with
          | none => (none, (tmplR n ((j : Int) == PA) rj).2)
          | some t => ((funsR n PA (n - (j + 1)) (j + 1) (tmplR n ((j : Int) == PA) rj).2.1).1.map (t :: ·), (funsR n PA (n - (j + 1)) (j + 1) (tmplR n ((j : Int) == PA) rj).2.1).2.1, (funsR n PA (n - (j + 1)) (j + 1) (tmplR n ((j : Int) == PA) rj).2.1).2.2 + (tmplR n ((j : Int) == PA) rj).2.2) : Option (List Tp) × ByteArray × Nat).1.map (F ++ ·), (match (tmplR n ((j : Int) == PA) rj).1 with
          | none => (none, (tmplR n ((j : Int) == PA) rj).2)
          | some t => ((funsR n PA (n - (j + 1)) (j + 1) (tmplR n ((j : Int) == PA) rj).2.1).1.map (t :: ·), (funsR n PA (n - (j + 1)) (j + 1) (tmplR n ((j : Int) == PA) rj).2.1).2.1, (funsR n PA (n - (j + 1)) (j + 1) (tmplR n ((j : Int) == PA) rj).2.1).2.2 + (tmplR n ((j : Int) == PA) rj).2.2) : Option (List Tp) × ByteArray × Nat).2.1, (match (tmplR n ((j : Int) == PA) rj).1 with
          | none => (none, (tmplR n ((j : Int) == PA) rj).2)
          | some t => ((funsR n PA (n - (j + 1)) (j + 1) (tmplR n ((j : Int) == PA) rj).2.1).1.map (t :: ·), (funsR n PA (n - (j + 1)) (j + 1) (tmplR n ((j : Int) == PA) rj).2.1).2.1, (funsR n PA (n - (j + 1)) (j + 1) (tmplR n ((j : Int) == PA) rj).2.1).2.2 + (tmplR n ((j : Int) == PA) rj).2.2) : Option (List Tp) × ByteArray × Nat).2.2 + cn)) := by
        have h := HFR.out
        rw [show n - j = (n - (j + 1)) + 1 by omega] at h
        exact h
      clear HFR
      cases hT : (tmplR n ((j : Int) == PA) rj).1 with
      | none =>
        have HX2 : Hid (X = (none, (tmplR n ((j : Int) == PA) rj).2.2 + cn + 1)) := by
          show _ = _
          have h := HFR2.out
          rw [hT] at h
          simp only [Option.map_none] at h
          rw [← HX1.out, h]
        rw [hT] at HC
        clear HFR2
        generalize (tmplR n ((j : Int) == PA) rj).2.2 = tc at *
        generalize (tmplR n ((j : Int) == PA) rj).2.1 = tr at *
        go_wp2_with fail
        refine (show Calls _ _ _ _ _ from HC.out).mono ?_
        rintro e w3 ⟨v, rfl, hbut, hrd3, hv⟩
        clear HC
        have hv2 : v = .agg #[.int .i64 0, .slice none 0 0] := hv
        subst hv2
        clear hv
        have hR3 := hbut.keep hR (by omega)
        have hs3 := hbut.size
        have hRl3 : w.heap.size < w3.heap.size := by omega
        have hs4 : ((w3.setCell ⟨w.heap.size, 0, none⟩ (.int .i64 0)).setCell ⟨w.heap.size, 1, none⟩ (.slice none 0 0)).heap.size = w3.heap.size := by simp [World.setCell]
        have hR4 := (Below.heap_alloc ((w3.setCell ⟨w.heap.size, 0, none⟩ (.int .i64 0)).setCell ⟨w.heap.size, 1, none⟩ (.slice none 0 0)) (Obj.cells #[.int .i64 0, .slice none 0 0] 78) w.heap.size (by rw [hs4]; omega)).trans (blk_set _ (blk_set _ hR3))
        have HQ0 : Hid _ := cell_of_row _ _ 0 _ _ _ hR4
        have HQ1 : Hid _ := cell_of_row _ _ 1 _ _ _ hR4
        obtain ⟨x0, x1, f0, f1⟩ := two_cells hR3
        clear hR4
        go_wp2_with fail
        have q0 := HQ0.out
        have q1 := HQ1.out
        refine bodyPost_ret (v := .tuple #[.agg #[.int .i64 0, .slice none 0 0], .bool false]) (by simp [results, Tryz.results73, go_sem, q0, q1]) rfl ⟨0, _, by rw [HX2.out]; rfl, ?_, ⟨tr, ?_⟩, ⟨_, _, _, rfl⟩, fun c hc => by rw [HX2.out] at hc; simp at hc⟩
        · exact (((hbw.trans hbut).put (by omega) (Nat.le_refl _)).put (by omega) (Nat.le_refl _)).trans (But.of ((Below.refl _ _).alloc (Nat.le_refl _) _) (by rw [hs4]; omega))
        · rw [HX2.out]
          have := ((hrd3.put (k := w.heap.size) (i := 0) (v := .int .i64 0) (by omega)).put (k := w.heap.size) (i := 1) (v := .slice none 0 0) (by omega)).old ((Below.refl _ _).alloc (Nat.le_refl _) (Obj.cells #[.int .i64 0, .slice none 0 0] 78))
          rw [show ((tc + cn + 1 : Nat) : Int) = 1 + (cn : Int) + (tc : Int) by omega]
          exact this
      | some t =>
        have HFR3 : Hid (Y = ((funsR n PA (n - (j + 1)) (j + 1) (tmplR n ((j : Int) == PA) rj).2.1).1.map ((F ++ [t]) ++ ·), (funsR n PA (n - (j + 1)) (j + 1) (tmplR n ((j : Int) == PA) rj).2.1).2.1, (funsR n PA (n - (j + 1)) (j + 1) (tmplR n ((j : Int) == PA) rj).2.1).2.2 + (cn + (tmplR n ((j : Int) == PA) rj).2.2))) := by
          show _ = _
          have h := HFR2.out
          rw [hT] at h
          simp only [Option.map_map] at h
          rw [h]
          congr 1
          · congr 1
            funext M
            simp
          · congr 1
            omega
        rw [hT] at HC
        have hts := tmplR_size n ((j : Int) == PA) rj
        clear HFR2
        generalize (tmplR n ((j : Int) == PA) rj).2.2 = tc at *
        generalize (tmplR n ((j : Int) == PA) rj).2.1 = tr at *
        go_wp2_with fail
        refine (show Calls _ _ _ _ _ from HC.out).mono ?_
        rintro e w3 ⟨v, rfl, hbut, hrd3, hv⟩
        clear HC
        obtain ⟨lv, vsI, hv2, hlv⟩ : ∃ lv vs, v = .agg #[.int .i64 t.ar, lv] ∧ LinesV w3 wr.heap.size lv t.ls vs := hv
        have hlb := hlv.lb
        subst hv2
        have how := hlb.ow
        obtain ⟨lo3, lc3, hlv3⟩ : ∃ a c, lv = .slice a t.ls.length c := by obtain ⟨vs, h1, _⟩ := how; obtain ⟨a, c, e⟩ := own_form h1; exact ⟨a, c, e⟩
        subst hlv3
        have hR3 := hbut.keep hR (by omega)
        have hC3 := hbut.keep hCC (by omega)
        have hs3 := hbut.size
        have hCl3 : CB < w3.heap.size := by omega
        have hrow3 := ownsRow_but hrow hbut hrd (by decide)
        have hfu3 := (FuOw.but hbut hrd hfu).up (Nat.le_trans hThi hs3)
        obtain ⟨t0, t1, _, ft1⟩ := two_cells hC3
        obtain ⟨fo, fcap, rfl⟩ := own_form hrow3
        have hFl : F.length ≤ 16 := by have := HFL.out; omega
        have hA3 : Below w3.heap.size w3 ((w3.alloc (Obj.cells #[.int .i64 t.ar, .slice lo3 t.ls.length lc3] 78)).alloc (Obj.cells #[.int .i64 t.ar, .slice lo3 t.ls.length lc3] 78)) := ((Below.refl _ _).alloc (Nat.le_refl _) _).alloc (by simp) _
        go_wp2_with (at_builtin; go_must (refine wpList_append_lies _ rfl _ _ _ rfl (CB + 1) 78 i _ 2 32 Tryz.underlying55 hi hz0 hz1 hz2 rfl (by omega) (.slice fo F.length fcap) F.length ys rfl ?hown _ 1 _ [.int .i64 t.ar, .slice lo3 t.ls.length lc3] rfl rfl ?hnews ?h1 (by omega) ?h63 ?hbytes ?hbase _ rfl ?_))
        case hown => exact (hrow3.alloc _).alloc _
        case hnews => exact World.news_of_block (by have := heap_alloc_new (w3.alloc (Obj.cells #[.int .i64 t.ar, .slice lo3 t.ls.length lc3] 78)) (Obj.cells #[.int .i64 t.ar, .slice lo3 t.ls.length lc3] 78); simpa using this)
        case h1 => simp [Value.oneCell']
        case h63 => unfold maxLen; omega
        case hbytes => omega
        case hbase => simp; omega
        intro g cap2 w5 hown5 hgrow5 hat5 hlt5
        have hR5 := grown_type ((hrow3.alloc _).alloc _) hgrow5 (by decide) ((hA3.block _ (by omega)).trans hR3)
        have hC5 := grown_type ((hrow3.alloc _).alloc _) hgrow5 (by decide) ((hA3.block _ (by omega)).trans hC3)
        have hrd5 : RdBlk w5 b tr (1 + cn + tc) := grown_type ((hrow3.alloc _).alloc _) hgrow5 (by decide) ((hA3.block b (by omega)).trans hrd3)
        have hbw5 : But b w w5 := ((hbw.trans hbut).trans (But.of hA3 (by omega))).grown ((hrow3.alloc _).alloc _) hgrow5 (by omega) (by omega)
        have hfu5 : FuOw w5 w3.heap.size (F ++ [t]) (ys ++ [.int .i64 t.ar, .slice lo3 t.ls.length lc3]) := FuOw.type ((hrow3.alloc _).alloc _) hgrow5 ((FuOw.snoc how hfu3).keep hA3)
        have hfi5 : FuI w5 (CB + 1) (F ++ [t]) (ys ++ [.int .i64 t.ar, .slice lo3 t.ls.length lc3]) w3.heap.size := FuI.map (fun h => LinesV.type ((hrow3.alloc _).alloc _) hgrow5 (h.old hA3)) (FuI.snoc hlv (fun k hk => (hlv.1.lt k hk).2) hlv.lt hs3 ((hfi.map (fun h => h.but hbut hrd)).up hThi))
        have hs5 := hgrow5.size
        simp only [World.size_alloc] at hs5
        obtain ⟨z0, z1, _, fz1⟩ := two_cells hC5
        clear hgrow5 hat5 t0 t1 ft1
        go_wp2_with fail
        go_roundw
        case rel =>
          refine ⟨j + 1, F ++ [t], tr, cn + tc, _, _, w3.heap.size, hlt, by go_num, HFR3, by have := HFL.out; simp [Hid, this], by omega, by omega, hbw5.put (by omega) (by omega), ?_, (heap_set_ne _ (by omega)).trans hR5, blk_set _ hC5, by rw [List.length_append]; exact ownsRow_set hown5 hC5 (by decide), by omega, by simp [World.setCell]; omega, FuOw.set hC5 hfu5, hfi5.map (fun h => h.setC hC5)⟩
          have := hrd5.put (k := CB) (i := 1) (v := .slice (some ⟨g, 0, none⟩) (F.length + 1) cap2) (by omega)
          rw [show (1 : Int) + ((cn + tc : Nat) : Int) = 1 + (cn : Int) + (tc : Int) by omega]
          exact this
        case measure => simp [intOf]; omega
    · have hj2 : j = n := by omega
      have hle : ¬ (j : Int) < (n : Int) := by omega
      have HX2 : Hid (X = (if rj.size = 0 then some ⟨PA, F⟩ else none, cn + 2)) := by
        show _ = _
        have h := HFR.out
        rw [hj2, Nat.sub_self] at h
        simp only [funsR, Option.map_some, List.append_nil, Nat.zero_add] at h
        rw [← HX1.out, h]
      obtain ⟨r0, r1, fr0, fr1⟩ := two_cells hrd
      obtain ⟨x0, x1, f0, f1⟩ := two_cells hR
      obtain ⟨t0, t1, _, _⟩ := two_cells hCC
      obtain ⟨fo, fcap, hfv⟩ := own_form hrow
      subst hfv
      have hbwr : b < wr.heap.size := by omega
      have hne1 : b ≠ w.heap.size := by omega
      have hne2 : b ≠ CB := by omega
      have hne3 : w.heap.size ≠ CB := by omega
      have hcnb : cn ≤ 400 := by omega
      have hS1 : But b wr (wr.setCell ⟨b, 1, none⟩ (.int .i64 (1 + (cn : Int) + 1))) := (But.refl b wr).set
      have HRD : Hid (RdBlk (wr.setCell ⟨b, 1, none⟩ (.int .i64 (1 + (cn : Int) + 1))) b rj (1 + (cn : Int) + 1)) := blk_set _ hrd
      have HB1 : Hid (But b w (wr.setCell ⟨b, 1, none⟩ (.int .i64 (1 + (cn : Int) + 1)))) := hbw.set
      have HR1 : Hid ((wr.setCell ⟨b, 1, none⟩ (.int .i64 (1 + (cn : Int) + 1))).heap[w.heap.size]? = some (.cells #[.int .i64 0, .slice none 0 0] 57 (0, 0))) := (heap_set_ne _ (by omega)).trans hR
      have HC1 : Hid ((wr.setCell ⟨b, 1, none⟩ (.int .i64 (1 + (cn : Int) + 1))).heap[CB]? = some (.cells #[.int .i64 PA, .slice fo F.length fcap] 57 (0, 0))) := (heap_set_ne _ (by omega)).trans hCC
      have HF1 : Hid (FuOw (wr.setCell ⟨b, 1, none⟩ (.int .i64 (1 + (cn : Int) + 1))) T F ys) := FuOw.but hS1 hrd hfu
      have HFI1 : Hid (FuI (wr.setCell ⟨b, 1, none⟩ (.int .i64 (1 + (cn : Int) + 1))) (CB + 1) F ys T) := hfi.map (fun h => h.but hS1 hrd)
      have HO2 : Hid ((wr.setCell ⟨b, 1, none⟩ (.int .i64 (1 + (cn : Int) + 1))).ownsRow (CB + 1) 78 2 (.slice fo F.length fcap) F.length ys) := ownsRow_but hrow hS1 hrd (by decide)
      have HO1 : Hid ((wr.setCell ⟨b, 1, none⟩ (.int .i64 (1 + (cn : Int) + 1))).ownsRow 0 78 2 (.slice fo F.length fcap) F.length ys) := ownsRow_base (ownsRow_but hrow hS1 hrd (by decide)) (Nat.zero_le _)
      have HSZ : Hid ((wr.setCell ⟨b, 1, none⟩ (.int .i64 (1 + (cn : Int) + 1))).heap.size = wr.heap.size) := by simp [Hid, World.setCell]
      go_wp2_with fail
      generalize hW : wr.setCell ⟨b, 1, none⟩ (.int .i64 (1 + (cn : Int) + 1)) = W at *
      clear hW r0 r1 fr0 fr1 x0 x1 f0 f1 t0 t1 hS1 hrow hfu hfi
      obtain ⟨r0, _, _, _⟩ := two_cells HRD.out
      obtain ⟨x0, x1, f0, f1⟩ := two_cells HR1.out
      obtain ⟨t0, t1, _, _⟩ := two_cells HC1.out
      have HXX : Hid ((rj.toList == []) = X.1.isSome ∧ ∀ c, X.1 = some c → c = ⟨PA, F⟩) := by
        rw [HX2.out]
        by_cases h0 : rj.size = 0
        · have he : rj.toList = [] := by
            have : rj.data.toList = [] := List.length_eq_zero_iff.1 (by rw [← size_len]; exact h0)
            rw [ByteArray.toList_eq]; exact this
          refine ⟨by rw [he, if_pos h0]; rfl, fun c hc => ?_⟩
          simp only [if_pos h0, Option.some.injEq] at hc
          exact hc.symm
        · have hne : (rj.toList == []) = false := by
            rw [beq_eq_false_iff_ne]
            intro e
            rw [ByteArray.toList_eq] at e
            have := size_len rj
            rw [e] at this
            exact h0 this
          refine ⟨by rw [hne, if_neg h0]; rfl, fun c hc => ?_⟩
          simp only [if_neg h0] at hc
          cases hc
      have HD : Hid (W.drew.heap[w.heap.size]? = some (.cells #[.int .i64 0, .slice none 0 0] 57 (0, 0))) := HR1.out
      have HQ : Hid _ := read2 (a := .int .i64 PA) (c := .slice fo F.length fcap) HR1.out
      have HFin : Hid (But b w ((W.drew.setCell ⟨w.heap.size, 0, none⟩ (.int .i64 PA)).setCell ⟨w.heap.size, 1, none⟩ (.slice fo F.length fcap)) ∧ RdBlk ((W.drew.setCell ⟨w.heap.size, 0, none⟩ (.int .i64 PA)).setCell ⟨w.heap.size, 1, none⟩ (.slice fo F.length fcap)) b rj X.2 ∧ FunsOw ((W.drew.setCell ⟨w.heap.size, 0, none⟩ (.int .i64 PA)).setCell ⟨w.heap.size, 1, none⟩ (.slice fo F.length fcap)) (.slice fo F.length fcap) F ∧ FunsN ((W.drew.setCell ⟨w.heap.size, 0, none⟩ (.int .i64 PA)).setCell ⟨w.heap.size, 1, none⟩ (.slice fo F.length fcap)) w.heap.size (.slice fo F.length fcap) F) := by
        have hszW : ((W.drew.setCell ⟨w.heap.size, 0, none⟩ (.int .i64 PA)).setCell ⟨w.heap.size, 1, none⟩ (.slice fo F.length fcap)).heap.size = wr.heap.size := by
          rw [← HSZ.out]; simp [World.setCell, heap_drew]
        refine ⟨((HB1.out.trans (But.of (Below.drew (Below.refl _ _)) (by rw [HSZ.out]; omega))).put (by omega) (Nat.le_refl _)).put (by omega) (Nat.le_refl _), ?_, ?_, ?_⟩
        · rw [HX2.out]
          have := (RdBlk.old HRD.out (Below.drew (Below.refl _ _))).put (k := w.heap.size) (i := 0) (v := .int .i64 PA) (by omega)
          have := this.put (k := w.heap.size) (i := 1) (v := .slice fo F.length fcap) (by omega)
          rw [show ((cn + 2 : Nat) : Int) = 1 + (cn : Int) + 1 by omega]
          exact this
        · refine ⟨ys, ownsRow_set (ownsRow_set (World.ownsRow.drew HO1.out) HD.out (by decide)) (blk_set _ HD.out) (by decide), ?_⟩
          rw [hszW]
          exact FuOw.up hThi (FuOw.set (blk_set _ HD.out) (FuOw.set HD.out (FuOw.keep (Below.drew (Below.refl _ _)) HF1.out)))
        · refine ⟨ys, ownsRow_base (ownsRow_set (ownsRow_set (World.ownsRow.drew HO2.out) HD.out (by decide)) (blk_set _ HD.out) (by decide)) (by omega), ?_⟩
          rw [hszW]
          exact (FuI.up (((FuI.map (fun h => h.old (Below.drew (Below.refl _ _))) HFI1.out).map (fun h => h.setC HD.out)).map (fun h => h.setC (blk_set _ HD.out))) hThi).base (by omega)
      go_region
      all_goals
        go_wp2_with fail
        obtain ⟨q0, q1⟩ := HQ.out
        refine bodyPost_ret (v := .tuple #[.agg #[.int .i64 PA, .slice fo F.length fcap], .bool (rj.toList == [])]) (by simp [results, Tryz.results73, go_sem, q0, q1]) rfl ⟨PA, _, by rw [HXX.out.1], HFin.out.1, ⟨rj, HFin.out.2.1⟩, ⟨_, _, _, rfl⟩, fun c hc => by rw [HXX.out.2 c hc]; exact ⟨rfl, HFin.out.2.2⟩⟩

end Go.Proofs.YtnndoagpbcacdaaGreatDoor
namespace Go.Proofs.YtnndoagpbcacdaaGreatDoor
open Go.RowKit

/-! Read, as it answers. -/
def rdC (s : ByteArray) : Option Cd := if 30000 < s.size then none else (codeR s).1
def rdL (s : ByteArray) : Int := if 30000 < s.size then 0 else if (codeR s).1.isSome then 0 else (codeR s).2
def rdE (s : ByteArray) : Int := if 30000 < s.size then 1 else if (codeR s).1.isSome then 0 else 7

set_option maxRecDepth 100000 in
set_option maxHeartbeats 8000000 in
theorem pRead (s : ByteArray) (w : World) (hs : s.size ≤ maxLen) :
    Calls Tryz.prog 41 #[.string s] w fun e w' => ∃ mn fv, e = .returned (.tuple #[.agg #[.int .i64 mn, fv], .int .i64 (rdL s), .int .i64 (rdE s)]) ∧ Below w.heap.size w w' ∧ (rdC s = none → mn = 0 ∧ fv = .slice none 0 0) ∧ ∀ c, rdC s = some c → mn = c.mn ∧ FunsOw w' fv c.fs ∧ FunsN w' w.heap.size fv c.fs := by
  unfold maxLen at hs
  by_cases hbig : 30000 < s.size
  · have HV : Hid (rdL s = 0 ∧ rdE s = 1 ∧ rdC s = none) := by simp [Hid, rdL, rdE, rdC, hbig]
    rw [HV.out.1, HV.out.2.1, HV.out.2.2]
    go_enter Tryz.func41, Tryz.ntmps41
    go_wp2_with fail
    exact bodyPost_ret (v := .tuple #[.agg #[.int .i64 0, .slice none 0 0], .int .i64 0, .int .i64 1]) (by simp [results, Tryz.results41, go_sem]) rfl ⟨0, _, rfl, (Below.refl _ _).alloc (Nat.le_refl _) _, fun _ => ⟨rfl, rfl⟩, fun c hc => by cases hc⟩
  have hs3 : s.size ≤ 30000 := by omega
  have HV : Hid (rdL s = (if (codeR s).1.isSome then 0 else (codeR s).2 : Int) ∧ rdE s = (if (codeR s).1.isSome then 0 else 7) ∧ rdC s = (codeR s).1) := by simp [Hid, rdL, rdE, rdC, hbig]
  have hB : (((w.alloc (Obj.cells #[.int .i64 0, .slice none 0 0] 57)).alloc (Obj.cells #[.string s, .int .i64 0] 128))).heap[w.heap.size + 1]? = some (.cells #[.string s, .int .i64 0] 128 (0, 0)) := by
    have := heap_alloc_new (w.alloc (Obj.cells #[.int .i64 0, .slice none 0 0] 57)) (Obj.cells #[.string s, .int .i64 0] 128)
    simpa using this
  have HC : Hid _ := pReadCode (w.heap.size + 1) s ((w.alloc (Obj.cells #[.int .i64 0, .slice none 0 0] 57)).alloc (Obj.cells #[.string s, .int .i64 0] 128)) hB hs3
  clear hB
  have hA : Below w.heap.size w ((w.alloc (Obj.cells #[.int .i64 0, .slice none 0 0] 57)).alloc (Obj.cells #[.string s, .int .i64 0] 128)) := ((Below.refl _ _).alloc (Nat.le_refl _) _).alloc (by simp) _
  have hR0 : (((w.alloc (Obj.cells #[.int .i64 0, .slice none 0 0] 57)).alloc (Obj.cells #[.string s, .int .i64 0] 128))).heap[w.heap.size]? = some (.cells #[.int .i64 0, .slice none 0 0] 57 (0, 0)) := (Below.heap_alloc _ _ _ (by simp)).trans (heap_alloc_new w _)
  rw [HV.out.1, HV.out.2.1, HV.out.2.2]
  clear HV hs hbig
  generalize codeR s = X at *
  obtain ⟨o, lnn⟩ := X
  simp only at HC ⊢
  cases o with
  | none =>
    simp only [Option.isSome_none, Bool.false_eq_true, if_false] at HC ⊢
    go_enter Tryz.func41, Tryz.ntmps41
    go_wp2_with fail
    refine (show Calls _ _ _ _ _ from HC.out).mono ?_
    rintro e w1 ⟨mn, fv, rfl, hbut, ⟨r2, hrd⟩, ⟨fo, FL, fcap, rfl⟩, _⟩
    clear HC
    have hR1 := hbut.keep hR0 (by omega)
    obtain ⟨r0, r1, _, _⟩ := two_cells hrd
    have hRl : w.heap.size < w1.heap.size := (Array.getElem?_eq_some_iff.1 hR1).1
    have hRb : w.heap.size + 1 < w1.heap.size := (Array.getElem?_eq_some_iff.1 hrd).1
    obtain ⟨x0, x1, f0, f1⟩ := two_cells hR1
    have hs4 : ((w1.setCell ⟨w.heap.size, 0, none⟩ (.int .i64 0)).setCell ⟨w.heap.size, 1, none⟩ (.slice none 0 0)).heap.size = w1.heap.size := by simp [World.setCell]
    have hR4 := (Below.heap_alloc ((w1.setCell ⟨w.heap.size, 0, none⟩ (.int .i64 0)).setCell ⟨w.heap.size, 1, none⟩ (.slice none 0 0)) (Obj.cells #[.int .i64 mn, .slice fo FL fcap] 57) w.heap.size (by rw [hs4]; omega)).trans (blk_set _ (blk_set _ hR1))
    have HQ0 : Hid _ := cell_of_row _ _ 0 _ _ _ hR4
    have HQ1 : Hid _ := cell_of_row _ _ 1 _ _ _ hR4
    have HBF : Hid (Below w.heap.size w (((w1.setCell ⟨w.heap.size, 0, none⟩ (.int .i64 0)).setCell ⟨w.heap.size, 1, none⟩ (.slice none 0 0)).alloc (Obj.cells #[.int .i64 mn, .slice fo FL fcap] 57)).drew) := Below.drew ((((hA.trans (hbut.below (by omega))).setCell (by exact Nat.le_refl _) _).setCell (by exact Nat.le_refl _) _).alloc (by rw [hs4]; omega) _)
    clear hR4
    go_wp2_with fail
    go_region
    all_goals
      go_wp2_with fail
      have q0 := HQ0.out
      have q1 := HQ1.out
      exact bodyPost_ret (v := .tuple #[.agg #[.int .i64 0, .slice none 0 0], .int .i64 lnn, .int .i64 7]) (by simp [results, Tryz.results41, go_sem, q0, q1]) rfl ⟨0, _, rfl, HBF.out, fun _ => ⟨rfl, rfl⟩, fun c hc => by cases hc⟩
  | some c =>
    simp only [Option.isSome_some, if_true] at HC ⊢
    go_enter Tryz.func41, Tryz.ntmps41
    go_wp2_with fail
    refine (show Calls _ _ _ _ _ from HC.out).mono ?_
    rintro e w1 ⟨mn, fv, rfl, hbut, ⟨r2, hrd⟩, _, hall⟩
    clear HC
    obtain ⟨hmn, hfr, hfn⟩ := hall c rfl
    have HFN : Hid _ := hfn
    clear hfn
    clear hall
    have HFR : Hid _ := hfr
    have HMN : Hid (mn = c.mn) := hmn
    obtain ⟨fo, fcap, hfv⟩ : ∃ a c2, fv = .slice a c.fs.length c2 := by obtain ⟨ys, h1, _⟩ := hfr; exact own_form h1
    subst hfv
    clear hmn hfr
    have hR1 := hbut.keep hR0 (by omega)
    have hRl : w.heap.size < w1.heap.size := (Array.getElem?_eq_some_iff.1 hR1).1
    obtain ⟨x0, x1, f0, f1⟩ := two_cells hR1
    have hs4 : ((w1.setCell ⟨w.heap.size, 0, none⟩ (.int .i64 mn)).setCell ⟨w.heap.size, 1, none⟩ (.slice fo c.fs.length fcap)).heap.size = w1.heap.size := by simp [World.setCell]
    have hR4 := (Below.heap_alloc ((w1.setCell ⟨w.heap.size, 0, none⟩ (.int .i64 mn)).setCell ⟨w.heap.size, 1, none⟩ (.slice fo c.fs.length fcap)) (Obj.cells #[.int .i64 mn, .slice fo c.fs.length fcap] 57) w.heap.size (by rw [hs4]; omega)).trans (blk_set _ (blk_set _ hR1))
    have HQ0 : Hid _ := cell_of_row _ _ 0 _ _ _ hR4
    have HQ1 : Hid _ := cell_of_row _ _ 1 _ _ _ hR4
    have HBF : Hid (Below w.heap.size w (((w1.setCell ⟨w.heap.size, 0, none⟩ (.int .i64 mn)).setCell ⟨w.heap.size, 1, none⟩ (.slice fo c.fs.length fcap)).alloc (Obj.cells #[.int .i64 mn, .slice fo c.fs.length fcap] 57))) := ((((hA.trans (hbut.below (by omega))).setCell (by exact Nat.le_refl _) _).setCell (by exact Nat.le_refl _) _).alloc (by rw [hs4]; omega) _)
    clear hR4
    go_wp2_with fail
    have q0 := HQ0.out
    have q1 := HQ1.out
    refine bodyPost_ret (v := .tuple #[.agg #[.int .i64 mn, .slice fo c.fs.length fcap], .int .i64 0, .int .i64 0]) (by simp [results, Tryz.results41, go_sem, q0, q1]) rfl ⟨mn, _, rfl, HBF.out, (fun h => by cases h), fun c' hc => ?_⟩
    cases hc
    exact ⟨HMN.out, ((FunsOw.set HFR.out hR1).set (blk_set _ hR1)).old ((Below.refl _ _).alloc (Nat.le_refl _) _), (((FunsN.set HFN.out hR1).set (blk_set _ hR1)).old ((Below.refl _ _).alloc (Nat.le_refl _) _)).base (by simp; omega)⟩

end Go.Proofs.YtnndoagpbcacdaaGreatDoor
namespace Go.Proofs.YtnndoagpbcacdaaGreatDoor

/-! What is read is good code. -/
theorem linesR_good {nf : Nat} {ar : Int} {nl : Nat} : ∀ {m j : Nat} {r : ByteArray} {L : List Ln}, (linesR nf ar nl m j r).1 = some L → L.length = m ∧ goodLs nf ar nl j L = true
  | 0, j, r, L, h => by
    simp only [linesR, Option.some.injEq] at h
    subst h
    exact ⟨rfl, rfl⟩
  | m + 1, j, r, L, h => by
    rw [linesR] at h
    split at h
    · rename_i hc
      simp only [Bool.and_eq_true] at hc
      simp only [Option.map_eq_some_iff] at h
      obtain ⟨L', h1, rfl⟩ := h
      obtain ⟨h2, h3⟩ := linesR_good h1
      exact ⟨by simp [h2], by rw [goodLs, hc.2, h3]; rfl⟩
    · simp at h
theorem tmplR_good {nf : Nat} {m : Bool} {r : ByteArray} {t : Tp} (h : (tmplR nf m r).1 = some t) : goodT nf t = true ∧ (m = true → t.ar = 0) := by
  unfold tmplR at h
  split at h
  · rename_i hc
    simp only [Bool.and_eq_true] at hc
    simp only [Option.map_eq_some_iff] at h
    obtain ⟨L, h1, rfl⟩ := h
    obtain ⟨h2, h3⟩ := linesR_good h1
    have hs := hc.2
    simp only [stand, Bool.and_eq_true, decide_eq_true_eq, Bool.not_eq_true', Bool.and_eq_false_iff, decide_eq_false_iff_not] at hs
    obtain ⟨a1, a2, a3, a4, a5⟩ := hs
    refine ⟨?_, fun hm => ?_⟩
    · simp only [goodT, Bool.and_eq_true, decide_eq_true_eq]
      refine ⟨a1, a2, by omega, by omega, ?_⟩
      rw [h2]; exact h3
    · rcases a3 with a3 | a3
      · rw [hm] at a3; cases a3
      · show pairA 70 r = 0
        omega
  · simp at h
theorem funsR_good {nf : Nat} {mn : Int} : ∀ {m j : Nat} {r : ByteArray} {F : List Tp}, (funsR nf mn m j r).1 = some F → F.length = m ∧ (∀ t ∈ F, goodT nf t = true) ∧ ∀ (q : Nat) (t : Tp), ((j + q : Nat) : Int) = mn → F[q]? = some t → t.ar = 0
  | 0, j, r, F, h => by
    simp only [funsR, Option.some.injEq] at h
    subst h
    exact ⟨rfl, fun t ht => by simp at ht, fun q t _ h => by simp at h⟩
  | m + 1, j, r, F, h => by
    rw [funsR] at h
    split at h
    · simp at h
    · rename_i t ht
      simp only [Option.map_eq_some_iff] at h
      obtain ⟨F', h1, rfl⟩ := h
      obtain ⟨h2, h3, h4⟩ := funsR_good h1
      obtain ⟨g1, g2⟩ := tmplR_good ht
      refine ⟨by simp [h2], fun u hu => ?_, fun q u hq hu => ?_⟩
      · rcases List.mem_cons.1 hu with rfl | hu
        · exact g1
        · exact h3 u hu
      · cases q with
        | zero =>
          simp at hu
          subst hu
          exact g2 (by simpa using hq)
        | succ q => exact h4 q u (by rw [← hq]; congr 1; omega) (by simpa using hu)
theorem codeR_good {r : ByteArray} {c : Cd} (h : (codeR r).1 = some c) : goodC c = true := by
  unfold codeR at h
  split at h
  · rename_i hc
    simp only [Bool.and_eq_true] at hc
    have hb := hc.2
    simp only [begins, Bool.and_eq_true, decide_eq_true_eq] at hb
    obtain ⟨b1, b2, b3, b4⟩ := hb
    split at h
    · simp at h
    · rename_i F hF
      simp only at h
      split at h
      · simp only [Option.some.injEq] at h
        subst h
        obtain ⟨h2, h3, h4⟩ := funsR_good hF
        simp only [goodC, Bool.and_eq_true, decide_eq_true_eq, List.all_eq_true]
        refine ⟨by omega, by omega, b3, by omega, fun t ht => by rw [h2]; exact h3 t ht, ?_⟩
        have hlt : (pairA 77 r).toNat < F.length := by omega
        rw [List.getElem?_eq_getElem hlt]
        exact h4 _ _ (by omega) (List.getElem?_eq_getElem hlt)
      · simp at h
  · simp at h
theorem rdC_good {s : ByteArray} {c : Cd} (h : rdC s = some c) : goodC c = true := by
  unfold rdC at h
  split at h
  · simp at h
  · exact codeR_good h

end Go.Proofs.YtnndoagpbcacdaaGreatDoor
