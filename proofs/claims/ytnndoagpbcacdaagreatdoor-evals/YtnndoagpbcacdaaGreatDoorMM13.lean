import Derived.Test.YtnndoagpbcacdaaGreatDoorMM11
import Derived.Test.YtnndoagpbcacdaaGreatDoorMX5
import Derived.Deep.LoopGhost
namespace Go.Proofs.YtnndoagpbcacdaaGreatDoor
open Go.RowKit

/-! Package machine: move, Run. -/
structure CfB (c : Cf) : Prop where
  h0 : 0 ≤ c.hp
  h1 : c.hp ≤ 1000000
  ts : ∀ t ∈ c.fs, 0 ≤ t.ar ∧ t.ar ≤ 100 ∧ 1 ≤ t.ls.length ∧ t.ls.length ≤ 100 ∧ ∀ l ∈ t.ls, l.length ≤ 1000
structure Ok (c : Cf) (s : Ms) : Prop where
  bd : Bd s
  tp : (hdI s.stk).1 = 3 → 0 ≤ (hdI s.stk).2 ∧ (hdI s.stk).2 < c.fs.length
theorem tpl_mem {c : Cf} {n : Int} (h0 : 0 ≤ n) (h1 : n < c.fs.length) : tplM c n ∈ c.fs := by
  unfold tplM
  rw [if_pos ⟨h0, h1⟩]
  have hlt : n.toNat < c.fs.length := by omega
  rw [List.getElem?_eq_getElem hlt]
  exact List.getElem_mem hlt

set_option maxRecDepth 100000 in
set_option maxHeartbeats 4000000 in
theorem mMove (T B mb : Nat) (fv : Value) (c : Cf) (s : Ms) (K : Nat → Prop) (w : World) (h : MP w B mb fv c s K) (ok : Ok c s) (hc : CfB c) (hTB : T ≤ B) (hf : FunsRd w T fv c.fs) :
    Calls Tryz.prog 43 #[.pointer (some ⟨mb, 0, none⟩)] w fun e w' => (∃ v, e = .returned v) ∧ Below B w w' ∧ Kept K w w' ∧ MP w' B mb fv c (moveM c s) K := by
  have hB0 : B ≤ w.heap.size := by have := h.lt; have := h.lo; omega
  have HM : Hid (∀ w', Below w.heap.size w w' → MP w' B mb fv c s K) := fun w' hb => h.old hb
  have HFR : Hid (∀ w', Below w.heap.size w w' → FunsRd w' T fv c.fs) := fun w' hb => FunsRd.keep hf (hb.mono (by omega))
  have hlo := h.lo
  have HC1 : Hid (Calls Tryz.prog 74 #[.pointer (some ⟨mb, 0, none⟩)] w fun e w' => e = .returned (.tuple #[.agg #[.int .i64 (hdI s.stk).1, .int .i64 (hdI s.stk).2], .int .i64 (argN s)]) ∧ Below w.heap.size w w') := by
    obtain ⟨sv, rv, nv, ev, vs, h⟩ := h
    exact mLook B mb fv c s K sv rv nv ev vs w h (by have := ok.bd.l1; omega) (by have := ok.bd.l2; omega) (by have := ok.bd.l1; have := ok.bd.fl; omega)
  have HTN : Hid ((hdI s.stk).1 = 1 → -1000000000 ≤ (hdI s.stk).2 ∧ (hdI s.stk).2 ≤ 1000000000) := by
    intro h1
    cases hs : s.stk with
    | nil => rw [hs] at h1; simp [hdI] at h1
    | cons x r =>
      rw [hs] at h1
      exact ok.bd.nb x (by rw [hs]; simp) h1
  have HTP : Hid _ := ok.tp
  have HBD : Hid _ := ok.bd
  have HE : Hid (moveM c s = if (hdI s.stk).1 = 5 then enterM s else if (hdI s.stk).1 = 3 then (if (tplM c (hdI s.stk).2).ar ≤ argN s then callM c (tplM c (hdI s.stk).2) s else delM c (hdI s.stk) s) else if (hdI s.stk).1 = 4 then (if wantM (hdI s.stk).2 ≤ argN s then askM (hdI s.stk).2 s else delM c (hdI s.stk) s) else if 0 < argN s then { s with out := 3 } else delM c (hdI s.stk) s) := rfl
  rw [HE.out]
  clear HE h ok hf
  generalize hdI s.stk = t at *
  obtain ⟨t1, t2⟩ := t
  generalize argN s = an at *
  simp only at *
  generalize hT : tplM c t2 = tp at *
  generalize hW : wantM t2 = wn at *
  have HTQ : Hid (tplM c t2 = tp) := hT
  have HWQ : Hid (wantM t2 = wn) := hW
  clear hT hW
  go_enter Tryz.func43, Tryz.ntmps43
  go_wp2_with fail
  refine (show Calls _ _ _ _ _ from HC1.out).mono ?_
  rintro e w1 ⟨rfl, hb1⟩
  clear HC1
  have hs1 := hb1.size
  have HBW : Hid (Below w.heap.size w (w1.alloc (Obj.cells #[.int .i64 t1, .int .i64 t2] 96))) := hb1.trans ((below_al w1 _).mono hs1)
  have HB1 : Hid (Below B w (w1.alloc (Obj.cells #[.int .i64 t1, .int .i64 t2] 96))) := HBW.out.mono hB0
  have HK1 : Hid (Kept K w (w1.alloc (Obj.cells #[.int .i64 t1, .int .i64 t2] 96))) := Kept.old HBW.out
  have HMW : Hid (MP (w1.alloc (Obj.cells #[.int .i64 t1, .int .i64 t2] 96)) B mb fv c s K) := HM.out _ HBW.out
  have HDW : Hid _ := mDeliver (t1, t2) HTN.out B mb fv c s K _ HMW.out HBD.out
  simp only at HDW
  by_cases h5 : t1 = 5
  · subst h5
    have HC2 : Hid _ := mEnter B mb fv c s K _ HMW.out (by have := HBD.out.l1; omega) (by have := HBD.out.l2; omega) (by have := HBD.out.l3; omega) (fun n hn => by have := HBD.out.l5 n hn; have := HBD.out.l1; omega)
    clear HDW HMW HM HFR hb1
    go_wp2_with fail
    refine (show Calls _ _ _ _ _ from HC2.out).mono ?_
    rintro e w2 ⟨⟨v2, rfl⟩, hb2, hk2, hm2⟩
    have HM2 : Hid _ := hm2
    clear hm2 HC2
    go_wp2_with fail
    exact bodyPost_end (v := .tuple #[]) (by simp [results, Tryz.results43, go_sem]) rfl ⟨⟨_, rfl⟩, HB1.out.trans hb2, HK1.out.trans hk2 HB1.out.size, HM2.out⟩
  · have h5b : (t1 == 5) = false := by simpa using h5
    by_cases h3 : t1 = 3
    · subst h3
      obtain ⟨v0, v1⟩ := HTP.out rfl
      have HT0 : Hid _ := hc.ts _ (tpl_mem v0 v1)
      have HC2 : Hid _ := mTemplate t2 T B mb fv c s K _ HMW.out (by have := HBW.out.size; omega) (HFR.out _ HBW.out)
      rw [HTQ.out] at HT0 HC2
      clear v0 v1 hb1
      go_wp2_with fail
      refine (show Calls _ _ _ _ _ from HC2.out).mono ?_
      rintro e w2 ⟨lo, lc, rfl, hb2, hlr⟩
      clear HC2
      have hs2 := hb2.size
      have hbx := (hb2.block w1.heap.size (by simp)).trans (heap_alloc_new w1 _)
      obtain ⟨q0, q1⟩ := cells_of2 hbx
      have hlt2 : w1.heap.size < w2.heap.size := by simp at hs2; omega
      have HBW2 : Hid (Below w.heap.size w (w2.alloc (Obj.cells #[.int .i64 tp.ar, .slice lo tp.ls.length lc] 78))) := (HBW.out.trans (hb2.mono HBW.out.size)).trans ((below_al w2 _).mono (by have := HBW.out.size; omega))
      have HB2 : Hid (Below B w (w2.alloc (Obj.cells #[.int .i64 tp.ar, .slice lo tp.ls.length lc] 78))) := HBW2.out.mono hB0
      have HK2 : Hid (Kept K w (w2.alloc (Obj.cells #[.int .i64 tp.ar, .slice lo tp.ls.length lc] 78))) := Kept.old HBW2.out
      have HMW2 : Hid (MP (w2.alloc (Obj.cells #[.int .i64 tp.ar, .slice lo tp.ls.length lc] 78)) B mb fv c s K) := HM.out _ HBW2.out
      have HL2 : Hid (LinesRd (w2.alloc (Obj.cells #[.int .i64 tp.ar, .slice lo tp.ls.length lc] 78)) T (.slice lo tp.ls.length lc) tp.ls) := hlr.below ((hb2.mono (by have := HBW.out.size; omega)).trans ((below_al w2 _).mono (by have := HBW.out.size; omega)))
      have hq0' := hbx
      clear HDW HMW HM hbx hlr hb2
      by_cases hle : tp.ar ≤ an
      · have hd : decide (tp.ar ≤ an) = true := by simpa using hle
        have HC3 : Hid _ := mCall tp lo lc T B mb fv c s K _ HMW2.out HBD.out hTB HL2.out HT0.out.1 HT0.out.2.1 HT0.out.2.2.1 HT0.out.2.2.2.1 HT0.out.2.2.2.2 hc.h0 (by have := hc.h1; omega)
        clear HMW2 HL2 hq0'
        go_wp2_with fail
        refine (show Calls _ _ _ _ _ from HC3.out).mono ?_
        rintro e w3 ⟨⟨v3, rfl⟩, hb3, hk3, hm3⟩
        have HM3 : Hid _ := hm3
        clear hm3 HC3 q0 q1
        go_wp2_with fail
        exact bodyPost_end (v := .tuple #[]) (by simp [results, Tryz.results43, go_sem]) rfl ⟨⟨_, rfl⟩, HB2.out.trans hb3, HK2.out.trans hk3 HB2.out.size, HM3.out⟩
      · have hd : decide (tp.ar ≤ an) = false := by simpa using hle
        have HC3 : Hid _ := mDeliver (3, t2) (by intro h; simp at h) B mb fv c s K _ HMW2.out HBD.out
        simp only at HC3
        have hbx2 := (below_al w2 (Obj.cells #[.int .i64 tp.ar, .slice lo tp.ls.length lc] 78)).block w1.heap.size hlt2
        clear HMW2 HL2 hq0' hbx2
        go_wp2_with fail
        refine (show Calls _ _ _ _ _ from HC3.out).mono ?_
        rintro e w3 ⟨⟨v3, rfl⟩, hb3, hk3, hm3⟩
        have HM3 : Hid _ := hm3
        clear hm3 HC3 q0 q1
        go_wp2_with fail
        exact bodyPost_end (v := .tuple #[]) (by simp [results, Tryz.results43, go_sem]) rfl ⟨⟨_, rfl⟩, HB2.out.trans hb3, HK2.out.trans hk3 HB2.out.size, HM3.out⟩
    · have h3b : (t1 == 3) = false := by simpa using h3
      by_cases h4 : t1 = 4
      · subst h4
        have HC2 : Hid (∀ w', Calls Tryz.prog 79 #[.int .i64 t2] w' fun e w'' => e = .returned (.int .i64 (wantM t2)) ∧ w'' = w') := fun w' => mWanted t2 w'
        have HC3 : Hid _ := mAskFirst t2 B mb fv c s K _ HMW.out (by have := HBD.out.l1; omega) (by have := HBD.out.l2; omega)
        rw [HWQ.out] at HC2
        clear HMW HM hb1
        by_cases hle : wn ≤ an
        · have hd : decide (wn ≤ an) = true := by simpa using hle
          go_wp2_with fail
          refine (show Calls _ _ _ _ _ from HC2.out _).mono ?_
          rintro e w2 ⟨rfl, rfl⟩
          clear HC2
          go_wp2_with fail
          refine (show Calls _ _ _ _ _ from HC3.out).mono ?_
          rintro e w3 ⟨⟨v3, rfl⟩, hb3, hk3, hm3⟩
          have HM3 : Hid _ := hm3
          clear hm3 HC3
          go_wp2_with fail
          exact bodyPost_end (v := .tuple #[]) (by simp [results, Tryz.results43, go_sem]) rfl ⟨⟨_, rfl⟩, HB1.out.trans hb3, HK1.out.trans hk3 HB1.out.size, HM3.out⟩
        · have hd : decide (wn ≤ an) = false := by simpa using hle
          go_wp2_with fail
          refine (show Calls _ _ _ _ _ from HC2.out _).mono ?_
          rintro e w2 ⟨rfl, rfl⟩
          clear HC2
          go_wp2_with fail
          refine (show Calls _ _ _ _ _ from HDW.out).mono ?_
          rintro e w3 ⟨⟨v3, rfl⟩, hb3, hk3, hm3⟩
          have HM3 : Hid _ := hm3
          clear hm3 HC3
          go_wp2_with fail
          exact bodyPost_end (v := .tuple #[]) (by simp [results, Tryz.results43, go_sem]) rfl ⟨⟨_, rfl⟩, HB1.out.trans hb3, HK1.out.trans hk3 HB1.out.size, HM3.out⟩
      · have h4b : (t1 == 4) = false := by simpa using h4
        by_cases hpos : 0 < an
        · have hd : decide (0 < an) = true := by simpa using hpos
          obtain ⟨sv, rv, nv, ev, vs, hmw⟩ := HM.out w1 hb1
          have cc8 := hmw.c8
          have ff8 := hmw.fz 8
          have hmbw := hmw.lt
          have HK : Hid (¬ K mb) := hmw.noK
          have HF : Hid (MSt (w1.setCell ⟨mb, 8, none⟩ (.int .i64 3)) B mb fv c { s with out := 3 } K sv rv nv ev vs) := hmw.field rfl rfl rfl rfl rfl
          have HB2 : Hid (Below B w w1) := hb1.mono hB0
          have HKF : Hid (Kept K w ((w1.setCell ⟨mb, 8, none⟩ (.int .i64 3)).alloc (Obj.cells #[.int .i64 t1, .int .i64 t2] 96))) := ((Kept.old hb1).trans (Kept.set HK.out) hs1).trans (Kept.old (below_al _ _)) (by rw [size_set]; exact hs1)
          clear hmw HM HMW HDW hb1
          go_wp2_with fail
          exact bodyPost_end (v := .tuple #[]) (by simp [results, Tryz.results43, go_sem]) rfl ⟨⟨_, rfl⟩, (HB2.out.setCell (by exact hlo) _).trans ((below_al _ _).mono (by rw [size_set]; omega)), HKF.out, _, _, _, _, _, HF.out.old (below_al _ _)⟩
        · have hd : decide (0 < an) = false := by simpa using hpos
          clear HM HMW hb1
          go_wp2_with fail
          refine (show Calls _ _ _ _ _ from HDW.out).mono ?_
          rintro e w3 ⟨⟨v3, rfl⟩, hb3, hk3, hm3⟩
          have HM3 : Hid _ := hm3
          clear hm3 HDW
          go_wp2_with fail
          exact bodyPost_end (v := .tuple #[]) (by simp [results, Tryz.results43, go_sem]) rfl ⟨⟨_, rfl⟩, HB1.out.trans hb3, HK1.out.trans hk3 HB1.out.size, HM3.out⟩

end Go.Proofs.YtnndoagpbcacdaaGreatDoor
namespace Go.Proofs.YtnndoagpbcacdaaGreatDoor
open Go.RowKit

/-! Package machine: Run, of code that is read, with a budget and a heap that may be. -/
theorem iter_done (c : Cf) : ∀ (n : Nat) (s : Ms), s.out ≠ 0 → iterM c n s = s
  | 0, _, _ => rfl
  | n + 1, s, h => by rw [iterM, if_neg h]
theorem iter_one (c : Cf) : ∀ (n : Nat) (s : Ms), (iterM c n s).out = 0 → iterM c (n + 1) s = moveM c (iterM c n s)
  | 0, s, h => by
    have h' : s.out = 0 := h
    simp [iterM, h']
  | n + 1, s, h => by
    by_cases hs : s.out = 0
    · have h2 : (iterM c n (moveM c s)).out = 0 := by rw [iterM, if_pos hs] at h; exact h
      rw [iterM, if_pos hs, iter_one c n (moveM c s) h2, iterM, if_pos hs]
    · rw [iter_done c (n + 1) s hs] at h; exact absurd h hs
theorem iter_out (c : Cf) : ∀ (n m : Nat) (s : Ms), n ≤ m → (iterM c n s).out ≠ 0 → iterM c m s = iterM c n s
  | 0, m, s, _, h => iter_done c m s h
  | n + 1, 0, _, hm, _ => by omega
  | n + 1, m + 1, s, hm, h => by
    by_cases hs : s.out = 0
    · rw [iterM, if_pos hs] at h ⊢
      rw [iterM, if_pos hs]
      exact iter_out c n m _ (by omega) h
    · rw [iter_done c _ s hs, iter_done c _ s hs]

theorem cells_three (W : World) (b : Nat) (a0 a1 a2 : Value) (t : TypeId) (x0 x1 x2 : Value) (h : W.heap[b]? = some (.cells #[a0, a1, a2] t (0, 0))) : (((W.setCell ⟨b, 0, none⟩ x0).setCell ⟨b, 1, none⟩ x1).setCell ⟨b, 2, none⟩ x2).cell? ⟨b, 0, none⟩ = some x0 ∧ (((W.setCell ⟨b, 0, none⟩ x0).setCell ⟨b, 1, none⟩ x1).setCell ⟨b, 2, none⟩ x2).cell? ⟨b, 1, none⟩ = some x1 ∧ (((W.setCell ⟨b, 0, none⟩ x0).setCell ⟨b, 1, none⟩ x1).setCell ⟨b, 2, none⟩ x2).cell? ⟨b, 2, none⟩ = some x2 := by
  have h2 := blk_set (i := 2) x2 (blk_set (i := 1) x1 (blk_set (i := 0) x0 h))
  exact ⟨by rw [cell_of_row _ b 0 _ _ _ h2]; rfl, by rw [cell_of_row _ b 1 _ _ _ h2]; rfl, by rw [cell_of_row _ b 2 _ _ _ h2]; rfl⟩

set_option maxRecDepth 100000 in
set_option maxHeartbeats 4000000 in
theorem mRunOk (s : ByteArray) (bud hp : Int) (cd : Cd) (N : Nat) (w : World) (hs : s.size ≤ maxLen) (hrd : rdC s = some cd) (hre : rdE s = 0) (hb0 : 0 ≤ bud) (hb1 : bud ≤ 2000) (hh0 : 0 ≤ hp) (hh1 : hp ≤ 24000)
    (hc : CfB ⟨cd.fs, bud, hp⟩) (hok : ∀ i, i < N → (iterM ⟨cd.fs, bud, hp⟩ i (initM cd.mn)).out = 0 → Ok ⟨cd.fs, bud, hp⟩ (iterM ⟨cd.fs, bud, hp⟩ i (initM cd.mn))) (hN : (iterM ⟨cd.fs, bud, hp⟩ N (initM cd.mn)).out ≠ 0) :
    Calls Tryz.prog 26 #[.string s, .int .i64 bud, .int .i64 hp] w fun e w' => e = .returned (.tuple #[.agg #[.int .i64 (iterM ⟨cd.fs, bud, hp⟩ N (initM cd.mn)).out, .int .i64 (iterM ⟨cd.fs, bud, hp⟩ N (initM cd.mn)).val, .int .i64 (iterM ⟨cd.fs, bud, hp⟩ N (initM cd.mn)).stp], .int .i64 0]) ∧ Below w.heap.size w w' := by
  have HC1 : Hid _ := pRead s (w.alloc (Obj.cells #[.int .i64 0, .int .i64 0, .int .i64 0] 31)) hs
  rw [hre] at HC1
  generalize rdL s = rl at *
  have HRD : Hid (rdC s = some cd) := hrd
  have HOK : Hid _ := hok
  have HNO : Hid _ := hN
  have HCB : Hid _ := hc
  clear hrd hre hok hN hc
  go_enter Tryz.func26, Tryz.ntmps26
  go_wp2_with fail
  refine (show Calls _ _ _ _ _ from HC1.out).mono ?_
  rintro e w1 ⟨mn, fv, rfl, hbe1, _, hall⟩
  clear HC1
  obtain ⟨hmn, hfo, _⟩ := hall _ HRD.out
  have hfrd := hfo.rd
  obtain ⟨fo, fc, rfl, _, _, _⟩ := hfo.rd
  have HMN : Hid (mn = cd.mn) := hmn
  have hs1 := hbe1.size
  have HX1 : Hid _ := (hbe1.block w.heap.size (by simp)).trans (heap_alloc_new w _)
  have hw1 : w.heap.size < w1.heap.size := by simp at hs1; omega
  have HBW1 : Hid (Below w.heap.size w w1) := ((Below.refl _ w).alloc (Nat.le_refl _) _).trans (hbe1.mono (by simp))
  have hd1 : decide (bud < 0) = false := by simp; omega
  have hd2 : decide (2000 < bud) = false := by simp; omega
  have hd3 : decide (hp < 0) = false := by simp; omega
  have hd4 : decide (24000 < hp) = false := by simp; omega
  have HFR : Hid (FunsRd w1 w1.heap.size (.slice fo cd.fs.length fc) cd.fs) := hfrd
  obtain ⟨W3, hW3⟩ : ∃ W3, W3 = (w1.alloc (Obj.cells #[.int .i64 mn, .slice fo cd.fs.length fc] 57)).alloc (Obj.cells #[.slice fo cd.fs.length fc, .int .i64 bud, .int .i64 hp, .slice none 0 0, .slice none 0 0, .slice none 0 0, .slice none 0 0, .int .i64 0, .int .i64 0, .int .i64 0] 93) := ⟨_, rfl⟩
  have hA3 : Below w1.heap.size w1 W3 := by rw [hW3]; exact below_al2 _ _ _
  have hM3 : MP W3 (w1.heap.size + 1) (w1.heap.size + 1) (.slice fo cd.fs.length fc) ⟨cd.fs, bud, hp⟩ ⟨[], [], [], [], 0, 0, 0⟩ (fun _ => False) := by
    refine ⟨.slice none 0 0, .slice none 0 0, .slice none 0 0, .slice none 0 0, [], ?_, Nat.le_refl _, World.ownsRow_nil _ _ _ _, World.ownsRow_nil _ _ _ _, World.ownsRow_nil _ _ _ _, World.ownsRow_nil _ _ _ _, rfl, fun j hj => by simp at hj, fun k hk => hk.elim, fun k hk => hk.elim⟩
    rw [hW3]
    have := heap_alloc_new (w1.alloc (Obj.cells #[.int .i64 mn, .slice fo cd.fs.length fc] 57)) (Obj.cells #[.slice fo cd.fs.length fc, .int .i64 bud, .int .i64 hp, .slice none 0 0, .slice none 0 0, .slice none 0 0, .slice none 0 0, .int .i64 0, .int .i64 0, .int .i64 0] 93)
    rw [World.size_alloc] at this
    exact this
  have HC2 : Hid _ := mPush (3, mn) _ _ _ _ _ _ W3 hM3 (by simp)
  rw [hW3] at HC2 hA3
  have HA3 : Hid _ := hA3
  clear hM3 hW3 hA3 hall hfo hfrd hmn
  simp only at HC2
  go_wp2_with fail
  refine (show Calls _ _ _ _ _ from HC2.out).mono ?_
  rintro e w4 ⟨⟨v4, rfl⟩, hb4, hk4, hm4⟩
  clear HC2
  have HI : Hid (pushM (3, mn) ⟨[], [], [], [], 0, 0, 0⟩ = initM cd.mn) := by show _ = _; rw [HMN.out]; rfl
  rw [HI.out] at hm4
  have hs4 := hb4.size
  rw [World.size_alloc, World.size_alloc] at hs4
  have HM4 : Hid _ := hm4
  have HB4 : Hid (Below (w1.heap.size + 1) (w1.alloc (Obj.cells #[.int .i64 mn, .slice fo cd.fs.length fc] 57)) w4) := ((Below.refl _ _).alloc (by simp) _).trans hb4
  have HBW4 : Hid (Below w1.heap.size w1 w4) := ((Below.refl _ w1).alloc (Nat.le_refl _) _).trans (HB4.out.mono (by omega))
  clear hb4 hk4 hm4
  generalize hcf : (⟨cd.fs, bud, hp⟩ : Cf) = cf at *
  have HCF : Hid ((⟨cd.fs, bud, hp⟩ : Cf) = cf) := hcf
  clear hcf
  go_wp2_with fail
  go_loopg [] N (fun k wr => k ≤ N ∧ w1.heap.size + 1 < wr.heap.size ∧ Hid (Below w1.heap.size w1 wr) ∧ Hid (MP wr (w1.heap.size + 1) (w1.heap.size + 1) (.slice fo cd.fs.length fc) cf (iterM cf (N - k) (initM cd.mn)) (fun _ => False)))
  case atStart => exact ⟨Nat.le_refl _, by omega, HBW4.out, by rw [Nat.sub_self]; exact HM4.out⟩
  case round =>
    clear HM4 HBW4 HB4 hs4
    obtain ⟨hgk, hsz, HB, HM⟩ := hrel
    obtain ⟨sv, rv, nv, ev, vs, hm⟩ := HM.out
    have c8 := hm.c8
    by_cases ho : (iterM cf (N - gk) (initM cd.mn)).out = 0
    · have hk0 : gk ≠ 0 := by
        intro e
        rw [e, Nat.sub_zero] at ho
        exact HNO.out ho
      obtain ⟨k, rfl⟩ : ∃ k, gk = k + 1 := ⟨gk - 1, by omega⟩
      have hok := HOK.out (N - (k + 1)) (by omega) ho
      have HC : Hid _ := mMove w1.heap.size (w1.heap.size + 1) (w1.heap.size + 1) (.slice fo cd.fs.length fc) cf (iterM cf (N - (k + 1)) (initM cd.mn)) (fun _ => False) wr HM.out hok HCB.out (by omega) (by rw [← HCF.out]; exact FunsRd.keep HFR.out HB.out)
      have HE : Hid (moveM cf (iterM cf (N - (k + 1)) (initM cd.mn)) = iterM cf (N - k) (initM cd.mn)) := by
        rw [show N - k = (N - (k + 1)) + 1 by omega, iter_one cf _ _ ho]; rfl
      rw [HE.out] at HC
      rw [ho] at c8
      clear hm HM HE hok ho
      go_wp2_with fail
      refine (show Calls _ _ _ _ _ from HC.out).mono ?_
      rintro e w5 ⟨⟨v5, rfl⟩, hb5, hk5, hm5⟩
      have hs5 := hb5.size
      have HM5 : Hid _ := hm5
      have HB5 : Hid (Below w1.heap.size w1 w5) := HB.out.trans (hb5.mono (by omega))
      clear HC hb5 hk5 hm5 c8
      go_wp2_with fail
      go_roundg k
      case measure => omega
      case rel => exact ⟨by omega, by omega, HB5.out, HM5.out⟩
    · have HF : Hid (iterM cf N (initM cd.mn) = iterM cf (N - gk) (initM cd.mn)) := iter_out cf _ _ _ (by omega) ho
      have c7 := hm.c7
      have c9 := hm.c9
      have HF2 : Hid (iterM ⟨cd.fs, bud, hp⟩ N (initM cd.mn) = iterM cf (N - gk) (initM cd.mn)) := by have := HF.out; rw [← HCF.out] at this ⊢; exact this
      generalize iterM cf (N - gk) (initM cd.mn) = st at *
      have hob : (st.out == 0) = false := by simpa using ho
      have hX := (HB.out.block w.heap.size hw1).trans HX1.out
      have hwl : w.heap.size < wr.heap.size := by omega
      have r0 := cell_of_row wr w.heap.size 0 _ _ _ hX
      have r1 := cell_of_row wr w.heap.size 1 _ _ _ hX
      have r2 := cell_of_row wr w.heap.size 2 _ _ _ hX
      simp only [List.getElem?_toArray, List.getElem?_cons_succ, List.getElem?_cons_zero] at r0 r1 r2
      have z0 := frozen_of_row wr w.heap.size 0 _ _ hX
      have z1 := frozen_of_row wr w.heap.size 1 _ _ hX
      have z2 := frozen_of_row wr w.heap.size 2 _ _ hX
      have HXX : Hid _ := hX
      clear hm HM HF hX
      go_wp2_with fail
      obtain ⟨q0, q1, q2⟩ := cells_three wr w.heap.size _ _ _ _ (.int .i64 st.out) (.int .i64 st.val) (.int .i64 st.stp) HXX.out
      refine bodyPost_ret (v := .tuple #[.agg #[.int .i64 st.out, .int .i64 st.val, .int .i64 st.stp], .int .i64 0]) (by simp [results, Tryz.results26, go_sem, q0, q1, q2]) rfl ⟨by rw [HF2.out], ?_⟩
      exact (((HBW1.out.trans (HB.out.mono (by omega))).setCell (by exact Nat.le_refl _) _).setCell (by exact Nat.le_refl _) _).setCell (by exact Nat.le_refl _) _

end Go.Proofs.YtnndoagpbcacdaaGreatDoor
