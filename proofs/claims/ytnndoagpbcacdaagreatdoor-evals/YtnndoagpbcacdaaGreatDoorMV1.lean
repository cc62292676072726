import Derived.Test.YtnndoagpbcacdaaGreatDoorMM6
import Derived.Test.YtnndoagpbcacdaaGreatDoorMM13
import Derived.Test.YtnndoagpbcacdaaGreatDoorM15
import Derived.Test.YtnndoagpbcacdaaGreatDoorMI7
import Derived.Test.YtnndoagpbcacdaaGreatDoorMK5
import Derived.Test.YtnndoagpbcacdaaGreatDoorMX9
namespace Go.Proofs.YtnndoagpbcacdaaGreatDoor

/-! The loop of Collected, plain: in a heap of four nodes, in one of three. -/

def cc (k : Int) : List Tp := [⟨0, [[(3,1),(1,k)]]⟩, ⟨1, [[(4,4),(2,0),(1,0),(5,0),(3,1),(5,1)],[(3,2),(1,7)],[(4,1),(2,0),(1,1)]]⟩, ⟨2,[[(2,0)]]⟩]
theorem iter_add (c : Cf) : ∀ (a b : Nat) (s : Ms), iterM c (a + b) s = iterM c b (iterM c a s)
  | 0, b, s => by rw [Nat.zero_add]; rfl
  | a + 1, b, s => by
    rw [Nat.add_right_comm, iterM, iterM]
    by_cases h : s.out = 0
    · rw [if_pos h, if_pos h]; exact iter_add c a b _
    · rw [if_neg h, if_neg h]; cases b with
      | zero => rfl
      | succ b => rw [iterM, if_neg h]
set_option maxRecDepth 10000
/-- The loop's head: the argument is node p, less by one than node q's number m. -/
def LH (p _q : Int) (nds : List (Ln × Bool)) (stp : Int) : Ms := ⟨[(3,1),(5,p)], [], nds, [], stp, 0, 0⟩
def Hd (m : Int) (stp : Int) (s : Ms) : Prop := ∃ n2 n3 : Ln × Bool,
  s = LH 3 1 [n2, ([(1,m)],true), n3, ([(4,1),(5,1),(1,1)],false)] stp ∨
  s = LH 0 3 [([(4,1),(5,3),(1,1)],false), n2, n3, ([(1,m)],true)] stp ∨
  s = LH 1 0 [([(1,m)],true), ([(4,1),(5,0),(1,1)],false), n2, n3] stp ∨
  s = LH 2 1 [n2, ([(1,m)],true), ([(4,1),(5,1),(1,1)],false), n3] stp ∨
  s = LH 0 2 [([(4,1),(5,2),(1,1)],false), n2, ([(1,m)],true), n3] stp
theorem hd_step (k m stp : Int) (s : Ms) (h : Hd m stp s) (h1 : stp + 3 < 2000) (h2 : m ≤ 1000) (h3 : 1 < m) : Hd (m - 1) (stp + 3) (iterM ⟨cc k, 2000, 4⟩ 10 s) := by
  have e1 : ¬ (2000 ≤ stp) := by omega
  have e2 : ¬ (2000 ≤ stp + 1) := by omega
  have e3 : ¬ (2000 ≤ stp + 1 + 1) := by omega
  have e4 : ¬ (1000000000 < m - 1) := by omega
  have e5 : ¬ (m - 1 < -1000000000) := by omega
  have e6 : ¬ (m - 1 = 0) := by omega
  have e7 : (stp + 1 + 1 + 1) = stp + 3 := by omega
  obtain ⟨n2, n3, h⟩ := h
  rcases h with rfl | rfl | rfl | rfl | rfl
  · refine ⟨([(1,m)],true), ([(3,2),(1,7)],false), .inr (.inl ?_)⟩
    simp [LH, iterM, moveM, hdI, cc, tplM, argN, flr, callM, roomM, makeM, freeM, needM, rchA, rchF, rch, bfs, offs, List.replicate, popN, takeL, takeP, takeM, takeN, layF, instM, instA, putM, layM, wantM, askM, askM2, pushM, popM, waitM, dropM, delM, enterM, compM, calcM, calcV, chooseM, updM, actM, e1, e2, e3, e4, e5, e6, e7]
  · refine ⟨([(3,2),(1,7)],false), ([(1,m)],true), .inr (.inr (.inl ?_))⟩
    simp [LH, iterM, moveM, hdI, cc, tplM, argN, flr, callM, roomM, makeM, freeM, needM, rchA, rchF, rch, bfs, offs, List.replicate, popN, takeL, takeP, takeM, takeN, layF, instM, instA, putM, layM, wantM, askM, askM2, pushM, popM, waitM, dropM, delM, enterM, compM, calcM, calcV, chooseM, updM, actM, e1, e2, e3, e4, e5, e6, e7]
  · refine ⟨([(1,m)],true), ([(3,2),(1,7)],false), .inr (.inr (.inr (.inl ?_)))⟩
    simp [LH, iterM, moveM, hdI, cc, tplM, argN, flr, callM, roomM, makeM, freeM, needM, rchA, rchF, rch, bfs, offs, List.replicate, popN, takeL, takeP, takeM, takeN, layF, instM, instA, putM, layM, wantM, askM, askM2, pushM, popM, waitM, dropM, delM, enterM, compM, calcM, calcV, chooseM, updM, actM, e1, e2, e3, e4, e5, e6, e7]
  · refine ⟨([(1,m)],true), ([(3,2),(1,7)],false), .inr (.inr (.inr (.inr ?_)))⟩
    simp [LH, iterM, moveM, hdI, cc, tplM, argN, flr, callM, roomM, makeM, freeM, needM, rchA, rchF, rch, bfs, offs, List.replicate, popN, takeL, takeP, takeM, takeN, layF, instM, instA, putM, layM, wantM, askM, askM2, pushM, popM, waitM, dropM, delM, enterM, compM, calcM, calcV, chooseM, updM, actM, e1, e2, e3, e4, e5, e6, e7]
  · refine ⟨([(1,m)],true), ([(3,2),(1,7)],false), .inr (.inr (.inl ?_))⟩
    simp [LH, iterM, moveM, hdI, cc, tplM, argN, flr, callM, roomM, makeM, freeM, needM, rchA, rchF, rch, bfs, offs, List.replicate, popN, takeL, takeP, takeM, takeN, layF, instM, instA, putM, layM, wantM, askM, askM2, pushM, popM, waitM, dropM, delM, enterM, compM, calcM, calcV, chooseM, updM, actM, e1, e2, e3, e4, e5, e6, e7]
def Fin7 (stp : Int) (s : Ms) : Prop := s.out = 1 ∧ s.val = 7 ∧ s.stp = stp
theorem hd_end (k stp : Int) (s : Ms) (h : Hd 1 stp s) (h1 : stp + 4 ≤ 2000) : Fin7 (stp + 4) (iterM ⟨cc k, 2000, 4⟩ 14 s) := by
  have e1 : ¬ (2000 ≤ stp) := by omega
  have e2 : ¬ (2000 ≤ stp + 1) := by omega
  have e3 : ¬ (2000 ≤ stp + 1 + 1) := by omega
  have e4 : ¬ (2000 ≤ stp + 1 + 1 + 1) := by omega
  have e7 : (stp + 1 + 1 + 1 + 1) = stp + 4 := by omega
  obtain ⟨n2, n3, h⟩ := h
  rcases h with rfl | rfl | rfl | rfl | rfl <;>
  simp [Fin7, LH, iterM, moveM, hdI, cc, tplM, argN, flr, callM, roomM, makeM, freeM, needM, rchA, rchF, rch, bfs, offs, List.replicate, popN, takeL, takeP, takeM, takeN, layF, instM, instA, putM, layM, wantM, askM, askM2, pushM, popM, waitM, dropM, delM, enterM, compM, calcM, calcV, chooseM, updM, actM, finM, e1, e2, e3, e4, e7]
theorem hd_run (k : Int) : ∀ (j : Nat) (stp : Int) (s : Ms), Hd ((j : Int) + 1) stp s → j ≤ 900 → stp + 3 * j + 4 ≤ 2000 → Fin7 (stp + 3 * j + 4) (iterM ⟨cc k, 2000, 4⟩ (10 * j + 14) s)
  | 0, stp, s, h, _, h1 => by simpa using hd_end k stp s (by simpa using h) (by simpa using h1)
  | j + 1, stp, s, h, hj, h1 => by
    have h2 := hd_step k _ stp s h (by omega) (by omega) (by omega)
    have h3 := hd_run k j (stp + 3) _ (by have e : ((j + 1 : Nat) : Int) + 1 - 1 = (j : Int) + 1 := by omega
                                          rw [e] at h2; exact h2) (by omega) (by omega)
    rw [show 10 * (j + 1) + 14 = 10 + (10 * j + 14) by omega, iter_add]
    rw [show stp + 3 * ((j + 1 : Nat) : Int) + 4 = stp + 3 + 3 * (j : Int) + 4 by omega]
    exact h3
theorem col_first (k hp : Int) (hk : 1 ≤ k) (hk2 : k ≤ 1000) (hh : 3 ≤ hp) : iterM ⟨cc k, 2000, hp⟩ 5 (initM 0) = LH 1 1 [([(3,2),(1,7)],false), ([(4,1),(1,k),(1,1)],false)] 3 := by
  have e1 : ¬ hp < 0 := by omega
  have e2 : ¬ hp < 2 := by omega
  have e3 : 0 ≤ hp := by omega
  have e4 : 2 ≤ hp := by omega
  have e6 : ¬ (k = 0) := by omega
  simp [LH, initM, iterM, moveM, hdI, cc, tplM, argN, flr, callM, roomM, makeM, popN, takeL, takeP, takeM, takeN, layF, instM, instA, putM, layM, wantM, askM, askM2, pushM, popM, waitM, dropM, delM, compM, chooseM, e1, e2, e3, e4, e6]
theorem col_second (k : Int) (hk : 2 ≤ k) (hk2 : k ≤ 1000) : Hd (k - 1) 6 (iterM ⟨cc k, 2000, 4⟩ 9 (LH 1 1 [([(3,2),(1,7)],false), ([(4,1),(1,k),(1,1)],false)] 3)) := by
  have e4 : ¬ (1000000000 < k - 1) := by omega
  have e5 : ¬ (k - 1 < -1000000000) := by omega
  have e6 : ¬ (k - 1 = 0) := by omega
  refine ⟨([(3,2),(1,7)],false), ([(3,2),(1,7)],false), .inl ?_⟩
  simp [LH, iterM, moveM, hdI, cc, tplM, argN, flr, callM, roomM, makeM, popN, takeL, takeP, takeM, takeN, layF, instM, instA, putM, layM, wantM, askM, askM2, pushM, popM, waitM, dropM, delM, enterM, compM, calcM, calcV, chooseM, updM, actM, e4, e5, e6]
theorem col4 (k : Nat) (hk : k ≤ 665) : ∃ N, N ≤ 10000 ∧ Fin7 (3 * (k : Int) + 4) (iterM ⟨cc k, 2000, 4⟩ N (initM 0)) := by
  by_cases h0 : k = 0
  · subst h0; exact ⟨12, by omega, by unfold Fin7; decide +kernel⟩
  by_cases h1 : k = 1
  · subst h1; exact ⟨25, by omega, by unfold Fin7; decide +kernel⟩
  refine ⟨5 + (9 + (10 * (k - 2) + 14)), by omega, ?_⟩
  rw [iter_add, col_first k 4 (by omega) (by omega) (by omega), iter_add]
  have h := hd_run k (k - 2) 6 _ (by have := col_second k (by omega) (by omega); rw [show (k : Int) - 1 = ((k - 2 : Nat) : Int) + 1 by omega] at this; exact this) (by omega) (by omega)
  rw [show (6 : Int) + 3 * ((k - 2 : Nat) : Int) + 4 = 3 * (k : Int) + 4 by omega] at h
  exact h
theorem col3 (k : Nat) (hk : k ≤ 665) (h1 : 1 < k) : ∃ N, N ≤ 10000 ∧ (iterM ⟨cc k, 2000, 3⟩ N (initM 0)).out = 6 ∧ (iterM ⟨cc k, 2000, 3⟩ N (initM 0)).val = 0 ∧ (iterM ⟨cc k, 2000, 3⟩ N (initM 0)).stp = 6 := by
  have e4 : ¬ (1000000000 < (k : Int) - 1) := by omega
  have e5 : ¬ ((k : Int) - 1 < -1000000000) := by omega
  have e6 : ¬ ((k : Int) - 1 = 0) := by omega
  refine ⟨5 + 10, by omega, ?_⟩
  rw [iter_add, col_first k 3 (by omega) (by omega) (by omega)]
  simp [LH, iterM, moveM, hdI, cc, tplM, argN, flr, callM, roomM, makeM, freeM, needM, rchA, rchF, rch, bfs, offs, List.replicate, popN, takeL, takeP, takeM, takeN, layF, instM, instA, putM, layM, wantM, askM, askM2, pushM, popM, waitM, dropM, delM, enterM, compM, calcM, calcV, chooseM, updM, actM, e4, e5, e6]
theorem col3s (k : Nat) (hk : k ≤ 1) : ∃ N, N ≤ 10000 ∧ Fin7 (3 * (k : Int) + 4) (iterM ⟨cc k, 2000, 3⟩ N (initM 0)) := by
  have : k = 0 ∨ k = 1 := by omega
  rcases this with rfl | rfl
  · exact ⟨12, by omega, by unfold Fin7; decide +kernel⟩
  · exact ⟨25, by omega, by unfold Fin7; decide +kernel⟩

end Go.Proofs.YtnndoagpbcacdaaGreatDoor
namespace Go.Proofs.YtnndoagpbcacdaaGreatDoor

/-! Behind every move of good code the walk's bounds hold. -/
theorem free_val (s : Ms) : ∀ p ∈ (freeM s).fre, 0 ≤ p ∧ p < s.nds.length := by
  intro p hp
  unfold freeM at hp
  simp only at hp
  rcases (mem_offs _ _ _ _).1 hp with h | ⟨j, e, h⟩
  · simp at h
  · have := (List.getElem?_eq_some_iff.1 h).1
    rw [need_len] at this
    omega
theorem iv_init (c : Cf) (mn : Int) (h : 0 ≤ mn ∧ mn < c.fs.length) : Iv c (initM mn) ∧ Ct 0 (initM mn) := by
  refine ⟨⟨by simp [initM, flr], trivial, fun f hf => by simp [initM] at hf, fun x hx => ?_, fun n hn => by simp [initM] at hn, fun p hp => by simp [initM] at hp⟩, ⟨by simp [initM], by simp [initM], by simp [initM], by simp [initM], by simp [initM], by simp [initM]⟩⟩
  simp [initM] at hx
  subst hx
  exact ⟨fun e => by simp at e, fun _ => h, fun e => by simp at e⟩
theorem iv_iter (c : Cf) (mn : Int) (hmn : 0 ≤ mn ∧ mn < c.fs.length) (ht : ∀ t ∈ c.fs, TG c t) : ∀ i, (iterM c i (initM mn)).out = 0 → Iv c (iterM c i (initM mn)) ∧ Ct i (iterM c i (initM mn))
  | 0, _ => iv_init c mn hmn
  | i + 1, h => by
    have ho : (iterM c i (initM mn)).out = 0 := by
      apply Classical.byContradiction
      intro hn
      rw [iter_out c i (i + 1) _ (by omega) hn] at h
      exact hn h
    rw [iter_one c i _ ho] at h ⊢
    obtain ⟨h1, h2⟩ := iv_iter c mn hmn ht i ho
    exact iv_move h1 h2 ht free_len free_val h
theorem ok_of {c : Cf} {s : Ms} {i : Nat} (h : Iv c s) (hc : Ct i s) (hi : i ≤ 1000000) : Ok c s := by
  have ha := hc.a
  have hb := hc.b
  have hd := hc.d
  have he := hc.e
  have hg := hc.g
  have hne := h.ne
  refine ⟨⟨by omega, by omega, by omega, by omega, fun n hn => by have := (h.nd n hn).2.1; omega, by omega, hc.f, by omega, fun x hx e => (h.it x hx).1 e, fun f hf => (h.kd f hf).2⟩, fun e => ?_⟩
  cases hs : s.stk with
  | nil => rw [hs] at hne; simp at hne
  | cons t r =>
    rw [hs] at e
    exact (h.it t (by rw [hs]; simp)).2.1 e

end Go.Proofs.YtnndoagpbcacdaaGreatDoor
namespace Go.Proofs.YtnndoagpbcacdaaGreatDoor
open Go.RowKit

/-! redex.Run; Collected. -/
set_option maxHeartbeats 400000 in
theorem xRunOk (s : ByteArray) (bud hp : Int) (cd : Cd) (N : Nat) (w : World) (hs : s.size ≤ maxLen) (hrd : rdC s = some cd) (hre : rdE s = 0) (hb0 : 0 ≤ bud) (hb1 : bud ≤ 2000) (hh0 : 0 ≤ hp) (hh1 : hp ≤ 24000)
    (hmn : 0 ≤ cd.mn ∧ cd.mn < cd.fs.length) (htg : ∀ t ∈ cd.fs, TG ⟨cd.fs, bud, hp⟩ t) (hNb : N ≤ 1000000) (hN : (iterM ⟨cd.fs, bud, hp⟩ N (initM cd.mn)).out ≠ 0) :
    Calls Tryz.prog 16 #[.string s, .int .i64 bud, .int .i64 hp] w fun e w' => e = .returned (.tuple #[.agg #[.int .i64 (iterM ⟨cd.fs, bud, hp⟩ N (initM cd.mn)).out, .int .i64 (iterM ⟨cd.fs, bud, hp⟩ N (initM cd.mn)).val, .int .i64 (iterM ⟨cd.fs, bud, hp⟩ N (initM cd.mn)).stp], .int .i64 0]) ∧ Below w.heap.size w w' := by
  have HC : Hid _ := mRunOk s bud hp cd N (w.alloc (Obj.cells #[.int .i64 0, .int .i64 0, .int .i64 0] 31)) hs hrd hre hb0 hb1 hh0 hh1 ⟨hh0, by show hp ≤ _; omega, fun t ht => by have h := htg t ht; exact ⟨h.a0, by have := h.a1; omega, h.n0, by have := h.n1; omega, fun l hl => by have := (h.ln l hl).2.1; omega⟩⟩
    (fun i hi ho => by
      obtain ⟨h1, h2⟩ := iv_iter ⟨cd.fs, bud, hp⟩ cd.mn hmn htg i ho
      exact ok_of h1 h2 (by omega)) hN
  clear hN htg hmn hrd hre
  generalize iterM ⟨cd.fs, bud, hp⟩ N (initM cd.mn) = st at *
  go_enter Tryz.func16, Tryz.ntmps16
  go_wp2_with fail
  refine (show Calls _ _ _ _ _ from HC.out).mono ?_
  rintro e w1 ⟨rfl, hb1⟩
  clear HC
  have hX := (hb1.block w.heap.size (by simp)).trans (heap_alloc_new w _)
  have hwl : w.heap.size < w1.heap.size := (Array.getElem?_eq_some_iff.1 hX).1
  have r0 := cell_of_row w1 w.heap.size 0 _ _ _ hX
  have r1 := cell_of_row w1 w.heap.size 1 _ _ _ hX
  have r2 := cell_of_row w1 w.heap.size 2 _ _ _ hX
  simp only [List.getElem?_toArray, List.getElem?_cons_succ, List.getElem?_cons_zero] at r0 r1 r2
  have z0 := frozen_of_row w1 w.heap.size 0 _ _ hX
  have z1 := frozen_of_row w1 w.heap.size 1 _ _ hX
  have z2 := frozen_of_row w1 w.heap.size 2 _ _ hX
  have HXX : Hid _ := hX
  have HB1 : Hid (Below w.heap.size w w1) := (below_al w _).trans (hb1.mono (by simp))
  clear hX hb1
  go_wp2_with fail
  obtain ⟨q0, q1, q2⟩ := cells_three w1 w.heap.size _ _ _ _ (.int .i64 st.out) (.int .i64 st.val) (.int .i64 st.stp) HXX.out
  refine bodyPost_ret (v := .tuple #[.agg #[.int .i64 st.out, .int .i64 st.val, .int .i64 st.stp], .int .i64 0]) (by simp [results, Tryz.results16, go_sem, q0, q1, q2]) rfl ⟨rfl, ?_⟩
  exact ((HB1.out.setCell (by exact Nat.le_refl _) _).setCell (by exact Nat.le_refl _) _).setCell (by exact Nat.le_refl _) _

end Go.Proofs.YtnndoagpbcacdaaGreatDoor
namespace Go.Proofs.YtnndoagpbcacdaaGreatDoor
open Go.RowKit

/-! Run: what the machine without a freed node comes to. -/
theorem xRunI (s : ByteArray) (bud hp : Int) (cd : Cd) (w : World) (hs : s.size ≤ maxLen) (hrd : rdC s = some cd) (hre : rdE s = 0) (hb0 : 0 ≤ bud) (hb1 : bud ≤ 2000) (hh0 : 0 ≤ hp) (hh1 : hp ≤ 24000) (hg : goodC cd = true) :
    Calls Tryz.prog 16 #[.string s, .int .i64 bud, .int .i64 hp] w fun e w' => e = .returned (.tuple #[.agg #[.int .i64 (runI ⟨cd.fs, bud, hp⟩ cd.mn).out, .int .i64 (runI ⟨cd.fs, bud, hp⟩ cd.mn).val, .int .i64 (runI ⟨cd.fs, bud, hp⟩ cd.mn).stp], .int .i64 0]) ∧ Below w.heap.size w w' := by
  obtain ⟨hmn, htg, _, _⟩ := tgo_good (bud := bud) (hp := hp) hg
  obtain ⟨e1, e2, e3⟩ := run_same ⟨cd.fs, bud, hp⟩ cd.mn hmn (tg_of htg)
  have hend := run_ends ⟨cd.fs, bud, hp⟩ cd.mn hmn htg hb0 hb1
  have h := xRunOk s bud hp cd 276001 w hs hrd hre hb0 hb1 hh0 hh1 hmn (fun t ht => (htg t ht).tg) (by omega) (by rw [e1]; exact hend)
  rw [e1, e2, e3] at h
  exact h
theorem mRunI (s : ByteArray) (bud hp : Int) (cd : Cd) (w : World) (hs : s.size ≤ maxLen) (hrd : rdC s = some cd) (hre : rdE s = 0) (hb0 : 0 ≤ bud) (hb1 : bud ≤ 2000) (hh0 : 0 ≤ hp) (hh1 : hp ≤ 24000) (hg : goodC cd = true) :
    Calls Tryz.prog 26 #[.string s, .int .i64 bud, .int .i64 hp] w fun e w' => e = .returned (.tuple #[.agg #[.int .i64 (runI ⟨cd.fs, bud, hp⟩ cd.mn).out, .int .i64 (runI ⟨cd.fs, bud, hp⟩ cd.mn).val, .int .i64 (runI ⟨cd.fs, bud, hp⟩ cd.mn).stp], .int .i64 0]) ∧ Below w.heap.size w w' := by
  obtain ⟨hmn, htg, _, _⟩ := tgo_good (bud := bud) (hp := hp) hg
  obtain ⟨e1, e2, e3⟩ := run_same ⟨cd.fs, bud, hp⟩ cd.mn hmn (tg_of htg)
  have hend := run_ends ⟨cd.fs, bud, hp⟩ cd.mn hmn htg hb0 hb1
  have h := mRunOk s bud hp cd 276001 w hs hrd hre hb0 hb1 hh0 hh1 ⟨hh0, by show hp ≤ _; omega, fun t ht => by have h := (htg t ht).tg; exact ⟨h.a0, by have := h.a1; omega, h.n0, by have := h.n1; omega, fun l hl => by have := (h.ln l hl).2.1; omega⟩⟩
    (fun i hi ho => by
      obtain ⟨h1, h2⟩ := iv_iter ⟨cd.fs, bud, hp⟩ cd.mn hmn (tg_of htg) i ho
      exact ok_of h1 h2 (by omega)) (by rw [e1]; exact hend)
  rw [e1, e2, e3] at h
  exact h

end Go.Proofs.YtnndoagpbcacdaaGreatDoor
namespace Go.Proofs.YtnndoagpbcacdaaGreatDoor
open Go.RowKit

/-! Eval: what the machine without a freed node comes to. -/
/-- What is compiled is read as its code. -/
theorem cmp_read {s x : ByteArray} {cd : Cd} (hc : (chk s).2 = 0) (hcd : codeOf (cAll (toksF s 0)).ds = cd) (hg : goodC cd = true) (hx : x.data.toList = cmpL s) (hxs : x.size ≤ 20000) : rdC x = some cd ∧ rdE x = 0 := by
  have hl : cmpL s = cdL cd := by unfold cmpL; rw [if_pos hc, hcd]; unfold wrL; rw [if_pos hg]
  have hr := code_read cd hg x (hx.trans hl)
  have hb : ¬ 30000 < x.size := by omega
  exact ⟨by rw [rdC, if_neg hb, hr], by rw [rdE, if_neg hb, hr]; rfl⟩
theorem cmp_ok {s : ByteArray} {cd : Cd} (hc : (chk s).2 = 0) (hcd : codeOf (cAll (toksF s 0)).ds = cd) (hg : goodC cd = true) : cmpE s = 0 := by
  unfold cmpE; rw [if_pos hc, hcd]; unfold wrE; rw [if_pos hg]

set_option maxHeartbeats 1000000 in
theorem xEvalI (s : ByteArray) (bud : Int) (cd : Cd) (w : World) (hs : s.size ≤ maxLen) (ht : Tab w) (hc : (chk s).2 = 0) (hcd : codeOf (cAll (toksF s 0)).ds = cd) (hg : goodC cd = true) (hb0 : 0 ≤ bud) (hb1 : bud ≤ 2000) :
    Calls Tryz.prog 18 #[.string s, .int .i64 bud] w fun e w' => e = .returned (.tuple #[.agg #[.int .i64 (runI ⟨cd.fs, bud, 24000⟩ cd.mn).out, .int .i64 (runI ⟨cd.fs, bud, 24000⟩ cd.mn).val, .int .i64 (runI ⟨cd.fs, bud, 24000⟩ cd.mn).stp], .int .i64 0]) ∧ Below w.heap.size w w' := by
  have hal : Below w.heap.size w (w.alloc (Obj.cells #[.int .i64 0, .int .i64 0, .int .i64 0] 31)) := (Below.refl _ w).alloc (Nat.le_refl _) _
  have HC : Hid _ := sCompile s (w.alloc (Obj.cells #[.int .i64 0, .int .i64 0, .int .i64 0] 31)) hs (ht.below hal) (fun h => ⟨(prog_base s h).2.2.2, (prog_base s h).2.2.1⟩)
  rw [cmp_ok hc hcd hg] at HC
  have HRD : Hid (∀ x : ByteArray, x.data.toList = cmpL s → x.size ≤ 20000 → rdC x = some cd ∧ rdE x = 0) := fun x hx hxs => cmp_read hc hcd hg hx hxs
  have HG : Hid _ := hg
  generalize hst : runI ⟨cd.fs, bud, 24000⟩ cd.mn = st at *
  have HST : Hid (runI ⟨cd.fs, bud, 24000⟩ cd.mn = st) := hst
  clear hc hcd hg hst ht
  go_enter Tryz.func18, Tryz.ntmps18
  go_wp2_with fail
  refine (show Calls _ _ _ _ _ from HC.out).mono ?_
  rintro e w1 ⟨x, rfl, hx, hxs, hb1'⟩
  clear HC
  obtain ⟨hrd, hre⟩ := HRD.out x hx hxs
  have HC2 : Hid _ := mRunI x bud 24000 cd w1 (by unfold maxLen; omega) hrd hre hb0 hb1 (by omega) (by omega) HG.out
  rw [HST.out] at HC2
  have HX1 : Hid (w1.heap[w.heap.size]? = some (Obj.cells #[.int .i64 0, .int .i64 0, .int .i64 0] 31)) := (hb1'.block w.heap.size (by simp)).trans (heap_alloc_new w _)
  have HB1 : Hid (Below w.heap.size w w1) := hal.trans (hb1'.mono (by simp))
  clear hrd hre hx hb1' HRD hal
  go_wp2_with fail
  refine (show Calls _ _ _ _ _ from HC2.out).mono ?_
  rintro e w2 ⟨rfl, hb2⟩
  clear HC2
  have hw1 : w.heap.size < w1.heap.size := (Array.getElem?_eq_some_iff.1 HX1.out).1
  have hX := (hb2.block w.heap.size hw1).trans HX1.out
  have hwl : w.heap.size < w2.heap.size := (Array.getElem?_eq_some_iff.1 hX).1
  have r0 := cell_of_row w2 w.heap.size 0 _ _ _ hX
  have r1 := cell_of_row w2 w.heap.size 1 _ _ _ hX
  have r2 := cell_of_row w2 w.heap.size 2 _ _ _ hX
  simp only [List.getElem?_toArray, List.getElem?_cons_succ, List.getElem?_cons_zero] at r0 r1 r2
  have z0 := frozen_of_row w2 w.heap.size 0 _ _ hX
  have z1 := frozen_of_row w2 w.heap.size 1 _ _ hX
  have z2 := frozen_of_row w2 w.heap.size 2 _ _ hX
  have HXX : Hid _ := hX
  have HB2 : Hid (Below w.heap.size w w2) := HB1.out.trans (hb2.mono (by omega))
  clear hX hb2
  go_wp2_with fail
  obtain ⟨q0, q1, q2⟩ := cells_three w2 w.heap.size _ _ _ _ (.int .i64 st.out) (.int .i64 st.val) (.int .i64 st.stp) HXX.out
  refine bodyPost_ret (v := .tuple #[.agg #[.int .i64 st.out, .int .i64 st.val, .int .i64 st.stp], .int .i64 0]) (by simp [results, Tryz.results18, go_sem, q0, q1, q2]) rfl ⟨rfl, ?_⟩
  exact ((HB2.out.setCell (by exact Nat.le_refl _) _).setCell (by exact Nat.le_refl _) _).setCell (by exact Nat.le_refl _) _

end Go.Proofs.YtnndoagpbcacdaaGreatDoor
