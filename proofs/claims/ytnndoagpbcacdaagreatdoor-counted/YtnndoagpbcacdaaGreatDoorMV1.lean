import Derived.Test.YtnndoagpbcacdaaGreatDoorMM6
import Derived.Test.YtnndoagpbcacdaaGreatDoorK7
import Derived.Test.YtnndoagpbcacdaaGreatDoorMX9
import Derived.Test.YtnndoagpbcacdaaGreatDoorMM13
import Derived.Test.YtnndoagpbcacdaaGreatDoorM15
namespace Go.Proofs.YtnndoagpbcacdaaGreatDoor

/-! The loop of Collected, plain: in a heap of four nodes, in one of three. -/

def cc (k : Int) : List Tp := [⟨0, [[(3,1),(1,k)]]⟩, ⟨1, [[(4,4),(2,0),(1,0),(5,0),(3,1),(5,1)],[(3,2),(1,7)],[(4,1),(2,0),(1,1)]]⟩, ⟨2,[[(2,0)]]⟩]
theorem iter_add (c : Cf) : ∀ (a b : Nat) (s : Ms), iterM c (a + b) s = iterM c b (iterM c a s)
  | 0, b, s => by rw [Nat.zero_add]; rfl
  | a + 1, b, s => by
    rw [Nat.add_right_comm, iterM, iterM]
    by_cases h : s.out = 0
    · rw [if_pos h, if_pos h]; exact iter_add c a b _
    · rw [if_neg h, if_neg h]; cases b with
      | zero => rfl
      | succ b => rw [iterM, if_neg h]
set_option maxRecDepth 10000
/-- The loop's head: the argument is node p, less by one than node q's number m. -/
def LH (p _q : Int) (nds : List (Ln × Bool)) (stp : Int) : Ms := ⟨[(3,1),(5,p)], [], nds, [], stp, 0, 0⟩
def Hd (m : Int) (stp : Int) (s : Ms) : Prop := ∃ n2 n3 : Ln × Bool,
  s = LH 3 1 [n2, ([(1,m)],true), n3, ([(4,1),(5,1),(1,1)],false)] stp ∨
  s = LH 0 3 [([(4,1),(5,3),(1,1)],false), n2, n3, ([(1,m)],true)] stp ∨
  s = LH 1 0 [([(1,m)],true), ([(4,1),(5,0),(1,1)],false), n2, n3] stp ∨
  s = LH 2 1 [n2, ([(1,m)],true), ([(4,1),(5,1),(1,1)],false), n3] stp ∨
  s = LH 0 2 [([(4,1),(5,2),(1,1)],false), n2, ([(1,m)],true), n3] stp
theorem hd_step (k m stp : Int) (s : Ms) (h : Hd m stp s) (h1 : stp + 3 < 2000) (h2 : m ≤ 1000) (h3 : 1 < m) : Hd (m - 1) (stp + 3) (iterM ⟨cc k, 2000, 4⟩ 10 s) := by
  have e1 : ¬ (2000 ≤ stp) := by omega
  have e2 : ¬ (2000 ≤ stp + 1) := by omega
  have e3 : ¬ (2000 ≤ stp + 1 + 1) := by omega
  have e4 : ¬ (1000000000 < m - 1) := by omega
  have e5 : ¬ (m - 1 < -1000000000) := by omega
  have e6 : ¬ (m - 1 = 0) := by omega
  have e7 : (stp + 1 + 1 + 1) = stp + 3 := by omega
  obtain ⟨n2, n3, h⟩ := h
  rcases h with rfl | rfl | rfl | rfl | rfl
  · refine ⟨([(1,m)],true), ([(3,2),(1,7)],false), .inr (.inl ?_)⟩
    simp [LH, iterM, moveM, hdI, cc, tplM, argN, flr, callM, roomM, makeM, freeM, needM, rchA, rchF, rch, bfs, offs, List.replicate, popN, takeL, takeP, takeM, takeN, layF, instM, instA, putM, layM, wantM, askM, askM2, pushM, popM, waitM, dropM, delM, enterM, compM, calcM, calcV, chooseM, updM, actM, e1, e2, e3, e4, e5, e6, e7]
  · refine ⟨([(3,2),(1,7)],false), ([(1,m)],true), .inr (.inr (.inl ?_))⟩
    simp [LH, iterM, moveM, hdI, cc, tplM, argN, flr, callM, roomM, makeM, freeM, needM, rchA, rchF, rch, bfs, offs, List.replicate, popN, takeL, takeP, takeM, takeN, layF, instM, instA, putM, layM, wantM, askM, askM2, pushM, popM, waitM, dropM, delM, enterM, compM, calcM, calcV, chooseM, updM, actM, e1, e2, e3, e4, e5, e6, e7]
  · refine ⟨([(1,m)],true), ([(3,2),(1,7)],false), .inr (.inr (.inr (.inl ?_)))⟩
    simp [LH, iterM, moveM, hdI, cc, tplM, argN, flr, callM, roomM, makeM, freeM, needM, rchA, rchF, rch, bfs, offs, List.replicate, popN, takeL, takeP, takeM, takeN, layF, instM, instA, putM, layM, wantM, askM, askM2, pushM, popM, waitM, dropM, delM, enterM, compM, calcM, calcV, chooseM, updM, actM, e1, e2, e3, e4, e5, e6, e7]
  · refine ⟨([(1,m)],true), ([(3,2),(1,7)],false), .inr (.inr (.inr (.inr ?_)))⟩
    simp [LH, iterM, moveM, hdI, cc, tplM, argN, flr, callM, roomM, makeM, freeM, needM, rchA, rchF, rch, bfs, offs, List.replicate, popN, takeL, takeP, takeM, takeN, layF, instM, instA, putM, layM, wantM, askM, askM2, pushM, popM, waitM, dropM, delM, enterM, compM, calcM, calcV, chooseM, updM, actM, e1, e2, e3, e4, e5, e6, e7]
  · refine ⟨([(1,m)],true), ([(3,2),(1,7)],false), .inr (.inr (.inl ?_))⟩
    simp [LH, iterM, moveM, hdI, cc, tplM, argN, flr, callM, roomM, makeM, freeM, needM, rchA, rchF, rch, bfs, offs, List.replicate, popN, takeL, takeP, takeM, takeN, layF, instM, instA, putM, layM, wantM, askM, askM2, pushM, popM, waitM, dropM, delM, enterM, compM, calcM, calcV, chooseM, updM, actM, e1, e2, e3, e4, e5, e6, e7]
def Fin7 (stp : Int) (s : Ms) : Prop := s.out = 1 ∧ s.val = 7 ∧ s.stp = stp
theorem hd_end (k stp : Int) (s : Ms) (h : Hd 1 stp s) (h1 : stp + 4 ≤ 2000) : Fin7 (stp + 4) (iterM ⟨cc k, 2000, 4⟩ 14 s) := by
  have e1 : ¬ (2000 ≤ stp) := by omega
  have e2 : ¬ (2000 ≤ stp + 1) := by omega
  have e3 : ¬ (2000 ≤ stp + 1 + 1) := by omega
  have e4 : ¬ (2000 ≤ stp + 1 + 1 + 1) := by omega
  have e7 : (stp + 1 + 1 + 1 + 1) = stp + 4 := by omega
  obtain ⟨n2, n3, h⟩ := h
  rcases h with rfl | rfl | rfl | rfl | rfl <;>
  simp [Fin7, LH, iterM, moveM, hdI, cc, tplM, argN, flr, callM, roomM, makeM, freeM, needM, rchA, rchF, rch, bfs, offs, List.replicate, popN, takeL, takeP, takeM, takeN, layF, instM, instA, putM, layM, wantM, askM, askM2, pushM, popM, waitM, dropM, delM, enterM, compM, calcM, calcV, chooseM, updM, actM, finM, e1, e2, e3, e4, e7]
theorem hd_run (k : Int) : ∀ (j : Nat) (stp : Int) (s : Ms), Hd ((j : Int) + 1) stp s → j ≤ 900 → stp + 3 * j + 4 ≤ 2000 → Fin7 (stp + 3 * j + 4) (iterM ⟨cc k, 2000, 4⟩ (10 * j + 14) s)
  | 0, stp, s, h, _, h1 => by simpa using hd_end k stp s (by simpa using h) (by simpa using h1)
  | j + 1, stp, s, h, hj, h1 => by
    have h2 := hd_step k _ stp s h (by omega) (by omega) (by omega)
    have h3 := hd_run k j (stp + 3) _ (by have e : ((j + 1 : Nat) : Int) + 1 - 1 = (j : Int) + 1 := by omega
                                          rw [e] at h2; exact h2) (by omega) (by omega)
    rw [show 10 * (j + 1) + 14 = 10 + (10 * j + 14) by omega, iter_add]
    rw [show stp + 3 * ((j + 1 : Nat) : Int) + 4 = stp + 3 + 3 * (j : Int) + 4 by omega]
    exact h3
theorem col_first (k hp : Int) (hk : 1 ≤ k) (hk2 : k ≤ 1000) (hh : 3 ≤ hp) : iterM ⟨cc k, 2000, hp⟩ 5 (initM 0) = LH 1 1 [([(3,2),(1,7)],false), ([(4,1),(1,k),(1,1)],false)] 3 := by
  have e1 : ¬ hp < 0 := by omega
  have e2 : ¬ hp < 2 := by omega
  have e3 : 0 ≤ hp := by omega
  have e4 : 2 ≤ hp := by omega
  have e6 : ¬ (k = 0) := by omega
  simp [LH, initM, iterM, moveM, hdI, cc, tplM, argN, flr, callM, roomM, makeM, popN, takeL, takeP, takeM, takeN, layF, instM, instA, putM, layM, wantM, askM, askM2, pushM, popM, waitM, dropM, delM, compM, chooseM, e1, e2, e3, e4, e6]
theorem col_second (k : Int) (hk : 2 ≤ k) (hk2 : k ≤ 1000) : Hd (k - 1) 6 (iterM ⟨cc k, 2000, 4⟩ 9 (LH 1 1 [([(3,2),(1,7)],false), ([(4,1),(1,k),(1,1)],false)] 3)) := by
  have e4 : ¬ (1000000000 < k - 1) := by omega
  have e5 : ¬ (k - 1 < -1000000000) := by omega
  have e6 : ¬ (k - 1 = 0) := by omega
  refine ⟨([(3,2),(1,7)],false), ([(3,2),(1,7)],false), .inl ?_⟩
  simp [LH, iterM, moveM, hdI, cc, tplM, argN, flr, callM, roomM, makeM, popN, takeL, takeP, takeM, takeN, layF, instM, instA, putM, layM, wantM, askM, askM2, pushM, popM, waitM, dropM, delM, enterM, compM, calcM, calcV, chooseM, updM, actM, e4, e5, e6]
theorem col4 (k : Nat) (hk : k ≤ 665) : ∃ N, N ≤ 10000 ∧ Fin7 (3 * (k : Int) + 4) (iterM ⟨cc k, 2000, 4⟩ N (initM 0)) := by
  by_cases h0 : k = 0
  · subst h0; exact ⟨12, by omega, by unfold Fin7; decide +kernel⟩
  by_cases h1 : k = 1
  · subst h1; exact ⟨25, by omega, by unfold Fin7; decide +kernel⟩
  refine ⟨5 + (9 + (10 * (k - 2) + 14)), by omega, ?_⟩
  rw [iter_add, col_first k 4 (by omega) (by omega) (by omega), iter_add]
  have h := hd_run k (k - 2) 6 _ (by have := col_second k (by omega) (by omega); rw [show (k : Int) - 1 = ((k - 2 : Nat) : Int) + 1 by omega] at this; exact this) (by omega) (by omega)
  rw [show (6 : Int) + 3 * ((k - 2 : Nat) : Int) + 4 = 3 * (k : Int) + 4 by omega] at h
  exact h
theorem col3 (k : Nat) (hk : k ≤ 665) (h1 : 1 < k) : ∃ N, N ≤ 10000 ∧ (iterM ⟨cc k, 2000, 3⟩ N (initM 0)).out = 6 ∧ (iterM ⟨cc k, 2000, 3⟩ N (initM 0)).val = 0 ∧ (iterM ⟨cc k, 2000, 3⟩ N (initM 0)).stp = 6 := by
  have e4 : ¬ (1000000000 < (k : Int) - 1) := by omega
  have e5 : ¬ ((k : Int) - 1 < -1000000000) := by omega
  have e6 : ¬ ((k : Int) - 1 = 0) := by omega
  refine ⟨5 + 10, by omega, ?_⟩
  rw [iter_add, col_first k 3 (by omega) (by omega) (by omega)]
  simp [LH, iterM, moveM, hdI, cc, tplM, argN, flr, callM, roomM, makeM, freeM, needM, rchA, rchF, rch, bfs, offs, List.replicate, popN, takeL, takeP, takeM, takeN, layF, instM, instA, putM, layM, wantM, askM, askM2, pushM, popM, waitM, dropM, delM, enterM, compM, calcM, calcV, chooseM, updM, actM, e4, e5, e6]
theorem col3s (k : Nat) (hk : k ≤ 1) : ∃ N, N ≤ 10000 ∧ Fin7 (3 * (k : Int) + 4) (iterM ⟨cc k, 2000, 3⟩ N (initM 0)) := by
  have : k = 0 ∨ k = 1 := by omega
  rcases this with rfl | rfl
  · exact ⟨12, by omega, by unfold Fin7; decide +kernel⟩
  · exact ⟨25, by omega, by unfold Fin7; decide +kernel⟩

end Go.Proofs.YtnndoagpbcacdaaGreatDoor
namespace Go.Proofs.YtnndoagpbcacdaaGreatDoor

/-! Collected's text and its code. -/
def colA : List UInt8 := [109, 97, 105, 110, 32, 61, 32, 108, 32]
def colB : List UInt8 := [59, 32, 108, 32, 110, 32, 61, 32, 63, 32, 110, 32, 48, 32, 40, 107, 32, 55, 41, 32, 108, 32, 40, 45, 32, 110, 32, 49, 41, 59, 32, 107, 32, 120, 32, 121, 32, 61, 32, 120, 59]
def colT (k : Nat) : ByteArray := ⟨(colA ++ decL k ++ colB).toArray⟩
def tpP (t : Tp) : Int × List Ln := (t.ar, t.ls)
theorem tpP_inj {a b : List Tp} (h : a.map tpP = b.map tpP) : a = b := by
  induction a generalizing b with
  | nil => cases b with
    | nil => rfl
    | cons y b => simp at h
  | cons x a ih => cases b with
    | nil => simp at h
    | cons y b =>
      simp only [List.map_cons, List.cons.injEq] at h
      obtain ⟨h1, h2⟩ := h
      rw [ih h2]
      cases x
      cases y
      simp only [tpP, Prod.mk.injEq] at h1
      rw [h1.1, h1.2]
/-! Tokens, counted down. -/
def endN : Nat → ByteArray → Nat → Nat → Nat
  | 0, _, _, e => e
  | f + 1, s, i, e => if e < s.size then (if goesB (bt s i) (bt s e) then endN f s i (e + 1) else e) else e
theorem endN_eq (s : ByteArray) (i : Nat) : ∀ (f e : Nat), s.size - e ≤ f → endF s i e = endN f s i e
  | 0, e, h => by rw [endF, if_neg (by omega)]; rfl
  | f + 1, e, h => by
    rw [endF, endN]
    split
    · split
      · exact endN_eq s i f (e + 1) (by omega)
      · rfl
    · rfl
def toksN : Nat → ByteArray → Nat → List Tk
  | 0, _, _ => []
  | f + 1, s, i => if i < s.size then (if isB (bt s i) then [] else [⟨i, s.extract i (endN 20 s i (i + 1))⟩]) ++ toksN f s (endN 20 s i (i + 1)) else []
def shortN : Nat → ByteArray → Nat → Bool
  | 0, _, _ => false
  | f + 1, s, i => if i < s.size then decide (endN 20 s i (i + 1) = endN s.size s i (i + 1)) && shortN f s (endN 20 s i (i + 1)) else true
theorem toksN_eq (s : ByteArray) : ∀ (f i : Nat), shortN f s i = true → toksF s i = toksN f s i
  | 0, i, h => by simp [shortN] at h
  | f + 1, i, h => by
    rw [shortN] at h
    rw [toksF, toksN]
    by_cases hi : i < s.size
    · rw [if_pos hi] at h ⊢
      rw [if_pos hi]
      simp only [Bool.and_eq_true, decide_eq_true_eq] at h
      rw [endN_eq s i s.size (i + 1) (by omega), ← h.1, toksN_eq s f _ h.2]
    · rw [if_neg hi, if_neg hi]
def colOk (k : Nat) : Bool := shortN 60 (colT k) 0 && (decide ((colT k).size ≤ 1000) && (decide ((gAll (colT k).size g0 (toksN 60 (colT k) 0)).2 = 0) && (decide ((orErr (twiceF (cAll (toksN 60 (colT k) 0)).ds 0 (cAll (toksN 60 (colT k) 0)).ds) 4).2 = 0) && (decide ((orErr (unkF (cAll (toksN 60 (colT k) 0)).ds (cAll (toksN 60 (colT k) 0)).ds) 5).2 = 0) && (decide (mainE (cAll (toksN 60 (colT k) 0)).ds = 0) && (decide ((codeOf (cAll (toksN 60 (colT k) 0)).ds).mn = 0) && decide ((codeOf (cAll (toksN 60 (colT k) 0)).ds).fs.map tpP = (cc k).map tpP)))))))
theorem col_ok {k : Nat} (h : colOk k = true) : (chk (colT k)).2 = 0 ∧ codeOf (cAll (toksF (colT k) 0)).ds = ⟨0, cc k⟩ := by
  simp only [colOk, Bool.and_eq_true, decide_eq_true_eq] at h
  obtain ⟨h0, h1, h2, h3, h4, h5, h6, h7⟩ := h
  have e := toksN_eq (colT k) 60 0 h0
  rw [← e] at h2 h3 h4 h5 h6 h7
  refine ⟨?_, ?_⟩
  · unfold chk
    rw [if_neg (by omega), if_neg (by rw [h2]; simp), if_neg (by rw [h3]; simp), if_neg (by rw [h4]; simp)]
    exact h5
  · have h8 := tpP_inj h7
    generalize codeOf (cAll (toksF (colT k) 0)).ds = x at *
    cases x
    simp only at h6 h8
    rw [h6, h8]

end Go.Proofs.YtnndoagpbcacdaaGreatDoor
namespace Go.Proofs.YtnndoagpbcacdaaGreatDoor

/-! Behind every move of good code the walk's bounds hold. -/
theorem free_val (s : Ms) : ∀ p ∈ (freeM s).fre, 0 ≤ p ∧ p < s.nds.length := by
  intro p hp
  unfold freeM at hp
  simp only at hp
  rcases (mem_offs _ _ _ _).1 hp with h | ⟨j, e, h⟩
  · simp at h
  · have := (List.getElem?_eq_some_iff.1 h).1
    rw [need_len] at this
    omega
theorem iv_init (c : Cf) (mn : Int) (h : 0 ≤ mn ∧ mn < c.fs.length) : Iv c (initM mn) ∧ Ct 0 (initM mn) := by
  refine ⟨⟨by simp [initM, flr], trivial, fun f hf => by simp [initM] at hf, fun x hx => ?_, fun n hn => by simp [initM] at hn, fun p hp => by simp [initM] at hp⟩, ⟨by simp [initM], by simp [initM], by simp [initM], by simp [initM], by simp [initM], by simp [initM]⟩⟩
  simp [initM] at hx
  subst hx
  exact ⟨fun e => by simp at e, fun _ => h, fun e => by simp at e⟩
theorem iv_iter (c : Cf) (mn : Int) (hmn : 0 ≤ mn ∧ mn < c.fs.length) (ht : ∀ t ∈ c.fs, TG c t) : ∀ i, (iterM c i (initM mn)).out = 0 → Iv c (iterM c i (initM mn)) ∧ Ct i (iterM c i (initM mn))
  | 0, _ => iv_init c mn hmn
  | i + 1, h => by
    have ho : (iterM c i (initM mn)).out = 0 := by
      apply Classical.byContradiction
      intro hn
      rw [iter_out c i (i + 1) _ (by omega) hn] at h
      exact hn h
    rw [iter_one c i _ ho] at h ⊢
    obtain ⟨h1, h2⟩ := iv_iter c mn hmn ht i ho
    exact iv_move h1 h2 ht free_len free_val h
theorem ok_of {c : Cf} {s : Ms} {i : Nat} (h : Iv c s) (hc : Ct i s) (hi : i ≤ 1000000) : Ok c s := by
  have ha := hc.a
  have hb := hc.b
  have hd := hc.d
  have he := hc.e
  have hg := hc.g
  have hne := h.ne
  refine ⟨⟨by omega, by omega, by omega, by omega, fun n hn => by have := (h.nd n hn).2.1; omega, by omega, hc.f, by omega, fun x hx e => (h.it x hx).1 e, fun f hf => (h.kd f hf).2⟩, fun e => ?_⟩
  cases hs : s.stk with
  | nil => rw [hs] at hne; simp at hne
  | cons t r =>
    rw [hs] at e
    exact (h.it t (by rw [hs]; simp)).2.1 e

end Go.Proofs.YtnndoagpbcacdaaGreatDoor
