import Derived.Test.YtnndoagpbcacdaaGreatDoorMG12
import Derived.Test.YtnndoagpbcacdaaGreatDoorMG15
import Derived.Test.YtnndoagpbcacdaaGreatDoorMI7
namespace Go.Proofs.YtnndoagpbcacdaaGreatDoor

/-! Sums, as numbers grow into them: the tree, what it is worth, whether all is within the bound, the steps. -/
structure Sm (d : Nat) where
  t : Ex d
  wo : Int
  ok : Bool
  st : Nat
def smL (d n : Nat) : Sm d := ⟨wE d (1, (n : Int)), n, true, 0⟩
def smN {d : Nat} (p : Int) (a : Sm d) : Sm (d + 1) := ⟨aE (4, p) [a.t, wE d (1, 1)], 0, false, a.st⟩
def smB {d : Nat} (p : Int) (a b : Sm d) : Sm (d + 1) :=
  if b.ok then ⟨aE (4, p) [a.t, b.t], calcV p a.wo b.wo, !overV (calcV p a.wo b.wo), a.st + b.st + 1⟩ else ⟨aE (4, p) [a.t, b.t], 0, false, a.st + b.st⟩
def grL (d : Nat) (l : List Int) : Sm d × List Int := (smL d (nxF 1000000 l).1, (nxF 1000000 l).2)
def grF (e : Nat) : (dp : Nat) → List Int → Sm (e + dp) × List Int
  | 0, l => grL e (nxF 4 l).2
  | dp + 1, l => if (nxF 4 l).1 = 0 then grL (e + dp + 1) (nxF 4 l).2
    else if (grF e dp (nxF 4 l).2).1.ok then (smB ((nxF 4 l).1 - 1) (grF e dp (nxF 4 l).2).1 (grF e dp (grF e dp (nxF 4 l).2).2).1, (grF e dp (grF e dp (nxF 4 l).2).2).2)
    else (smN ((nxF 4 l).1 - 1) (grF e dp (nxF 4 l).2).1, (grF e dp (nxF 4 l).2).2)
def n0 : Nms := ⟨[], []⟩
/-- What the machine does with a sum. -/
def Wk {d : Nat} (x : Sm d) : Prop := ∀ (c : Cf) (s : Im) (k : Nat), s.out = 0 → s.cur = [partE d x.t k] → (∀ i ln, (linesE d x.t k)[i]? = some ln → s.nds[k + i]? = some (ln, false)) → s.stp + x.st ≤ c.bud →
  ∃ m T, m ≤ 5 * unE d x.t ∧ iterI c m s = T ∧ T.stp = s.stp + x.st ∧ T.val = s.val ∧ (x.ok = true → T.out = 0 ∧ T.cur = [(1, x.wo)] ∧ T.ks = s.ks ∧ ∀ j, (j < k ∨ k + unE d x.t ≤ j) → T.nds[j]? = s.nds[j]?) ∧ (x.ok = false → T.out = 4)
theorem wk_leaf (d n : Nat) : Wk (smL d n) := by
  intro c s k ho hc hn hb
  refine ⟨0, s, by omega, rfl, by simp [smL], rfl, fun _ => ⟨ho, ?_, rfl, fun _ _ => rfl⟩, fun h => by simp [smL] at h⟩
  rw [hc]; simp [smL, part_w]
theorem iterI_go {c : Cf} {s s' : Im} (ho : s.out = 0) (h : moveI c s = s') (m : Nat) : iterI c (m + 1) s = iterI c m s' := by rw [iterI, if_pos ho, h]
theorem nd_at {s : Im} {k : Nat} {x : Ln × Bool} (h : s.nds[k]? = some x) : ndI s (k : Int) = x := by unfold ndI; rw [Int.toNat_natCast, h]; rfl
theorem mv_open {c : Cf} {s : Im} {k : Nat} {ln : Ln} (hc : s.cur = [(5, (k : Int))]) (hn : s.nds[k]? = some (ln, false)) : moveI c s = { s with cur := ln, ks := ⟨1, k, 0, 0, []⟩ :: s.ks } := by
  unfold moveI
  simp [hc, hdI, nd_at hn]
theorem mv_ask {c : Cf} {s : Im} {p : Int} {x y : Int × Int} {r : Ln} (hc : s.cur = (4, p) :: x :: y :: r) (hp : wantM p ≤ ((x :: y :: r).length : Int)) : moveI c s = { s with cur := [x], ks := ⟨2, 0, p, 0, y :: r⟩ :: s.ks } := by
  unfold moveI
  simp only [hc, hdI, List.headD_cons, List.tail_cons]
  rw [if_neg (by decide), if_neg (by decide), if_pos trivial, if_pos hp]
theorem mv_num {c : Cf} {s : Im} {v : Int} (hc : s.cur = [(1, v)]) : moveI c s = delI c (1, v) s := by
  unfold moveI
  simp [hc, hdI]
theorem mv_two {c : Cf} {s : Im} {v p : Int} {y : Int × Int} {r : Ln} {ks : List Kf} (hc : s.cur = [(1, v)]) (hk : s.ks = ⟨2, 0, p, 0, y :: r⟩ :: ks) : moveI c s = { s with cur := [y], ks := ⟨3, 0, p, v, r⟩ :: ks } := by
  rw [mv_num hc]; unfold delI; rw [hk]; simp [hdI]
theorem mv_calc {c : Cf} {s : Im} {v x p : Int} {r : Ln} {ks : List Kf} (hc : s.cur = [(1, v)]) (hk : s.ks = ⟨3, 0, p, x, r⟩ :: ks) (hp : p ≠ 3 ∧ p ≠ 4) (hb : s.stp < c.bud) :
    moveI c s = if overV (calcV p x v) then { s with stp := s.stp + 1, ks := ks, cur := r, out := 4 } else { s with stp := s.stp + 1, ks := ks, cur := (1, calcV p x v) :: r } := by
  rw [mv_num hc]; unfold delI; rw [hk]
  simp only
  rw [if_neg (by decide), if_neg (by simp), if_neg (by decide), if_neg (by omega), if_neg (by omega)]
theorem mv_upd {c : Cf} {s : Im} {v : Int} {nd : Int} {ks : List Kf} (hc : s.cur = [(1, v)]) (hk : s.ks = ⟨1, nd, 0, 0, []⟩ :: ks) : moveI c s = { s with cur := [(1, v)], ks := ks, nds := s.nds.set nd.toNat ([(1, v)], true) } := by
  rw [mv_num hc]; unfold delI; rw [hk]; simp [hc]
section
variable {d : Nat} {p : Int} {a b : Sm d}
theorem lines_two (t u : Ex d) (k : Nat) : linesE (d + 1) (aE (4, p) [t, u]) k = [(4, p), partE d t (k + 1), partE d u (k + 1 + unE d t)] :: (linesE d t (k + 1) ++ linesE d u (k + 1 + unE d t)) := by
  rw [lines_a, ownA_c, ownA_c, ownA_n, restA_c, restA_c, restA_n, List.append_nil]
theorem un_two (t u : Ex d) : unE (d + 1) (aE (4, p) [t, u]) = 1 + (unE d t + unE d u) := by rw [unE_a, unA_c, unA_c, unA_n]; omega
/-- The first of two is worked out. -/
theorem wk_first (ha : Wk a) (hp : p ≠ 3 ∧ p ≠ 4) (u : Ex d) {c : Cf} {s : Im} {k : Nat} (ho : s.out = 0) (hc : s.cur = [(5, (k : Int))]) (hn : ∀ i ln, (linesE (d + 1) (aE (4, p) [a.t, u]) k)[i]? = some ln → s.nds[k + i]? = some (ln, false)) (hb : s.stp + a.st ≤ c.bud) :
    ∃ m T, m ≤ 2 + 5 * unE d a.t ∧ iterI c m s = T ∧ T.stp = s.stp + a.st ∧ T.val = s.val ∧ (a.ok = true → T.out = 0 ∧ T.cur = [(1, a.wo)] ∧ T.ks = ⟨2, 0, p, 0, [partE d u (k + 1 + unE d a.t)]⟩ :: ⟨1, k, 0, 0, []⟩ :: s.ks ∧ ∀ j, (j < k + 1 ∨ k + 1 + unE d a.t ≤ j) → T.nds[j]? = s.nds[j]?) ∧ (a.ok = false → T.out = 4) := by
  rw [lines_two] at hn
  have h0 := hn 0 _ rfl
  have m1 : moveI c s = { s with cur := [(4, p), partE d a.t (k + 1), partE d u (k + 1 + unE d a.t)], ks := ⟨1, k, 0, 0, []⟩ :: s.ks } := mv_open hc h0
  have hw : wantM p = 2 := by unfold wantM; rw [if_neg (by omega)]
  have m2 := mv_ask (c := c) (s := { s with cur := [(4, p), partE d a.t (k + 1), partE d u (k + 1 + unE d a.t)], ks := ⟨1, k, 0, 0, []⟩ :: s.ks }) (p := p) (x := partE d a.t (k + 1)) (y := partE d u (k + 1 + unE d a.t)) (r := []) rfl (by rw [hw]; simp)
  obtain ⟨m, T, h1, h2, h3, h4, h5, h6⟩ := ha c { s with cur := [partE d a.t (k + 1)], ks := ⟨2, 0, p, 0, [partE d u (k + 1 + unE d a.t)]⟩ :: ⟨1, k, 0, 0, []⟩ :: s.ks } (k + 1) ho rfl (fun i ln hi => by
    have := hn (i + 1) ln (by rw [List.getElem?_cons_succ, List.getElem?_append_left (List.getElem?_eq_some_iff.1 hi).1]; exact hi)
    rw [show k + 1 + i = k + (i + 1) by omega]; exact this) hb
  refine ⟨m + 2, T, by omega, ?_, h3, h4, h5, h6⟩
  rw [iterI_go ho m1, iterI_go (s := { s with cur := [(4, p), partE d a.t (k + 1), partE d u (k + 1 + unE d a.t)], ks := ⟨1, k, 0, 0, []⟩ :: s.ks }) ho m2]
  exact h2
theorem wk_none (ha : Wk a) (hp : p ≠ 3 ∧ p ≠ 4) (hk : a.ok = false) : Wk (smN p a) := by
  intro c s k ho hc hn hb
  obtain ⟨m, T, h1, h2, h3, h4, h5, h6⟩ := wk_first ha hp (wE d (1, 1)) ho hc hn hb
  refine ⟨m, T, ?_, h2, h3, h4, fun h => by simp [smN] at h, fun _ => h6 hk⟩
  show m ≤ 5 * unE (d + 1) (aE (4, p) [a.t, wE d (1, 1)])
  rw [un_two]; omega
theorem wk_both (ha : Wk a) (hb' : Wk b) (hp : p ≠ 3 ∧ p ≠ 4) (hk : a.ok = true) : Wk (smB p a b) := by
  have ht : (smB p a b).t = aE (4, p) [a.t, b.t] := by unfold smB; split <;> rfl
  intro c s k ho hc hn hb
  rw [ht] at hc hn ⊢
  have hst : a.st + b.st ≤ (smB p a b).st := by unfold smB; split <;> simp
  obtain ⟨m, T, h1, h2, h3, h4, h5, _⟩ := wk_first (c := c) ha hp b.t ho hc hn (by omega)
  obtain ⟨q1, q2, q3, q4⟩ := h5 hk
  rw [lines_two] at hn
  have m3 := mv_two (c := c) (s := T) q2 q3
  obtain ⟨m', U, r1, r2, r3, r4, r5, r6⟩ := hb' c { T with cur := [partE d b.t (k + 1 + unE d a.t)], ks := ⟨3, 0, p, a.wo, []⟩ :: ⟨1, k, 0, 0, []⟩ :: s.ks } (k + 1 + unE d a.t) q1 rfl (fun i ln hi => by
    have hll := (lines_len d).1 a.t (k + 1)
    have := hn (unE d a.t + (i + 1)) ln (by rw [show unE d a.t + (i + 1) = unE d a.t + i + 1 by omega, List.getElem?_cons_succ, List.getElem?_append_right (by omega), hll, show unE d a.t + i - unE d a.t = i by omega]; exact hi)
    show T.nds[_]? = _
    rw [q4 _ (by omega), show k + 1 + unE d a.t + i = k + (unE d a.t + (i + 1)) by omega]; exact this) (by show T.stp + _ ≤ _; omega)
  have hrun : iterI c (m + (m' + 1)) s = U := by rw [iterI_add, h2, iterI_go q1 m3, r2]
  rw [un_two]
  have r3' : U.stp = T.stp + b.st := r3
  have r4' : U.val = T.val := r4
  cases hbo : b.ok with
  | false =>
    have e : smB p a b = ⟨aE (4, p) [a.t, b.t], 0, false, a.st + b.st⟩ := by unfold smB; rw [hbo]; rfl
    rw [e]
    exact ⟨_, U, by omega, hrun, by simp only; omega, by rw [r4', h4], fun h => by simp at h, fun _ => r6 hbo⟩
  | true =>
    have e : smB p a b = ⟨aE (4, p) [a.t, b.t], calcV p a.wo b.wo, !overV (calcV p a.wo b.wo), a.st + b.st + 1⟩ := by unfold smB; rw [hbo]; rfl
    rw [e] at hb ⊢
    simp only at hb ⊢
    obtain ⟨u1, u2, u3, u4⟩ := r5 hbo
    have m5 := mv_calc (c := c) (s := U) u2 u3 hp (by omega)
    cases hov : overV (calcV p a.wo b.wo) with
    | true =>
      rw [hov, if_pos rfl] at m5
      refine ⟨m + (m' + 1) + 1, { U with stp := U.stp + 1, ks := ⟨1, k, 0, 0, []⟩ :: s.ks, cur := [], out := 4 }, by omega, by rw [iterI_add, hrun, iterI_go u1 m5]; rfl, by simp only; omega, by simp only; rw [r4', h4], fun h => by simp at h, fun _ => rfl⟩
    | false =>
      rw [hov, if_neg (by simp)] at m5
      have m6 := mv_upd (c := c) (s := { U with stp := U.stp + 1, ks := ⟨1, k, 0, 0, []⟩ :: s.ks, cur := [(1, calcV p a.wo b.wo)] }) (nd := (k : Int)) (ks := s.ks) rfl rfl
      refine ⟨m + (m' + 1) + 1 + 1, { U with stp := U.stp + 1, ks := s.ks, cur := [(1, calcV p a.wo b.wo)], nds := U.nds.set (k : Int).toNat ([(1, calcV p a.wo b.wo)], true) }, by omega, by rw [show m + (m' + 1) + 1 + 1 = m + (m' + 1) + (1 + 1) by omega, iterI_add, hrun, iterI_go u1 m5, iterI_go (s := { U with stp := U.stp + 1, ks := ⟨1, k, 0, 0, []⟩ :: s.ks, cur := [(1, calcV p a.wo b.wo)] }) u1 m6]; rfl, by simp only; omega, by simp only; rw [r4', h4], fun _ => ⟨u1, rfl, rfl, fun j hj => ?_⟩, fun h => by simp at h⟩
      simp only
      rw [Int.toNat_natCast, List.getElem?_set_ne (by omega), u4 j (by omega)]
      show T.nds[j]? = _
      rw [q4 j (by omega)]
end
/-- What a sum keeps to. -/
structure SmG {d : Nat} (x : Sm d) (n : Nat) : Prop where
  ok : exOk 0 0 d x.t
  un : unE d x.t + 1 ≤ n
  st : x.st ≤ unE d x.t
  ln : (shP n0 d x.t).length + 5 ≤ 11 * n
  lo : x.ok = true → -1000000000 ≤ x.wo ∧ x.wo ≤ 1000000000
  wk : Wk x
theorem shP_w (N : Nms) (d : Nat) (x : Wd) : shP N d (wE d x) = wdT N x := by cases d <;> rfl
theorem shP_two (N : Nms) {d : Nat} (h : Wd) (t u : Ex d) : shP N (d + 1) (aE h [t, u]) = 40 :: (wdT N h ++ (32 :: (shP N d t ++ (32 :: (shP N d u ++ [41]))))) := by
  show 40 :: (wdT N h ++ (shA N d [t, u] ++ [41])) = _
  simp [shA, shE_shP]
theorem gr_leaf (d : Nat) (l : List Int) (n : Nat) (hn : 1 ≤ n) : SmG (grL d l).1 n := by
  have hlt := nxF_lt 1000000 l (by omega)
  refine ⟨?_, ?_, Nat.zero_le _, ?_, fun _ => ?_, wk_leaf d _⟩
  · show exOk 0 0 d (wE d _); rw [ok_w]; exact .inl ⟨rfl, by simp only; omega, by simp only; omega⟩
  · show unE d (wE d _) + 1 ≤ n; rw [unE_w]; exact hn
  · show (shP n0 d (wE d _)).length + 5 ≤ _
    rw [shP_w]
    have := decL_six (nxF 1000000 l).1 hlt
    show (decL ((nxF 1000000 l).1 : Int).toNat).length + 5 ≤ _
    rw [Int.toNat_natCast]; omega
  · show -1000000000 ≤ ((nxF 1000000 l).1 : Int) ∧ ((nxF 1000000 l).1 : Int) ≤ 1000000000
    omega
theorem sgn_len (p : Int) : (wdT n0 (4, p)).length = 1 := by
  unfold wdT; rw [if_neg (by simp), if_neg (by simp), if_neg (by simp)]; rfl
theorem one_wd : wdT n0 (1, 1) = [49] := by
  have : wdT n0 (1, 1) = decL 1 := rfl
  rw [this, decL_lt 1 (by omega)]; rfl
section
variable {d n : Nat} {p : Int} {a b : Sm d}
theorem sg_both (ga : SmG a n) (gb : SmG b n) (h0 : 0 ≤ p) (h3 : p < 3) (ho : a.ok = true) : SmG (smB p a b) (2 * n) := by
  have hs := sgn_len p
  have g1 := ga.un
  have g2 := ga.st
  have g3 := ga.ln
  have k1 := gb.un
  have k2 := gb.st
  have k3 := gb.ln
  have ht : (smB p a b).t = aE (4, p) [a.t, b.t] := by unfold smB; split <;> rfl
  refine ⟨?_, ?_, ?_, ?_, fun h => ?_, wk_both ga.wk gb.wk (by omega) ho⟩
  · rw [ht, ok_a]
    refine ⟨.inr (.inr (.inr ⟨rfl, h0, by simp only; omega⟩)), by simp, by simp, fun x hx => ?_⟩
    simp at hx
    rcases hx with rfl | rfl
    · exact ga.ok
    · exact gb.ok
  · rw [ht, un_two]; omega
  · rw [ht, un_two]
    have : (smB p a b).st ≤ a.st + b.st + 1 := by unfold smB; split <;> simp
    omega
  · rw [ht, shP_two]; simp [hs]; omega
  · unfold smB at h ⊢
    split at h
    · rename_i hb
      rw [if_pos hb]
      simp only [overV, Bool.not_eq_true', Bool.or_eq_false_iff, decide_eq_false_iff_not] at h ⊢
      omega
    · simp at h
theorem sg_none (ga : SmG a n) (h0 : 0 ≤ p) (h3 : p < 3) (ho : a.ok = false) : SmG (smN p a) (2 * n) := by
  have hs := sgn_len p
  have g1 := ga.un
  have g2 := ga.st
  have g3 := ga.ln
  refine ⟨?_, ?_, ?_, ?_, fun h => by simp [smN] at h, wk_none ga.wk (by omega) ho⟩
  · show exOk 0 0 _ (aE (4, p) [a.t, wE _ (1, 1)])
    rw [ok_a]
    refine ⟨.inr (.inr (.inr ⟨rfl, h0, by simp only; omega⟩)), by simp, by simp, fun x hx => ?_⟩
    simp at hx
    rcases hx with rfl | rfl
    · exact ga.ok
    · rw [ok_w]; exact .inl ⟨rfl, by simp, by simp⟩
  · show unE _ (aE (4, p) [a.t, wE _ (1, 1)]) + 1 ≤ _; rw [un_two, unE_w]; omega
  · show a.st ≤ unE _ (aE (4, p) [a.t, wE _ (1, 1)]); rw [un_two]; omega
  · show (shP n0 _ (aE (4, p) [a.t, wE _ (1, 1)])).length + 5 ≤ _
    rw [shP_two, shP_w, one_wd]; simp [hs]; omega
end
theorem gr_ok (e : Nat) : ∀ (dp : Nat) (l : List Int), SmG (grF e dp l).1 (2 ^ dp)
  | 0, l => gr_leaf e _ 1 (by omega)
  | dp + 1, l => by
    rw [grF]
    by_cases h0 : (nxF 4 l).1 = 0
    · rw [if_pos h0]; exact gr_leaf _ _ _ (Nat.one_le_two_pow)
    rw [if_neg h0]
    have h4 := nxF_lt 4 l (by omega)
    rw [show 2 ^ (dp + 1) = 2 * 2 ^ dp by rw [Nat.pow_succ]; omega]
    by_cases ho : (grF e dp (nxF 4 l).2).1.ok = true
    · rw [if_pos ho]; exact sg_both (gr_ok e dp _) (gr_ok e dp _) (by omega) (by omega) ho
    · rw [if_neg ho]; exact sg_none (gr_ok e dp _) (by omega) (by omega) (by simpa using ho)
/-! The two programs, run. -/
theorem inst_id (l : Ln) (n : Nat) : instM l [] (idP 0 n) = l := by
  unfold instM
  conv => rhs; rw [← List.map_id l]
  refine List.map_congr_left (fun a _ => ?_)
  obtain ⟨k, v⟩ := a
  unfold instA
  simp only
  split
  · rename_i h
    obtain ⟨rfl, h1, h2⟩ := h
    simp [idP] at h2 ⊢
    rw [List.getElem?_range (by omega)]
    simp; omega
  · rw [if_neg (by simp)]; rfl
theorem inst_all (L : List Ln) (n : Nat) : L.map (fun l => (instM l [] (idP 0 n), false)) = L.map (fun l => (l, false)) :=
  List.map_congr_left (fun l _ => by rw [inst_id])
theorem run_i {d : Nat} (x : Sm d) (n : Nat) (h : SmG x n) (h8 : n ≤ 8) (c : Cf) (hc : c = ⟨[⟨0, [(3, 1), partE d x.t 0] :: linesE d x.t 0⟩, ⟨1, [[(2, 0)]]⟩], 2000, 24000⟩) :
    (x.ok = true → (runI c 0).out = 1 ∧ (runI c 0).val = x.wo ∧ (runI c 0).stp = x.st + 2) ∧ (x.ok = false → (runI c 0).out = 4 ∧ (runI c 0).val = 0 ∧ (runI c 0).stp = x.st + 2) := by
  have h1 := h.un
  have h2 := h.st
  have hb : c.bud = 2000 := by rw [hc]
  have hhp : c.hp = 24000 := by rw [hc]
  have hll := (lines_len d).1 x.t 0
  have t0 : tplM c 0 = ⟨0, [(3, 1), partE d x.t 0] :: linesE d x.t 0⟩ := by rw [hc]; rfl
  have t1 : tplM c 1 = ⟨1, [[(2, 0)]]⟩ := by rw [hc]; rfl
  have m1 : moveI c (initI 0) = ⟨[(3, 1), partE d x.t 0], [], (linesE d x.t 0).map (fun l => (l, false)), 1, 0, 0⟩ := by
    rw [move_call (c := c) (s := initI 0) (r := []) rfl t0 (by simp) (by rw [hb]; show (0 : Int) < 2000; omega) (by rw [hhp]; simp [initI]; omega)]
    simp only [initI, List.headD_cons, List.tail_cons, List.length_nil, List.take_nil, List.drop_nil, List.append_nil, List.nil_append]
    rw [inst_id, inst_all]; rfl
  have m2 : moveI c ⟨[(3, 1), partE d x.t 0], [], (linesE d x.t 0).map (fun l => (l, false)), 1, 0, 0⟩ = ⟨[partE d x.t 0], [], (linesE d x.t 0).map (fun l => (l, false)), 2, 0, 0⟩ := by
    rw [move_call (c := c) (r := [partE d x.t 0]) rfl t1 (by simp) (by rw [hb]; show (1 : Int) < 2000; omega) (by rw [hhp]; simp; omega)]
    simp [instM, instA, idP]
  obtain ⟨m, T, q1, q2, q3, q4, q5, q6⟩ := h.wk c ⟨[partE d x.t 0], [], (linesE d x.t 0).map (fun l => (l, false)), 2, 0, 0⟩ 0 rfl rfl (fun i ln hi => by simp only; rw [Nat.zero_add, List.getElem?_map, hi]; rfl) (by rw [hb]; simp only; omega)
  have hrun : iterI c (m + 2) (initI 0) = T := by rw [iterI_go (s := initI 0) rfl m1, iterI_go rfl m2, q2]
  simp only at q3 q4 q5
  constructor
  · intro hk
    obtain ⟨r1, r2, r3, _⟩ := q5 hk
    have m3 : moveI c T = { T with out := 1, val := x.wo } := by
      rw [mv_num r2]; unfold delI; rw [r3]; simp
    have hrun2 : iterI c (m + 2 + 1) (initI 0) = { T with out := 1, val := x.wo } := by rw [iterI_add, hrun, iterI_go r1 m3]; rfl
    rw [run_out c 0 (m + 2 + 1) (by rw [hrun2]; simp) (by omega), hrun2]
    exact ⟨rfl, rfl, by simp only; omega⟩
  · intro hk
    have r1 := q6 hk
    rw [run_out c 0 (m + 2) (by rw [hrun, r1]; decide) (by omega), hrun]
    exact ⟨r1, q4, by omega⟩
theorem run_p {d : Nat} (x y : Sm d) (n n' : Nat) (h : SmG x n) (h' : SmG y n') (h8 : n ≤ 8) (h8' : n' ≤ 8) (hx : x.ok = true) (hy : y.ok = true) (p : Int) (hp : p = 3 ∨ p = 4) (c : Cf)
    (hc : c = ⟨[⟨0, [(4, p), partE d x.t 0, partE d y.t (unE d x.t), (1, 7), (1, 8)] :: (linesE d x.t 0 ++ linesE d y.t (unE d x.t))⟩], 2000, 24000⟩) :
    (runI c 0).out = 1 ∧ (runI c 0).val = (if picks p x.wo y.wo then 7 else 8) ∧ (runI c 0).stp = x.st + y.st + 2 := by
  have h1 := h.un
  have h2 := h.st
  have h1' := h'.un
  have h2' := h'.st
  have hb : c.bud = 2000 := by rw [hc]
  have hhp : c.hp = 24000 := by rw [hc]
  have hll := (lines_len d).1 x.t 0
  have hll' := (lines_len d).1 y.t (unE d x.t)
  have t0 : tplM c 0 = ⟨0, [(4, p), partE d x.t 0, partE d y.t (unE d x.t), (1, 7), (1, 8)] :: (linesE d x.t 0 ++ linesE d y.t (unE d x.t))⟩ := by rw [hc]; rfl
  have hw : wantM p = 4 := by unfold wantM; rw [if_pos hp]
  have m1 : moveI c (initI 0) = ⟨[(4, p), partE d x.t 0, partE d y.t (unE d x.t), (1, 7), (1, 8)], [], (linesE d x.t 0 ++ linesE d y.t (unE d x.t)).map (fun l => (l, false)), 1, 0, 0⟩ := by
    rw [move_call (c := c) (s := initI 0) (r := []) rfl t0 (by simp) (by rw [hb]; show (0 : Int) < 2000; omega) (by rw [hhp]; simp [initI]; omega)]
    simp only [initI, List.headD_cons, List.tail_cons, List.length_nil, List.take_nil, List.drop_nil, List.append_nil, List.nil_append]
    rw [inst_id, inst_all]; rfl
  have m2 := mv_ask (c := c) (s := ⟨[(4, p), partE d x.t 0, partE d y.t (unE d x.t), (1, 7), (1, 8)], [], (linesE d x.t 0 ++ linesE d y.t (unE d x.t)).map (fun l => (l, false)), 1, 0, 0⟩) (p := p) rfl (by rw [hw]; simp)
  simp only at m2
  obtain ⟨m, T, q1, q2, q3, q4, q5, _⟩ := h.wk c ⟨[partE d x.t 0], [⟨2, 0, p, 0, [partE d y.t (unE d x.t), (1, 7), (1, 8)]⟩], (linesE d x.t 0 ++ linesE d y.t (unE d x.t)).map (fun l => (l, false)), 1, 0, 0⟩ 0 rfl rfl (fun i ln hi => by
    simp only; rw [Nat.zero_add, List.getElem?_map, List.getElem?_append_left (List.getElem?_eq_some_iff.1 hi).1, hi]; rfl) (by rw [hb]; simp only; omega)
  simp only at q3 q4 q5
  obtain ⟨r1, r2, r3, r4⟩ := q5 hx
  have m3 := mv_two (c := c) (s := T) r2 r3
  obtain ⟨m', U, u1, u2, u3, u4, u5, _⟩ := h'.wk c { T with cur := [partE d y.t (unE d x.t)], ks := [⟨3, 0, p, x.wo, [(1, 7), (1, 8)]⟩] } (unE d x.t) r1 rfl (fun i ln hi => by
    show T.nds[_]? = _
    rw [r4 _ (by omega), List.getElem?_map, List.getElem?_append_right (by omega), hll, show unE d x.t + i - unE d x.t = i by omega, hi]; rfl) (by rw [hb]; show T.stp + _ ≤ _; omega)
  simp only at u3 u4 u5
  obtain ⟨v1, v2, v3, _⟩ := u5 hy
  have m4 : moveI c U = { U with stp := U.stp + 1, ks := [], cur := [if picks p x.wo y.wo then (1, 7) else (1, 8)] } := by
    rw [mv_num v2]; unfold delI; rw [v3]
    simp only
    rw [if_neg (by decide), if_neg (by simp), if_neg (by decide), if_neg (by omega), if_pos hp]; rfl
  have m5 : moveI c { U with stp := U.stp + 1, ks := [], cur := [if picks p x.wo y.wo then (1, 7) else (1, 8)] } = { U with stp := U.stp + 1, ks := [], cur := [if picks p x.wo y.wo then (1, 7) else (1, 8)], out := 1, val := if picks p x.wo y.wo then 7 else 8 } := by
    cases picks p x.wo y.wo <;> simp [moveI, hdI, delI]
  have hrun : iterI c (m + 2) (initI 0) = T := by rw [iterI_go (s := initI 0) rfl m1, iterI_go rfl m2, q2]
  have hrun2 : iterI c (m + 2 + (m' + 1)) (initI 0) = U := by rw [iterI_add, hrun, iterI_go r1 m3, u2]
  have hrun3 : iterI c (m + 2 + (m' + 1) + 2) (initI 0) = { U with stp := U.stp + 1, ks := [], cur := [if picks p x.wo y.wo then (1, 7) else (1, 8)], out := 1, val := if picks p x.wo y.wo then 7 else 8 } := by
    rw [iterI_add, hrun2, iterI_go v1 m4, iterI_go (s := { U with stp := U.stp + 1, ks := [], cur := [if picks p x.wo y.wo then (1, 7) else (1, 8)] }) v1 m5]; rfl
  rw [run_out c 0 (m + 2 + (m' + 1) + 2) (by rw [hrun3]; simp) (by omega), hrun3]
  exact ⟨rfl, rfl, by simp only; omega⟩

end Go.Proofs.YtnndoagpbcacdaaGreatDoor
namespace Go.Proofs.YtnndoagpbcacdaaGreatDoor
open Go.RowKit

/-! The two programs of Counted: their texts, their code. -/
theorem any_ok {d : Nat} {fs : List (Fn d)} (hpr : PrOk σ0 fs) (hnm : ∀ f ∈ fs, namP f.nm ∧ ∀ p ∈ f.pn, namP p) (bl : List (List (List UInt8))) (hlen : bl.length = fs.length) (hbl : ∀ b ∈ bl, ∀ p ∈ b, blkP p = true) (i : Nat) (fm : Fn d) (hi : fs[i]? = some fm) (hmm : fm.nm = mainT) (hmp : fm.pn = [])
    (s : ByteArray) (hsz : s.size ≤ 1000) (hs : s.data.toList = ((fs.zip bl).flatMap (fun x => fnPc fs x.1 ++ x.2)).flatten) : (chk s).2 = 0 ∧ codeOf (cAll (toksF s 0)).ds = ⟨(i : Int), fs.map fnCode⟩ ∧ goodC ⟨(i : Int), fs.map fnCode⟩ = true := by
  obtain ⟨a, b, _⟩ := prog_ok hpr i fm hi hmm hmp s hsz (text_toks hpr hnm s bl hlen hbl hs)
  exact ⟨a, b, prog_good hpr i fm hi hmp⟩
theorem sh_any {d : Nat} (t : Ex d) (h : exOk 0 0 d t) (B : List (List UInt8)) (hB : ∀ x ∈ B, namP x) : (pcE ⟨B, []⟩ d t).flatten = 32 :: shP n0 d t ∧ exOk 0 B.length d t := by
  have h1 : exOk 0 B.length d t := exOk.up (Nat.zero_le _) h
  refine ⟨?_, h1⟩
  have e := (sh_ext (A := []) (B := B) (pn := []) (np := 0) d).1 t h
  rw [List.nil_append] at e
  rw [((pc_ex (N := ⟨B, []⟩) (np := 0) (nf := B.length) ⟨hB, by simp⟩ rfl rfl d).1 t h1).2.2.2, e, shE_shP]
  rfl
theorem cnt_i (t : Ex 3) (hok : exOk 0 0 3 t) (hun : unE 3 t ≤ 12) (s : ByteArray) (hsz : s.size ≤ 1000) (hs : s.data.toList = [109, 97, 105, 110, 32, 61, 32, 105, 32] ++ (shP n0 3 t ++ [59, 32, 105, 32, 120, 32, 61, 32, 120, 59])) :
    (chk s).2 = 0 ∧ codeOf (cAll (toksF s 0)).ds = ⟨0, [⟨0, [(3, 1), partE 3 t 0] :: linesE 3 t 0⟩, ⟨1, [[(2, 0)]]⟩]⟩ ∧ goodC ⟨0, [⟨0, [(3, 1), partE 3 t 0] :: linesE 3 t 0⟩, ⟨1, [[(2, 0)]]⟩]⟩ = true := by
  have hpr : PrOk σ0 ([⟨mainT, [], (3, 1), [t]⟩, ⟨[105], [[120]], (2, 0), []⟩] : List (Fn 3)) := by
    refine ⟨by simp, by simp, (by show ([mainT, [105]] : List (List UInt8)).Nodup; decide), fun f hf => ?_, fun f hf => ?_, fun f hf => ?_, fun f hf => ?_⟩
    all_goals
      simp only [List.mem_cons, List.not_mem_nil, or_false] at hf
      rcases hf with rfl | rfl
    · exact main_nam.2
    · show kdL [105] = 1; decide
    · exact ⟨by simp, by simp, by simp, by simp⟩
    · exact ⟨by simp, by decide, by decide, (by show ∀ p ∈ ([[120]] : List (List UInt8)), p ∉ ([mainT, [105]] : List (List UInt8)); decide)⟩
    · exact ⟨.inr (.inr (.inl ⟨rfl, by simp, by simp⟩)), nz0 _⟩
    · exact ⟨.inr (.inl ⟨rfl, by simp, by simp⟩), nz0 _⟩
    · refine ⟨by simp, fun e he => ?_, fun e _ => exNz0, by rw [unA_c, unA_n]; omega⟩
      simp only [List.mem_cons, List.not_mem_nil, or_false] at he
      subst he
      exact exOk.up (by simp) hok
    · exact ⟨by simp, by simp, by simp, by simp [unA_n]⟩
  have hnm : ∀ f ∈ ([⟨mainT, [], (3, 1), [t]⟩, ⟨[105], [[120]], (2, 0), []⟩] : List (Fn 3)), namP f.nm ∧ ∀ p ∈ f.pn, namP p := by
    intro f hf
    simp only [List.mem_cons, List.not_mem_nil, or_false] at hf
    rcases hf with rfl | rfl
    · exact ⟨main_nam.1, by simp⟩
    · refine ⟨⟨105, [], rfl, by decide, by simp⟩, fun p hp => ?_⟩
      simp only [List.mem_cons, List.not_mem_nil, or_false] at hp
      subst hp
      exact ⟨120, [], rfl, by decide, by simp⟩
  have hA := (sh_any t hok [mainT, [105]] (fun x hx => by
    simp only [List.mem_cons, List.not_mem_nil, or_false] at hx
    rcases hx with rfl | rfl
    · exact main_nam.1
    · exact ⟨105, [], rfl, by decide, by simp⟩)).1
  have h := any_ok hpr hnm [[[32]], []] rfl (by simp [blkP]) 0 _ rfl rfl rfl s hsz (by
    rw [hs]
    simp [fnPc, nmsOf, pcA_c, pcA_n, wdT, mainT] at hA ⊢
    simp [hA])
  have e : ([⟨mainT, [], (3, 1), [t]⟩, ⟨[105], [[120]], (2, 0), []⟩] : List (Fn 3)).map fnCode = [⟨0, [(3, 1), partE 3 t 0] :: linesE 3 t 0⟩, ⟨1, [[(2, 0)]]⟩] := by
    simp [fnCode, ownA_c, ownA_n, restA_c, restA_n]
  rw [e] at h
  exact h
theorem cnt_p (t u : Ex 3) (hok : exOk 0 0 3 t) (hok' : exOk 0 0 3 u) (hun : unE 3 t + unE 3 u ≤ 12) (p : Int) (hp : p = 3 ∨ p = 4) (b : UInt8) (hb : b = if p = 3 then 60 else 63) (s : ByteArray) (hsz : s.size ≤ 1000) (hs : s.data.toList = [109, 97, 105, 110, 32, 61, 32, b, 32] ++ (shP n0 3 t ++ (32 :: (shP n0 3 u ++ [32, 55, 32, 56, 59])))) :
    (chk s).2 = 0 ∧ codeOf (cAll (toksF s 0)).ds = ⟨0, [⟨0, [(4, p), partE 3 t 0, partE 3 u (unE 3 t), (1, 7), (1, 8)] :: (linesE 3 t 0 ++ linesE 3 u (unE 3 t))⟩]⟩ ∧ goodC ⟨0, [⟨0, [(4, p), partE 3 t 0, partE 3 u (unE 3 t), (1, 7), (1, 8)] :: (linesE 3 t 0 ++ linesE 3 u (unE 3 t))⟩]⟩ = true := by
  have hpr : PrOk σ0 ([⟨mainT, [], (4, p), [t, u, wE 3 (1, 7), wE 3 (1, 8)]⟩] : List (Fn 3)) := by
    refine ⟨by simp, by simp, by simp, fun f hf => ?_, fun f hf => ?_, fun f hf => ?_, fun f hf => ?_⟩
    all_goals
      simp only [List.mem_cons, List.not_mem_nil, or_false] at hf
      subst hf
    · exact main_nam.2
    · exact ⟨by simp, by simp, by simp, by simp⟩
    · exact ⟨.inr (.inr (.inr ⟨rfl, by simp only; omega, by simp only; omega⟩)), nz0 _⟩
    · refine ⟨by simp, fun e he => ?_, fun e _ => exNz0, by rw [unA_c, unA_c, unA_c, unA_c, unA_n, unE_w, unE_w]; omega⟩
      simp only [List.mem_cons, List.not_mem_nil, or_false] at he
      rcases he with rfl | rfl | rfl | rfl
      · exact exOk.up (by simp) hok
      · exact exOk.up (by simp) hok'
      · rw [ok_w]; exact .inl ⟨rfl, by simp, by simp⟩
      · rw [ok_w]; exact .inl ⟨rfl, by simp, by simp⟩
  have hnm : ∀ f ∈ ([⟨mainT, [], (4, p), [t, u, wE 3 (1, 7), wE 3 (1, 8)]⟩] : List (Fn 3)), namP f.nm ∧ ∀ p ∈ f.pn, namP p := by
    intro f hf
    simp only [List.mem_cons, List.not_mem_nil, or_false] at hf
    subst hf
    exact ⟨main_nam.1, by simp⟩
  have hA := (sh_any t hok [mainT] (fun x hx => by simp only [List.mem_cons, List.not_mem_nil, or_false] at hx; subst hx; exact main_nam.1)).1
  have hB := (sh_any u hok' [mainT] (fun x hx => by simp only [List.mem_cons, List.not_mem_nil, or_false] at hx; subst hx; exact main_nam.1)).1
  have d7 : decL 7 = [55] := by rw [decL_lt _ (by omega)]; rfl
  have d8 : decL 8 = [56] := by rw [decL_lt _ (by omega)]; rfl
  have h := any_ok hpr hnm [[]] rfl (by simp) 0 _ rfl rfl rfl s hsz (by
    rw [hs, hb]
    rcases hp with rfl | rfl <;> simp [fnPc, nmsOf, pcA_c, pcA_n, pc_w, wdT, mainT, d7, d8] at hA hB ⊢ <;> simp [hA, hB])
  have e : ([⟨mainT, [], (4, p), [t, u, wE 3 (1, 7), wE 3 (1, 8)]⟩] : List (Fn 3)).map fnCode = [⟨0, [(4, p), partE 3 t 0, partE 3 u (unE 3 t), (1, 7), (1, 8)] :: (linesE 3 t 0 ++ linesE 3 u (unE 3 t))⟩] := by
    simp [fnCode, ownA_c, ownA_n, restA_c, restA_n, part_w, lines_w]
  rw [e] at h
  exact h

end Go.Proofs.YtnndoagpbcacdaaGreatDoor
