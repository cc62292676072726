import Derived.Test.YtnndoagpbcacdaaGreatDoorM1
import Derived.Test.YtnndoagpbcacdaaGreatDoorMK1
import Derived.Deep.DeepCutAuto
namespace Go.Proofs.YtnndoagpbcacdaaGreatDoor
open Go.RowKit

/-! Package machine: stack.go. -/
theorem Tryz.infoItem : (Tryz.prog.info? 96).map (fun i => (i.zero, i.size, i.bytes)) = some (some (.agg #[.int .i64 0, .int .i64 0]), 2, 16) := by kernel_rfl
theorem Tryz.infoFrame : (Tryz.prog.info? 191).map (fun i => (i.zero, i.size, i.bytes)) = some (some (.agg #[.int .i64 0, .int .i64 0, .int .i64 0, .int .i64 0, .int .i64 0]), 5, 40) := by kernel_rfl
theorem Tryz.infoNode : (Tryz.prog.info? 188).map (fun i => (i.zero, i.size, i.bytes)) = some (some (.agg #[.slice none 0 0, .bool false]), 2, 32) := by kernel_rfl
section
variable {w w' w2 : World} {B mb : Nat} {fv : Value} {c : Cf} {s : Ms} {K : Nat → Prop} {sv rv nv ev : Value} {vs : List Value}
theorem MSt.c0 (h : MSt w B mb fv c s K sv rv nv ev vs) : w.cell? ⟨mb, 0, none⟩ = some fv := by rw [cell_of_row w mb 0 _ _ _ h.blk]; rfl
theorem MSt.c1 (h : MSt w B mb fv c s K sv rv nv ev vs) : w.cell? ⟨mb, 1, none⟩ = some (.int .i64 c.bud) := by rw [cell_of_row w mb 1 _ _ _ h.blk]; rfl
theorem MSt.c2 (h : MSt w B mb fv c s K sv rv nv ev vs) : w.cell? ⟨mb, 2, none⟩ = some (.int .i64 c.hp) := by rw [cell_of_row w mb 2 _ _ _ h.blk]; rfl
theorem MSt.c3 (h : MSt w B mb fv c s K sv rv nv ev vs) : w.cell? ⟨mb, 3, none⟩ = some sv := by rw [cell_of_row w mb 3 _ _ _ h.blk]; rfl
theorem MSt.c4 (h : MSt w B mb fv c s K sv rv nv ev vs) : w.cell? ⟨mb, 4, none⟩ = some rv := by rw [cell_of_row w mb 4 _ _ _ h.blk]; rfl
theorem MSt.c5 (h : MSt w B mb fv c s K sv rv nv ev vs) : w.cell? ⟨mb, 5, none⟩ = some nv := by rw [cell_of_row w mb 5 _ _ _ h.blk]; rfl
theorem MSt.c6 (h : MSt w B mb fv c s K sv rv nv ev vs) : w.cell? ⟨mb, 6, none⟩ = some ev := by rw [cell_of_row w mb 6 _ _ _ h.blk]; rfl
theorem MSt.c7 (h : MSt w B mb fv c s K sv rv nv ev vs) : w.cell? ⟨mb, 7, none⟩ = some (.int .i64 s.stp) := by rw [cell_of_row w mb 7 _ _ _ h.blk]; rfl
theorem MSt.c8 (h : MSt w B mb fv c s K sv rv nv ev vs) : w.cell? ⟨mb, 8, none⟩ = some (.int .i64 s.out) := by rw [cell_of_row w mb 8 _ _ _ h.blk]; rfl
theorem MSt.c9 (h : MSt w B mb fv c s K sv rv nv ev vs) : w.cell? ⟨mb, 9, none⟩ = some (.int .i64 s.val) := by rw [cell_of_row w mb 9 _ _ _ h.blk]; rfl
theorem MSt.fz (h : MSt w B mb fv c s K sv rv nv ev vs) (i : Nat) : w.frozen? ⟨mb, i, none⟩ = false := frozen_of_row w mb i _ _ h.blk
end
theorem fcs_top (f : Fr) (r : List Fr) (i : Nat) (u : Value) (h : (fcell f)[i]? = some u) : (fcs (f :: r).reverse)[r.length * 5 + i]? = some u := by
  rw [fcs_revc, List.getElem?_append_right (by rw [fcs_length, List.length_reverse]; omega), fcs_length, List.length_reverse]
  rw [show r.length * 5 + i - r.length * 5 = i by omega]; exact h
theorem acs_top (x : Int × Int) (r : Ln) : (acs (x :: r).reverse)[r.length * 2]? = some (.int .i64 x.1) ∧ (acs (x :: r).reverse)[r.length * 2 + 1]? = some (.int .i64 x.2) := by
  rw [acs_revc]
  constructor
  · rw [List.getElem?_append_right (by rw [acs_length, List.length_reverse]; omega), acs_length, List.length_reverse, Nat.sub_self]; rfl
  · rw [List.getElem?_append_right (by rw [acs_length, List.length_reverse]; omega), acs_length, List.length_reverse, show r.length * 2 + 1 - r.length * 2 = 1 by omega]; rfl

theorem new_ad (w : World) (o o2 : Obj) : ((w.alloc o).alloc o2).drew.heap[w.heap.size + 1]? = some o2 := by
  have e : (w.alloc o).heap.size = w.heap.size + 1 := by simp
  rw [← e]; exact heap_alloc_new _ _
theorem below_ad (w : World) (o o2 : Obj) : Below w.heap.size w ((w.alloc o).alloc o2).drew := Below.drew (((Below.refl _ w).alloc (Nat.le_refl _) _).alloc (by simp) _)

set_option maxHeartbeats 1000000 in
theorem mFloor (B mb : Nat) (fv : Value) (c : Cf) (s : Ms) (K : Nat → Prop) (sv rv nv ev : Value) (vs : List Value) (w : World) (h : MSt w B mb fv c s K sv rv nv ev vs) (hf : s.frs.length ≤ 1099511627776) :
    Calls Tryz.prog 112 #[.pointer (some ⟨mb, 0, none⟩)] w fun e w' => e = .returned (.int .i64 (flr s)) ∧ ∃ m, w' = w.drewN m := by
  obtain ⟨ro, rc, rfl⟩ := own_form h.rr
  have c4 := h.c4
  have hmb := h.lt
  cases hfr : s.frs with
  | nil =>
    rw [hfr] at c4
    simp only [List.length_nil] at c4
    have e0 : flr s = 0 := by unfold flr; rw [hfr]; rfl
    rw [e0]
    clear h hfr hf e0
    go_enter Tryz.func112, Tryz.ntmps112
    go_wp2_with fail
    go_ret
    exact ⟨rfl, 0, rfl⟩
  | cons f r =>
    have hl : s.frs.length = r.length + 1 := by rw [hfr]; rfl
    obtain ⟨q, cap', hq, _, hqlt⟩ := h.rr.form (by omega)
    cases hq
    have k1 := row_cell h.rr (r.length * 5 + 1) (.int .i64 (f.h : Int)) (by rw [hfr]; exact fcs_top f r 1 _ rfl)
    have e0 : flr s = f.h := by unfold flr; rw [hfr]; rfl
    rw [e0]
    rw [hl] at c4 hf
    have g1 : ((r.length : Int) + 1 == 0) = false := by simp; omega
    have g2 : ¬ (r.length : Int) + 1 = 0 := by omega
    clear h hfr e0 hl
    go_enter Tryz.func112, Tryz.ntmps112
    go_wp2_with fail
    go_quiet (fail)
    go_wp2_with fail
    go_ret
    exact ⟨rfl, _, rfl⟩

set_option maxRecDepth 100000 in
set_option maxHeartbeats 4000000 in
theorem mPush (x : Int × Int) (B mb : Nat) (fv : Value) (c : Cf) (s : Ms) (K : Nat → Prop) (w : World) (h : MP w B mb fv c s K) (hl : s.stk.length ≤ 1099511627776) :
    Calls Tryz.prog 42 #[.pointer (some ⟨mb, 0, none⟩), .agg #[.int .i64 x.1, .int .i64 x.2]] w fun e w' => (∃ v, e = .returned v) ∧ Below B w w' ∧ Kept K w w' ∧ MP w' B mb fv c (pushM x s) K := by
  obtain ⟨sv, rv, nv, ev, vs, h⟩ := h
  obtain ⟨i, hi, hz0, hz1, hz2⟩ := info_parts Tryz.infoItem
  obtain ⟨so, sc, rfl⟩ := own_form h.rs
  have c3 := h.c3
  have hmb := h.lt
  have hlo := h.lo
  have HM : Hid (∀ w', Below w.heap.size w w' → MSt w' B mb fv c s K (.slice so s.stk.length sc) rv nv ev vs) := fun w' hb => h.old hb
  obtain ⟨x1, x2⟩ := x
  clear h
  go_enter Tryz.func42, Tryz.ntmps42
  go_wp2_with fail
  have HA : Hid _ := below_ad w (Obj.cells #[.int .i64 x1, .int .i64 x2] 96) (Obj.cells #[.int .i64 x1, .int .i64 x2] 96)
  have HN : Hid _ := new_ad w (Obj.cells #[.int .i64 x1, .int .i64 x2] 96) (Obj.cells #[.int .i64 x1, .int .i64 x2] 96)
  go_region_law ((refine step_append_lies _ (by rfl) _ _ _ (by rfl) B 96 i _ 2 16 Tryz.underlying89 hi hz0 hz1 hz2 rfl (by omega) (.slice so s.stk.length sc) s.stk.length (acs s.stk.reverse) (by rfl) (by exact (HM.out _ HA.out).rs) _ 1 _ [.int .i64 x1, .int .i64 x2] (by rfl) rfl (by exact World.news_of_block HN.out) (by simp [Value.oneCell']) (by omega) (by unfold maxLen; omega) (by omega) (by have := HA.out.size; omega) _ rfl ?_; intro g cap2 w2 hown2 hgrow hat hlt2; have HPA : Hid _ := MSt.pushS (x := (x1, x2)) (HM.out _ HA.out) hown2 hgrow hat; have kb := cell_of_row w2 mb 3 _ _ _ (grown_type (HM.out _ HA.out).rs hgrow (by decide) (HM.out _ HA.out).blk); simp only [List.getElem?_toArray, List.getElem?_cons_succ, List.getElem?_cons_zero] at kb; have kf := frozen_of_row w2 mb 3 _ _ (grown_type (HM.out _ HA.out).rs hgrow (by decide) (HM.out _ HA.out).blk); clear hown2 hgrow hat hlt2))
  all_goals
    refine bodyPost_end (v := .tuple #[]) (by simp [results, Tryz.results42, go_sem]) rfl ⟨⟨_, rfl⟩, (HA.out.mono (by omega)).trans HPA.out.1, (Kept.old HA.out).trans HPA.out.2.1 HA.out.size, _, _, _, _, _, HPA.out.2.2⟩

end Go.Proofs.YtnndoagpbcacdaaGreatDoor
namespace Go.Proofs.YtnndoagpbcacdaaGreatDoor
open Go.RowKit

/-! Package machine: stack.go, to its end. -/
/-- Where the machine's lists lie: below T. -/
structure MLt (T mb : Nat) (sv rv nv ev : Value) (vs : List Value) : Prop where
  m : mb < T
  s : ∀ k, sv.ownBlock = some k → k < T
  r : ∀ k, rv.ownBlock = some k → k < T
  n : ∀ k, nv.ownBlock = some k → k < T
  e : ∀ k, ev.ownBlock = some k → k < T
  v : ∀ u ∈ vs, ∀ k, u.ownBlock = some k → k < T
section
variable {w w' w2 : World} {B mb T : Nat} {fv : Value} {c : Cf} {s : Ms} {K : Nat → Prop} {sv rv nv ev : Value} {vs : List Value}
theorem MSt.mlt (h : MSt w B mb fv c s K sv rv nv ev vs) : MLt w.heap.size mb sv rv nv ev vs :=
  ⟨h.lt, fun k hk => (h.rs.lt k hk).2, fun k hk => (h.rr.lt k hk).2, fun k hk => (h.rn.lt k hk).2, fun k hk => (h.re.lt k hk).2, fun u hu k hk => by
    obtain ⟨j, hj, rfl⟩ := List.mem_iff_getElem.1 hu
    obtain ⟨v, e1, e2, _⟩ := h.rows j (by rw [← h.vl]; exact hj)
    rw [List.getElem?_eq_getElem hj] at e1
    cases e1
    exact (e2.lt k hk).2⟩
theorem MSt.below (h : MSt w B mb fv c s K sv rv nv ev vs) (hT : MLt T mb sv rv nv ev vs) (hb : Below T w w') : MSt w' B mb fv c s K sv rv nv ev vs :=
  ⟨(hb.block mb hT.m).trans h.blk, h.lo, ownsRow_below h.rs hb hT.s, ownsRow_below h.rr hb hT.r, ownsRow_below h.rn hb hT.n, ownsRow_below h.re hb hT.e, h.vl,
    fun j hj => by obtain ⟨v, h1, h2, h3⟩ := h.rows j hj; exact ⟨v, h1, ownsRow_below h2 hb (hT.v v (List.mem_of_getElem? h1)), h3⟩, fun k hk => Nat.lt_of_lt_of_le (h.klt k hk) hb.size, h.sep⟩
theorem MSt.moreK {K' : Nat → Prop} (h : MSt w B mb fv c s K sv rv nv ev vs) (h1 : ∀ k, K' k → K k ∨ (k < w.heap.size ∧ k ≠ mb ∧ sv.ownBlock ≠ some k ∧ rv.ownBlock ≠ some k ∧ nv.ownBlock ≠ some k ∧ ev.ownBlock ≠ some k)) : MSt w B mb fv c s K' sv rv nv ev vs :=
  ⟨h.blk, h.lo, h.rs, h.rr, h.rn, h.re, h.vl, h.rows, fun k hk => by rcases h1 k hk with h2 | h2; exact h.klt k h2; exact h2.1, fun k hk => by rcases h1 k hk with h2 | h2; exact h.sep k h2; exact h2.2⟩
/-- Blocks from T on, where the machine's lie below. -/
theorem MSt.fromT (h : MSt w B mb fv c s K sv rv nv ev vs) (hT : MLt T mb sv rv nv ev vs) : MSt w B mb fv c s (fun k => K k ∨ (T ≤ k ∧ k < w.heap.size)) sv rv nv ev vs :=
  h.moreK fun k hk => by
    rcases hk with hk | ⟨h1, h2⟩
    · exact .inl hk
    · exact .inr ⟨h2, by have := hT.m; omega, fun e => by have := hT.s k e; omega, fun e => by have := hT.r k e; omega, fun e => by have := hT.n k e; omega, fun e => by have := hT.e k e; omega⟩
theorem own_ne_type {B1 B2 e1 e2 z1 z2 n1 n2 : Nat} {v1 v2 : Value} {x1 x2 : List Value} (h1 : w.ownsRow B1 e1 z1 v1 n1 x1) (h2 : w.ownsRow B2 e2 z2 v2 n2 x2) (hne : e1 ≠ e2) : ∀ k, v1.ownBlock = some k → v2.ownBlock ≠ some k := by
  intro k hk hk2
  rcases h1.2 with ⟨e, _⟩ | ⟨g, cap, cur, e, _, hh, _⟩
  · rw [e] at hk; simp [Value.ownBlock] at hk
  · rcases h2.2 with ⟨e', _⟩ | ⟨g', cap', cur', e', _, hh', _⟩
    · rw [e'] at hk2; simp [Value.ownBlock] at hk2
    · rw [e] at hk; rw [e'] at hk2
      simp only [Value.ownBlock, Option.some.injEq] at hk hk2
      rw [hk] at hh
      rw [hk2, hh] at hh'
      simp at hh'
      exact hne hh'.2
theorem own_ne_blk {B1 e1 z1 n1 b : Nat} {v1 : Value} {x1 : List Value} {cs : Array Value} {t : TypeId} (h1 : w.ownsRow B1 e1 z1 v1 n1 x1) (h2 : w.heap[b]? = some (.cells cs t (0, 0))) (hne : e1 ≠ t) : ∀ k, v1.ownBlock = some k → k ≠ b := by
  intro k hk hkb
  rcases h1.2 with ⟨e, _⟩ | ⟨g, cap, cur, e, _, hh, _⟩
  · rw [e] at hk; simp [Value.ownBlock] at hk
  · rw [e] at hk
    simp only [Value.ownBlock, Option.some.injEq] at hk
    rw [hk, hkb, h2] at hh
    simp at hh
    exact hne hh.2.symm
theorem own_capM {Bx e z n q cap : Nat} {xs : List Value} (h : w.ownsRow Bx e z (.slice (some ⟨q, 0, none⟩) n cap) n xs) : n ≤ cap ∧ cap ≤ 9223372036854775807 := by
  rcases h.2 with ⟨h0, _⟩ | ⟨g', cap', cur, h0, hg, hh, x1, x2, _⟩
  · cases h0
  · cases h0; unfold maxLen at x2; omega
end

theorem below_al (w : World) (o : Obj) : Below w.heap.size w (w.alloc o) := (Below.refl _ w).alloc (Nat.le_refl _) _
theorem below_al2 (w : World) (o o2 : Obj) : Below w.heap.size w ((w.alloc o).alloc o2) := ((Below.refl _ w).alloc (Nat.le_refl _) _).alloc (by simp) _
theorem size_set (w : World) (a : Addr) (u : Value) : (w.setCell a u).heap.size = w.heap.size := by simp [World.setCell]

set_option maxHeartbeats 4000000 in
theorem mPopX (B mb : Nat) (fv : Value) (c : Cf) (s : Ms) (K : Nat → Prop) (sv rv nv ev : Value) (vs : List Value) (w : World) (h : MSt w B mb fv c s K sv rv nv ev vs) (hl : s.stk.length ≤ 1099511627776) :
    Calls Tryz.prog 113 #[.pointer (some ⟨mb, 0, none⟩)] w fun e w' => e = .returned (.agg #[.int .i64 (hdI s.stk).1, .int .i64 (hdI s.stk).2]) ∧ Below B w w' ∧ Kept K w w' ∧ ∃ sv', MSt w' B mb fv c (popM s) K sv' rv nv ev vs ∧ sv'.ownBlock = sv.ownBlock := by
  obtain ⟨so, sc, rfl⟩ := own_form h.rs
  have c3 := h.c3
  have hmb := h.lt
  have hlo := h.lo
  cases hs : s.stk with
  | nil =>
    have HM : Hid (MSt (w.alloc (Obj.cells #[.int .i64 0, .int .i64 0] 96)) B mb fv c (popM s) K (.slice so s.stk.length sc) rv nv ev vs) := by
      have e : popM s = s := by unfold popM; rw [hs]; cases s; simp_all
      rw [e]
      exact h.old ((Below.refl _ _).alloc (Nat.le_refl _) _)
    have HS : Hid (s.stk = []) := hs
    rw [hs] at c3
    simp only [List.length_nil] at c3
    clear h hl hs
    go_enter Tryz.func113, Tryz.ntmps113
    go_wp2_with fail
    exact bodyPost_ret (v := .agg #[.int .i64 0, .int .i64 0]) (by simp [results, Tryz.results113, go_sem]) rfl ⟨rfl, (Below.refl B w).alloc (by omega) _, Kept.old ((Below.refl _ _).alloc (Nat.le_refl _) _), _, HM.out, by rw [HS.out]; rfl⟩
  | cons x r =>
    have hl2 : s.stk.length = r.length + 1 := by rw [hs]; rfl
    obtain ⟨q, cap', hq, hqB, hqlt⟩ := h.rs.form (by omega)
    cases hq
    obtain ⟨a1, a2⟩ := acs_top x r
    have k0 := row_cell h.rs (r.length * 2) _ (by rw [hs]; exact a1)
    have k1 := row_cell h.rs (r.length * 2 + 1) _ (by rw [hs]; exact a2)
    have hfz := h.fz 3
    have hcap := own_capM h.rs
    have hqm := own_ne_blk h.rs h.blk (by decide) q rfl
    rw [hl2] at c3 hl hcap
    have HM : Hid (MSt (w.setCell ⟨mb, 3, none⟩ (.slice (some ⟨q, 0, none⟩) r.length sc)) B mb fv c (popM s) K (.slice (some ⟨q, 0, none⟩) r.length sc) rv nv ev vs) := by
      have e : popM s = { s with stk := r } := by unfold popM; rw [hs]; rfl
      rw [e]
      exact MSt.popS (by rw [hl2] at h; exact h) hs
    have HK : Hid (¬ K mb) := h.noK
    clear h hs a1 a2
    obtain ⟨x1, x2⟩ := x
    simp only at *
    go_enter Tryz.func113, Tryz.ntmps113
    go_wp2_with fail
    refine bodyPost_ret (v := .agg #[.int .i64 x1, .int .i64 x2]) (by simp [results, Tryz.results113, go_sem]) rfl ⟨rfl, ?_, ?_, _, HM.out.old ?_, rfl⟩
    · exact ((Below.refl B w).setCell (by exact hlo) _).trans ((below_al2 _ _ _).mono (by rw [size_set]; omega))
    · exact (Kept.set HK.out).trans (Kept.old (below_al2 _ _ _)) (by rw [size_set]; exact Nat.le_refl _)
    · exact below_al2 _ _ _

theorem mPop (B mb : Nat) (fv : Value) (c : Cf) (s : Ms) (K : Nat → Prop) (w : World) (h : MP w B mb fv c s K) (hl : s.stk.length ≤ 1099511627776) :
    Calls Tryz.prog 113 #[.pointer (some ⟨mb, 0, none⟩)] w fun e w' => e = .returned (.agg #[.int .i64 (hdI s.stk).1, .int .i64 (hdI s.stk).2]) ∧ Below B w w' ∧ Kept K w w' ∧ MP w' B mb fv c (popM s) K := by
  obtain ⟨sv, rv, nv, ev, vs, h⟩ := h
  refine (mPopX B mb fv c s K sv rv nv ev vs w h hl).mono ?_
  rintro e w' ⟨h1, h2, h3, sv', h4, _⟩
  exact ⟨h1, h2, h3, _, _, _, _, _, h4⟩

set_option maxHeartbeats 4000000 in
theorem mDrop (B mb : Nat) (fv : Value) (c : Cf) (s : Ms) (K : Nat → Prop) (w : World) (h : MP w B mb fv c s K) (hl : s.frs.length ≤ 1099511627776) :
    Calls Tryz.prog 164 #[.pointer (some ⟨mb, 0, none⟩)] w fun e w' => (∃ v, e = .returned v) ∧ Below B w w' ∧ Kept K w w' ∧ MP w' B mb fv c (dropM s) K := by
  obtain ⟨sv, rv, nv, ev, vs, h⟩ := h
  obtain ⟨so, sc, rfl⟩ := own_form h.rr
  have c3 := h.c4
  have hmb := h.lt
  have hlo := h.lo
  cases hs : s.frs with
  | nil =>
    have HM : Hid (MP w B mb fv c (dropM s) K) := by
      have e : dropM s = s := by unfold dropM; rw [hs]; cases s; simp_all
      rw [e]
      exact ⟨_, _, _, _, _, h⟩
    rw [hs] at c3
    simp only [List.length_nil] at c3
    clear h hl hs
    go_enter Tryz.func164, Tryz.ntmps164
    go_wp2_with fail
    exact bodyPost_end (v := .tuple #[]) (by simp [results, Tryz.results164, go_sem]) rfl ⟨⟨_, rfl⟩, Below.refl B w, Kept.refl _ _, HM.out⟩
  | cons x r =>
    have hl2 : s.frs.length = r.length + 1 := by rw [hs]; rfl
    obtain ⟨q, cap', hq, hqB, hqlt⟩ := h.rr.form (by omega)
    cases hq
    have hfz := h.fz 4
    have hcap := own_capM h.rr
    have hqm := own_ne_blk h.rr h.blk (by decide) q rfl
    rw [hl2] at c3 hl hcap
    have HM : Hid (MSt (w.setCell ⟨mb, 4, none⟩ (.slice (some ⟨q, 0, none⟩) r.length sc)) B mb fv c (dropM s) K sv (.slice (some ⟨q, 0, none⟩) r.length sc) nv ev vs) := by
      have e : dropM s = { s with frs := r } := by unfold dropM; rw [hs]; rfl
      rw [e]
      exact MSt.popR (by rw [hl2] at h; exact h) hs
    have HK : Hid (¬ K mb) := h.noK
    clear h hs
    go_enter Tryz.func164, Tryz.ntmps164
    go_wp2_with fail
    exact bodyPost_end (v := .tuple #[]) (by simp [results, Tryz.results164, go_sem]) rfl ⟨⟨_, rfl⟩, (Below.refl B w).setCell (by exact hlo) _, Kept.set HK.out, _, _, _, _, _, HM.out⟩

set_option maxRecDepth 100000 in
set_option maxHeartbeats 4000000 in
theorem mWait (k : Int) (h0 : Int) (nd pr nu : Int) (B mb : Nat) (fv : Value) (c : Cf) (s : Ms) (K : Nat → Prop) (w : World) (h : MP w B mb fv c s K) (hl : s.frs.length ≤ 1099511627776) (_hl2 : s.stk.length ≤ 1099511627776) :
    Calls Tryz.prog 114 #[.pointer (some ⟨mb, 0, none⟩), .agg #[.int .i64 k, .int .i64 h0, .int .i64 nd, .int .i64 pr, .int .i64 nu]] w fun e w' => (∃ v, e = .returned v) ∧ Below B w w' ∧ Kept K w w' ∧ MP w' B mb fv c (waitM k nd pr nu s) K := by
  obtain ⟨sv, rv, nv, ev, vs, h⟩ := h
  obtain ⟨i, hi, hz0, hz1, hz2⟩ := info_parts Tryz.infoFrame
  obtain ⟨so, sc, rfl⟩ := own_form h.rs
  obtain ⟨ro, rc, rfl⟩ := own_form h.rr
  have c3 := h.c3
  have c4 := h.c4
  have hmb := h.lt
  have hlo := h.lo
  have HM : Hid (∀ w', Below w.heap.size w w' → MSt w' B mb fv c s K (.slice so s.stk.length sc) (.slice ro s.frs.length rc) nv ev vs) := fun w' hb => h.old hb
  clear h
  go_enter Tryz.func114, Tryz.ntmps114
  go_wp2_with fail
  have HA : Hid _ := below_ad w (Obj.cells #[.int .i64 k, .int .i64 (s.stk.length : Int), .int .i64 nd, .int .i64 pr, .int .i64 nu] 191) (Obj.cells #[.int .i64 k, .int .i64 (s.stk.length : Int), .int .i64 nd, .int .i64 pr, .int .i64 nu] 191)
  have HN : Hid _ := new_ad w (Obj.cells #[.int .i64 k, .int .i64 (s.stk.length : Int), .int .i64 nd, .int .i64 pr, .int .i64 nu] 191) (Obj.cells #[.int .i64 k, .int .i64 (s.stk.length : Int), .int .i64 nd, .int .i64 pr, .int .i64 nu] 191)
  go_region_law ((refine step_append_lies _ (by rfl) _ _ _ (by rfl) B 191 i _ 5 40 Tryz.underlying90 hi hz0 hz1 hz2 rfl (by omega) (.slice ro s.frs.length rc) s.frs.length (fcs s.frs.reverse) (by rfl) (by exact (HM.out _ HA.out).rr) _ 1 _ [.int .i64 k, .int .i64 (s.stk.length : Int), .int .i64 nd, .int .i64 pr, .int .i64 nu] (by rfl) rfl (by exact World.news_of_block HN.out) (by simp [Value.oneCell']) (by omega) (by unfold maxLen; omega) (by omega) (by have := HA.out.size; omega) _ rfl ?_; intro g cap2 w2 hown2 hgrow hat hlt2; have HPA : Hid _ := MSt.pushR (f := ⟨k, s.stk.length, nd, pr, nu⟩) (HM.out _ HA.out) hown2 hgrow hat; have kb := cell_of_row w2 mb 4 _ _ _ (grown_type (HM.out _ HA.out).rr hgrow (by decide) (HM.out _ HA.out).blk); simp only [List.getElem?_toArray, List.getElem?_cons_succ, List.getElem?_cons_zero] at kb; have kf := frozen_of_row w2 mb 4 _ _ (grown_type (HM.out _ HA.out).rr hgrow (by decide) (HM.out _ HA.out).blk); clear hown2 hgrow hat hlt2))
  all_goals
    refine bodyPost_end (v := .tuple #[]) (by simp [results, Tryz.results114, go_sem]) rfl ⟨⟨_, rfl⟩, (HA.out.mono (by omega)).trans HPA.out.1, (Kept.old HA.out).trans HPA.out.2.1 HA.out.size, _, _, _, _, _, HPA.out.2.2⟩

theorem acs_at' (l : Ln) (j : Nat) (h : j < l.length) : (acs l)[j * 2]? = some (.int .i64 l[j].1) ∧ (acs l)[j * 2 + 1]? = some (.int .i64 l[j].2) := acs_at l j h

set_option maxHeartbeats 4000000 in
theorem mPut (l : Ln) (v : Value) (Bx : Nat) (B mb : Nat) (fv : Value) (c : Cf) (s : Ms) (K : Nat → Prop) (w : World) (h : MP w B mb fv c s K) (hv : w.ownsRow Bx 96 2 v l.length (acs l)) (hK : ∀ k, v.ownBlock = some k → K k) (hl : l.length + s.stk.length ≤ 1099511627776) :
    Calls Tryz.prog 115 #[.pointer (some ⟨mb, 0, none⟩), v] w fun e w' => (∃ v, e = .returned v) ∧ Below B w w' ∧ Kept K w w' ∧ MP w' B mb fv c (putM l s) K := by
  obtain ⟨vo, vc, rfl⟩ := own_form hv
  have HV : Hid (∀ w', Kept K w w' → w'.ownsRow Bx 96 2 (.slice vo l.length vc) l.length (acs l)) := fun w' hk => own_kept hv hk hK
  have HM : Hid (MP w B mb fv c s K) := h
  clear h hv hK
  go_enter Tryz.func115, Tryz.ntmps115
  go_wp2_with fail
  go_loopw [4] (fun y wr => ∃ j : Nat, j ≤ l.length ∧ y = .int .i64 ((j : Int) - 1) ∧ Hid (Below B w wr) ∧ Hid (Kept K w wr) ∧ Hid (MP wr B mb fv c (putM (l.drop j) s) K)) (fun y _ => (intOf y + 1).toNat)
  case atStart => exact ⟨l.length, Nat.le_refl _, rfl, Below.refl _ _, Kept.refl _ _, by rw [List.drop_length]; exact HM.out⟩
  case round =>
    clear HM
    obtain ⟨j, hj, rfl, HB, HKK, HM⟩ := hrel
    by_cases hj0 : j = 0
    · subst hj0
      have hd : decide ((0 : Int) ≤ ((0 : Nat) : Int) - 1) = false := by decide
      go_wp2_with fail
      exact bodyPost_end (v := .tuple #[]) (by simp [results, Tryz.results115, go_sem]) rfl ⟨⟨_, rfl⟩, HB.out, HKK.out, HM.out⟩
    · obtain ⟨i, rfl⟩ : ∃ i, j = i + 1 := ⟨j - 1, by omega⟩
      have hil : i < l.length := by omega
      have e1 : (((i + 1 : Nat) : Int) - 1) = (i : Int) := by omega
      rw [e1]
      have hrow := HV.out wr HKK.out
      obtain ⟨q, cap', hq, hqB, hqlt⟩ := hrow.form (by omega)
      cases hq
      have k0 := row_cell hrow (i * 2) _ (acs_at' l i hil).1
      have k1 := row_cell hrow (i * 2 + 1) _ (acs_at' l i hil).2
      clear hrow
      have hsz : (putM (l.drop (i + 1)) s).stk.length ≤ 1099511627776 := by simp [putM]; omega
      have HC : Hid _ := mPush l[i] B mb fv c (putM (l.drop (i + 1)) s) K wr HM.out hsz
      have HE : Hid (pushM l[i] (putM (l.drop (i + 1)) s) = putM (l.drop i) s) := by show _ = _; rw [List.drop_eq_getElem_cons hil]; rfl
      rw [HE.out] at HC
      generalize l[i] = x at *
      obtain ⟨x1, x2⟩ := x
      simp only at *
      go_wp2_with fail
      refine (show Calls _ _ _ _ _ from HC.out).mono ?_
      rintro e w1 ⟨⟨v1, rfl⟩, hb1, hk1, hm1⟩
      have HM1 : Hid _ := hm1
      have HB1 : Hid (Below B w w1) := HB.out.trans hb1
      have HK1 : Hid (Kept K w w1) := HKK.out.trans hk1 HB.out.size
      clear hm1 hb1 hk1 HC HM HB HKK k0 k1
      go_wp2_with fail
      go_roundw
      case rel => exact ⟨i, by omega, rfl, HB1.out, HK1.out, HM1.out⟩
      case measure => simp [intOf]

end Go.Proofs.YtnndoagpbcacdaaGreatDoor
namespace Go.Proofs.YtnndoagpbcacdaaGreatDoor
open Go.RowKit

set_option maxRecDepth 100000 in
set_option maxHeartbeats 4000000 in
theorem mActive (B mb : Nat) (fv : Value) (c : Cf) (s : Ms) (K : Nat → Prop) (sv rv nv ev : Value) (vs : List Value) (w : World) (h : MSt w B mb fv c s K sv rv nv ev vs) (hl : s.stk.length ≤ 1099511627776) (hl2 : s.frs.length ≤ 1099511627776) (hf : flr s ≤ s.stk.length) :
    Calls Tryz.prog 163 #[.pointer (some ⟨mb, 0, none⟩)] w fun e w' => ∃ v, e = .returned v ∧ Below w.heap.size w w' ∧ w'.ownsRow w.heap.size 96 2 v (actM s).length (acs (actM s)) := by
  obtain ⟨i, hi, hz0, hz1, hz2⟩ := info_parts Tryz.infoItem
  have HC : Hid _ := mFloor B mb fv c s K sv rv nv ev vs w h hl2
  have HM : Hid (∀ w', Below w.heap.size w w' → MSt w' B mb fv c s K sv rv nv ev vs) := fun w' hb => h.old hb
  have hmb := h.lt
  obtain ⟨so, sc, rfl⟩ := own_form h.rs
  clear h
  go_enter Tryz.func163, Tryz.ntmps163
  go_wp2_with fail
  refine (show Calls _ _ _ _ _ from HC.out).mono ?_
  rintro e w1 ⟨rfl, m, rfl⟩
  clear HC
  have HB0 : Hid (Below w.heap.size w (w.drewN m)) := below_drewN (Below.refl _ _) m
  have c3 := (HM.out _ HB0.out).c3
  have hmb1 : mb < (w.drewN m).heap.size := hmb
  go_wp2_with fail
  clear c3 hmb1
  generalize hfl : flr s = fl at *
  go_loopw [3, 5] (fun y z wr => ∃ j : Nat, j + fl ≤ s.stk.length ∧ z = .int .i64 ((s.stk.length : Int) - 1 - j) ∧ Hid (Below w.heap.size w wr) ∧ (∃ yo yc, y = .slice yo j yc) ∧ Hid (wr.ownsRow w.heap.size 96 2 y j (acs (s.stk.take j)))) (fun _ z _ => (intOf z + 1).toNat)
  case atStart => exact ⟨0, by omega, by simp, HB0.out, ⟨none, 0, rfl⟩, World.ownsRow_nil _ _ _ _⟩
  case round =>
    clear HB0
    obtain ⟨j, hj, rfl, HB, ⟨yo, yc, rfl⟩, HR⟩ := hrel
    have hms := HM.out _ HB.out
    have c3 := hms.c3
    have hmb1 := hms.lt
    by_cases hlt : j + fl < s.stk.length
    · obtain ⟨q, cap', hq, hqB, hqlt⟩ := hms.rs.form (by omega)
      cases hq
      obtain ⟨k, hk⟩ : ∃ k, s.stk.length = j + 1 + k := ⟨s.stk.length - (j + 1), by omega⟩
      have hjl : j < s.stk.length := by omega
      have hrv : (acs s.stk.reverse)[k * 2]? = some (.int .i64 s.stk[j].1) ∧ (acs s.stk.reverse)[k * 2 + 1]? = some (.int .i64 s.stk[j].2) := by
        have h1 := acs_at' s.stk.reverse k (by rw [List.length_reverse]; omega)
        have e : s.stk.reverse[k]'(by rw [List.length_reverse]; omega) = s.stk[j] := by
          have e2 : s.stk.length - 1 - k = j := by omega
          simp [List.getElem_reverse, e2]
        rw [e] at h1; exact h1
      have k0 := row_cell hms.rs (k * 2) _ hrv.1
      have k1 := row_cell hms.rs (k * 2 + 1) _ hrv.2
      have e1 : (s.stk.length : Int) - 1 - (j : Int) = (k : Int) := by omega
      rw [e1]
      have hd : decide ((fl : Int) ≤ (k : Int)) = true := by simp; omega
      have HT : Hid (acs (s.stk.take (j + 1)) = acs (s.stk.take j) ++ [.int .i64 s.stk[j].1, .int .i64 s.stk[j].2]) := by
        show _ = _
        rw [List.take_succ_eq_append_getElem hjl, acs_snoc]
      clear hrv
      generalize s.stk[j] = x at *
      obtain ⟨x1, x2⟩ := x
      simp only at *
      have hkl : k < s.stk.length := by omega
      have hk1 : s.stk.length ≤ j + 1 + k := by omega
      have hk2 : j + 1 + k ≤ s.stk.length := by omega
      clear hk
      have hbs := HB.out.size
      clear hms
      go_wp2_with (at_builtin; go_must (refine wpList_append_lies _ rfl _ _ _ rfl w.heap.size 96 i _ 2 16 Tryz.underlying89 hi hz0 hz1 hz2 rfl (by omega) (.slice yo j yc) j (acs (s.stk.take j)) rfl ?hown _ 1 _ [.int .i64 x1, .int .i64 x2] rfl rfl ?hnews ?h1 (by omega) ?h63 ?hbytes ?hbase _ rfl ?_))
      case hown => exact World.ownsRow.alloc HR.out _
      case hnews => exact World.news_of_block (heap_alloc_new wr _)
      case h1 => simp [Value.oneCell']
      case h63 => unfold maxLen; omega
      case hbytes => omega
      case hbase => simp; omega
      intro g cap2 w2 hown2 hgrow2 hat2 hlt2
      have HB2 : Hid (Below w.heap.size w w2) := (HB.out.alloc hbs _).grown hgrow2 (by simp; omega) (fun k hk => ((HR.out.lt k hk).1))
      have HR2 : Hid (w2.ownsRow w.heap.size 96 2 (.slice (some ⟨g, 0, none⟩) (j + 1) cap2) (j + 1) (acs (s.stk.take (j + 1)))) := by rw [HT.out]; exact hown2
      clear hown2 hgrow2 hat2 hlt2
      go_wp2_with fail
      go_roundw
      case rel => exact ⟨j + 1, by omega, congrArg (Value.int .i64) (by omega), HB2.out, ⟨_, _, rfl⟩, HR2.out⟩
      case measure => simp [intOf]
    · have hd : decide ((fl : Int) ≤ (s.stk.length : Int) - 1 - (j : Int)) = false := by simp; omega
      have hd2 : ¬ (fl : Int) ≤ (s.stk.length : Int) - 1 - (j : Int) := by omega
      have HE : Hid (actM s = s.stk.take j) := by show _ = _; unfold actM; rw [hfl]; congr 1; omega
      have HEL : Hid ((s.stk.take j).length = j) := by show _ = _; rw [List.length_take]; omega
      clear hms
      go_wp2_with fail
      go_ret
      exact ⟨_, rfl, HB.out, by rw [HE.out, HEL.out]; exact HR.out⟩

theorem popN_snoc : ∀ (n : Nat) (l : Ln), popN (n + 1) l = popN n l ++ [hdI (l.drop n)]
  | 0, l => by simp [popN]
  | n + 1, l => by
    rw [popN, popN_snoc n l.tail, popN]
    simp [List.drop_tail]
theorem popN_len : ∀ (n : Nat) (l : Ln), (popN n l).length = n
  | 0, _ => rfl
  | n + 1, l => by simp [popN, popN_len n]

set_option maxRecDepth 100000 in
set_option maxHeartbeats 4000000 in
theorem mPopMany (n : Nat) (B mb : Nat) (fv : Value) (c : Cf) (s : Ms) (K : Nat → Prop) (sv rv nv ev : Value) (vs : List Value) (w : World) (h : MSt w B mb fv c s K sv rv nv ev vs) (hl : s.stk.length ≤ 1099511627776) (hn : n ≤ 100) :
    Calls Tryz.prog 118 #[.pointer (some ⟨mb, 0, none⟩), .int .i64 n] w fun e w' => ∃ v, e = .returned v ∧ Below B w w' ∧ Kept K w w' ∧ w'.ownsRow w.heap.size 96 2 v n (acs (popN n s.stk)) ∧ ∃ sv', MSt w' B mb fv c { s with stk := s.stk.drop n } K sv' rv nv ev vs ∧ sv'.ownBlock = sv.ownBlock := by
  obtain ⟨i, hi, hz0, hz1, hz2⟩ := info_parts Tryz.infoItem
  have hBw : B ≤ w.heap.size := by have := h.lo; have := h.lt; omega
  have HT : Hid (MLt w.heap.size mb sv rv nv ev vs) := h.mlt
  have HM : Hid (MSt w B mb fv c s K sv rv nv ev vs) := h
  have HKL : Hid (∀ k, K k → k < w.heap.size) := h.klt
  clear h
  go_enter Tryz.func118, Tryz.ntmps118
  go_wp2_with fail
  go_loopw [5, 6] (fun y z wr => ∃ j : Nat, j ≤ n ∧ z = .int .i64 j ∧ w.heap.size ≤ wr.heap.size ∧ Hid (Below B w wr) ∧ Hid (Kept K w wr) ∧ (∃ yo yc, y = .slice yo j yc) ∧ Hid (wr.ownsRow w.heap.size 96 2 y j (acs (popN j s.stk))) ∧ Hid (∃ sv', MSt wr B mb fv c { s with stk := s.stk.drop j } K sv' rv nv ev vs ∧ sv'.ownBlock = sv.ownBlock)) (fun _ z _ => n - (intOf z).toNat)
  case atStart => exact ⟨0, by omega, rfl, Nat.le_refl _, Below.refl _ _, Kept.refl _ _, ⟨none, 0, rfl⟩, World.ownsRow_nil _ _ _ _, sv, HM.out, rfl⟩
  case round =>
    clear HM
    obtain ⟨j, hj, rfl, hsz, HB, HK, ⟨yo, yc, rfl⟩, HR, HX⟩ := hrel
    by_cases hlt : j < n
    · obtain ⟨sv1, hm1, ho1⟩ := HX.out
      have HT1 : Hid (MLt w.heap.size mb sv1 rv nv ev vs) := ⟨HT.out.m, by rw [ho1]; exact HT.out.s, HT.out.r, HT.out.n, HT.out.e, HT.out.v⟩
      have HO1 : Hid (sv1.ownBlock = sv.ownBlock) := ho1
      have HC : Hid _ := mPopX B mb fv c { s with stk := s.stk.drop j } _ sv1 rv nv ev vs wr (hm1.fromT HT1.out) (by show (s.stk.drop j).length ≤ _; rw [List.length_drop]; omega)
      simp only at HC
      have HS : Hid (acs (popN (j + 1) s.stk) = acs (popN j s.stk) ++ [.int .i64 (hdI (s.stk.drop j)).1, .int .i64 (hdI (s.stk.drop j)).2]) := by show _ = _; rw [popN_snoc, acs_snoc]
      have HP : Hid (popM { s with stk := s.stk.drop j } = { s with stk := s.stk.drop (j + 1) }) := by show _ = _; simp [popM]
      clear hm1 ho1 HX
      generalize hdI (s.stk.drop j) = x at *
      obtain ⟨x1, x2⟩ := x
      simp only at *
      go_wp2_with fail
      refine (show Calls _ _ _ _ _ from HC.out).mono ?_
      rintro e w1 ⟨rfl, hb1, hk1, sv2, hm2, ho2⟩
      clear HC
      have HB1 : Hid (Below B w w1) := HB.out.trans hb1
      have hs1 := hb1.size
      have HK1 : Hid (Kept K w w1) := HK.out.trans (fun k hk hl => hk1 k (.inl hk) hl) hsz
      have HR1 : Hid (w1.ownsRow w.heap.size 96 2 (.slice yo j yc) j (acs (popN j s.stk))) := own_kept HR.out hk1 (fun k hk => .inr (HR.out.lt k hk))
      have HM2 : Hid (MSt w1 B mb fv c { s with stk := s.stk.drop (j + 1) } K sv2 rv nv ev vs) := by rw [HP.out] at hm2; exact hm2.moreK (fun k hk => .inl (.inl hk))
      have HO2 : Hid (sv2.ownBlock = sv.ownBlock) := ho2.trans HO1.out
      clear hb1 hk1 hm2 ho2 HB HK HR HT1
      go_wp2_with (at_builtin; go_must (refine wpList_append_lies _ rfl _ _ _ rfl w.heap.size 96 i _ 2 16 Tryz.underlying89 hi hz0 hz1 hz2 rfl (by omega) (.slice yo j yc) j (acs (popN j s.stk)) rfl ?hown _ 1 _ [.int .i64 x1, .int .i64 x2] rfl rfl ?hnews ?h1 (by omega) ?h63 ?hbytes ?hbase _ rfl ?_))
      case hown => exact (World.ownsRow.alloc HR1.out _).alloc _
      case hnews => exact World.news_of_block (by have := heap_alloc_new (w1.alloc (Obj.cells #[.int .i64 x1, .int .i64 x2] 96)) (Obj.cells #[.int .i64 x1, .int .i64 x2] 96); rw [World.size_alloc] at this; exact this)
      case h1 => simp [Value.oneCell']
      case h63 => unfold maxLen; omega
      case hbytes => omega
      case hbase => simp; omega
      intro g cap2 w2 hown2 hgrow2 hat2 hlt2
      have HA2 : Hid (Below w.heap.size w1 w2) := ((below_al2 _ _ _).mono (by omega)).grown hgrow2 (by simp; omega) (fun k hk => ((HR1.out.lt k hk).1))
      have HR2 : Hid (w2.ownsRow w.heap.size 96 2 (.slice (some ⟨g, 0, none⟩) (j + 1) cap2) (j + 1) (acs (popN (j + 1) s.stk))) := by rw [HS.out]; exact hown2
      clear hown2 hgrow2 hat2 hlt2
      have hs2 := HA2.out.size
      go_wp2_with fail
      go_roundw
      case rel => exact ⟨j + 1, hlt, by go_num, by omega, HB1.out.trans (HA2.out.mono hBw), HK1.out.trans (fun k hk _ => HA2.out.block k (HKL.out k hk)) (by omega), ⟨_, _, rfl⟩, HR2.out, sv2, HM2.out.below ⟨HT.out.m, by rw [HO2.out]; exact HT.out.s, HT.out.r, HT.out.n, HT.out.e, HT.out.v⟩ HA2.out, HO2.out⟩
      case measure => simp [intOf]; omega
    · have hjn : j = n := by omega
      have hd : decide ((j : Int) < (n : Int)) = false := by simp; omega
      have hd2 : ¬ (j : Int) < (n : Int) := by omega
      have HJ : Hid (j = n) := hjn
      clear hjn
      go_wp2_with fail
      go_ret
      exact ⟨_, rfl, HB.out, HK.out, by rw [← HJ.out]; exact HR.out, by rw [← HJ.out]; exact HX.out⟩

theorem wrap_in (n : Int) (h1 : -9223372036854775808 ≤ n) (h2 : n ≤ 9223372036854775807) : IntKind.i64.wrap n = n := by
  have e : IntKind.i64.wrap n = if 9223372036854775808 ≤ n % 18446744073709551616 then n % 18446744073709551616 - 18446744073709551616 else n % 18446744073709551616 := by simp [IntKind.wrap, IntKind.bits, IntKind.signed]
  rw [e]; split <;> omega
theorem cells_two (W : World) (b : Nat) (a0 a1 : Value) (t : TypeId) (x1 x2 : Value) (h : W.heap[b]? = some (.cells #[a0, a1] t (0, 0))) : ((W.setCell ⟨b, 0, none⟩ x1).setCell ⟨b, 1, none⟩ x2).cell? ⟨b, 0, none⟩ = some x1 ∧ ((W.setCell ⟨b, 0, none⟩ x1).setCell ⟨b, 1, none⟩ x2).cell? ⟨b, 1, none⟩ = some x2 := by
  have h2 := blk_set (i := 1) x2 (blk_set (i := 0) x1 h)
  exact ⟨by rw [cell_of_row _ b 0 _ _ _ h2]; rfl, by rw [cell_of_row _ b 1 _ _ _ h2]; rfl⟩

set_option maxHeartbeats 4000000 in
theorem mLook (B mb : Nat) (fv : Value) (c : Cf) (s : Ms) (K : Nat → Prop) (sv rv nv ev : Value) (vs : List Value) (w : World) (h : MSt w B mb fv c s K sv rv nv ev vs) (hl : s.stk.length ≤ 1099511627776) (hl2 : s.frs.length ≤ 1099511627776) (hfl : flr s ≤ 1099511627776) :
    Calls Tryz.prog 74 #[.pointer (some ⟨mb, 0, none⟩)] w fun e w' => e = .returned (.tuple #[.agg #[.int .i64 (hdI s.stk).1, .int .i64 (hdI s.stk).2], .int .i64 (argN s)]) ∧ Below w.heap.size w w' := by
  have HC : Hid (∀ w', Below w.heap.size w w' → Calls Tryz.prog 112 #[.pointer (some ⟨mb, 0, none⟩)] w' fun e w'' => e = .returned (.int .i64 (flr s)) ∧ ∃ m, w'' = w'.drewN m) := fun w' hb => mFloor B mb fv c s K sv rv nv ev vs w' (h.old hb) hl2
  obtain ⟨so, sc, rfl⟩ := own_form h.rs
  have c3 := h.c3
  have hmb := h.lt
  cases hs : s.stk with
  | nil =>
    have HA : Hid (argN s = 0) := by show _ = _; unfold argN; rw [hs]; rfl
    rw [hs] at c3
    simp only [List.length_nil] at c3
    rw [HA.out]
    clear h hl hs HC
    go_enter Tryz.func74, Tryz.ntmps74
    go_wp2_with fail
    exact bodyPost_ret (v := .tuple #[.agg #[.int .i64 0, .int .i64 0], .int .i64 0]) (by simp [results, Tryz.results74, go_sem]) rfl ⟨rfl, below_al _ _⟩
  | cons x r =>
    have hl2 : s.stk.length = r.length + 1 := by rw [hs]; rfl
    obtain ⟨q, cap', hq, hqB, hqlt⟩ := h.rs.form (by omega)
    cases hq
    obtain ⟨a1, a2⟩ := acs_top x r
    have k0 := row_cell h.rs (r.length * 2) _ (by rw [hs]; exact a1)
    have k1 := row_cell h.rs (r.length * 2 + 1) _ (by rw [hs]; exact a2)
    have HA : Hid (argN s = (r.length : Int) - flr s) := by show _ = _; unfold argN; rw [hl2, if_neg (by omega)]; omega
    rw [hl2] at c3 hl
    rw [HA.out]
    clear h hs a1 a2 hl2
    generalize flr s = fl at *
    obtain ⟨x1, x2⟩ := x
    simp only [hdI, List.headD_cons]
    have hwr := wrap_in ((r.length : Int) - (fl : Int)) (by omega) (by omega)
    go_enter Tryz.func74, Tryz.ntmps74
    go_wp2_with fail
    go_region_with (go_at_call 112; go_must (refine (show Calls _ _ _ _ _ from HC.out _ (by first | exact below_al _ _ | exact Below.drew (below_al _ _))).mono ?_); rintro e w1 ⟨rfl, m, rfl⟩)
    all_goals
      go_wp2_with fail
      obtain ⟨q0, q1⟩ := cells_two ((w.alloc (Obj.cells #[.int .i64 0, .int .i64 0] 96)).drewN (1 + m)) w.heap.size _ _ _ (.int .i64 x1) (.int .i64 x2) (by exact heap_alloc_new w _)
      refine bodyPost_ret (v := .tuple #[.agg #[.int .i64 x1, .int .i64 x2], .int .i64 ((r.length : Int) - fl)]) (by simp [results, Tryz.results74, go_sem, q0, q1]) rfl ⟨rfl, ?_⟩
      exact ((below_drewN (below_al w _) _).setCell (by exact Nat.le_refl _) _).setCell (by exact Nat.le_refl _) _

end Go.Proofs.YtnndoagpbcacdaaGreatDoor
