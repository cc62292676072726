import Derived.Test.YtnndoagpbcacdaaGreatDoorMM6
import Derived.Test.YtnndoagpbcacdaaGreatDoorMA8
namespace Go.Proofs.YtnndoagpbcacdaaGreatDoor
open Go.RowKit

/-! The machine in memory. -/
def fcell (f : Fr) : List Value := [.int .i64 f.k, .int .i64 (f.h : Int), .int .i64 f.nd, .int .i64 f.pr, .int .i64 f.nu]
def fcs (l : List Fr) : List Value := l.flatMap fcell
def ncs : List Value → List (Ln × Bool) → List Value
  | v :: vs, n :: ns => v :: .bool n.2 :: ncs vs ns
  | _, _ => []
structure MSt (w : World) (B mb : Nat) (fv : Value) (c : Cf) (s : Ms) (K : Nat → Prop) (sv rv nv ev : Value) (vs : List Value) : Prop where
  blk : w.heap[mb]? = some (.cells #[fv, .int .i64 c.bud, .int .i64 c.hp, sv, rv, nv, ev, .int .i64 s.stp, .int .i64 s.out, .int .i64 s.val] 93 (0, 0))
  lo : B ≤ mb
  rs : w.ownsRow B 96 2 sv s.stk.length (acs s.stk.reverse)
  rr : w.ownsRow B 191 5 rv s.frs.length (fcs s.frs.reverse)
  rn : w.ownsRow B 188 2 nv s.nds.length (ncs vs s.nds)
  re : w.ownsRow B 3 1 ev s.fre.length (ints s.fre.reverse)
  vl : vs.length = s.nds.length
  rows : ∀ j (h : j < s.nds.length), ∃ v, vs[j]? = some v ∧ w.ownsRow B 96 2 v s.nds[j].1.length (acs s.nds[j].1) ∧ ∀ k, v.ownBlock = some k → sv.ownBlock ≠ some k
  klt : ∀ k, K k → k < w.heap.size
  sep : ∀ k, K k → k ≠ mb ∧ sv.ownBlock ≠ some k ∧ rv.ownBlock ≠ some k ∧ nv.ownBlock ≠ some k ∧ ev.ownBlock ≠ some k
/-- What the blocks in K hold is left alone. -/
def Kept (K : Nat → Prop) (w w' : World) : Prop := ∀ k, K k → k < w.heap.size → w'.heap[k]? = w.heap[k]?
theorem Kept.refl (K : Nat → Prop) (w : World) : Kept K w w := fun _ _ _ => rfl
theorem Kept.trans {K : Nat → Prop} {w w' w'' : World} (h1 : Kept K w w') (h2 : Kept K w' w'') (hs : w.heap.size ≤ w'.heap.size) : Kept K w w'' :=
  fun k hk hl => (h2 k hk (Nat.lt_of_lt_of_le hl hs)).trans (h1 k hk hl)
theorem Kept.old {K : Nat → Prop} {w w' : World} (h : Below w.heap.size w w') : Kept K w w' := fun k _ hl => h.block k hl
theorem Kept.set {K : Nat → Prop} {w : World} {x i : Nat} {u : Value} (h : ¬ K x) : Kept K w (w.setCell ⟨x, i, none⟩ u) := fun _ hk _ => heap_set_ne _ (fun e => h (e ▸ hk))
def MP (w : World) (B mb : Nat) (fv : Value) (c : Cf) (s : Ms) (K : Nat → Prop) : Prop := ∃ sv rv nv ev vs, MSt w B mb fv c s K sv rv nv ev vs
theorem ty_ne' {w : World} {b x : Nat} {c1 c2 : Array Value} {t1 t2 : TypeId} (h1 : w.heap[b]? = some (.cells c1 t1 (0, 0))) (h2 : w.heap[x]? = some (.cells c2 t2 (0, 0))) (hne : t1 ≠ t2) : b ≠ x := by
  intro e
  subst e
  rw [h1] at h2
  simp at h2
  exact hne h2.2
section
variable {w w' w2 : World} {B mb : Nat} {fv : Value} {c : Cf} {s : Ms} {K : Nat → Prop} {sv rv nv ev : Value} {vs : List Value}
theorem MSt.lt (h : MSt w B mb fv c s K sv rv nv ev vs) : mb < w.heap.size := (Array.getElem?_eq_some_iff.1 h.blk).1
theorem MSt.old (h : MSt w B mb fv c s K sv rv nv ev vs) (hb : Below w.heap.size w w') : MSt w' B mb fv c s K sv rv nv ev vs :=
  ⟨(hb.block mb h.lt).trans h.blk, h.lo, ownsRow_old h.rs hb, ownsRow_old h.rr hb, ownsRow_old h.rn hb, ownsRow_old h.re hb, h.vl,
    fun j hj => by obtain ⟨v, h1, h2, h3⟩ := h.rows j hj; exact ⟨v, h1, ownsRow_old h2 hb, h3⟩, fun k hk => Nat.lt_of_lt_of_le (h.klt k hk) hb.size, h.sep⟩
theorem MSt.noK (h : MSt w B mb fv c s K sv rv nv ev vs) : ¬ K mb := fun hk => (h.sep mb hk).1 rfl
/-- A field that is no list. -/
theorem MSt.field (h : MSt w B mb fv c s K sv rv nv ev vs) {i : Nat} {u : Value} {s' : Ms} (e1 : s'.stk = s.stk) (e2 : s'.frs = s.frs) (e3 : s'.nds = s.nds) (e4 : s'.fre = s.fre)
    (he : (#[fv, .int .i64 c.bud, .int .i64 c.hp, sv, rv, nv, ev, .int .i64 s.stp, .int .i64 s.out, .int .i64 s.val] : Array Value).setIfInBounds i u = #[fv, .int .i64 c.bud, .int .i64 c.hp, sv, rv, nv, ev, .int .i64 s'.stp, .int .i64 s'.out, .int .i64 s'.val]) : MSt (w.setCell ⟨mb, i, none⟩ u) B mb fv c s' K sv rv nv ev vs := by
  refine ⟨?_, h.lo, ?_, ?_, ?_, ?_, ?_, ?_, ?_, h.sep⟩
  · rw [blk_set _ h.blk, he]
  · rw [e1]; exact ownsRow_set h.rs h.blk (by decide)
  · rw [e2]; exact ownsRow_set h.rr h.blk (by decide)
  · rw [e3]; exact ownsRow_set h.rn h.blk (by decide)
  · rw [e4]; exact ownsRow_set h.re h.blk (by decide)
  · rw [e3]; exact h.vl
  · rw [e3]; exact fun j hj => by obtain ⟨v, h1, h2, h3⟩ := h.rows j hj; exact ⟨v, h1, ownsRow_set h2 h.blk (by decide), h3⟩
  · intro k hk; have := h.klt k hk; simp [World.setCell]; exact this
theorem acs_revc (x : Int × Int) (l : Ln) : acs (x :: l).reverse = acs l.reverse ++ [.int .i64 x.1, .int .i64 x.2] := by simp [acs]
theorem fcs_revc (x : Fr) (l : List Fr) : fcs (x :: l).reverse = fcs l.reverse ++ fcell x := by simp [fcs]
theorem ints_revc (x : Int) (l : List Int) : ints (x :: l).reverse = ints l.reverse ++ [.int .i64 x] := by simp [ints]
theorem ncs_snoc : ∀ (vs : List Value) (ns : List (Ln × Bool)) (v : Value) (n : Ln × Bool), vs.length = ns.length → ncs (vs ++ [v]) (ns ++ [n]) = ncs vs ns ++ [v, .bool n.2]
  | [], [], _, _, _ => rfl
  | _ :: vs, _ :: ns, v, n, h => by simp [ncs, ncs_snoc vs ns v n (by simpa using h)]
/-- A row that is kept. -/
theorem own_kept {base size n : Nat} {e : TypeId} {v : Value} {xs : List Value} (h : w.ownsRow base e size v n xs) (hk : Kept K w w') (hv : ∀ k, v.ownBlock = some k → K k) : w'.ownsRow base e size v n xs := by
  refine ⟨h.1, ?_⟩
  rcases h.2 with hn | ⟨g, cap, cur, rfl, hg, hh, q⟩
  · exact .inl hn
  · exact .inr ⟨g, cap, cur, rfl, hg, (hk g (hv g rfl) (Array.getElem?_eq_some_iff.1 hh).1).trans hh, q⟩
/-- What an append to one of the machine's lists leaves alone. -/
theorem kept_grown {ov : Value} (hgr : w.grownBy w2 ov.ownBlock) (hK : ∀ k, K k → ov.ownBlock ≠ some k) : Kept K w w2 :=
  fun k hk hl => hgr.block k hl (fun e => hK k hk e.symm)
/-- The stack, longer by an item. -/
theorem MSt.pushS {g cap : Nat} {x : Int × Int} (h : MSt w B mb fv c s K sv rv nv ev vs) (hown : w2.ownsRow B 96 2 (.slice (some ⟨g, 0, none⟩) (s.stk.length + 1) cap) (s.stk.length + 1) (acs s.stk.reverse ++ [.int .i64 x.1, .int .i64 x.2])) (hgr : w.grownBy w2 sv.ownBlock) (hat : sv.ownBlock = some g ∨ g = w.heap.size) :
    Below B w (w2.setCell ⟨mb, 3, none⟩ (.slice (some ⟨g, 0, none⟩) (s.stk.length + 1) cap)) ∧ Kept K w (w2.setCell ⟨mb, 3, none⟩ (.slice (some ⟨g, 0, none⟩) (s.stk.length + 1) cap)) ∧ MSt (w2.setCell ⟨mb, 3, none⟩ (.slice (some ⟨g, 0, none⟩) (s.stk.length + 1) cap)) B mb fv c (pushM x s) K (.slice (some ⟨g, 0, none⟩) (s.stk.length + 1) cap) rv nv ev vs := by
  have hb2 := grown_type h.rs hgr (by decide) h.blk
  have hlt := h.lt
  have hsz := hgr.size
  have hgn : ∀ k, K k → g ≠ k := by
    intro k hk e
    rcases hat with hat | hat
    · exact (h.sep k hk).2.1 (e ▸ hat)
    · have := h.klt k hk; omega
  refine ⟨((Below.refl B w).grown hgr (by have := h.lo; omega) (fun k hk => (h.rs.lt k hk).1)).setCell (by exact h.lo) _, (kept_grown hgr (fun k hk => (h.sep k hk).2.1)).trans (Kept.set h.noK) hsz, blk_set _ hb2, h.lo, ?_, ownsRow_set (own_grown_type h.rs hgr (by decide) h.rr) hb2 (by decide), ownsRow_set (own_grown_type h.rs hgr (by decide) h.rn) hb2 (by decide), ownsRow_set (own_grown_type h.rs hgr (by decide) h.re) hb2 (by decide), h.vl, ?_, ?_, ?_⟩
  · show World.ownsRow _ _ _ _ _ (x :: s.stk).length (acs (x :: s.stk).reverse)
    rw [acs_revc]
    exact ownsRow_set hown hb2 (by decide)
  · intro j hj
    obtain ⟨v, h1, h2, h3⟩ := h.rows j hj
    refine ⟨v, h1, ownsRow_set (h2.kept hgr ?_) hb2 (by decide), ?_⟩
    · cases hq : v.ownBlock with
      | none => exact .inl rfl
      | some k => right; exact fun e => h3 k hq e.symm
    · intro k hk e
      have hgk : g = k := by simpa [Value.ownBlock] using e
      rcases hat with hat | hat
      · exact h3 k hk (by rw [← hgk]; exact hat)
      · have := (h2.lt k hk).2; omega
  · intro k hk; have := h.klt k hk; simp [World.setCell]; omega
  · intro k hk
    obtain ⟨a, _, d⟩ := h.sep k hk
    exact ⟨a, fun e => hgn k hk (by simpa [Value.ownBlock] using e), d⟩
/-- The frames, more by one. -/
theorem MSt.pushR {g cap : Nat} {f : Fr} (h : MSt w B mb fv c s K sv rv nv ev vs) (hown : w2.ownsRow B 191 5 (.slice (some ⟨g, 0, none⟩) (s.frs.length + 1) cap) (s.frs.length + 1) (fcs s.frs.reverse ++ fcell f)) (hgr : w.grownBy w2 rv.ownBlock) (hat : rv.ownBlock = some g ∨ g = w.heap.size) :
    Below B w (w2.setCell ⟨mb, 4, none⟩ (.slice (some ⟨g, 0, none⟩) (s.frs.length + 1) cap)) ∧ Kept K w (w2.setCell ⟨mb, 4, none⟩ (.slice (some ⟨g, 0, none⟩) (s.frs.length + 1) cap)) ∧ MSt (w2.setCell ⟨mb, 4, none⟩ (.slice (some ⟨g, 0, none⟩) (s.frs.length + 1) cap)) B mb fv c { s with frs := f :: s.frs } K sv (.slice (some ⟨g, 0, none⟩) (s.frs.length + 1) cap) nv ev vs := by
  have hb2 := grown_type h.rr hgr (by decide) h.blk
  have hlt := h.lt
  have hsz := hgr.size
  have hgn : ∀ k, K k → g ≠ k := by
    intro k hk e
    rcases hat with hat | hat
    · exact (h.sep k hk).2.2.1 (e ▸ hat)
    · have := h.klt k hk; omega
  refine ⟨((Below.refl B w).grown hgr (by have := h.lo; omega) (fun k hk => (h.rr.lt k hk).1)).setCell (by exact h.lo) _, (kept_grown hgr (fun k hk => (h.sep k hk).2.2.1)).trans (Kept.set h.noK) hsz, blk_set _ hb2, h.lo, ownsRow_set (own_grown_type h.rr hgr (by decide) h.rs) hb2 (by decide), ?_, ownsRow_set (own_grown_type h.rr hgr (by decide) h.rn) hb2 (by decide), ownsRow_set (own_grown_type h.rr hgr (by decide) h.re) hb2 (by decide), h.vl, ?_, ?_, ?_⟩
  · show World.ownsRow _ _ _ _ _ (f :: s.frs).length (fcs (f :: s.frs).reverse)
    rw [fcs_revc]
    exact ownsRow_set hown hb2 (by decide)
  · intro j hj
    obtain ⟨v, h1, h2, h3⟩ := h.rows j hj
    exact ⟨v, h1, ownsRow_set (own_grown_type h.rr hgr (by decide) h2) hb2 (by decide), h3⟩
  · intro k hk; have := h.klt k hk; simp [World.setCell]; omega
  · intro k hk
    obtain ⟨a, b, _, d⟩ := h.sep k hk
    exact ⟨a, b, fun e => hgn k hk (by simpa [Value.ownBlock] using e), d⟩
/-- The nodes, more by one without items. -/
theorem MSt.pushN {g cap : Nat} (h : MSt w B mb fv c s K sv rv nv ev vs) (hown : w2.ownsRow B 188 2 (.slice (some ⟨g, 0, none⟩) (s.nds.length + 1) cap) (s.nds.length + 1) (ncs vs s.nds ++ [.slice none 0 0, .bool false])) (hgr : w.grownBy w2 nv.ownBlock) (hat : nv.ownBlock = some g ∨ g = w.heap.size) :
    Below B w (w2.setCell ⟨mb, 5, none⟩ (.slice (some ⟨g, 0, none⟩) (s.nds.length + 1) cap)) ∧ Kept K w (w2.setCell ⟨mb, 5, none⟩ (.slice (some ⟨g, 0, none⟩) (s.nds.length + 1) cap)) ∧ MSt (w2.setCell ⟨mb, 5, none⟩ (.slice (some ⟨g, 0, none⟩) (s.nds.length + 1) cap)) B mb fv c { s with nds := s.nds ++ [([], false)] } K sv rv (.slice (some ⟨g, 0, none⟩) (s.nds.length + 1) cap) ev (vs ++ [.slice none 0 0]) := by
  have hb2 := grown_type h.rn hgr (by decide) h.blk
  have hlt := h.lt
  have hsz := hgr.size
  have hgn : ∀ k, K k → g ≠ k := by
    intro k hk e
    rcases hat with hat | hat
    · exact (h.sep k hk).2.2.2.1 (e ▸ hat)
    · have := h.klt k hk; omega
  refine ⟨((Below.refl B w).grown hgr (by have := h.lo; omega) (fun k hk => (h.rn.lt k hk).1)).setCell (by exact h.lo) _, (kept_grown hgr (fun k hk => (h.sep k hk).2.2.2.1)).trans (Kept.set h.noK) hsz, blk_set _ hb2, h.lo, ownsRow_set (own_grown_type h.rn hgr (by decide) h.rs) hb2 (by decide), ownsRow_set (own_grown_type h.rn hgr (by decide) h.rr) hb2 (by decide), ?_, ownsRow_set (own_grown_type h.rn hgr (by decide) h.re) hb2 (by decide), by simp [h.vl], ?_, ?_, ?_⟩
  · show World.ownsRow _ _ _ _ _ (s.nds ++ [([], false)]).length (ncs (vs ++ [.slice none 0 0]) (s.nds ++ [([], false)]))
    rw [ncs_snoc _ _ _ _ h.vl, List.length_append]
    exact ownsRow_set hown hb2 (by decide)
  · intro j hj
    have hj' : j < s.nds.length + 1 := by simpa using hj
    by_cases hjl : j < s.nds.length
    · obtain ⟨v, h1, h2, h3⟩ := h.rows j hjl
      refine ⟨v, by rw [List.getElem?_append_left (by rw [h.vl]; exact hjl)]; exact h1, ?_, h3⟩
      simp only [List.getElem_append_left hjl]
      exact ownsRow_set (own_grown_type h.rn hgr (by decide) h2) hb2 (by decide)
    · have e : j = s.nds.length := by omega
      subst e
      refine ⟨.slice none 0 0, by rw [List.getElem?_append_right (by rw [h.vl]; exact Nat.le_refl _)]; simp [h.vl], ?_, fun k hk => by simp [Value.ownBlock] at hk⟩
      simp only [List.getElem_append_right (Nat.le_refl _), Nat.sub_self, List.getElem_cons_zero]
      exact World.ownsRow_nil _ _ _ _
  · intro k hk; have := h.klt k hk; simp [World.setCell]; omega
  · intro k hk
    obtain ⟨a, b, b2, _, d⟩ := h.sep k hk
    exact ⟨a, b, b2, fun e => hgn k hk (by simpa [Value.ownBlock] using e), d⟩
/-- The free places, more by one. -/
theorem MSt.pushE {g cap : Nat} {x : Int} (h : MSt w B mb fv c s K sv rv nv ev vs) (hown : w2.ownsRow B 3 1 (.slice (some ⟨g, 0, none⟩) (s.fre.length + 1) cap) (s.fre.length + 1) (ints s.fre.reverse ++ [.int .i64 x])) (hgr : w.grownBy w2 ev.ownBlock) (hat : ev.ownBlock = some g ∨ g = w.heap.size) :
    Below B w (w2.setCell ⟨mb, 6, none⟩ (.slice (some ⟨g, 0, none⟩) (s.fre.length + 1) cap)) ∧ Kept K w (w2.setCell ⟨mb, 6, none⟩ (.slice (some ⟨g, 0, none⟩) (s.fre.length + 1) cap)) ∧ MSt (w2.setCell ⟨mb, 6, none⟩ (.slice (some ⟨g, 0, none⟩) (s.fre.length + 1) cap)) B mb fv c { s with fre := x :: s.fre } K sv rv nv (.slice (some ⟨g, 0, none⟩) (s.fre.length + 1) cap) vs := by
  have hb2 := grown_type h.re hgr (by decide) h.blk
  have hlt := h.lt
  have hsz := hgr.size
  have hgn : ∀ k, K k → g ≠ k := by
    intro k hk e
    rcases hat with hat | hat
    · exact (h.sep k hk).2.2.2.2 (e ▸ hat)
    · have := h.klt k hk; omega
  refine ⟨((Below.refl B w).grown hgr (by have := h.lo; omega) (fun k hk => (h.re.lt k hk).1)).setCell (by exact h.lo) _, (kept_grown hgr (fun k hk => (h.sep k hk).2.2.2.2)).trans (Kept.set h.noK) hsz, blk_set _ hb2, h.lo, ownsRow_set (own_grown_type h.re hgr (by decide) h.rs) hb2 (by decide), ownsRow_set (own_grown_type h.re hgr (by decide) h.rr) hb2 (by decide), ownsRow_set (own_grown_type h.re hgr (by decide) h.rn) hb2 (by decide), ?_, h.vl, ?_, ?_, ?_⟩
  · show World.ownsRow _ _ _ _ _ (x :: s.fre).length (ints (x :: s.fre).reverse)
    rw [ints_revc]
    exact ownsRow_set hown hb2 (by decide)
  · intro j hj
    obtain ⟨v, h1, h2, h3⟩ := h.rows j hj
    exact ⟨v, h1, ownsRow_set (own_grown_type h.re hgr (by decide) h2) hb2 (by decide), h3⟩
  · intro k hk; have := h.klt k hk; simp [World.setCell]; omega
  · intro k hk
    obtain ⟨a, b, b2, b3, _⟩ := h.sep k hk
    exact ⟨a, b, b2, b3, fun e => hgn k hk (by simpa [Value.ownBlock] using e)⟩
theorem own_store {base size n q cap : Nat} {e : TypeId} {xs : List Value} (h : w.ownsRow base e size (.slice (some ⟨q, 0, none⟩) n cap) n xs) (j : Nat) (u : Value) : (w.setCell ⟨q, j, none⟩ u).ownsRow base e size (.slice (some ⟨q, 0, none⟩) n cap) n (xs.set j u) := by
  obtain ⟨h1, h2⟩ := h
  refine ⟨by rw [List.length_set]; exact h1, ?_⟩
  rcases h2 with ⟨h0, _⟩ | ⟨g', cap', cur, h0, hg, hh, c1, c2, c3, c4⟩
  · cases h0
  · cases h0
    refine .inr ⟨q, cap, cur.setIfInBounds j u, rfl, hg, blk_set _ hh, c1, c2, by rw [Array.size_setIfInBounds]; exact c3, ?_⟩
    rw [Array.toList_setIfInBounds, List.take_set, c4]
theorem own_less {base size n m q cap : Nat} {e : TypeId} {xs : List Value} (h : w.ownsRow base e size (.slice (some ⟨q, 0, none⟩) n cap) n xs) (hm : m ≤ n) : w.ownsRow base e size (.slice (some ⟨q, 0, none⟩) m cap) m (xs.take (m * size)) := by
  obtain ⟨h1, h2⟩ := h
  have hmn : m * size ≤ n * size := Nat.mul_le_mul_right _ hm
  refine ⟨by rw [List.length_take]; omega, ?_⟩
  rcases h2 with ⟨h0, _⟩ | ⟨g', cap', cur, h0, hg, hh, c1, c2, c3, c4⟩
  · cases h0
  · cases h0
    refine .inr ⟨q, cap, cur, rfl, hg, hh, by omega, c2, c3, ?_⟩
    rw [← c4, List.take_take, Nat.min_eq_left hmn]
theorem acs_length (l : Ln) : (acs l).length = l.length * 2 := by
  induction l with
  | nil => rfl
  | cons a l ih => simp [acs] at ih ⊢; omega
theorem fcs_length (l : List Fr) : (fcs l).length = l.length * 5 := by
  induction l with
  | nil => rfl
  | cons a l ih => simp [fcs, fcell] at ih ⊢; omega
/-- The stack without its top. -/
theorem MSt.popS {g cap : Nat} {x : Int × Int} {r : Ln} (h : MSt w B mb fv c s K (.slice (some ⟨g, 0, none⟩) (r.length + 1) cap) rv nv ev vs) (hs : s.stk = x :: r) :
    MSt (w.setCell ⟨mb, 3, none⟩ (.slice (some ⟨g, 0, none⟩) r.length cap)) B mb fv c { s with stk := r } K (.slice (some ⟨g, 0, none⟩) r.length cap) rv nv ev vs := by
  have hrs := h.rs
  rw [hs, acs_revc] at hrs
  have h2 := own_less hrs (Nat.le_succ r.length)
  rw [List.take_left' (by rw [acs_length, List.length_reverse])] at h2
  exact ⟨blk_set _ h.blk, h.lo, ownsRow_set h2 h.blk (by decide), ownsRow_set h.rr h.blk (by decide), ownsRow_set h.rn h.blk (by decide), ownsRow_set h.re h.blk (by decide), h.vl,
    fun j hj => by obtain ⟨v, h1, h2, h3⟩ := h.rows j hj; exact ⟨v, h1, ownsRow_set h2 h.blk (by decide), h3⟩, fun k hk => by have := h.klt k hk; simp [World.setCell]; exact this, h.sep⟩
/-- The frames without the top one. -/
theorem MSt.popR {g cap : Nat} {x : Fr} {r : List Fr} (h : MSt w B mb fv c s K sv (.slice (some ⟨g, 0, none⟩) (r.length + 1) cap) nv ev vs) (hs : s.frs = x :: r) :
    MSt (w.setCell ⟨mb, 4, none⟩ (.slice (some ⟨g, 0, none⟩) r.length cap)) B mb fv c { s with frs := r } K sv (.slice (some ⟨g, 0, none⟩) r.length cap) nv ev vs := by
  have hrs := h.rr
  rw [hs, fcs_revc] at hrs
  have h2 := own_less hrs (Nat.le_succ r.length)
  rw [List.take_left' (by rw [fcs_length, List.length_reverse])] at h2
  exact ⟨blk_set _ h.blk, h.lo, ownsRow_set h.rs h.blk (by decide), ownsRow_set h2 h.blk (by decide), ownsRow_set h.rn h.blk (by decide), ownsRow_set h.re h.blk (by decide), h.vl,
    fun j hj => by obtain ⟨v, h1, h2, h3⟩ := h.rows j hj; exact ⟨v, h1, ownsRow_set h2 h.blk (by decide), h3⟩, fun k hk => by have := h.klt k hk; simp [World.setCell]; exact this, h.sep⟩
/-- The free places without the last. -/
theorem MSt.popE {g cap : Nat} {x : Int} {r : List Int} (h : MSt w B mb fv c s K sv rv nv (.slice (some ⟨g, 0, none⟩) (r.length + 1) cap) vs) (hs : s.fre = x :: r) :
    MSt (w.setCell ⟨mb, 6, none⟩ (.slice (some ⟨g, 0, none⟩) r.length cap)) B mb fv c { s with fre := r } K sv rv nv (.slice (some ⟨g, 0, none⟩) r.length cap) vs := by
  have hrs := h.re
  rw [hs, ints_revc] at hrs
  have h2 := own_less hrs (Nat.le_succ r.length)
  rw [List.take_left' (by simp [ints])] at h2
  exact ⟨blk_set _ h.blk, h.lo, ownsRow_set h.rs h.blk (by decide), ownsRow_set h.rr h.blk (by decide), ownsRow_set h.rn h.blk (by decide), ownsRow_set h2 h.blk (by decide), h.vl,
    fun j hj => by obtain ⟨v, h1, h2, h3⟩ := h.rows j hj; exact ⟨v, h1, ownsRow_set h2 h.blk (by decide), h3⟩, fun k hk => by have := h.klt k hk; simp [World.setCell]; exact this, h.sep⟩
theorem ncs_set : ∀ (vs : List Value) (ns : List (Ln × Bool)) (p : Nat) (v : Value) (l : Ln) (b : Bool), vs.length = ns.length → p < ns.length → ((ncs vs ns).set (p * 2) v).set (p * 2 + 1) (.bool b) = ncs (vs.set p v) (ns.set p (l, b))
  | [], [], p, _, _, _, _, h => by simp at h
  | _ :: vs, _ :: ns, 0, v, l, b, _, _ => by simp [ncs]
  | _ :: vs, _ :: ns, p + 1, v, l, b, h, hp => by
    have := ncs_set vs ns p v l b (by simpa using h) (by simpa using hp)
    simp only [ncs, List.set_cons_succ, ← this, show (p + 1) * 2 = p * 2 + 1 + 1 by omega]
theorem ncs_at : ∀ (vs : List Value) (ns : List (Ln × Bool)) (p : Nat) (v : Value) (n : Ln × Bool), vs[p]? = some v → ns[p]? = some n → (ncs vs ns)[p * 2]? = some v ∧ (ncs vs ns)[p * 2 + 1]? = some (.bool n.2)
  | [], _, p, _, _, h, _ => by simp at h
  | _ :: _, [], p, _, _, _, h => by simp at h
  | _ :: vs, _ :: ns, 0, v, n, h, hn => by simp at h hn; subst h; subst hn; simp [ncs]
  | _ :: vs, _ :: ns, p + 1, v, n, h, hn => by
    have := ncs_at vs ns p v n (by simpa using h) (by simpa using hn)
    rw [show (p + 1) * 2 = p * 2 + 1 + 1 by omega]
    simpa [ncs] using this
/-- A node is laid. -/
theorem MSt.layN {g cap m p : Nat} {v : Value} {l : Ln} {b : Bool} (h : MSt w B mb fv c s K sv rv (.slice (some ⟨g, 0, none⟩) m cap) ev vs) (hp : p < s.nds.length) (hv : w.ownsRow B 96 2 v l.length (acs l)) (hsep : ∀ k, v.ownBlock = some k → sv.ownBlock ≠ some k) :
    Below B w ((w.setCell ⟨g, p * 2, none⟩ v).setCell ⟨g, p * 2 + 1, none⟩ (.bool b)) ∧ Kept K w ((w.setCell ⟨g, p * 2, none⟩ v).setCell ⟨g, p * 2 + 1, none⟩ (.bool b)) ∧ MSt ((w.setCell ⟨g, p * 2, none⟩ v).setCell ⟨g, p * 2 + 1, none⟩ (.bool b)) B mb fv c { s with nds := s.nds.set p (l, b) } K sv rv (.slice (some ⟨g, 0, none⟩) m cap) ev (vs.set p v) := by
  obtain ⟨q, cap', hq, hqb, hqlt⟩ := h.rn.form (by omega)
  cases hq
  have hblk : ∃ cs, w.heap[g]? = some (.cells cs 188 (0, 0)) := by
    rcases h.rn.2 with ⟨h0, _⟩ | ⟨g', cap', cur, h0, hg, hh, _⟩
    · cases h0
    · cases h0; exact ⟨cur, hh⟩
  obtain ⟨cs, hg⟩ := hblk
  have hg2 := blk_set (i := p * 2) v hg
  have hnK : ¬ K g := fun hk => (h.sep g hk).2.2.2.1 rfl
  refine ⟨((Below.refl B w).setCell (by exact hqb) _).setCell (by exact hqb) _, (Kept.set hnK).trans (Kept.set hnK) (by simp [World.setCell]), ?_, h.lo, ownsRow_set (ownsRow_set h.rs hg (by decide)) hg2 (by decide), ownsRow_set (ownsRow_set h.rr hg (by decide)) hg2 (by decide), ?_, ownsRow_set (ownsRow_set h.re hg (by decide)) hg2 (by decide), by simp [h.vl], ?_, ?_, h.sep⟩
  · rw [heap_set_ne _ (ty_ne' h.blk hg (by decide)), heap_set_ne _ (ty_ne' h.blk hg (by decide))]; exact h.blk
  · show World.ownsRow _ _ _ _ _ (s.nds.set p (l, b)).length (ncs (vs.set p v) (s.nds.set p (l, b)))
    rw [← ncs_set vs s.nds p v l b h.vl hp, List.length_set]
    exact own_store (own_store h.rn _ _) _ _
  · intro j hj
    have hj' : j < s.nds.length := by simpa using hj
    by_cases hjp : p = j
    · subst hjp
      refine ⟨v, List.getElem?_set_self (by rw [h.vl]; exact hp), ?_, hsep⟩
      simp only [List.getElem_set_self]
      exact ownsRow_set (ownsRow_set hv hg (by decide)) hg2 (by decide)
    · obtain ⟨u, h1, h2, h3⟩ := h.rows j hj'
      refine ⟨u, by rw [List.getElem?_set_ne hjp]; exact h1, ?_, h3⟩
      simp only [List.getElem_set_ne hjp]
      exact ownsRow_set (ownsRow_set h2 hg (by decide)) hg2 (by decide)
  · intro k hk; have := h.klt k hk; simp [World.setCell]; exact this
end

end Go.Proofs.YtnndoagpbcacdaaGreatDoor
