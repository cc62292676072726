import Derived.Test.YtnndoagpbcacdaaDoorD0
namespace Go.Proofs.YtnndoagpbcacdaaDoor
open Go.RowKit

/-! Code in rows of its own. -/
def acs (l : Ln) : List Value := l.flatMap fun a => [.int .i64 a.1, .int .i64 a.2]
theorem acs_snoc (l : Ln) (a : Int × Int) : acs (l ++ [a]) = acs l ++ [.int .i64 a.1, .int .i64 a.2] := by simp [acs]
theorem Tryd.infoAtom : (Tryd.prog.info? 60).map (fun i => (i.zero, i.size, i.bytes)) = some (some (.agg #[.int .i64 0, .int .i64 0]), 2, 16) := by kernel_rfl
theorem Tryd.infoLine : (Tryd.prog.info? 61).map (fun i => (i.zero, i.size, i.bytes)) = some (some (.slice none 0 0), 1, 24) := by kernel_rfl
theorem Tryd.infoTemplate : (Tryd.prog.info? 64).map (fun i => (i.zero, i.size, i.bytes)) = some (some (.agg #[.int .i64 0, .slice none 0 0]), 2, 32) := by kernel_rfl
theorem map_snoc {α β : Type} (f : α → β) (l : List α) (k : Nat) (h : k < l.length) : (l.take (k + 1)).map f = (l.take k).map f ++ [f l[k]] := by
  rw [List.take_succ_eq_append_getElem h, List.map_append]; simp

def LinesOw (w : World) (T : Nat) (lv : Value) (L : List Ln) : Prop :=
  ∃ vs, w.ownsRow 0 61 1 lv L.length vs ∧ (∀ k, lv.ownBlock = some k → k < T) ∧ ∀ j (h : j < L.length), ∃ v, vs[j]? = some v ∧ w.ownsRow 0 60 2 v L[j].length (acs L[j]) ∧ ∀ k, v.ownBlock = some k → k < T
theorem LinesOw.keep {w w' : World} {T : Nat} {lv : Value} {L : List Ln} (h : LinesOw w T lv L) (hb : Below T w w') : LinesOw w' T lv L := by
  obtain ⟨vs, h1, h2, h3⟩ := h
  refine ⟨vs, ownsRow_below h1 hb h2, h2, fun j hj => ?_⟩
  obtain ⟨v, e1, e2, e3⟩ := h3 j hj
  exact ⟨v, e1, ownsRow_below e2 hb e3, e3⟩
theorem LinesOw.up {w : World} {T T' : Nat} {lv : Value} {L : List Ln} (h : LinesOw w T lv L) (hT : T ≤ T') : LinesOw w T' lv L := by
  obtain ⟨vs, h1, h2, h3⟩ := h
  refine ⟨vs, h1, fun k hk => Nat.lt_of_lt_of_le (h2 k hk) hT, fun j hj => ?_⟩
  obtain ⟨v, e1, e2, e3⟩ := h3 j hj
  exact ⟨v, e1, e2, fun k hk => Nat.lt_of_lt_of_le (e3 k hk) hT⟩
theorem LinesOw.type {w w' : World} {T base size n : Nat} {lv v0 : Value} {L : List Ln} {xs0 : List Value} (hr : w.ownsRow base 64 size v0 n xs0) (hg : w.grownBy w' v0.ownBlock) (h : LinesOw w T lv L) : LinesOw w' T lv L := by
  obtain ⟨vs, h1, h2, h3⟩ := h
  refine ⟨vs, own_grown_type hr hg (by decide) h1, h2, fun j hj => ?_⟩
  obtain ⟨v, e1, e2, e3⟩ := h3 j hj
  exact ⟨v, e1, own_grown_type hr hg (by decide) e2, e3⟩
theorem LinesOw.set {w : World} {T b i : Nat} {lv u : Value} {L : List Ln} {cs : Array Value} (hb : w.heap[b]? = some (.cells cs 36 (0, 0))) (h : LinesOw w T lv L) : LinesOw (w.setCell ⟨b, i, none⟩ u) T lv L := by
  obtain ⟨vs, h1, h2, h3⟩ := h
  refine ⟨vs, ownsRow_set h1 hb (by decide), h2, fun j hj => ?_⟩
  obtain ⟨v, e1, e2, e3⟩ := h3 j hj
  exact ⟨v, e1, ownsRow_set e2 hb (by decide), e3⟩
theorem LinesOw.setT {w : World} {T b i : Nat} {lv u : Value} {L : List Ln} {cs : Array Value} (hb : w.heap[b]? = some (.cells cs 64 (0, 0))) (h : LinesOw w T lv L) : LinesOw (w.setCell ⟨b, i, none⟩ u) T lv L := by
  obtain ⟨vs, h1, h2, h3⟩ := h
  refine ⟨vs, ownsRow_set h1 hb (by decide), h2, fun j hj => ?_⟩
  obtain ⟨v, e1, e2, e3⟩ := h3 j hj
  exact ⟨v, e1, ownsRow_set e2 hb (by decide), e3⟩
theorem acs_at (l : Ln) (j : Nat) (h : j < l.length) : (acs l)[j * 2]? = some (.int .i64 l[j].1) ∧ (acs l)[j * 2 + 1]? = some (.int .i64 l[j].2) := by
  induction l generalizing j with
  | nil => simp at h
  | cons a r ih =>
    cases j with
    | zero => simp [acs]
    | succ j =>
      have := ih j (by simpa using h)
      rw [show (j + 1) * 2 = j * 2 + 1 + 1 by omega]
      simpa [acs] using this
theorem atoms_rd {w : World} {T : Nat} {v : Value} {l : Ln} (h : w.ownsRow 0 60 2 v l.length (acs l)) (hT : ∀ k, v.ownBlock = some k → k < T) : AtomsRd w T v l := by
  have h0 := h
  rcases h.2 with ⟨rfl, hn⟩ | ⟨g, cap, cur, rfl, _, _, hn, hc, _⟩
  · exact ⟨none, 0, by rw [hn], by omega, by unfold maxLen; omega, .inl hn⟩
  · exact ⟨some ⟨g, 0, none⟩, cap, rfl, hn, hc, .inr ⟨g, 0, rfl, hT g rfl, fun j hj => by rw [Nat.zero_add]; exact ⟨row_cell h0 _ _ (acs_at l j hj).1, row_cell h0 _ _ (acs_at l j hj).2⟩⟩⟩
theorem LinesOw.rd {w : World} {T : Nat} {lv : Value} {L : List Ln} (h : LinesOw w T lv L) : LinesRd w T lv L := by
  obtain ⟨vs, h1, h2, h3⟩ := h
  have h0 := h1
  rcases h1.2 with ⟨rfl, hn⟩ | ⟨g, cap, cur, rfl, _, _, hn, hc, _⟩
  · exact ⟨none, 0, by rw [hn], by omega, by unfold maxLen; omega, .inl hn⟩
  · refine ⟨some ⟨g, 0, none⟩, cap, rfl, hn, hc, .inr ⟨g, 0, rfl, h2 g rfl, fun j hj => ?_⟩⟩
    obtain ⟨v, e1, e2, e3⟩ := h3 j hj
    exact ⟨v, by rw [Nat.zero_add]; exact row_cell h0 _ _ e1, atoms_rd e2 e3⟩

def FuOw (w : World) (T : Nat) : List Tp → List Value → Prop
  | [], xs => xs = []
  | t :: r, xs => ∃ lv ys, xs = .int .i64 t.ar :: lv :: ys ∧ LinesOw w T lv t.ls ∧ FuOw w T r ys
theorem FuOw.keep {w w' : World} {T : Nat} (hb : Below T w w') : ∀ {F : List Tp} {xs : List Value}, FuOw w T F xs → FuOw w' T F xs
  | [], _, h => h
  | _ :: _, _, ⟨lv, ys, h1, h2, h3⟩ => ⟨lv, ys, h1, h2.keep hb, FuOw.keep hb h3⟩
theorem FuOw.up {w : World} {T T' : Nat} (hT : T ≤ T') : ∀ {F : List Tp} {xs : List Value}, FuOw w T F xs → FuOw w T' F xs
  | [], _, h => h
  | _ :: _, _, ⟨lv, ys, h1, h2, h3⟩ => ⟨lv, ys, h1, h2.up hT, FuOw.up hT h3⟩
theorem FuOw.type {w w' : World} {T base size n : Nat} {v0 : Value} {xs0 : List Value} (hr : w.ownsRow base 64 size v0 n xs0) (hg : w.grownBy w' v0.ownBlock) : ∀ {F : List Tp} {xs : List Value}, FuOw w T F xs → FuOw w' T F xs
  | [], _, h => h
  | _ :: _, _, ⟨lv, ys, h1, h2, h3⟩ => ⟨lv, ys, h1, h2.type hr hg, FuOw.type hr hg h3⟩
theorem FuOw.set {w : World} {T b i : Nat} {u : Value} {cs : Array Value} (hb : w.heap[b]? = some (.cells cs 36 (0, 0))) : ∀ {F : List Tp} {xs : List Value}, FuOw w T F xs → FuOw (w.setCell ⟨b, i, none⟩ u) T F xs
  | [], _, h => h
  | _ :: _, _, ⟨lv, ys, h1, h2, h3⟩ => ⟨lv, ys, h1, h2.set hb, FuOw.set hb h3⟩
theorem FuOw.snoc {w : World} {T : Nat} {t : Tp} {lv : Value} (ht : LinesOw w T lv t.ls) : ∀ {F : List Tp} {xs : List Value}, FuOw w T F xs → FuOw w T (F ++ [t]) (xs ++ [.int .i64 t.ar, lv])
  | [], _, h => by rw [show _ = ([] : List Value) from h]; exact ⟨lv, [], rfl, ht, rfl⟩
  | _ :: _, _, ⟨l, ys, h1, h2, h3⟩ => ⟨l, ys ++ [.int .i64 t.ar, lv], by rw [h1]; simp, h2, FuOw.snoc ht h3⟩
theorem FuOw.at {w : World} {T : Nat} : ∀ {F : List Tp} {xs : List Value}, FuOw w T F xs → ∀ j (h : j < F.length), ∃ lv, xs[j * 2]? = some (.int .i64 F[j].ar) ∧ xs[j * 2 + 1]? = some lv ∧ LinesOw w T lv F[j].ls
  | [], _, _, j, h => by simp at h
  | t :: F, _, ⟨lv, ys, rfl, h2, h3⟩, 0, _ => ⟨lv, rfl, rfl, h2⟩
  | t :: F, _, ⟨lv, ys, rfl, h2, h3⟩, j + 1, h => by
    obtain ⟨l, e1, e2, e3⟩ := FuOw.at h3 j (by simpa using h)
    refine ⟨l, ?_, ?_, e3⟩
    · rw [show (j + 1) * 2 = j * 2 + 1 + 1 by omega]; exact e1
    · rw [show (j + 1) * 2 + 1 = (j * 2 + 1) + 1 + 1 by omega]; exact e2
theorem FuOw.rd {w : World} {T : Nat} {fv : Value} {F : List Tp} {xs : List Value} (hr : w.ownsRow 0 64 2 fv F.length xs) (hT : ∀ k, fv.ownBlock = some k → k < T) (h : FuOw w T F xs) : FunsRd w T fv F := by
  have h0 := hr
  rcases hr.2 with ⟨rfl, hn⟩ | ⟨g, cap, cur, rfl, _, _, hn, hc, _⟩
  · exact ⟨none, 0, by rw [hn], by omega, by unfold maxLen; omega, .inl hn⟩
  · refine ⟨some ⟨g, 0, none⟩, cap, rfl, hn, hc, .inr ⟨g, 0, rfl, hT g rfl, fun j hj => ?_⟩⟩
    obtain ⟨lv, e1, e2, e3⟩ := h.at j hj
    exact ⟨lv, by rw [Nat.zero_add]; exact row_cell h0 _ _ e1, by rw [Nat.zero_add]; exact row_cell h0 _ _ e2, e3.rd⟩

/-- Rows of atoms, each where S says. -/
def RowsAt (w : World) (B : Nat) (S : Nat → Prop) (vs : List Value) (L : List Ln) : Prop :=
  ∀ j (h : j < L.length), ∃ v, vs[j]? = some v ∧ w.ownsRow B 60 2 v L[j].length (acs L[j]) ∧ ∀ k, v.ownBlock = some k → S k
def LinesB (w : World) (B : Nat) (lv : Value) (L : List Ln) : Prop :=
  ∃ vs, w.ownsRow B 61 1 lv L.length vs ∧ RowsAt w B (fun _ => True) vs L
theorem LinesB.ow {w : World} {B : Nat} {lv : Value} {L : List Ln} (h : LinesB w B lv L) : LinesOw w w.heap.size lv L := by
  obtain ⟨vs, h1, h2⟩ := h
  refine ⟨vs, ownsRow_base h1 (Nat.zero_le _), fun k hk => (h1.lt k hk).2, fun j hj => ?_⟩
  obtain ⟨v, e1, e2, _⟩ := h2 j hj
  exact ⟨v, e1, ownsRow_base e2 (Nat.zero_le _), fun k hk => (e2.lt k hk).2⟩
theorem RowsAt.old {w w' : World} {B : Nat} {S S' : Nat → Prop} {vs : List Value} {L : List Ln} (h : RowsAt w B S vs L) (hb : Below w.heap.size w w') (hS : ∀ k, k < w.heap.size → S k → S' k) : RowsAt w' B S' vs L := by
  intro j hj
  obtain ⟨v, e1, e2, e3⟩ := h j hj
  exact ⟨v, e1, ownsRow_old e2 hb, fun k hk => hS k (e2.lt k hk).2 (e3 k hk)⟩
theorem RowsAt.kept {w w' : World} {B : Nat} {S S' : Nat → Prop} {vs : List Value} {L : List Ln} {ov : Value} (h : RowsAt w B S vs L) (hg : w.grownBy w' ov.ownBlock) (hne : ∀ k, S k → ov.ownBlock ≠ some k) (hS : ∀ k, k < w.heap.size → S k → S' k) : RowsAt w' B S' vs L := by
  intro j hj
  obtain ⟨v, e1, e2, e3⟩ := h j hj
  refine ⟨v, e1, e2.kept hg ?_, fun k hk => hS k (e2.lt k hk).2 (e3 k hk)⟩
  cases hq : v.ownBlock with
  | none => exact .inl rfl
  | some k => right; intro e; exact hne k (e3 k hq) e.symm
theorem RowsAt.type {w w' : World} {B base size n : Nat} {S S' : Nat → Prop} {vs : List Value} {L : List Ln} {v0 : Value} {xs0 : List Value} (hr : w.ownsRow base 61 size v0 n xs0) (hg : w.grownBy w' v0.ownBlock) (h : RowsAt w B S vs L) (hS : ∀ k, S k → S' k) : RowsAt w' B S' vs L := by
  intro j hj
  obtain ⟨v, e1, e2, e3⟩ := h j hj
  exact ⟨v, e1, own_grown_type hr hg (by decide) e2, fun k hk => hS k (e3 k hk)⟩
theorem RowsAt.app {w : World} {B : Nat} {S : Nat → Prop} {vs us : List Value} {L M : List Ln} (hl : vs.length = L.length) (h1 : RowsAt w B S vs L) (h2 : RowsAt w B S us M) : RowsAt w B S (vs ++ us) (L ++ M) := by
  intro j hj
  by_cases hjl : j < L.length
  · obtain ⟨v, e1, e2, e3⟩ := h1 j hjl
    exact ⟨v, by rw [List.getElem?_append_left (by omega)]; exact e1, by rw [List.getElem_append_left hjl]; exact e2, e3⟩
  · have hj2 : j - L.length < M.length := by rw [List.length_append] at hj; omega
    obtain ⟨v, e1, e2, e3⟩ := h2 _ hj2
    exact ⟨v, by rw [List.getElem?_append_right (by omega), hl]; exact e1, by rw [List.getElem_append_right (by omega)]; exact e2, e3⟩
theorem RowsAt.one {w : World} {B : Nat} {S : Nat → Prop} {vs : List Value} {L : List Ln} (h : RowsAt w B S vs L) (hl : vs.length = L.length) : ∀ u ∈ vs, u.oneCell' = true := by
  intro u hu
  obtain ⟨j, hj, rfl⟩ := List.mem_iff_getElem.1 hu
  obtain ⟨v, e1, e2, _⟩ := h j (by omega)
  rw [List.getElem?_eq_getElem hj] at e1
  cases e1
  obtain ⟨a, c, e⟩ := own_form e2
  rw [e]; rfl

end Go.Proofs.YtnndoagpbcacdaaDoor
