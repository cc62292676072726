import Derived.Test.YtnndoagpbcacdaaGreatDoorA11
import Derived.Test.YtnndoagpbcacdaaGreatDoorMR0
namespace Go.Proofs.YtnndoagpbcacdaaGreatDoor
open Go.RowKit

/-! Plain: what tokens look like that the grammar has no fault with. -/
inductive Shp : List Tk → List Df → Prop
  | nil : Shp [] []
  | cons (n : Tk) (ps : List Tk) (e : Tk) (body : List Tk) (m : Tk) (r : List Tk) (ds : List Df)
      (hn : kindOf n.txt = 1) (hp : ∀ p ∈ ps, kindOf p.txt = 1) (he : kindOf e.txt = 4) (hb : ∀ t ∈ body, kindOf t.txt ≠ 4 ∧ kindOf t.txt ≠ 5) (hm : kindOf m.txt = 5) (hr : Shp r ds) :
      Shp (n :: (ps ++ (e :: (body ++ (m :: r))))) (⟨n, ps, body⟩ :: ds)

theorem fold_ps (ds : List Df) (d : Df) (ps : List Tk) (hp : ∀ p ∈ ps, kindOf p.txt = 1) : ps.foldl cStep ⟨ds, d, 1⟩ = ⟨ds, { d with ps := d.ps ++ ps }, 1⟩ := by
  induction ps generalizing d with
  | nil => simp
  | cons p r ih =>
    have hk := hp p (by simp)
    rw [List.foldl_cons, show cStep ⟨ds, d, 1⟩ p = ⟨ds, { d with ps := d.ps ++ [p] }, 1⟩ by simp [cStep, hk], ih _ (fun q hq => hp q (by simp [hq]))]
    simp
theorem fold_body (ds : List Df) (d : Df) (body : List Tk) (hp : ∀ p ∈ body, kindOf p.txt ≠ 4 ∧ kindOf p.txt ≠ 5) : body.foldl cStep ⟨ds, d, 2⟩ = ⟨ds, { d with body := d.body ++ body }, 2⟩ := by
  induction body generalizing d with
  | nil => simp
  | cons p r ih =>
    have hk := hp p (by simp)
    rw [List.foldl_cons, show cStep ⟨ds, d, 2⟩ p = ⟨ds, { d with body := d.body ++ [p] }, 2⟩ by simp [cStep, hk.1, hk.2], ih _ (fun q hq => hp q (by simp [hq]))]
    simp
theorem fold_shp {ts : List Tk} {ds : List Df} (h : Shp ts ds) : ∀ acc : List Df, ts.foldl cStep ⟨acc, df0, 0⟩ = ⟨acc ++ ds, df0, 0⟩ := by
  induction h with
  | nil => intro acc; simp
  | cons n ps e body m r ds hn hp he hb hm hr ih =>
    intro acc
    rw [List.foldl_cons, show cStep ⟨acc, df0, 0⟩ n = ⟨acc, { df0 with name := n }, 1⟩ by simp [cStep, hn]]
    rw [List.foldl_append, fold_ps _ _ _ hp, List.foldl_cons]
    rw [show ∀ d : Df, cStep ⟨acc, d, 1⟩ e = ⟨acc, d, 2⟩ from fun d => by simp [cStep, he]]
    rw [List.foldl_append, fold_body _ _ _ hb, List.foldl_cons]
    rw [show ∀ d : Df, cStep ⟨acc, d, 2⟩ m = ⟨acc ++ [d], df0, 0⟩ from fun d => by simp [cStep, hm]]
    rw [ih]
    simp [df0]
theorem cAll_shp {ts : List Tk} {ds : List Df} (h : Shp ts ds) : (cAll ts).ds = ds := by
  unfold cAll
  rw [fold_shp h]
  simp

/-- What is left, by the state. -/
def Left4 (a : Int) (ts : List Tk) : Prop :=
  (a = 0 ∧ ∃ ds, Shp ts ds) ∨
  (a = 1 ∧ ∃ ps e body m r ds, ts = ps ++ (e :: (body ++ (m :: r))) ∧ (∀ p ∈ ps, kindOf p.txt = 1) ∧ kindOf e.txt = 4 ∧ (∀ t ∈ body, kindOf t.txt ≠ 4 ∧ kindOf t.txt ≠ 5) ∧ kindOf m.txt = 5 ∧ Shp r ds) ∨
  ((a = 2 ∨ a = 3) ∧ ∃ body m r ds, ts = body ++ (m :: r) ∧ (∀ t ∈ body, kindOf t.txt ≠ 4 ∧ kindOf t.txt ≠ 5) ∧ kindOf m.txt = 5 ∧ Shp r ds)

theorem left_body {a : Int} (ha : a = 2 ∨ a = 3) {t : Tk} {r : List Tk} {a' : Int} (ha' : a' = 2 ∨ a' = 3) (ht : kindOf t.txt ≠ 4 ∧ kindOf t.txt ≠ 5) (h : Left4 a' r) : Left4 a (t :: r) := by
  rcases h with ⟨h0, _⟩ | ⟨h1, _⟩ | ⟨_, body, m, r', ds, rfl, hb, hm, hs⟩
  · omega
  · omega
  · refine .inr (.inr ⟨ha, t :: body, m, r', ds, rfl, ?_, hm, hs⟩)
    intro x hx
    rcases List.mem_cons.1 hx with rfl | hx
    · exact ht
    · exact hb x hx

theorem gCount_aw (g : Gr) : (gCount g).2.aw = g.aw := by
  unfold gCount; split <;> (try split) <;> (try split) <;> rfl
theorem gCount_err (g : Gr) : (gCount g).1 = 0 ∨ (gCount g).1 = 3 := by
  unfold gCount; split <;> (try split) <;> (try split) <;> simp

theorem left_all (n : Nat) (ts : List Tk) : ∀ g : Gr, (g.aw = 0 ∨ g.aw = 1 ∨ g.aw = 2 ∨ g.aw = 3) → (gAll n g ts).2 = 0 → Left4 g.aw ts := by
  induction ts with
  | nil =>
    intro g ha h
    unfold gAll at h
    split at h
    · simp at h
    · rename_i hc
      have h0 : g.aw = 0 := by
        by_cases h0 : g.aw = 0
        · exact h0
        · exact absurd (.inr h0) hc
      exact .inl ⟨h0, [], .nil⟩
  | cons t r ih =>
    intro g ha h
    unfold gAll at h
    split at h
    case isFalse hc => exact absurd h hc
    case isTrue he =>
      generalize hk : kindOf t.txt = k at *
      rcases ha with ha | ha | ha | ha
      · -- a function's name
        have e : gTake g k = gFunction g k := by simp [gTake, ha]
        rw [e] at he h
        unfold gFunction at he h
        by_cases h1 : k = 1
        · subst h1
          by_cases hf : 16 ≤ g.fn
          · simp [hf] at he
          · simp only [ne_eq, not_true_eq_false, if_false, hf] at h
            have := ih _ (.inr (.inl rfl)) h
            rcases this with ⟨h0, _⟩ | ⟨_, ps, e, body, m, r', ds, rfl, hp, he', hb, hm, hs⟩ | ⟨h0, _⟩
            · simp at h0
            · exact .inl ⟨ha, ⟨t, ps, body⟩ :: ds, .cons t ps e body m r' ds hk hp he' hb hm hs⟩
            · simp at h0
        · simp [h1] at he
      · have e : gTake g k = gParameter g k := by simp [gTake, ha]
        rw [e] at he h
        unfold gParameter at he h
        by_cases h4 : k = 4
        · subst h4
          simp only [if_true] at h
          have := ih _ (.inr (.inr (.inl rfl))) h
          rcases this with ⟨h0, _⟩ | ⟨h0, _⟩ | ⟨_, body, m, r', ds, rfl, hb, hm, hs⟩
          · simp at h0
          · simp at h0
          · exact .inr (.inl ⟨ha, [], t, body, m, r', ds, rfl, by simp, hk, hb, hm, hs⟩)
        · by_cases h1 : k = 1
          · subst h1
            by_cases hf : 6 ≤ g.pa
            · simp [hf] at he
            · simp only [show ¬ ((1 : Int) = 4) by decide, ne_eq, not_true_eq_false, if_false, hf] at h
              have := ih { g with pa := g.pa + 1 } (.inr (.inl ha)) h
              rcases this with ⟨h0, _⟩ | ⟨_, ps, e, body, m, r', ds, rfl, hp, he', hb, hm, hs⟩ | ⟨h0, _⟩
              · have h0' : g.aw = _ := h0; omega
              · refine .inr (.inl ⟨ha, t :: ps, e, body, m, r', ds, rfl, ?_, he', hb, hm, hs⟩)
                intro x hx
                rcases List.mem_cons.1 hx with rfl | hx
                · exact hk
                · exact hp x hx
              · have h0' : g.aw = 2 ∨ g.aw = 3 := h0; omega
          · simp [h4, h1] at he
      · have e : gTake g k = gHead g k := by simp [gTake, ha]
        rw [e] at he h
        unfold gHead at he h
        cases hs : simpleK k
        · simp [hs] at he
        · simp only [hs, if_true] at h
          have hk5 : k ≠ 4 ∧ k ≠ 5 := by simp [simpleK] at hs; omega
          exact left_body (.inl ha) (.inr rfl) (by rw [hk]; exact hk5) (ih _ (.inr (.inr (.inr rfl))) h)
      · have e : gTake g k = gPart g k := by simp [gTake, ha]
        rw [e] at he h
        unfold gPart at he h
        by_cases h5 : k = 5
        · subst h5
          simp only [if_true] at he h
          unfold gEndDef at he h
          by_cases hl : g.ar = []
          · simp only [hl, if_true] at h
            have := ih _ (.inl rfl) h
            rcases this with ⟨_, ds, hs⟩ | ⟨h0, _⟩ | ⟨h0, _⟩
            · exact .inr (.inr ⟨.inr ha, [], t, r, ds, rfl, by simp, hk, hs⟩)
            · simp at h0
            · simp at h0
          · simp [hl] at he
        · rw [if_neg h5] at he h
          by_cases h7 : k = 7
          · subst h7
            simp only [if_true] at he h
            unfold gEndInner at he h
            by_cases hl : g.ar = []
            · simp [hl] at he
            · simp only [hl, if_false] at h
              exact left_body (.inr ha) (.inr ha) (by rw [hk]; decide) (ih { g with wi := g.ar.getLast?.getD 0, ar := g.ar.dropLast } (.inr (.inr (.inr ha))) h)
          · rw [if_neg h7] at he h
            by_cases h6 : k = 6
            · subst h6
              simp only [if_true] at he h
              unfold gBegin at he h
              rcases gCount_err g with hc | hc
              · rw [if_pos hc] at h
                exact left_body (.inr ha) (.inl rfl) (by rw [hk]; decide) (ih _ (.inr (.inr (.inl rfl))) h)
              · rw [if_neg (by rw [hc]; decide), hc] at he
                simp at he
            · rw [if_neg h6] at he h
              cases hs : simpleK k
              · simp [hs] at he
              · simp only [hs, if_true] at he h
                have hk5 : k ≠ 4 ∧ k ≠ 5 := by simp [simpleK] at hs; omega
                have hca : (gCount g).2.aw = 3 := (gCount_aw g).trans ha
                exact left_body (.inr ha) (.inr hca) (by rw [hk]; exact hk5) (ih _ (.inr (.inr (.inr hca))) h)

theorem shp_of_all (n : Nat) (ts : List Tk) (h : (gAll n g0 ts).2 = 0) : ∃ ds, Shp ts ds ∧ (cAll ts).ds = ds := by
  rcases left_all n ts g0 (.inl rfl) h with ⟨_, ds, hs⟩ | ⟨h0, _⟩ | ⟨h0, _⟩
  · exact ⟨ds, hs, cAll_shp hs⟩
  · simp [g0] at h0
  · simp [g0] at h0

/-! Tokens' texts. -/
theorem extract_bt (s : ByteArray) (i j : Nat) (h : i < j) (hj : j ≤ s.size) : bt (s.extract i j) 0 = bt s i := by
  have h1 : 0 < (s.extract i j).size := by rw [ByteArray.size_extract]; omega
  rw [← bt_eq _ 0 h1, ← bt_eq s i (by omega)]
  rw [ByteArray.getElem_extract]
  simp
theorem endF_stays (s : ByteArray) (i : Nat) (h1 : isL (bt s i) = false) (h2 : isD (bt s i) = false) : endF s i (i + 1) = i + 1 := by
  by_cases h : i + 1 < s.size
  · exact endF_stop s i (i + 1) h (by simp [goesB, h1, h2])
  · exact endF_end s i (i + 1) h
theorem toksF_wt (s : ByteArray) (hs : s.size ≤ 1000) (i : Nat) : ∀ t ∈ toksF s i, WT t.txt := by
  fun_induction toksF s i with
  | case1 i h ih =>
    intro t ht
    rcases List.mem_append.1 ht with ht | ht
    · split at ht
      · simp at ht
      · rename_i hb
        simp only [List.mem_cons, List.not_mem_nil, or_false] at ht
        subst ht
        have h1 := endF_ge s i (i + 1)
        have h2 := endF_le s i (i + 1) (by omega)
        refine ⟨?_, ?_, ?_⟩
        · show 0 < (s.extract i _).size
          rw [ByteArray.size_extract]; omega
        · show (s.extract i _).size ≤ 1000
          rw [ByteArray.size_extract]; omega
        · show isL (bt (s.extract i _) 0) = false → isD (bt (s.extract i _) 0) = false → (s.extract i _).size = 1
          rw [extract_bt s i _ (by omega) h2]
          intro e1 e2
          rw [endF_stays s i e1 e2, ByteArray.size_extract]
          omega
    · exact ih t ht
  | case2 i h => simp

theorem kindC_eq61 (c : Int) (n : Nat) : kindC c n = 4 ↔ c = 61 := by
  unfold kindC isL isD
  constructor
  · intro h
    repeat (first | (split at h) | omega)
  · rintro rfl; simp
theorem kindC_eq59 (c : Int) (n : Nat) : kindC c n = 5 ↔ c = 59 := by
  unfold kindC isL isD
  constructor
  · intro h
    repeat (first | (split at h) | omega)
  · rintro rfl; simp
theorem txt_eq {t : ByteArray} (h : WT t) : (t.toList == [61]) = decide (kindOf t = 4) := by
  by_cases h4 : kindOf t = 4
  · have hb := (kindC_eq61 _ _).1 h4
    rw [eq_single t 61 (h.2.2 (by rw [hb]; decide) (by rw [hb]; decide)) hb]
    simp [h4]
  · rw [ne_single t 61 (fun e => h4 ((kindC_eq61 _ _).2 e))]
    simp [h4]
theorem txt_semi {t : ByteArray} (h : WT t) : (t.toList == [59]) = decide (kindOf t = 5) := by
  by_cases h4 : kindOf t = 5
  · have hb := (kindC_eq59 _ _).1 h4
    rw [eq_single t 59 (h.2.2 (by rw [hb]; decide) (by rw [hb]; decide)) hb]
    simp [h4]
  · rw [ne_single t 59 (fun e => h4 ((kindC_eq59 _ _).2 e))]
    simp [h4]

end Go.Proofs.YtnndoagpbcacdaaGreatDoor
