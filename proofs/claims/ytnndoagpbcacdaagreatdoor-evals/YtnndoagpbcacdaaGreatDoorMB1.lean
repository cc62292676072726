import Derived.Test.YtnndoagpbcacdaaGreatDoorMA1
import Derived.Test.YtnndoagpbcacdaaGreatDoorMA10
import Derived.Lib.Strings
namespace Go.Proofs.YtnndoagpbcacdaaGreatDoor
open Go.RowKit

theorem ne_single (t : ByteArray) (c : UInt8) (h : bt t 0 ≠ (c.toNat : Int)) : (t.toList == [c]) = false := by
  rw [beq_eq_false_iff_ne]
  intro e
  apply h
  rw [ByteArray.toList_eq] at e
  unfold bt
  rw [show t.data[0]? = t.data.toList[0]? by simp, e]
  rfl
theorem eq_single (t : ByteArray) (c : UInt8) (h1 : t.size = 1) (h : bt t 0 = (c.toNat : Int)) : (t.toList == [c]) = true := by
  rw [beq_iff_eq, ByteArray.toList_eq]
  rw [size_len] at h1
  unfold bt at h
  rw [show t.data[0]? = t.data.toList[0]? by simp] at h
  match hl : t.data.toList, h1 with
  | [b], _ =>
    rw [hl] at h
    simp at h
    have : b = c := UInt8.toNat_inj.1 (by omega)
    rw [this]
/-- What every token's text keeps. -/
def WT (t : ByteArray) : Prop := 0 < t.size ∧ t.size ≤ 1000 ∧ (isL (bt t 0) = false → isD (bt t 0) = false → t.size = 1)
theorem kindC_eq40 (c : Int) (n : Nat) : kindC c n = 6 ↔ c = 40 := by
  unfold kindC isL isD
  constructor
  · intro h
    repeat (first | (split at h) | omega)
  · rintro rfl; simp
theorem kindC_eq41 (c : Int) (n : Nat) : kindC c n = 7 ↔ c = 41 := by
  unfold kindC isL isD
  constructor
  · intro h
    repeat (first | (split at h) | omega)
  · rintro rfl; simp
theorem txt_open {t : ByteArray} (h : WT t) : (t.toList == [40]) = decide (kindOf t = 6) := by
  by_cases h4 : kindOf t = 6
  · have hb := (kindC_eq40 _ _).1 h4
    rw [eq_single t 40 (h.2.2 (by rw [hb]; decide) (by rw [hb]; decide)) hb]
    simp [h4]
  · rw [ne_single t 40 (fun e => h4 ((kindC_eq40 _ _).2 e))]
    simp [h4]
theorem txt_close {t : ByteArray} (h : WT t) : (t.toList == [41]) = decide (kindOf t = 7) := by
  by_cases h4 : kindOf t = 7
  · have hb := (kindC_eq41 _ _).1 h4
    rw [eq_single t 41 (h.2.2 (by rw [hb]; decide) (by rw [hb]; decide)) hb]
    simp [h4]
  · rw [ne_single t 41 (fun e => h4 ((kindC_eq41 _ _).2 e))]
    simp [h4]

end Go.Proofs.YtnndoagpbcacdaaGreatDoor
namespace Go.Proofs.YtnndoagpbcacdaaGreatDoor
open Go.RowKit

/-! Plain: what tokens look like that the grammar has no fault with. -/
inductive Shp : List Tk → List Df → Prop
  | nil : Shp [] []
  | cons (n : Tk) (ps : List Tk) (e : Tk) (body : List Tk) (m : Tk) (r : List Tk) (ds : List Df)
      (hn : kindOf n.txt = 1) (hp : ∀ p ∈ ps, kindOf p.txt = 1) (he : kindOf e.txt = 4) (hb : ∀ t ∈ body, kindOf t.txt ≠ 4 ∧ kindOf t.txt ≠ 5) (hm : kindOf m.txt = 5) (hr : Shp r ds) :
      Shp (n :: (ps ++ (e :: (body ++ (m :: r))))) (⟨n, ps, body⟩ :: ds)

theorem fold_ps (ds : List Df) (d : Df) (ps : List Tk) (hp : ∀ p ∈ ps, kindOf p.txt = 1) : ps.foldl cStep ⟨ds, d, 1⟩ = ⟨ds, { d with ps := d.ps ++ ps }, 1⟩ := by
  induction ps generalizing d with
  | nil => simp
  | cons p r ih =>
    have hk := hp p (by simp)
    rw [List.foldl_cons, show cStep ⟨ds, d, 1⟩ p = ⟨ds, { d with ps := d.ps ++ [p] }, 1⟩ by simp [cStep, hk], ih _ (fun q hq => hp q (by simp [hq]))]
    simp
theorem fold_body (ds : List Df) (d : Df) (body : List Tk) (hp : ∀ p ∈ body, kindOf p.txt ≠ 4 ∧ kindOf p.txt ≠ 5) : body.foldl cStep ⟨ds, d, 2⟩ = ⟨ds, { d with body := d.body ++ body }, 2⟩ := by
  induction body generalizing d with
  | nil => simp
  | cons p r ih =>
    have hk := hp p (by simp)
    rw [List.foldl_cons, show cStep ⟨ds, d, 2⟩ p = ⟨ds, { d with body := d.body ++ [p] }, 2⟩ by simp [cStep, hk.1, hk.2], ih _ (fun q hq => hp q (by simp [hq]))]
    simp
theorem fold_shp {ts : List Tk} {ds : List Df} (h : Shp ts ds) : ∀ acc : List Df, ts.foldl cStep ⟨acc, df0, 0⟩ = ⟨acc ++ ds, df0, 0⟩ := by
  induction h with
  | nil => intro acc; simp
  | cons n ps e body m r ds hn hp he hb hm hr ih =>
    intro acc
    rw [List.foldl_cons, show cStep ⟨acc, df0, 0⟩ n = ⟨acc, { df0 with name := n }, 1⟩ by simp [cStep, hn]]
    rw [List.foldl_append, fold_ps _ _ _ hp, List.foldl_cons]
    rw [show ∀ d : Df, cStep ⟨acc, d, 1⟩ e = ⟨acc, d, 2⟩ from fun d => by simp [cStep, he]]
    rw [List.foldl_append, fold_body _ _ _ hb, List.foldl_cons]
    rw [show ∀ d : Df, cStep ⟨acc, d, 2⟩ m = ⟨acc ++ [d], df0, 0⟩ from fun d => by simp [cStep, hm]]
    rw [ih]
    simp [df0]
theorem cAll_shp {ts : List Tk} {ds : List Df} (h : Shp ts ds) : (cAll ts).ds = ds := by
  unfold cAll
  rw [fold_shp h]
  simp

/-- What is left, by the state. -/
def Left4 (a : Int) (ts : List Tk) : Prop :=
  (a = 0 ∧ ∃ ds, Shp ts ds) ∨
  (a = 1 ∧ ∃ ps e body m r ds, ts = ps ++ (e :: (body ++ (m :: r))) ∧ (∀ p ∈ ps, kindOf p.txt = 1) ∧ kindOf e.txt = 4 ∧ (∀ t ∈ body, kindOf t.txt ≠ 4 ∧ kindOf t.txt ≠ 5) ∧ kindOf m.txt = 5 ∧ Shp r ds) ∨
  ((a = 2 ∨ a = 3) ∧ ∃ body m r ds, ts = body ++ (m :: r) ∧ (∀ t ∈ body, kindOf t.txt ≠ 4 ∧ kindOf t.txt ≠ 5) ∧ kindOf m.txt = 5 ∧ Shp r ds)

theorem left_body {a : Int} (ha : a = 2 ∨ a = 3) {t : Tk} {r : List Tk} {a' : Int} (ha' : a' = 2 ∨ a' = 3) (ht : kindOf t.txt ≠ 4 ∧ kindOf t.txt ≠ 5) (h : Left4 a' r) : Left4 a (t :: r) := by
  rcases h with ⟨h0, _⟩ | ⟨h1, _⟩ | ⟨_, body, m, r', ds, rfl, hb, hm, hs⟩
  · omega
  · omega
  · refine .inr (.inr ⟨ha, t :: body, m, r', ds, rfl, ?_, hm, hs⟩)
    intro x hx
    rcases List.mem_cons.1 hx with rfl | hx
    · exact ht
    · exact hb x hx

theorem gCount_aw (g : Gr) : (gCount g).2.aw = g.aw := by
  unfold gCount; split <;> (try split) <;> (try split) <;> rfl
theorem gCount_err (g : Gr) : (gCount g).1 = 0 ∨ (gCount g).1 = 3 := by
  unfold gCount; split <;> (try split) <;> (try split) <;> simp

theorem left_all (n : Nat) (ts : List Tk) : ∀ g : Gr, (g.aw = 0 ∨ g.aw = 1 ∨ g.aw = 2 ∨ g.aw = 3) → (gAll n g ts).2 = 0 → Left4 g.aw ts := by
  induction ts with
  | nil =>
    intro g ha h
    unfold gAll at h
    split at h
    · simp at h
    · rename_i hc
      have h0 : g.aw = 0 := by
        by_cases h0 : g.aw = 0
        · exact h0
        · exact absurd (.inr h0) hc
      exact .inl ⟨h0, [], .nil⟩
  | cons t r ih =>
    intro g ha h
    unfold gAll at h
    split at h
    case isFalse hc => exact absurd h hc
    case isTrue he =>
      generalize hk : kindOf t.txt = k at *
      rcases ha with ha | ha | ha | ha
      · -- a function's name
        have e : gTake g k = gFunction g k := by simp [gTake, ha]
        rw [e] at he h
        unfold gFunction at he h
        by_cases h1 : k = 1
        · subst h1
          by_cases hf : 16 ≤ g.fn
          · simp [hf] at he
          · simp only [ne_eq, not_true_eq_false, if_false, hf] at h
            have := ih _ (.inr (.inl rfl)) h
            rcases this with ⟨h0, _⟩ | ⟨_, ps, e, body, m, r', ds, rfl, hp, he', hb, hm, hs⟩ | ⟨h0, _⟩
            · simp at h0
            · exact .inl ⟨ha, ⟨t, ps, body⟩ :: ds, .cons t ps e body m r' ds hk hp he' hb hm hs⟩
            · simp at h0
        · simp [h1] at he
      · have e : gTake g k = gParameter g k := by simp [gTake, ha]
        rw [e] at he h
        unfold gParameter at he h
        by_cases h4 : k = 4
        · subst h4
          simp only [if_true] at h
          have := ih _ (.inr (.inr (.inl rfl))) h
          rcases this with ⟨h0, _⟩ | ⟨h0, _⟩ | ⟨_, body, m, r', ds, rfl, hb, hm, hs⟩
          · simp at h0
          · simp at h0
          · exact .inr (.inl ⟨ha, [], t, body, m, r', ds, rfl, by simp, hk, hb, hm, hs⟩)
        · by_cases h1 : k = 1
          · subst h1
            by_cases hf : 6 ≤ g.pa
            · simp [hf] at he
            · simp only [show ¬ ((1 : Int) = 4) by decide, ne_eq, not_true_eq_false, if_false, hf] at h
              have := ih { g with pa := g.pa + 1 } (.inr (.inl ha)) h
              rcases this with ⟨h0, _⟩ | ⟨_, ps, e, body, m, r', ds, rfl, hp, he', hb, hm, hs⟩ | ⟨h0, _⟩
              · have h0' : g.aw = _ := h0; omega
              · refine .inr (.inl ⟨ha, t :: ps, e, body, m, r', ds, rfl, ?_, he', hb, hm, hs⟩)
                intro x hx
                rcases List.mem_cons.1 hx with rfl | hx
                · exact hk
                · exact hp x hx
              · have h0' : g.aw = 2 ∨ g.aw = 3 := h0; omega
          · simp [h4, h1] at he
      · have e : gTake g k = gHead g k := by simp [gTake, ha]
        rw [e] at he h
        unfold gHead at he h
        cases hs : simpleK k
        · simp [hs] at he
        · simp only [hs, if_true] at h
          have hk5 : k ≠ 4 ∧ k ≠ 5 := by simp [simpleK] at hs; omega
          exact left_body (.inl ha) (.inr rfl) (by rw [hk]; exact hk5) (ih _ (.inr (.inr (.inr rfl))) h)
      · have e : gTake g k = gPart g k := by simp [gTake, ha]
        rw [e] at he h
        unfold gPart at he h
        by_cases h5 : k = 5
        · subst h5
          simp only [if_true] at he h
          unfold gEndDef at he h
          by_cases hl : g.ar = []
          · simp only [hl, if_true] at h
            have := ih _ (.inl rfl) h
            rcases this with ⟨_, ds, hs⟩ | ⟨h0, _⟩ | ⟨h0, _⟩
            · exact .inr (.inr ⟨.inr ha, [], t, r, ds, rfl, by simp, hk, hs⟩)
            · simp at h0
            · simp at h0
          · simp [hl] at he
        · rw [if_neg h5] at he h
          by_cases h7 : k = 7
          · subst h7
            simp only [if_true] at he h
            unfold gEndInner at he h
            by_cases hl : g.ar = []
            · simp [hl] at he
            · simp only [hl, if_false] at h
              exact left_body (.inr ha) (.inr ha) (by rw [hk]; decide) (ih { g with wi := g.ar.getLast?.getD 0, ar := g.ar.dropLast } (.inr (.inr (.inr ha))) h)
          · rw [if_neg h7] at he h
            by_cases h6 : k = 6
            · subst h6
              simp only [if_true] at he h
              unfold gBegin at he h
              rcases gCount_err g with hc | hc
              · rw [if_pos hc] at h
                exact left_body (.inr ha) (.inl rfl) (by rw [hk]; decide) (ih _ (.inr (.inr (.inl rfl))) h)
              · rw [if_neg (by rw [hc]; decide), hc] at he
                simp at he
            · rw [if_neg h6] at he h
              cases hs : simpleK k
              · simp [hs] at he
              · simp only [hs, if_true] at he h
                have hk5 : k ≠ 4 ∧ k ≠ 5 := by simp [simpleK] at hs; omega
                have hca : (gCount g).2.aw = 3 := (gCount_aw g).trans ha
                exact left_body (.inr ha) (.inr hca) (by rw [hk]; exact hk5) (ih _ (.inr (.inr (.inr hca))) h)

theorem shp_of_all (n : Nat) (ts : List Tk) (h : (gAll n g0 ts).2 = 0) : ∃ ds, Shp ts ds ∧ (cAll ts).ds = ds := by
  rcases left_all n ts g0 (.inl rfl) h with ⟨_, ds, hs⟩ | ⟨h0, _⟩ | ⟨h0, _⟩
  · exact ⟨ds, hs, cAll_shp hs⟩
  · simp [g0] at h0
  · simp [g0] at h0

/-! Tokens' texts. -/
theorem extract_bt (s : ByteArray) (i j : Nat) (h : i < j) (hj : j ≤ s.size) : bt (s.extract i j) 0 = bt s i := by
  have h1 : 0 < (s.extract i j).size := by rw [ByteArray.size_extract]; omega
  rw [← bt_eq _ 0 h1, ← bt_eq s i (by omega)]
  rw [ByteArray.getElem_extract]
  simp
theorem endF_stays (s : ByteArray) (i : Nat) (h1 : isL (bt s i) = false) (h2 : isD (bt s i) = false) : endF s i (i + 1) = i + 1 := by
  by_cases h : i + 1 < s.size
  · exact endF_stop s i (i + 1) h (by simp [goesB, h1, h2])
  · exact endF_end s i (i + 1) h
theorem toksF_wt (s : ByteArray) (hs : s.size ≤ 1000) (i : Nat) : ∀ t ∈ toksF s i, WT t.txt := by
  fun_induction toksF s i with
  | case1 i h ih =>
    intro t ht
    rcases List.mem_append.1 ht with ht | ht
    · split at ht
      · simp at ht
      · rename_i hb
        simp only [List.mem_cons, List.not_mem_nil, or_false] at ht
        subst ht
        have h1 := endF_ge s i (i + 1)
        have h2 := endF_le s i (i + 1) (by omega)
        refine ⟨?_, ?_, ?_⟩
        · show 0 < (s.extract i _).size
          rw [ByteArray.size_extract]; omega
        · show (s.extract i _).size ≤ 1000
          rw [ByteArray.size_extract]; omega
        · show isL (bt (s.extract i _) 0) = false → isD (bt (s.extract i _) 0) = false → (s.extract i _).size = 1
          rw [extract_bt s i _ (by omega) h2]
          intro e1 e2
          rw [endF_stays s i e1 e2, ByteArray.size_extract]
          omega
    · exact ih t ht
  | case2 i h => simp

theorem kindC_eq61 (c : Int) (n : Nat) : kindC c n = 4 ↔ c = 61 := by
  unfold kindC isL isD
  constructor
  · intro h
    repeat (first | (split at h) | omega)
  · rintro rfl; simp
theorem kindC_eq59 (c : Int) (n : Nat) : kindC c n = 5 ↔ c = 59 := by
  unfold kindC isL isD
  constructor
  · intro h
    repeat (first | (split at h) | omega)
  · rintro rfl; simp
theorem txt_eq {t : ByteArray} (h : WT t) : (t.toList == [61]) = decide (kindOf t = 4) := by
  by_cases h4 : kindOf t = 4
  · have hb := (kindC_eq61 _ _).1 h4
    rw [eq_single t 61 (h.2.2 (by rw [hb]; decide) (by rw [hb]; decide)) hb]
    simp [h4]
  · rw [ne_single t 61 (fun e => h4 ((kindC_eq61 _ _).2 e))]
    simp [h4]
theorem txt_semi {t : ByteArray} (h : WT t) : (t.toList == [59]) = decide (kindOf t = 5) := by
  by_cases h4 : kindOf t = 5
  · have hb := (kindC_eq59 _ _).1 h4
    rw [eq_single t 59 (h.2.2 (by rw [hb]; decide) (by rw [hb]; decide)) hb]
    simp [h4]
  · rw [ne_single t 59 (fun e => h4 ((kindC_eq59 _ _).2 e))]
    simp [h4]

end Go.Proofs.YtnndoagpbcacdaaGreatDoor
namespace Go.Proofs.YtnndoagpbcacdaaGreatDoor
open Go.RowKit

/-! Plain: applications as trees (first child, next sibling). -/
inductive At where
  | nil : At
  | sim (t : Tk) (rest : At) : At
  | par (o h c : Tk) (args rest : At) : At
def At.toks : At → List Tk
  | .nil => []
  | .sim t r => t :: r.toks
  | .par o h c ag r => o :: h :: (ag.toks ++ c :: r.toks)
def simp3 (t : Tk) : Prop := kindOf t.txt = 1 ∨ kindOf t.txt = 2 ∨ kindOf t.txt = 3
def At.ok : At → Prop
  | .nil => True
  | .sim t r => simp3 t ∧ r.ok
  | .par o h c ag r => kindOf o.txt = 6 ∧ simp3 h ∧ kindOf c.txt = 7 ∧ ag.ok ∧ r.ok

/-- What is left of an application, by its open parentheses; behind it m, r. -/
def Lv (m : Tk) (r : List Tk) : Nat → List Tk → Prop
  | 0, ts => ∃ a : At, a.ok ∧ ts = a.toks ++ m :: r
  | d + 1, ts => ∃ (a : At) (c : Tk) (ts' : List Tk), a.ok ∧ kindOf c.txt = 7 ∧ ts = a.toks ++ c :: ts' ∧ Lv m r d ts'

theorem Lv.sim {m : Tk} {r : List Tk} {d : Nat} {ts : List Tk} {t : Tk} (ht : simp3 t) (h : Lv m r d ts) : Lv m r d (t :: ts) := by
  cases d with
  | zero => obtain ⟨a, ha, rfl⟩ := h; exact ⟨.sim t a, ⟨ht, ha⟩, rfl⟩
  | succ d => obtain ⟨a, c, ts', ha, hc, rfl, hl⟩ := h; exact ⟨.sim t a, c, ts', ⟨ht, ha⟩, hc, rfl, hl⟩
theorem Lv.par {m : Tk} {r : List Tk} {d : Nat} {ts : List Tk} {o h : Tk} (ho : kindOf o.txt = 6) (hh : simp3 h) (hl : Lv m r (d + 1) ts) : Lv m r d (o :: h :: ts) := by
  obtain ⟨a, c, ts', ha, hc, rfl, hl⟩ := hl
  cases d with
  | zero => obtain ⟨b, hb, rfl⟩ := hl; exact ⟨.par o h c a b, ⟨ho, hh, hc, ha, hb⟩, by simp [At.toks]⟩
  | succ d => obtain ⟨b, c', ts'', hb, hc', rfl, hl⟩ := hl; exact ⟨.par o h c a b, c', ts'', ⟨ho, hh, hc, ha, hb⟩, hc', by simp [At.toks], hl⟩

inductive Shq : List Tk → List Df → Prop
  | nil : Shq [] []
  | cons (n : Tk) (ps : List Tk) (e h : Tk) (a : At) (m : Tk) (r : List Tk) (ds : List Df)
      (hn : kindOf n.txt = 1) (hp : ∀ p ∈ ps, kindOf p.txt = 1) (he : kindOf e.txt = 4) (hh : simp3 h) (ha : a.ok) (hm : kindOf m.txt = 5) (hr : Shq r ds) :
      Shq (n :: (ps ++ (e :: h :: (a.toks ++ (m :: r))))) (⟨n, ps, h :: a.toks⟩ :: ds)

theorem simp3_ne {t : Tk} (h : simp3 t) : kindOf t.txt ≠ 4 ∧ kindOf t.txt ≠ 5 := by unfold simp3 at h; omega
theorem At.body {a : At} (h : a.ok) : ∀ t ∈ a.toks, kindOf t.txt ≠ 4 ∧ kindOf t.txt ≠ 5 := by
  induction a with
  | nil => intro t ht; simp [At.toks] at ht
  | sim x r ih =>
    intro t ht
    simp only [At.toks, List.mem_cons] at ht
    rcases ht with rfl | ht
    · exact simp3_ne h.1
    · exact ih h.2 t ht
  | par o x c ag r ih1 ih2 =>
    obtain ⟨h1, h2, h3, h4, h5⟩ := h
    intro t ht
    simp only [At.toks, List.mem_cons, List.mem_append] at ht
    rcases ht with rfl | rfl | ht | rfl | ht
    · omega
    · exact simp3_ne h2
    · exact ih1 h4 t ht
    · omega
    · exact ih2 h5 t ht
theorem Shq.shp {ts : List Tk} {ds : List Df} (h : Shq ts ds) : Shp ts ds := by
  induction h with
  | nil => exact .nil
  | cons n ps e h a m r ds hn hp he hh ha hm hr ih =>
    refine .cons n ps e (h :: a.toks) m r ds hn hp he ?_ hm ih
    intro t ht
    rcases List.mem_cons.1 ht with rfl | ht
    · exact simp3_ne hh
    · exact At.body ha t ht

def Left5 (g : Gr) (ts : List Tk) : Prop :=
  (g.aw = 0 ∧ ∃ ds, Shq ts ds) ∨
  (g.aw = 1 ∧ ∃ ps e h a m r ds, ts = ps ++ (e :: h :: (At.toks a ++ (m :: r))) ∧ (∀ p ∈ ps, kindOf p.txt = 1) ∧ kindOf e.txt = 4 ∧ simp3 h ∧ a.ok ∧ kindOf m.txt = 5 ∧ Shq r ds) ∨
  (g.aw = 2 ∧ ∃ h rest m r ds, ts = h :: rest ∧ simp3 h ∧ kindOf m.txt = 5 ∧ Lv m r g.ar.length rest ∧ Shq r ds) ∨
  (g.aw = 3 ∧ ∃ m r ds, kindOf m.txt = 5 ∧ Lv m r g.ar.length ts ∧ Shq r ds)

theorem left_all5 (n : Nat) (ts : List Tk) : ∀ g : Gr, (g.aw = 0 ∨ g.aw = 1 ∨ g.aw = 2 ∨ g.aw = 3) → (g.aw = 0 ∨ g.aw = 1 → g.ar = []) → (gAll n g ts).2 = 0 → Left5 g ts := by
  induction ts with
  | nil =>
    intro g ha _ h
    unfold gAll at h
    split at h
    · simp at h
    · rename_i hc
      have h0 : g.aw = 0 := by
        by_cases h0 : g.aw = 0
        · exact h0
        · exact absurd (.inr h0) hc
      exact .inl ⟨h0, [], .nil⟩
  | cons t r ih =>
    intro g ha har h
    unfold gAll at h
    split at h
    case isFalse hc => exact absurd h hc
    case isTrue he =>
      generalize hk : kindOf t.txt = k at *
      rcases ha with ha | ha | ha | ha
      · have e : gTake g k = gFunction g k := by simp [gTake, ha]
        rw [e] at he h
        unfold gFunction at he h
        by_cases h1 : k = 1
        · subst h1
          by_cases hf : 16 ≤ g.fn
          · simp [hf] at he
          · simp only [ne_eq, not_true_eq_false, if_false, hf] at h
            have := ih { g with fn := g.fn + 1, pa := 0, aw := 1 } (.inr (.inl rfl)) (fun _ => har (.inl ha)) h
            rcases this with ⟨h0, _⟩ | ⟨_, ps, e, hd, a, m, r', ds, rfl, hp, he', hh, hao, hm, hs⟩ | ⟨h0, _⟩ | ⟨h0, _⟩
            · simp at h0
            · exact .inl ⟨ha, _, .cons t ps e hd a m r' ds hk hp he' hh hao hm hs⟩
            · simp at h0
            · simp at h0
        · simp [h1] at he
      · have e : gTake g k = gParameter g k := by simp [gTake, ha]
        rw [e] at he h
        unfold gParameter at he h
        by_cases h4 : k = 4
        · subst h4
          simp only [if_true] at h
          have := ih { g with no := 0, aw := 2 } (.inr (.inr (.inl rfl))) (fun h => by simp at h) h
          rcases this with ⟨h0, _⟩ | ⟨h0, _⟩ | ⟨_, hd, rest, m, r', ds, rfl, hh, hm, hl, hs⟩ | ⟨h0, _⟩
          · simp at h0
          · simp at h0
          · have har0 : g.ar = [] := har (.inr ha)
            rw [show ({ g with no := 0, aw := 2 } : Gr).ar = g.ar from rfl, har0] at hl
            obtain ⟨a, hao, rfl⟩ := hl
            exact .inr (.inl ⟨ha, [], t, hd, a, m, r', ds, rfl, by simp, hk, hh, hao, hm, hs⟩)
          · simp at h0
        · by_cases h1 : k = 1
          · subst h1
            by_cases hf : 6 ≤ g.pa
            · simp [hf] at he
            · simp only [show ¬ ((1 : Int) = 4) by decide, ne_eq, not_true_eq_false, if_false, hf] at h
              have := ih { g with pa := g.pa + 1 } (.inr (.inl ha)) (fun _ => har (.inr ha)) h
              rcases this with ⟨h0, _⟩ | ⟨_, ps, e, hd, a, m, r', ds, rfl, hp, he', hh, hao, hm, hs⟩ | ⟨h0, _⟩ | ⟨h0, _⟩
              · have h0' : g.aw = _ := h0; omega
              · refine .inr (.inl ⟨ha, t :: ps, e, hd, a, m, r', ds, rfl, ?_, he', hh, hao, hm, hs⟩)
                intro x hx
                rcases List.mem_cons.1 hx with rfl | hx
                · exact hk
                · exact hp x hx
              · have h0' : g.aw = _ := h0; omega
              · have h0' : g.aw = _ := h0; omega
          · simp [h4, h1] at he
      · have e : gTake g k = gHead g k := by simp [gTake, ha]
        rw [e] at he h
        unfold gHead at he h
        cases hs : simpleK k
        · simp [hs] at he
        · simp only [hs, if_true] at h
          have hsk : simp3 t := by unfold simp3; rw [hk]; simpa [simpleK] using hs
          have := ih { g with wi := 1, aw := 3 } (.inr (.inr (.inr rfl))) (fun h => by simp at h) h
          rcases this with ⟨h0, _⟩ | ⟨h0, _⟩ | ⟨h0, _⟩ | ⟨_, m, r', ds, hm, hl, hs'⟩
          · simp at h0
          · simp at h0
          · simp at h0
          · exact .inr (.inr (.inl ⟨ha, t, r, m, r', ds, rfl, hsk, hm, hl, hs'⟩))
      · have e : gTake g k = gPart g k := by simp [gTake, ha]
        rw [e] at he h
        unfold gPart at he h
        by_cases h5 : k = 5
        · subst h5
          simp only [if_true] at he h
          unfold gEndDef at he h
          by_cases hl : g.ar = []
          · simp only [hl, if_true] at h
            have := ih _ (.inl rfl) (fun _ => rfl) h
            rcases this with ⟨_, ds, hs⟩ | ⟨h0, _⟩ | ⟨h0, _⟩ | ⟨h0, _⟩
            · refine .inr (.inr (.inr ⟨ha, t, r, ds, hk, ?_, hs⟩))
              rw [hl]
              exact ⟨.nil, trivial, rfl⟩
            · simp at h0
            · simp at h0
            · simp at h0
          · simp [hl] at he
        · rw [if_neg h5] at he h
          by_cases h7 : k = 7
          · subst h7
            simp only [if_true] at he h
            unfold gEndInner at he h
            by_cases hl : g.ar = []
            · simp [hl] at he
            · simp only [hl, if_false] at h
              have := ih { g with wi := g.ar.getLast?.getD 0, ar := g.ar.dropLast } (.inr (.inr (.inr ha))) (fun h => by have h' : g.aw = 0 ∨ g.aw = 1 := h; omega) h
              rcases this with ⟨h0, _⟩ | ⟨h0, _⟩ | ⟨h0, _⟩ | ⟨_, m, r', ds, hm, hlv, hs'⟩
              · have h0' : g.aw = _ := h0; omega
              · have h0' : g.aw = _ := h0; omega
              · have h0' : g.aw = _ := h0; omega
              · refine .inr (.inr (.inr ⟨ha, m, r', ds, hm, ?_, hs'⟩))
                have hlen : g.ar.length = g.ar.dropLast.length + 1 := by
                  have : 0 < g.ar.length := List.length_pos_iff.2 hl
                  simp; omega
                rw [hlen]
                exact ⟨.nil, t, r, trivial, hk, rfl, hlv⟩
          · rw [if_neg h7] at he h
            by_cases h6 : k = 6
            · subst h6
              simp only [if_true] at he h
              unfold gBegin at he h
              rcases gCount_err g with hc | hc
              · rw [if_pos hc] at h
                have := ih { (gCount g).2 with ar := (gCount g).2.ar ++ [(gCount g).2.wi], aw := 2 } (.inr (.inr (.inl rfl))) (fun h => by simp at h) h
                rcases this with ⟨h0, _⟩ | ⟨h0, _⟩ | ⟨_, hd, rest, m, r', ds, rfl, hh, hm, hlv, hs'⟩ | ⟨h0, _⟩
                · simp at h0
                · simp at h0
                · refine .inr (.inr (.inr ⟨ha, m, r', ds, hm, ?_, hs'⟩))
                  refine Lv.par hk hh ?_
                  have : ({ (gCount g).2 with ar := (gCount g).2.ar ++ [(gCount g).2.wi], aw := 2 } : Gr).ar.length = g.ar.length + 1 := by simp [gCount_ar]
                  rw [this] at hlv
                  exact hlv
                · simp at h0
              · rw [if_neg (by rw [hc]; decide), hc] at he
                simp at he
            · rw [if_neg h6] at he h
              cases hs : simpleK k
              · simp [hs] at he
              · simp only [hs, if_true] at he h
                have hsk : simp3 t := by unfold simp3; rw [hk]; simpa [simpleK] using hs
                have hca : (gCount g).2.aw = 3 := (gCount_aw g).trans ha
                have := ih _ (.inr (.inr (.inr hca))) (fun h => by omega) h
                rcases this with ⟨h0, _⟩ | ⟨h0, _⟩ | ⟨h0, _⟩ | ⟨_, m, r', ds, hm, hlv, hs'⟩
                · omega
                · omega
                · omega
                · rw [gCount_ar] at hlv
                  exact .inr (.inr (.inr ⟨ha, m, r', ds, hm, hlv.sim hsk, hs'⟩))

theorem shq_of_all (n : Nat) (ts : List Tk) (h : (gAll n g0 ts).2 = 0) : ∃ ds, Shq ts ds ∧ (cAll ts).ds = ds := by
  rcases left_all5 n ts g0 (.inl rfl) (fun _ => rfl) h with ⟨_, ds, hs⟩ | ⟨h0, _⟩ | ⟨h0, _⟩ | ⟨h0, _⟩
  · exact ⟨ds, hs, cAll_shp hs.shp⟩
  · simp [g0] at h0
  · simp [g0] at h0
  · simp [g0] at h0

end Go.Proofs.YtnndoagpbcacdaaGreatDoor
namespace Go.Proofs.YtnndoagpbcacdaaGreatDoor
open Go.RowKit

/-! How programs are written: plain. -/
def dropZ : List UInt8 → List UInt8
  | [] => []
  | [a] => [a]
  | a :: b :: r => if a = 48 then dropZ (b :: r) else a :: b :: r
def tkL (t : Tk) : List UInt8 := if kindOf t.txt = 2 then dropZ t.txt.data.toList else t.txt.data.toList
def kAt (ts : List Tk) (i : Int) : Int := if 0 ≤ i then (match ts[i.toNat]? with | some t => kindOf t.txt | none => 0) else 0
def needB (ts : List Tk) (i : Nat) : Bool := (decide (kAt ts i = 6) && decide (kAt ts (i + 2) = 7)) || (decide (kAt ts i = 7) && decide (kAt ts ((i : Int) - 2) = 6))
def showI (ts : List Tk) (bo : Bool) (i : Nat) : List UInt8 :=
  if h : i < ts.length then
    (if needB ts i then showI ts bo (i + 1)
     else (if kindOf ts[i].txt ≠ 7 ∧ bo = false then [32] else []) ++ (tkL ts[i] ++ showI ts (decide (kindOf ts[i].txt = 6)) (i + 1)))
  else []
termination_by ts.length - i

theorem kAt_in (ts : List Tk) (i : Nat) (h : i < ts.length) : kAt ts (i : Int) = kindOf ts[i].txt := by
  unfold kAt; rw [if_pos (by omega), Int.toNat_natCast, List.getElem?_eq_getElem h]
theorem kAt_neg (ts : List Tk) (i : Int) (h : i < 0) : kAt ts i = 0 := by unfold kAt; rw [if_neg (by omega)]
theorem kAt_out (ts : List Tk) (i : Int) (h : (ts.length : Int) ≤ i) : kAt ts i = 0 := by
  unfold kAt; rw [if_pos (by omega), List.getElem?_eq_none (by omega)]
theorem dropZ_le (l : List UInt8) : (dropZ l).length ≤ l.length := by
  fun_induction dropZ l <;> simp_all <;> omega

set_option maxHeartbeats 400000 in
theorem sKindAt (v : Value) (ts : List Tk) (i : Int) (w : World) (hl : ts.length ≤ 1000000) (hv : w.ownsRow 0 84 3 v ts.length (tcs ts)) :
    Calls Tryz.prog 102 #[v, .int .i64 i] w fun e w' => e = .returned (.int .i64 (kAt ts i)) ∧ w' = w := by
  obtain ⟨ao, cap, rfl⟩ := own_form hv
  by_cases h0 : i < 0
  · rw [kAt_neg ts i h0]
    go_enter Tryz.func102, Tryz.ntmps102
    go_wp2_with fail
    go_ret
    exact ⟨rfl, rfl⟩
  · have hd : decide (i < 0) = false := by simpa using h0
    by_cases h1 : (ts.length : Int) ≤ i
    · rw [kAt_out ts i h1]
      go_enter Tryz.func102, Tryz.ntmps102
      go_wp2_with fail
      go_ret
      exact ⟨rfl, rfl⟩
    · obtain ⟨k, rfl⟩ := Int.eq_ofNat_of_zero_le (show 0 ≤ i by omega)
      have hk : k < ts.length := by omega
      rw [kAt_in ts k hk]
      obtain ⟨q, cap', hq, _, hqlt⟩ := hv.form (by omega)
      cases hq
      have ⟨t0, t1, t2⟩ := tcs_at ts k hk
      have d0 := row_cell hv _ _ t0
      clear t0 t1 t2
      have hki : ¬ (ts.length : Int) ≤ (k : Int) := by omega
      go_enter Tryz.func102, Tryz.ntmps102
      go_wp2_with fail
      go_ret
      exact ⟨rfl, rfl⟩

set_option maxHeartbeats 1000000 in
theorem sIsNeedless (v : Value) (ts : List Tk) (i : Nat) (w : World) (hl : ts.length ≤ 1000000) (hi : i < ts.length) (hv : w.ownsRow 0 84 3 v ts.length (tcs ts)) :
    Calls Tryz.prog 66 #[v, .int .i64 i] w fun e w' => e = .returned (.bool (needB ts i)) ∧ w' = w := by
  have hx : needB ts i = ((decide (kAt ts i = 6) && decide (kAt ts ((i : Int) + 2) = 7)) || (decide (kAt ts i = 7) && decide (kAt ts ((i : Int) - 2) = 6))) := rfl
  rw [hx]
  clear hx
  by_cases h6 : kAt ts i = 6
  · rw [show ((decide (kAt ts i = 6) && decide (kAt ts ((i : Int) + 2) = 7)) || (decide (kAt ts i = 7) && decide (kAt ts ((i : Int) - 2) = 6))) = (kAt ts ((i : Int) + 2) == 7) by rw [h6]; rw [Bool.eq_iff_iff]; simp]
    go_enter Tryz.func66, Tryz.ntmps66
    go_wp2_with fail
    refine (sKindAt v ts _ _ hl hv).mono ?_
    rintro e w1 ⟨rfl, rfl⟩
    go_wp2_with fail
    refine (sKindAt v ts _ _ hl hv).mono ?_
    rintro e w1 ⟨rfl, rfl⟩
    go_wp2_with fail
    go_ret
    exact ⟨rfl, rfl⟩
  · have h6' : (kAt ts i == 6) = false := by simpa using h6
    by_cases h7 : kAt ts i = 7
    · rw [show ((decide (kAt ts i = 6) && decide (kAt ts ((i : Int) + 2) = 7)) || (decide (kAt ts i = 7) && decide (kAt ts ((i : Int) - 2) = 6))) = (kAt ts ((i : Int) - 2) == 6) by rw [h7]; rw [Bool.eq_iff_iff]; simp]
      clear h6 h6'
      go_enter Tryz.func66, Tryz.ntmps66
      go_wp2_with fail
      refine (sKindAt v ts _ _ hl hv).mono ?_
      rintro e w1 ⟨rfl, rfl⟩
      go_wp2_with fail
      refine (sKindAt v ts _ _ hl hv).mono ?_
      rintro e w1 ⟨rfl, rfl⟩
      go_wp2_with fail
      go_ret
      exact ⟨rfl, rfl⟩
    · have h7' : (kAt ts i == 7) = false := by simpa using h7
      rw [show ((decide (kAt ts i = 6) && decide (kAt ts ((i : Int) + 2) = 7)) || (decide (kAt ts i = 7) && decide (kAt ts ((i : Int) - 2) = 6))) = false by simp [h6, h7]]
      clear h6 h7
      go_enter Tryz.func66, Tryz.ntmps66
      go_wp2_with fail
      refine (sKindAt v ts _ _ hl hv).mono ?_
      rintro e w1 ⟨rfl, rfl⟩
      go_wp2_with fail
      go_ret
      exact ⟨rfl, rfl⟩

theorem dropZ_zero {l : List UInt8} (k : Nat) (h : k + 1 < l.length) (hz : l[k]'(by omega) = 48) : dropZ (l.drop k) = dropZ (l.drop (k + 1)) := by
  rw [List.drop_eq_getElem_cons (by omega), hz, List.drop_eq_getElem_cons h, dropZ, if_pos rfl]
theorem dropZ_stop {l : List UInt8} (k : Nat) (h : k + 1 < l.length) (hz : l[k]'(by omega) ≠ 48) : dropZ (l.drop k) = l.drop k := by
  rw [List.drop_eq_getElem_cons (by omega), List.drop_eq_getElem_cons h, dropZ, if_neg hz]
theorem dropZ_last {l : List UInt8} (k : Nat) (h : k < l.length) (hz : ¬ k + 1 < l.length) : dropZ (l.drop k) = l.drop k := by
  rw [List.drop_eq_getElem_cons h, List.drop_eq_nil_of_le (by omega), dropZ]
theorem bt_48 (s : ByteArray) (k : Nat) (h : k < s.data.toList.length) : (s.data.toList[k] = 48) ↔ bt s k = 48 := by
  unfold bt
  have : s.data[k]? = some s.data.toList[k] := by rw [← Array.getElem?_toList]; exact List.getElem?_eq_getElem h
  rw [this, Option.getD_some]
  constructor
  · intro e; rw [e]; rfl
  · intro e; exact UInt8.toNat_inj.1 (by have h2 : (s.data.toList[k].toNat : Int) = 48 := e; have h3 : (48 : UInt8).toNat = 48 := rfl; omega)

set_option maxHeartbeats 1000000 in
theorem sWithoutNoughts (s : ByteArray) (w : World) (hs : s.size ≤ 1000) (h0 : 0 < s.size) :
    Calls Tryz.prog 194 #[.string s] w fun e w' => ∃ x : ByteArray, e = .returned (.string x) ∧ x.data.toList = dropZ s.data.toList ∧ w' = w := by
  have hsl := size_len s
  have HSL : Hid (s.size = s.data.toList.length) := hsl
  clear hsl
  go_enter Tryz.func194, Tryz.ntmps194
  go_wp2_with fail
  go_loop [3] (fun a => ∃ k : Nat, k < s.size ∧ a = .int .i64 k ∧ Hid (dropZ (s.data.toList.drop k) = dropZ s.data.toList)) (fun a => s.size - (intOf a).toNat)
  case atStart => exact ⟨0, h0, rfl, rfl⟩
  case round =>
    obtain ⟨k, hk, rfl, HD⟩ := hrel
    have hfin : dropZ (s.data.toList.drop k) = s.data.toList.drop k → (s.extract k s.size).data.toList = dropZ s.data.toList := fun h => by
      rw [Lib.extract_data, ← HD.out, h]
      exact List.take_of_length_le (by rw [List.length_drop, ← HSL.out]; exact Nat.le_refl _)
    have HF : Hid _ := hfin
    clear hfin
    by_cases hlt : k + 1 < s.size
    · have hbk := bt_eq s k hk
      by_cases h48 : bt s k = 48
      · have HN : Hid (dropZ (s.data.toList.drop (k + 1)) = dropZ s.data.toList) := by
          rw [← HD.out]
          exact (dropZ_zero k (by rw [← HSL.out]; exact hlt) ((bt_48 s k (by rw [← HSL.out]; exact hk)).2 h48)).symm
        go_wp2_with fail
        go_round
        case rel => exact ⟨k + 1, by omega, by go_num, HN⟩
        case measure => simp [intOf]; omega
      · have h48' : (bt s k == 48) = false := by simpa using h48
        have HN : Hid ((s.extract k s.size).data.toList = dropZ s.data.toList) := HF.out (dropZ_stop k (by rw [← HSL.out]; exact hlt) (fun e => h48 ((bt_48 s k (by rw [← HSL.out]; exact hk)).1 e)))
        clear h48
        go_wp2_with fail
        go_ret
        exact ⟨_, rfl, HN.out, rfl⟩
    · have HN : Hid ((s.extract k s.size).data.toList = dropZ s.data.toList) := HF.out (dropZ_last k (by rw [← HSL.out]; exact hk) (by rw [← HSL.out]; exact hlt))
      have hd : decide ((k : Int) + 1 < (s.size : Int)) = false := by simp; omega
      go_wp2_with fail
      go_ret
      exact ⟨_, rfl, HN.out, rfl⟩

end Go.Proofs.YtnndoagpbcacdaaGreatDoor
