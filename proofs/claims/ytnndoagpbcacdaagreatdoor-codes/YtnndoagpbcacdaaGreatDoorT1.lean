import Derived.Test.YtnndoagpbcacdaaGreatDoorP1
namespace Go.Proofs.YtnndoagpbcacdaaGreatDoor
open Go.RowKit

/-! Plain: applications as trees (first child, next sibling). -/
inductive At where
  | nil : At
  | sim (t : Tk) (rest : At) : At
  | par (o h c : Tk) (args rest : At) : At
def At.toks : At → List Tk
  | .nil => []
  | .sim t r => t :: r.toks
  | .par o h c ag r => o :: h :: (ag.toks ++ c :: r.toks)
def simp3 (t : Tk) : Prop := kindOf t.txt = 1 ∨ kindOf t.txt = 2 ∨ kindOf t.txt = 3
def At.ok : At → Prop
  | .nil => True
  | .sim t r => simp3 t ∧ r.ok
  | .par o h c ag r => kindOf o.txt = 6 ∧ simp3 h ∧ kindOf c.txt = 7 ∧ ag.ok ∧ r.ok

/-- What is left of an application, by its open parentheses; behind it m, r. -/
def Lv (m : Tk) (r : List Tk) : Nat → List Tk → Prop
  | 0, ts => ∃ a : At, a.ok ∧ ts = a.toks ++ m :: r
  | d + 1, ts => ∃ (a : At) (c : Tk) (ts' : List Tk), a.ok ∧ kindOf c.txt = 7 ∧ ts = a.toks ++ c :: ts' ∧ Lv m r d ts'

theorem Lv.sim {m : Tk} {r : List Tk} {d : Nat} {ts : List Tk} {t : Tk} (ht : simp3 t) (h : Lv m r d ts) : Lv m r d (t :: ts) := by
  cases d with
  | zero => obtain ⟨a, ha, rfl⟩ := h; exact ⟨.sim t a, ⟨ht, ha⟩, rfl⟩
  | succ d => obtain ⟨a, c, ts', ha, hc, rfl, hl⟩ := h; exact ⟨.sim t a, c, ts', ⟨ht, ha⟩, hc, rfl, hl⟩
theorem Lv.par {m : Tk} {r : List Tk} {d : Nat} {ts : List Tk} {o h : Tk} (ho : kindOf o.txt = 6) (hh : simp3 h) (hl : Lv m r (d + 1) ts) : Lv m r d (o :: h :: ts) := by
  obtain ⟨a, c, ts', ha, hc, rfl, hl⟩ := hl
  cases d with
  | zero => obtain ⟨b, hb, rfl⟩ := hl; exact ⟨.par o h c a b, ⟨ho, hh, hc, ha, hb⟩, by simp [At.toks]⟩
  | succ d => obtain ⟨b, c', ts'', hb, hc', rfl, hl⟩ := hl; exact ⟨.par o h c a b, c', ts'', ⟨ho, hh, hc, ha, hb⟩, hc', by simp [At.toks], hl⟩

inductive Shq : List Tk → List Df → Prop
  | nil : Shq [] []
  | cons (n : Tk) (ps : List Tk) (e h : Tk) (a : At) (m : Tk) (r : List Tk) (ds : List Df)
      (hn : kindOf n.txt = 1) (hp : ∀ p ∈ ps, kindOf p.txt = 1) (he : kindOf e.txt = 4) (hh : simp3 h) (ha : a.ok) (hm : kindOf m.txt = 5) (hr : Shq r ds) :
      Shq (n :: (ps ++ (e :: h :: (a.toks ++ (m :: r))))) (⟨n, ps, h :: a.toks⟩ :: ds)

theorem simp3_ne {t : Tk} (h : simp3 t) : kindOf t.txt ≠ 4 ∧ kindOf t.txt ≠ 5 := by unfold simp3 at h; omega
theorem At.body {a : At} (h : a.ok) : ∀ t ∈ a.toks, kindOf t.txt ≠ 4 ∧ kindOf t.txt ≠ 5 := by
  induction a with
  | nil => intro t ht; simp [At.toks] at ht
  | sim x r ih =>
    intro t ht
    simp only [At.toks, List.mem_cons] at ht
    rcases ht with rfl | ht
    · exact simp3_ne h.1
    · exact ih h.2 t ht
  | par o x c ag r ih1 ih2 =>
    obtain ⟨h1, h2, h3, h4, h5⟩ := h
    intro t ht
    simp only [At.toks, List.mem_cons, List.mem_append] at ht
    rcases ht with rfl | rfl | ht | rfl | ht
    · omega
    · exact simp3_ne h2
    · exact ih1 h4 t ht
    · omega
    · exact ih2 h5 t ht
theorem Shq.shp {ts : List Tk} {ds : List Df} (h : Shq ts ds) : Shp ts ds := by
  induction h with
  | nil => exact .nil
  | cons n ps e h a m r ds hn hp he hh ha hm hr ih =>
    refine .cons n ps e (h :: a.toks) m r ds hn hp he ?_ hm ih
    intro t ht
    rcases List.mem_cons.1 ht with rfl | ht
    · exact simp3_ne hh
    · exact At.body ha t ht

def Left5 (g : Gr) (ts : List Tk) : Prop :=
  (g.aw = 0 ∧ ∃ ds, Shq ts ds) ∨
  (g.aw = 1 ∧ ∃ ps e h a m r ds, ts = ps ++ (e :: h :: (At.toks a ++ (m :: r))) ∧ (∀ p ∈ ps, kindOf p.txt = 1) ∧ kindOf e.txt = 4 ∧ simp3 h ∧ a.ok ∧ kindOf m.txt = 5 ∧ Shq r ds) ∨
  (g.aw = 2 ∧ ∃ h rest m r ds, ts = h :: rest ∧ simp3 h ∧ kindOf m.txt = 5 ∧ Lv m r g.ar.length rest ∧ Shq r ds) ∨
  (g.aw = 3 ∧ ∃ m r ds, kindOf m.txt = 5 ∧ Lv m r g.ar.length ts ∧ Shq r ds)

theorem left_all5 (n : Nat) (ts : List Tk) : ∀ g : Gr, (g.aw = 0 ∨ g.aw = 1 ∨ g.aw = 2 ∨ g.aw = 3) → (g.aw = 0 ∨ g.aw = 1 → g.ar = []) → (gAll n g ts).2 = 0 → Left5 g ts := by
  induction ts with
  | nil =>
    intro g ha _ h
    unfold gAll at h
    split at h
    · simp at h
    · rename_i hc
      have h0 : g.aw = 0 := by
        by_cases h0 : g.aw = 0
        · exact h0
        · exact absurd (.inr h0) hc
      exact .inl ⟨h0, [], .nil⟩
  | cons t r ih =>
    intro g ha har h
    unfold gAll at h
    split at h
    case isFalse hc => exact absurd h hc
    case isTrue he =>
      generalize hk : kindOf t.txt = k at *
      rcases ha with ha | ha | ha | ha
      · have e : gTake g k = gFunction g k := by simp [gTake, ha]
        rw [e] at he h
        unfold gFunction at he h
        by_cases h1 : k = 1
        · subst h1
          by_cases hf : 16 ≤ g.fn
          · simp [hf] at he
          · simp only [ne_eq, not_true_eq_false, if_false, hf] at h
            have := ih { g with fn := g.fn + 1, pa := 0, aw := 1 } (.inr (.inl rfl)) (fun _ => har (.inl ha)) h
            rcases this with ⟨h0, _⟩ | ⟨_, ps, e, hd, a, m, r', ds, rfl, hp, he', hh, hao, hm, hs⟩ | ⟨h0, _⟩ | ⟨h0, _⟩
            · simp at h0
            · exact .inl ⟨ha, _, .cons t ps e hd a m r' ds hk hp he' hh hao hm hs⟩
            · simp at h0
            · simp at h0
        · simp [h1] at he
      · have e : gTake g k = gParameter g k := by simp [gTake, ha]
        rw [e] at he h
        unfold gParameter at he h
        by_cases h4 : k = 4
        · subst h4
          simp only [if_true] at h
          have := ih { g with no := 0, aw := 2 } (.inr (.inr (.inl rfl))) (fun h => by simp at h) h
          rcases this with ⟨h0, _⟩ | ⟨h0, _⟩ | ⟨_, hd, rest, m, r', ds, rfl, hh, hm, hl, hs⟩ | ⟨h0, _⟩
          · simp at h0
          · simp at h0
          · have har0 : g.ar = [] := har (.inr ha)
            rw [show ({ g with no := 0, aw := 2 } : Gr).ar = g.ar from rfl, har0] at hl
            obtain ⟨a, hao, rfl⟩ := hl
            exact .inr (.inl ⟨ha, [], t, hd, a, m, r', ds, rfl, by simp, hk, hh, hao, hm, hs⟩)
          · simp at h0
        · by_cases h1 : k = 1
          · subst h1
            by_cases hf : 6 ≤ g.pa
            · simp [hf] at he
            · simp only [show ¬ ((1 : Int) = 4) by decide, ne_eq, not_true_eq_false, if_false, hf] at h
              have := ih { g with pa := g.pa + 1 } (.inr (.inl ha)) (fun _ => har (.inr ha)) h
              rcases this with ⟨h0, _⟩ | ⟨_, ps, e, hd, a, m, r', ds, rfl, hp, he', hh, hao, hm, hs⟩ | ⟨h0, _⟩ | ⟨h0, _⟩
              · have h0' : g.aw = _ := h0; omega
              · refine .inr (.inl ⟨ha, t :: ps, e, hd, a, m, r', ds, rfl, ?_, he', hh, hao, hm, hs⟩)
                intro x hx
                rcases List.mem_cons.1 hx with rfl | hx
                · exact hk
                · exact hp x hx
              · have h0' : g.aw = _ := h0; omega
              · have h0' : g.aw = _ := h0; omega
          · simp [h4, h1] at he
      · have e : gTake g k = gHead g k := by simp [gTake, ha]
        rw [e] at he h
        unfold gHead at he h
        cases hs : simpleK k
        · simp [hs] at he
        · simp only [hs, if_true] at h
          have hsk : simp3 t := by unfold simp3; rw [hk]; simpa [simpleK] using hs
          have := ih { g with wi := 1, aw := 3 } (.inr (.inr (.inr rfl))) (fun h => by simp at h) h
          rcases this with ⟨h0, _⟩ | ⟨h0, _⟩ | ⟨h0, _⟩ | ⟨_, m, r', ds, hm, hl, hs'⟩
          · simp at h0
          · simp at h0
          · simp at h0
          · exact .inr (.inr (.inl ⟨ha, t, r, m, r', ds, rfl, hsk, hm, hl, hs'⟩))
      · have e : gTake g k = gPart g k := by simp [gTake, ha]
        rw [e] at he h
        unfold gPart at he h
        by_cases h5 : k = 5
        · subst h5
          simp only [if_true] at he h
          unfold gEndDef at he h
          by_cases hl : g.ar = []
          · simp only [hl, if_true] at h
            have := ih _ (.inl rfl) (fun _ => rfl) h
            rcases this with ⟨_, ds, hs⟩ | ⟨h0, _⟩ | ⟨h0, _⟩ | ⟨h0, _⟩
            · refine .inr (.inr (.inr ⟨ha, t, r, ds, hk, ?_, hs⟩))
              rw [hl]
              exact ⟨.nil, trivial, rfl⟩
            · simp at h0
            · simp at h0
            · simp at h0
          · simp [hl] at he
        · rw [if_neg h5] at he h
          by_cases h7 : k = 7
          · subst h7
            simp only [if_true] at he h
            unfold gEndInner at he h
            by_cases hl : g.ar = []
            · simp [hl] at he
            · simp only [hl, if_false] at h
              have := ih { g with wi := g.ar.getLast?.getD 0, ar := g.ar.dropLast } (.inr (.inr (.inr ha))) (fun h => by have h' : g.aw = 0 ∨ g.aw = 1 := h; omega) h
              rcases this with ⟨h0, _⟩ | ⟨h0, _⟩ | ⟨h0, _⟩ | ⟨_, m, r', ds, hm, hlv, hs'⟩
              · have h0' : g.aw = _ := h0; omega
              · have h0' : g.aw = _ := h0; omega
              · have h0' : g.aw = _ := h0; omega
              · refine .inr (.inr (.inr ⟨ha, m, r', ds, hm, ?_, hs'⟩))
                have hlen : g.ar.length = g.ar.dropLast.length + 1 := by
                  have : 0 < g.ar.length := List.length_pos_iff.2 hl
                  simp; omega
                rw [hlen]
                exact ⟨.nil, t, r, trivial, hk, rfl, hlv⟩
          · rw [if_neg h7] at he h
            by_cases h6 : k = 6
            · subst h6
              simp only [if_true] at he h
              unfold gBegin at he h
              rcases gCount_err g with hc | hc
              · rw [if_pos hc] at h
                have := ih { (gCount g).2 with ar := (gCount g).2.ar ++ [(gCount g).2.wi], aw := 2 } (.inr (.inr (.inl rfl))) (fun h => by simp at h) h
                rcases this with ⟨h0, _⟩ | ⟨h0, _⟩ | ⟨_, hd, rest, m, r', ds, rfl, hh, hm, hlv, hs'⟩ | ⟨h0, _⟩
                · simp at h0
                · simp at h0
                · refine .inr (.inr (.inr ⟨ha, m, r', ds, hm, ?_, hs'⟩))
                  refine Lv.par hk hh ?_
                  have : ({ (gCount g).2 with ar := (gCount g).2.ar ++ [(gCount g).2.wi], aw := 2 } : Gr).ar.length = g.ar.length + 1 := by simp [gCount_ar]
                  rw [this] at hlv
                  exact hlv
                · simp at h0
              · rw [if_neg (by rw [hc]; decide), hc] at he
                simp at he
            · rw [if_neg h6] at he h
              cases hs : simpleK k
              · simp [hs] at he
              · simp only [hs, if_true] at he h
                have hsk : simp3 t := by unfold simp3; rw [hk]; simpa [simpleK] using hs
                have hca : (gCount g).2.aw = 3 := (gCount_aw g).trans ha
                have := ih _ (.inr (.inr (.inr hca))) (fun h => by omega) h
                rcases this with ⟨h0, _⟩ | ⟨h0, _⟩ | ⟨h0, _⟩ | ⟨_, m, r', ds, hm, hlv, hs'⟩
                · omega
                · omega
                · omega
                · rw [gCount_ar] at hlv
                  exact .inr (.inr (.inr ⟨ha, m, r', ds, hm, hlv.sim hsk, hs'⟩))

theorem shq_of_all (n : Nat) (ts : List Tk) (h : (gAll n g0 ts).2 = 0) : ∃ ds, Shq ts ds ∧ (cAll ts).ds = ds := by
  rcases left_all5 n ts g0 (.inl rfl) (fun _ => rfl) h with ⟨_, ds, hs⟩ | ⟨h0, _⟩ | ⟨h0, _⟩ | ⟨h0, _⟩
  · exact ⟨ds, hs, cAll_shp hs.shp⟩
  · simp [g0] at h0
  · simp [g0] at h0
  · simp [g0] at h0

end Go.Proofs.YtnndoagpbcacdaaGreatDoor
