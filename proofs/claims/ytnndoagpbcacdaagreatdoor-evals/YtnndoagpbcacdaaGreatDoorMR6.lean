import Derived.Test.YtnndoagpbcacdaaGreatDoorMR3
import Derived.Test.YtnndoagpbcacdaaGreatDoorMA4
import Derived.Test.YtnndoagpbcacdaaGreatDoorMB1
namespace Go.Proofs.YtnndoagpbcacdaaGreatDoor
open Go.RowKit

/-- The two machines stand alike. -/
structure Sim (g : Gr) (k : Wk) : Prop where
  st : k.st = g.aw
  aw : g.aw = 0 ∨ g.aw = 1 ∨ g.aw = 2 ∨ g.aw = 3
  fu : k.fu = g.fn
  fn0 : 0 ≤ g.fn
  fn1 : g.fn ≤ 16
  pa0 : 0 ≤ k.pa
  pa1 : k.pa ≤ 6
  pa : g.aw = 1 → k.pa = g.pa
  no0 : 0 ≤ g.no
  no1 : g.no ≤ 12
  i1 : g.aw = 1 → k.inn = 0
  inn : g.aw = 2 ∨ g.aw = 3 → k.inn = g.no
  ar1 : g.aw = 0 ∨ g.aw = 1 → g.ar = []
  ar : ∀ x ∈ g.ar, 1 ≤ x ∧ x ≤ 8
  p2 : g.aw = 2 → k.parts = g.ar ++ [0]
  p3 : g.aw = 3 → k.parts = g.ar ++ [g.wi] ∧ 1 ≤ g.wi ∧ g.wi ≤ 8

theorem sim0 : Sim g0 ⟨0, 0, 0, 0, []⟩ :=
  ⟨rfl, .inl rfl, rfl, by decide, by decide, by decide, by decide, fun h => by simp [g0] at h, by decide, by decide, fun _ => rfl, fun h => by simp [g0] at h, fun _ => rfl, by simp [g0], fun h => by simp [g0] at h, fun h => by simp [g0] at h⟩

def wTake (g : Wk) (l : List Int) (x : Int) (s : Int) : Int × Wk := if g.st = 0 ∨ g.st = 1 then wStarts g s else if g.st = 2 then wOn2 g l s else wOn3 g l x s

theorem kindC_range (c : Int) (n : Nat) : 0 ≤ kindC c n ∧ kindC c n ≤ 7 := by
  unfold kindC
  repeat (first | (split; skip) | omega)
theorem kindOf_range (t : ByteArray) : 0 ≤ kindOf t ∧ kindOf t ≤ 7 := kindC_range _ _

theorem k_cases {k : Int} (h : 0 ≤ k ∧ k ≤ 7) : k = 0 ∨ k = 1 ∨ k = 2 ∨ k = 3 ∨ k = 4 ∨ k = 5 ∨ k = 6 ∨ k = 7 := by omega

theorem sim_step0 {g : Gr} {w : Wk} (h : Sim g w) (h0 : g.aw = 0) (k : Int) (hk : 0 ≤ k ∧ k ≤ 7) : (wStarts w (sortK k)).1 = (gTake g k).1 ∧ ((gTake g k).1 = 0 → Sim (gTake g k).2 (wStarts w (sortK k)).2) := by
  have hst : w.st = 0 := h.st.trans h0
  have hfu := h.fu
  have hf1 := h.fn1
  have hf0 := h.fn0
  have hk8 := k_cases hk
  by_cases h1 : k = 1
  · subst h1
    by_cases hf : g.fn = 16
    · simp [gTake, h0, gFunction, hf, wStarts, hst, sortK, hfu]
    · have hf2 : ¬ 16 ≤ g.fn := by omega
      simp only [gTake, h0, gFunction, hf2, wStarts, hst, sortK, hfu, hf, if_true, if_false, ne_eq, not_true_eq_false]
      refine ⟨trivial, fun _ => ?_⟩
      exact ⟨rfl, .inr (.inl rfl), rfl, by show 0 ≤ g.fn + 1; omega, by show g.fn + 1 ≤ 16; omega, by simp, by simp, fun _ => rfl, h.no0, h.no1, fun _ => rfl, fun h => by simp at h, fun _ => h.ar1 (.inl h0), h.ar, fun h => by simp at h, fun h => by simp at h⟩
  · have hs : ¬ sortK k = 1 := by
      rcases hk8 with rfl | rfl | rfl | rfl | rfl | rfl | rfl | rfl <;> first | exact absurd rfl h1 | decide
    simp [gTake, h0, gFunction, h1, wStarts, hst, hs]

theorem sim_step1 {g : Gr} {w : Wk} (h : Sim g w) (h0 : g.aw = 1) (k : Int) (hk : 0 ≤ k ∧ k ≤ 7) : (wStarts w (sortK k)).1 = (gTake g k).1 ∧ ((gTake g k).1 = 0 → Sim (gTake g k).2 (wStarts w (sortK k)).2) := by
  have hst : w.st = 1 := h.st.trans h0
  have hpa := h.pa h0
  have hp1 := h.pa1
  have hp0 := h.pa0
  have hk8 := k_cases hk
  by_cases h1 : k = 1
  · subst h1
    by_cases hf : g.pa = 6
    · simp [gTake, h0, gParameter, hf, wStarts, hst, sortK, hpa]
    · have hf2 : ¬ 6 ≤ g.pa := by omega
      have e1 : gTake g 1 = (0, { g with pa := g.pa + 1 }) := by simp [gTake, h0, gParameter, hf2]
      have e2 : wStarts w (sortK 1) = (0, { w with pa := w.pa + 1 }) := by simp [wStarts, hst, sortK, hpa, hf]
      rw [e1, e2]
      refine ⟨rfl, fun _ => ?_⟩
      exact ⟨h.st, h.aw, h.fu, h.fn0, h.fn1, by show 0 ≤ w.pa + 1; omega, by show w.pa + 1 ≤ 6; omega, fun _ => by show w.pa + 1 = g.pa + 1; omega, h.no0, h.no1, h.i1, h.inn, h.ar1, h.ar, h.p2, h.p3⟩
  · by_cases h4 : k = 4
    · subst h4
      have e1 : gTake g 4 = (0, { g with no := 0, aw := 2 }) := by simp [gTake, h0, gParameter]
      have e2 : wStarts w (sortK 4) = (0, { w with parts := [0], st := 2 }) := by simp [wStarts, hst, sortK]
      rw [e1, e2]
      refine ⟨rfl, fun _ => ?_⟩
      have har : g.ar = [] := h.ar1 (.inr h0)
      exact ⟨rfl, .inr (.inr (.inl rfl)), h.fu, h.fn0, h.fn1, h.pa0, h.pa1, fun h => by simp at h, by simp, by simp, fun h => by simp at h, fun _ => h.i1 h0, fun h => by simp at h, h.ar, fun _ => by show [0] = g.ar ++ [0]; rw [har]; rfl, fun h => by simp at h⟩
    · have hs : ¬ sortK k = 1 ∧ ¬ sortK k = 3 := by
        rcases hk8 with rfl | rfl | rfl | rfl | rfl | rfl | rfl | rfl <;> first | exact absurd rfl h1 | exact absurd rfl h4 | decide
      simp [gTake, h0, gParameter, h1, h4, wStarts, hst, hs]

theorem sim_step2 {g : Gr} {w : Wk} (h : Sim g w) (h0 : g.aw = 2) (k : Int) (hk : 0 ≤ k ∧ k ≤ 7) : (wOn2 w g.ar (sortK k)).1 = (gTake g k).1 ∧ ((gTake g k).1 = 0 → Sim (gTake g k).2 (wOn2 w g.ar (sortK k)).2) := by
  have hst : w.st = 2 := h.st.trans h0
  have hk8 := k_cases hk
  have hpl : plainS (sortK k) = simpleK k := by
    rcases hk8 with rfl | rfl | rfl | rfl | rfl | rfl | rfl | rfl <;> decide
  cases hs : simpleK k
  · simp [gTake, h0, gHead, wOn2, hpl, hs]
  · have e1 : gTake g k = (0, { g with wi := 1, aw := 3 }) := by simp [gTake, h0, gHead, hs]
    have e2 : wOn2 w g.ar (sortK k) = (0, { w with st := 3, parts := g.ar ++ [1] }) := by simp [wOn2, hpl, hs]
    rw [e1, e2]
    refine ⟨rfl, fun _ => ?_⟩
    exact ⟨rfl, .inr (.inr (.inr rfl)), h.fu, h.fn0, h.fn1, h.pa0, h.pa1, fun h => by simp at h, h.no0, h.no1, fun h => by simp at h, fun _ => h.inn (.inl h0), fun h => by simp at h, h.ar, fun h => by simp at h, fun _ => ⟨rfl, by simp, by simp⟩⟩

theorem sim_count {g : Gr} {w : Wk} (h : Sim g w) (h0 : g.aw = 3) : ((wPart w g.ar g.wi).1 = decide ((gCount g).1 = 0)) ∧ ((gCount g).1 = 0 ∨ (gCount g).1 = 3) ∧ ((gCount g).1 = 0 → Sim (gCount g).2 (wPart w g.ar g.wi).2 ∧ (gCount g).2.aw = 3) := by
  obtain ⟨hp, hw1, hw8⟩ := h.p3 h0
  have hin := h.inn (.inr h0)
  have hn0 := h.no0
  have hn1 := h.no1
  by_cases h8 : g.wi = 8
  · have e1 : gCount g = (3, g) := by simp [gCount, h8]
    rw [e1]
    simp [wPart, h8]
  · by_cases hc : g.ar ≠ [] ∧ g.wi = 1
    · by_cases h12 : 12 ≤ g.no
      · have e1 : gCount g = (3, { g with wi := g.wi + 1 }) := by simp [gCount, hc.1, hc.2, h12]
        rw [e1]
        simp [wPart, hc.1, hc.2, hin]
        omega
      · have e1 : gCount g = (0, { g with wi := g.wi + 1, no := g.no + 1 }) := by simp [gCount, hc.1, hc.2, h12]
        have e2 : wPart w g.ar g.wi = (decide (w.inn + 1 ≤ 12), { w with inn := w.inn + 1, parts := g.ar ++ [g.wi + 1] }) := by simp [wPart, hc.1, hc.2]
        rw [e1, e2]
        refine ⟨by simp; omega, .inl rfl, fun _ => ⟨?_, h0⟩⟩
        exact ⟨h.st, h.aw, h.fu, h.fn0, h.fn1, h.pa0, h.pa1, fun e => by simp [h0] at e, by show 0 ≤ g.no + 1; omega, by show g.no + 1 ≤ 12; omega, fun e => by simp [h0] at e, fun _ => by show w.inn + 1 = g.no + 1; omega, fun e => by simp [h0] at e, h.ar, fun e => by simp [h0] at e, fun _ => ⟨rfl, by show 1 ≤ g.wi + 1; omega, by show g.wi + 1 ≤ 8; omega⟩⟩
    · have hc2 : g.wi + 1 ≠ 2 ∨ g.ar = [] := by
        by_cases hl : g.ar = []
        · exact .inr hl
        · left; intro e; exact hc ⟨hl, by omega⟩
      have e1 : gCount g = (0, { g with wi := g.wi + 1 }) := by
        unfold gCount
        rw [if_neg (by omega), if_pos hc2]
      have e2 : wPart w g.ar g.wi = (decide (w.inn ≤ 12), { w with parts := g.ar ++ [g.wi + 1] }) := by
        unfold wPart
        rw [if_neg h8, if_neg hc]
      rw [e1, e2]
      refine ⟨by simp; omega, .inl rfl, fun _ => ⟨?_, h0⟩⟩
      exact ⟨h.st, h.aw, h.fu, h.fn0, h.fn1, h.pa0, h.pa1, fun e => by simp [h0] at e, h.no0, h.no1, fun e => by simp [h0] at e, fun _ => hin, fun e => by simp [h0] at e, h.ar, fun e => by simp [h0] at e, fun _ => ⟨rfl, by show 1 ≤ g.wi + 1; omega, by show g.wi + 1 ≤ 8; omega⟩⟩

theorem sim_step3 {g : Gr} {w : Wk} (h : Sim g w) (h0 : g.aw = 3) (k : Int) (hk : 0 ≤ k ∧ k ≤ 7) : (wOn3 w g.ar g.wi (sortK k)).1 = (gTake g k).1 ∧ ((gTake g k).1 = 0 → Sim (gTake g k).2 (wOn3 w g.ar g.wi (sortK k)).2) := by
  obtain ⟨hp, hw1, hw8⟩ := h.p3 h0
  obtain ⟨s1, s2, s3⟩ := sim_count h h0
  have hg : gTake g k = gPart g k := by simp [gTake, h0]
  rw [hg]
  have hcnt : ∀ k, (k = 1 ∨ k = 2 ∨ k = 3) → (wOn3 w g.ar g.wi (sortK k)).1 = (gPart g k).1 ∧ ((gPart g k).1 = 0 → Sim (gPart g k).2 (wOn3 w g.ar g.wi (sortK k)).2) := by
    intro k hk
    have e1 : gPart g k = gCount g := by rcases hk with rfl | rfl | rfl <;> simp [gPart, simpleK]
    have e2 : wOn3 w g.ar g.wi (sortK k) = (if (wPart w g.ar g.wi).1 then (0, (wPart w g.ar g.wi).2) else (3, (wPart w g.ar g.wi).2)) := by rcases hk with rfl | rfl | rfl <;> simp [wOn3, plainS, sortK]
    rw [e1, e2, s1]
    rcases s2 with s2 | s2
    · simp only [s2, decide_true, if_true]
      exact ⟨trivial, fun _ => (s3 s2).1⟩
    · simp [s2]
  rcases k_cases hk with rfl | rfl | rfl | rfl | rfl | rfl | rfl | rfl
  · simp [gPart, simpleK, wOn3, plainS, sortK]
  · exact hcnt 1 (.inl rfl)
  · exact hcnt 2 (.inr (.inl rfl))
  · exact hcnt 3 (.inr (.inr rfl))
  · simp [gPart, simpleK, wOn3, plainS, sortK]
  · by_cases hl : g.ar = []
    · have e1 : gPart g 5 = (0, { g with aw := 0 }) := by simp [gPart, gEndDef, hl]
      have e2 : wOn3 w g.ar g.wi (sortK 5) = (0, { w with st := 0 }) := by simp [wOn3, plainS, sortK, hl]
      rw [e1, e2]
      refine ⟨rfl, fun _ => ?_⟩
      exact ⟨rfl, .inl rfl, h.fu, h.fn0, h.fn1, h.pa0, h.pa1, fun e => by simp at e, h.no0, h.no1, fun e => by simp at e, fun e => by simp at e, fun _ => hl, h.ar, fun e => by simp at e, fun e => by simp at e⟩
    · simp [gPart, gEndDef, hl, wOn3, plainS, sortK]
  · have e1 : gPart g 6 = gBegin g := by simp [gPart]
    have e2 : wOn3 w g.ar g.wi (sortK 6) = (if (wPart w g.ar g.wi).1 then (0, { (wPart w g.ar g.wi).2 with st := 2, parts := (wPart w g.ar g.wi).2.parts ++ [0] }) else (3, (wPart w g.ar g.wi).2)) := by simp [wOn3, plainS, sortK]
    rw [e1, e2, s1]
    rcases s2 with s2 | s2
    · have e3 : gBegin g = (0, { (gCount g).2 with ar := (gCount g).2.ar ++ [(gCount g).2.wi], aw := 2 }) := by simp [gBegin, s2]
      rw [e3]
      simp only [s2, decide_true, if_true]
      refine ⟨trivial, fun _ => ?_⟩
      obtain ⟨q, qa⟩ := s3 s2
      obtain ⟨qp, q1, q8⟩ := q.p3 qa
      refine ⟨rfl, .inr (.inr (.inl rfl)), q.fu, q.fn0, q.fn1, q.pa0, q.pa1, fun e => by simp at e, q.no0, q.no1, fun e => by simp at e, fun _ => q.inn (.inr qa), fun e => by simp at e, ?_, fun _ => by show _ ++ [0] = _ ++ [_] ++ [0]; rw [qp], fun e => by simp at e⟩
      intro x hx
      simp only [List.mem_append, List.mem_cons, List.not_mem_nil, or_false] at hx
      rcases hx with hx | hx
      · exact q.ar x hx
      · rw [hx]; exact ⟨q1, q8⟩
    · have e3 : gBegin g = gCount g := by simp [gBegin, s2]
      rw [e3]
      simp [s2]
  · rcases List.eq_nil_or_concat g.ar with hl | ⟨l, x, hl⟩
    · simp [gPart, gEndInner, hl, wOn3, plainS, sortK]
    · rw [List.concat_eq_append] at hl
      have hne : g.ar ≠ [] := by rw [hl]; simp
      have e1 : gPart g 7 = (0, { g with wi := x, ar := l }) := by simp [gPart, gEndInner, hl]
      have e2 : wOn3 w g.ar g.wi (sortK 7) = (0, { w with parts := g.ar }) := by simp [wOn3, plainS, sortK, hne]
      rw [e1, e2]
      refine ⟨rfl, fun _ => ?_⟩
      have hx := h.ar x (by rw [hl]; simp)
      exact ⟨h.st, h.aw, h.fu, h.fn0, h.fn1, h.pa0, h.pa1, fun e => by simp [h0] at e, h.no0, h.no1, fun e => by simp [h0] at e, h.inn, fun e => by simp [h0] at e, fun y hy => h.ar y (by rw [hl]; simp [hy]), fun e => by simp [h0] at e, fun _ => ⟨hl, hx.1, hx.2⟩⟩

set_option maxHeartbeats 400000 in
/-- 'on', by the program's machine. -/
theorem rOn (B b : Nat) (g : Gr) (wk : Wk) (av : Value) (k : Int) (w0 w : World) (h : WRep B w0 w b wk av) (sim : Sim g wk) (hk : 0 ≤ k ∧ k ≤ 7) (hn : g.ar.length ≤ 1000000) :
    Calls Tryz.prog 129 #[.pointer (some ⟨b, 0, none⟩), .int .i64 (sortK k)] w fun e w' => e = .returned (.int .i64 (gTake g k).1) ∧ ∃ wk' av', WRep B w0 w' b wk' av' ∧ ((gTake g k).1 = 0 → Sim (gTake g k).2 wk') := by
  have hfu := sim.fu
  have hf0 := sim.fn0
  have hf1 := sim.fn1
  have hp0 := sim.pa0
  have hp1 := sim.pa1
  rcases sim.aw with h0 | h1 | h2 | h3
  · obtain ⟨q1, q2⟩ := sim_step0 sim h0 k hk
    refine (rOn01 B b wk av (sortK k) w0 w h (.inl (sim.st.trans h0)) (by omega) (by omega) hp0 (by omega)).mono ?_
    rintro e w1 ⟨rfl, av1, hg⟩
    exact ⟨by rw [q1], _, av1, hg, q2⟩
  · obtain ⟨q1, q2⟩ := sim_step1 sim h1 k hk
    refine (rOn01 B b wk av (sortK k) w0 w h (.inr (sim.st.trans h1)) (by omega) (by omega) hp0 (by omega)).mono ?_
    rintro e w1 ⟨rfl, av1, hg⟩
    exact ⟨by rw [q1], _, av1, hg, q2⟩
  · obtain ⟨q1, q2⟩ := sim_step2 sim h2 k hk
    obtain ⟨st, fu, pa, inn, parts⟩ := wk
    have hst : st = 2 := sim.st.trans h2
    have hpp : parts = g.ar ++ [0] := sim.p2 h2
    subst hst
    subst hpp
    refine (rOn2 B b fu pa inn 0 g.ar av (sortK k) w0 w h hn).mono ?_
    rintro e w1 ⟨rfl, av1, hg⟩
    exact ⟨by rw [q1], _, av1, hg, q2⟩
  · obtain ⟨q1, q2⟩ := sim_step3 sim h3 k hk
    obtain ⟨hp, hw1, hw8⟩ := sim.p3 h3
    have hin := sim.inn (.inr h3)
    have hn0 := sim.no0
    have hn1 := sim.no1
    obtain ⟨st, fu, pa, inn, parts⟩ := wk
    have hst : st = 3 := sim.st.trans h3
    simp only at hp hin
    subst hst
    subst hp
    refine (rOn3 B b fu pa inn g.wi g.ar av (sortK k) w0 w h hn (by omega) (by omega) (by omega) (by omega)).mono ?_
    rintro e w1 ⟨rfl, av1, hg⟩
    exact ⟨by rw [q1], _, av1, hg, q2⟩

set_option maxHeartbeats 400000 in
theorem rOnEnd (B b : Nat) (g : Gr) (wk : Wk) (av : Value) (w0 w : World) (h : WRep B w0 w b wk av) (sim : Sim g wk) (hn : g.ar.length ≤ 1000000) :
    Calls Tryz.prog 129 #[.pointer (some ⟨b, 0, none⟩), .int .i64 0] w fun e w' => e = .returned (.int .i64 2) ∧ ∃ wk' av', WRep B w0 w' b wk' av' := by
  have hfu := sim.fu
  have hf0 := sim.fn0
  have hf1 := sim.fn1
  have hp0 := sim.pa0
  have hp1 := sim.pa1
  rcases sim.aw with h0 | h1 | h2 | h3
  · refine (rOn01 B b wk av 0 w0 w h (.inl (sim.st.trans h0)) (by omega) (by omega) hp0 (by omega)).mono ?_
    rintro e w1 ⟨rfl, av1, hg⟩
    exact ⟨by simp [wStarts, sim.st.trans h0], _, av1, hg⟩
  · refine (rOn01 B b wk av 0 w0 w h (.inr (sim.st.trans h1)) (by omega) (by omega) hp0 (by omega)).mono ?_
    rintro e w1 ⟨rfl, av1, hg⟩
    exact ⟨by simp [wStarts, sim.st.trans h1], _, av1, hg⟩
  · obtain ⟨st, fu, pa, inn, parts⟩ := wk
    have hst : st = 2 := sim.st.trans h2
    have hpp : parts = g.ar ++ [0] := sim.p2 h2
    subst hst
    subst hpp
    refine (rOn2 B b fu pa inn 0 g.ar av 0 w0 w h hn).mono ?_
    rintro e w1 ⟨rfl, av1, hg⟩
    exact ⟨by simp [wOn2, plainS], _, av1, hg⟩
  · obtain ⟨hp, hw1, hw8⟩ := sim.p3 h3
    have hin := sim.inn (.inr h3)
    have hn0 := sim.no0
    have hn1 := sim.no1
    obtain ⟨st, fu, pa, inn, parts⟩ := wk
    have hst : st = 3 := sim.st.trans h3
    simp only at hp hin
    subst hst
    subst hp
    refine (rOn3 B b fu pa inn g.wi g.ar av 0 w0 w h hn (by omega) (by omega) (by omega) (by omega)).mono ?_
    rintro e w1 ⟨rfl, av1, hg⟩
    exact ⟨by simp [wOn3, plainS], _, av1, hg⟩

theorem rcs_at (ts : List Tk) (k : Nat) (h : k < ts.length) : (rcs ts)[k * 2]? = some (.string (ts[k]'h).txt) ∧ (rcs ts)[k * 2 + 1]? = some (.int .i64 (ts[k]'h).pos) := by
  induction ts generalizing k with
  | nil => simp at h
  | cons t r ih =>
    cases k with
    | zero => simp [rcs, rcells]
    | succ k =>
      have := ih k (by simpa using h)
      simp only [rcs, List.flatMap_cons, rcells, List.getElem_cons_succ] at this ⊢
      refine ⟨?_, ?_⟩
      · rw [show (k + 1) * 2 = k * 2 + 1 + 1 by omega]; exact this.1
      · rw [show (k + 1) * 2 + 1 = (k * 2 + 1) + 1 + 1 by omega]; exact this.2

set_option maxHeartbeats 4000000 in
theorem rShape (s : ByteArray) (v : Value) (ts : List Tk) (w : World) (_hs : s.size ≤ 1000) (hl : ts.length ≤ 1000) (hwt : ∀ t ∈ ts, WT t.txt) (hv : w.ownsRow 0 201 2 v (ts.length + 1) (rcs (ts ++ [endTk s]))) :
    Calls Tryz.prog 83 #[v] w fun e w' => e = .returned (.tuple #[.int .i64 (gAll s.size g0 ts).1, .int .i64 (gAll s.size g0 ts).2]) ∧ Below w.heap.size w w' := by
  obtain ⟨q, cap, rfl, _, hqlt⟩ := hv.form (by omega)
  generalize hR : gAll s.size g0 ts = R
  have HR : Hid (gAll s.size g0 ts = R) := hR
  clear hR
  go_enter Tryz.func83, Tryz.ntmps83
  go_wp2_with fail
  go_loopw [5] (fun a wr => ∃ (k : Nat) (g : Gr) (wk : Wk) (av : Value), k ≤ ts.length ∧ a = .int .i64 k ∧ Hid (gAll s.size g (ts.drop k) = R) ∧ WRep w.heap.size w wr w.heap.size wk av ∧ Sim g wk ∧ g.ar.length ≤ k) (fun a _ => ts.length - (intOf a).toNat)
  case atStart => exact ⟨0, g0, ⟨0, 0, 0, 0, []⟩, .slice none 0 0, Nat.zero_le _, rfl, HR, ⟨heap_alloc_new w _, Nat.le_refl _, World.ownsRow_nil _ _ _ _, (Below.refl _ _).alloc (Nat.le_refl _) _, (Otw.refl w).alloc _⟩, sim0, Nat.le_refl _⟩
  case round =>
    obtain ⟨k, g, wk, av, hk, rfl, HG, hrep, sim, har⟩ := hrel
    have hvr := ownsRow_old hv hrep.bel
    have c0 := hrep.blk.c0
    have c1 := hrep.blk.c1
    have hst := sim.st
    have hfu := sim.fu
    rw [hst] at c0
    rw [hfu] at c1
    clear hst hfu
    by_cases hlt : k < ts.length
    · have hlt2 : k < (ts ++ [endTk s]).length := by simp; omega
      have ⟨t0, t1⟩ := rcs_at (ts ++ [endTk s]) k hlt2
      rw [List.getElem_append_left hlt] at t0 t1
      have d0 := row_cell hvr _ _ t0
      have d1 := row_cell hvr _ _ t1
      clear t0 t1 hvr
      have hw := hwt ts[k] (List.getElem_mem hlt)
      have hkr := kindOf_range ts[k].txt
      have hse : (sortK (kindOf ts[k].txt) == 0) = false := by
        rcases k_cases hkr with h | h | h | h | h | h | h | h <;> rw [h] <;> decide
      have htk := gTake_len g (kindOf ts[k].txt)
      by_cases he : (gTake g (kindOf ts[k].txt)).1 = 0
      · have HG2 : Hid (gAll s.size (gTake g (kindOf ts[k].txt)).2 (ts.drop (k + 1)) = R) := by
          have := HG.out
          rw [List.drop_eq_getElem_cons hlt, gAll, if_pos he] at this
          exact this
        go_wp2_with fail
        refine (rSort _ _ hw).mono ?_
        rintro e w1 ⟨rfl, rfl⟩
        go_wp2_with fail
        refine (rOn w.heap.size w.heap.size g wk av _ w _ hrep sim hkr (by omega)).mono ?_
        rintro e w2 ⟨rfl, wk2, av2, hg, hsim⟩
        have hsim2 : Hid _ := hsim he
        clear hsim
        go_wp2_with fail
        go_roundw
        case rel => exact ⟨k + 1, _, wk2, av2, by omega, by go_num, HG2, hg, hsim2, by omega⟩
        case measure => simp [intOf]; omega
      · have HG2 : Hid ((((ts[k].pos : Nat) : Int), (gTake g (kindOf ts[k].txt)).1) = R) := by
          have := HG.out
          rw [List.drop_eq_getElem_cons hlt, gAll, if_neg he] at this
          exact this
        have he' : ((gTake g (kindOf ts[k].txt)).1 == 0) = false := by simpa using he
        clear he
        go_wp2_with fail
        refine (rSort _ _ hw).mono ?_
        rintro e w1 ⟨rfl, rfl⟩
        go_wp2_with fail
        refine (rOn w.heap.size w.heap.size g wk av _ w _ hrep sim hkr (by omega)).mono ?_
        rintro e w2 ⟨rfl, wk2, av2, hg, _⟩
        have hvr2 := ownsRow_old hv hg.bel
        have ⟨t0, t1⟩ := rcs_at (ts ++ [endTk s]) k hlt2
        rw [List.getElem_append_left hlt] at t0 t1
        have d1' := row_cell hvr2 _ _ t1
        clear t0 t1 hvr2
        go_wp2_with fail
        go_ret2
        exact ⟨ret_two HG2.out, hg.bel⟩
    · have e0 : k = ts.length := by omega
      subst e0
      have hlt2 : ts.length < (ts ++ [endTk s]).length := by simp
      have ⟨t0, t1⟩ := rcs_at (ts ++ [endTk s]) ts.length hlt2
      simp only [List.getElem_append_right (Nat.le_refl _), Nat.sub_self, List.getElem_cons_zero, endTk] at t0 t1
      have d0 := row_cell hvr _ _ t0
      have d1 := row_cell hvr _ _ t1
      clear t0 t1 hvr
      have HG2 : Hid (gAll s.size g [] = R) := by have := HG.out; rw [List.drop_eq_nil_of_le (by omega)] at this; exact this
      have hsz := hrep.bel.size
      by_cases ha : g.aw = 0
      · by_cases hf : g.fn = 0
        · have h2 : Hid ((((s.size : Nat) : Int), (2 : Int)) = R) := by have := HG2.out; simp [gAll, hf] at this; exact this
          go_wp2_with fail
          refine (rSort0 _).mono ?_
          rintro e w1 ⟨rfl, rfl⟩
          go_wp2_with fail
          refine (rOnEnd w.heap.size w.heap.size g wk av w _ hrep sim (by omega)).mono ?_
          rintro e w2 ⟨rfl, wk2, av2, hg⟩
          have hvr2 := ownsRow_old hv hg.bel
          have ⟨t0, t1⟩ := rcs_at (ts ++ [endTk s]) ts.length hlt2
          simp only [List.getElem_append_right (Nat.le_refl _), Nat.sub_self, List.getElem_cons_zero, endTk] at t0 t1
          have d1' := row_cell hvr2 _ _ t1
          clear t0 t1 hvr2
          go_wp2_with fail
          go_ret2
          exact ⟨ret_two h2.out, hg.bel⟩
        · have h2 : Hid (((0 : Int), (0 : Int)) = R) := by have := HG2.out; simp [gAll, hf, ha] at this; exact this
          have hf2 : (0 : Int) < g.fn := by have := sim.fn0; omega
          clear hf
          go_wp2_with fail
          refine (rSort0 _).mono ?_
          rintro e w1 ⟨rfl, rfl⟩
          go_wp2_with fail
          go_ret2
          exact ⟨ret_two h2.out, hrep.bel⟩
      · have ha' : (g.aw == 0) = false := by simpa using ha
        have h2 : Hid ((((s.size : Nat) : Int), (2 : Int)) = R) := by have := HG2.out; simp [gAll, ha] at this; exact this
        clear ha
        go_wp2_with fail
        refine (rSort0 _).mono ?_
        rintro e w1 ⟨rfl, rfl⟩
        go_wp2_with fail
        refine (rOnEnd w.heap.size w.heap.size g wk av w _ hrep sim (by omega)).mono ?_
        rintro e w2 ⟨rfl, wk2, av2, hg⟩
        have hvr2 := ownsRow_old hv hg.bel
        have ⟨t0, t1⟩ := rcs_at (ts ++ [endTk s]) ts.length hlt2
        simp only [List.getElem_append_right (Nat.le_refl _), Nat.sub_self, List.getElem_cons_zero, endTk] at t0 t1
        have d1' := row_cell hvr2 _ _ t1
        clear t0 t1 hvr2
        go_wp2_with fail
        go_ret2
        exact ⟨ret_two h2.out, hg.bel⟩

end Go.Proofs.YtnndoagpbcacdaaGreatDoor
namespace Go.Proofs.YtnndoagpbcacdaaGreatDoor
open Go.RowKit

theorem rcs_get (l : List Tk) (j : Nat) (t : Tk) (h : l[j]? = some t) : (rcs l)[j * 2]? = some (.string t.txt) ∧ (rcs l)[j * 2 + 1]? = some (.int .i64 t.pos) := by
  obtain ⟨hlt, rfl⟩ := List.getElem?_eq_some_iff.1 h
  exact rcs_at l j hlt

/-- The reference's definitions in memory. -/
def rdcells (d : Df) (pv : Value) (a b : Nat) : List Value := [.string d.name.txt, .int .i64 d.name.pos, pv, .int .i64 a, .int .i64 b]
structure RDOk (w : World) (T : Nat) (ts : List Tk) (d : Df) (pv : Value) (a b : Nat) : Prop where
  row : w.ownsRow 0 201 2 pv d.ps.length (rcs d.ps)
  lt : ∀ k, pv.ownBlock = some k → k < T
  to : a + d.body.length = b
  le : b ≤ ts.length
  body : ∀ j, j < d.body.length → ts[a + j]? = d.body[j]?
  semi : ∃ c r, ts.drop a = d.body ++ c :: r ∧ kindOf c.txt = 5
def RDList (w : World) (T : Nat) (ts : List Tk) : List Df → List Value → Prop
  | [], xs => xs = []
  | d :: ds, xs => ∃ pv a b r, xs = rdcells d pv a b ++ r ∧ RDOk w T ts d pv a b ∧ RDList w T ts ds r
theorem RDOk.keep {w w' : World} {T : Nat} {ts : List Tk} {d : Df} {pv : Value} {a b : Nat} (h : RDOk w T ts d pv a b) (hb : Below T w w') : RDOk w' T ts d pv a b :=
  ⟨ownsRow_below h.row hb h.lt, h.lt, h.to, h.le, h.body, h.semi⟩
theorem RDList.keep {w w' : World} {T : Nat} {ts : List Tk} (hb : Below T w w') : ∀ {ds : List Df} {xs : List Value}, RDList w T ts ds xs → RDList w' T ts ds xs
  | [], _, h => h
  | _ :: _, _, ⟨pv, a, b, r, h1, h2, h3⟩ => ⟨pv, a, b, r, h1, h2.keep hb, RDList.keep hb h3⟩
theorem RDList.up {w : World} {T T' : Nat} {ts : List Tk} (hT : T ≤ T') : ∀ {ds : List Df} {xs : List Value}, RDList w T ts ds xs → RDList w T' ts ds xs
  | [], _, h => h
  | _ :: _, _, ⟨pv, a, b, r, h1, h2, h3⟩ => ⟨pv, a, b, r, h1, ⟨h2.row, fun k hk => Nat.lt_of_lt_of_le (h2.lt k hk) hT, h2.to, h2.le, h2.body, h2.semi⟩, RDList.up hT h3⟩
theorem RDList.snoc {w : World} {T : Nat} {ts : List Tk} {d : Df} {pv : Value} {a b : Nat} (hd : RDOk w T ts d pv a b) : ∀ {ds : List Df} {xs : List Value}, RDList w T ts ds xs → RDList w T ts (ds ++ [d]) (xs ++ rdcells d pv a b)
  | [], _, h => by rw [show _ = ([] : List Value) from h]; exact ⟨pv, a, b, [], by simp, hd, rfl⟩
  | _ :: _, _, ⟨p, a', b', r, h1, h2, h3⟩ => ⟨p, a', b', r ++ rdcells d pv a b, by rw [h1]; simp, h2, RDList.snoc hd h3⟩
theorem RDList.type {w w' : World} {base T size n : Nat} {ts : List Tk} {v : Value} {xs0 : List Value} (hr : w.ownsRow base 208 size v n xs0) (hg : w.grownBy w' v.ownBlock) : ∀ {ds : List Df} {xs : List Value}, RDList w T ts ds xs → RDList w' T ts ds xs
  | [], _, h => h
  | _ :: _, _, ⟨pv, a, b, r, h1, h2, h3⟩ => ⟨pv, a, b, r, h1, ⟨own_grown_type hr hg (by decide) h2.row, h2.lt, h2.to, h2.le, h2.body, h2.semi⟩, RDList.type hr hg h3⟩
theorem rdcells_one (d : Df) (pv : Value) (a b : Nat) (h1 : pv.oneCell' = true) : ∀ u ∈ rdcells d pv a b, u.oneCell' = true := by
  intro u hu
  simp only [rdcells, List.mem_cons, List.not_mem_nil, or_false] at hu
  rcases hu with rfl | rfl | rfl | rfl | rfl <;> first | rfl | assumption

theorem Tryz.infoRDef : (Tryz.prog.info? 208).map (fun i => (i.zero, i.size, i.bytes)) = some (some (.agg #[.string ByteArray.empty, .int .i64 0, .slice none 0 0, .int .i64 0, .int .i64 0]), 5, 64) := by kernel_rfl

set_option maxHeartbeats 4000000 in
theorem rDefs (s : ByteArray) (v : Value) (ts : List Tk) (ds : List Df) (w : World) (hl : ts.length ≤ 1000) (hwt : ∀ t ∈ ts, WT t.txt) (hshp : Shp ts ds) (hv : w.ownsRow 0 201 2 v (ts.length + 1) (rcs (ts ++ [endTk s]))) :
    Calls Tryz.prog 85 #[v] w fun e w' => ∃ lv, e = .returned lv ∧ Below w.heap.size w w' ∧ ∃ xs, w'.ownsRow 0 208 5 lv ds.length xs ∧ RDList w' w'.heap.size ts ds xs := by
  obtain ⟨q, cap, rfl, _, hqlt⟩ := hv.form (by omega)
  go_enter Tryz.func85, Tryz.ntmps85
  go_wp2_with fail
  go_loopw [3, 4] (fun lv a wr => ∃ (k : Nat) (done rest : List Df) (xs : List Value), k ≤ ts.length ∧ a = .int .i64 k ∧ Hid (done ++ rest = ds) ∧ Shp (ts.drop k) rest ∧ wr.ownsRow w.heap.size 208 5 lv done.length xs ∧ RDList wr wr.heap.size ts done xs ∧ Below w.heap.size w wr ∧ done.length ≤ k) (fun _ a _ => ts.length - (intOf a).toNat)
  case atStart => exact ⟨0, [], ds, [], Nat.zero_le _, rfl, rfl, hshp, World.ownsRow_nil _ _ _ _, rfl, Below.refl _ _, Nat.le_refl _⟩
  case round =>
    obtain ⟨k, done, rest, xs, hk, rfl, HD, hsh, hrow, hdl, hb, hdn⟩ := hrel
    have hvr := ownsRow_old hv hb
    generalize hL : ts.drop k = L at hsh
    have hget : ∀ j t, L[j]? = some t → (ts ++ [endTk s])[k + j]? = some t ∧ k + j < ts.length ∧ WT t.txt := by
      intro j t ht
      rw [← hL, List.getElem?_drop] at ht
      obtain ⟨hlt, he⟩ := List.getElem?_eq_some_iff.1 ht
      refine ⟨?_, hlt, hwt t (by rw [← he]; exact List.getElem_mem hlt)⟩
      rw [List.getElem?_append_left hlt]; exact ht
    have HL : Hid (ts.drop k = L) := hL
    clear hL
    cases hsh with
    | nil =>
      have hk2 : k = ts.length := by have := HL.out; have h := congrArg List.length this; simp at h; omega
      subst hk2
      have ⟨t0, t1⟩ := rcs_get (ts ++ [endTk s]) ts.length (endTk s) (by simp)
      have d0 := row_cell hvr _ _ t0
      simp only [endTk] at d0
      clear t0 t1 hvr hget
      have e1 : done = ds := by have := HD.out; simpa using this
      subst e1
      go_wp2_with fail
      go_ret
      exact ⟨_, rfl, hb, xs, ownsRow_base hrow (Nat.zero_le _), hdl⟩
    | cons n ps e body m r ds' hn hp he hbo hm hr =>
      obtain ⟨g0, g1, g2⟩ := hget 0 n rfl
      simp only [Nat.add_zero] at g0 g1
      have ⟨t0, t1⟩ := rcs_get _ _ _ g0
      have d0 := row_cell hvr _ _ t0
      have d1 := row_cell hvr _ _ t1
      have hne := nonempty_of n.txt g2.1
      obtain ⟨wo, rfl⟩ : ∃ wo : World, wo = wr := ⟨_, rfl⟩
      have hbsz := hb.size
      clear t0 t1 hvr g0
      go_wp2_with fail
      obtain ⟨J0, hJ0⟩ : ∃ J0 : Nat, J0 = k + 1 := ⟨_, rfl⟩
      have hJi : ((J0 : Nat) : Int) = (k : Int) + 1 := by omega
      rw [← hJi]
      have HJ0 : Hid (J0 = k + 1) := hJ0
      clear hJi hJ0
      go_loopw [4] (fun a wx => ∃ (j J : Nat) (pv : Value), j ≤ ps.length ∧ Hid (J = J0 + j) ∧ a = .int .i64 J ∧ Below wo.heap.size wo wx ∧ wx.heap[wo.heap.size]? = some (.cells #[.string n.txt, .int .i64 n.pos, pv, .int .i64 0, .int .i64 0] 208 (0, 0)) ∧ wx.ownsRow (wo.heap.size + 1) 201 2 pv j (rcs (ps.take j))) (fun a _ => 2000 - (intOf a).toNat)
      case atStart => exact ⟨0, J0, .slice none 0 0, Nat.zero_le _, rfl, rfl, (Below.refl _ _).alloc (Nat.le_refl _) _, heap_alloc_new wo _, World.ownsRow_nil _ _ _ _⟩
      case round =>
        obtain ⟨j, J, pv, hj, HJ, rfl, hbx, hbox, hprow⟩ := hrel
        have hvr := ownsRow_old hv (hb.trans (hbx.mono hbsz))
        have hwlt : wo.heap.size < wr.heap.size := (Array.getElem?_eq_some_iff.1 hbox).1
        have b0 := cell_of_row wr wo.heap.size 0 _ _ _ hbox
        have b1 := cell_of_row wr wo.heap.size 1 _ _ _ hbox
        have b2 := cell_of_row wr wo.heap.size 2 _ _ _ hbox
        have b3 := cell_of_row wr wo.heap.size 3 _ _ _ hbox
        have b4 := cell_of_row wr wo.heap.size 4 _ _ _ hbox
        have fz := fun j => frozen_of_row wr wo.heap.size j _ _ hbox
        simp only [List.getElem?_toArray, List.getElem?_cons_succ, List.getElem?_cons_zero] at b0 b1 b2 b3 b4
        by_cases hjl : j < ps.length
        · obtain ⟨i, hi, hz0, hz1, hz2⟩ := info_parts Tryz.infoRTok
          obtain ⟨y0, y1, y2⟩ := hget (1 + j) ps[j] (by rw [show 1 + j = j + 1 by omega, List.getElem?_cons_succ, List.getElem?_append_left hjl]; exact List.getElem?_eq_getElem hjl)
          rw [show k + (1 + j) = J by have := HJ.out; have := HJ0.out; omega] at y0 y1
          have ⟨t0, t1⟩ := rcs_get _ _ _ y0
          have x0 := row_cell hvr _ _ t0
          have x1 := row_cell hvr _ _ t1
          have hne1 : (ps[j].txt.toList == [61]) = false := by rw [txt_eq y2, hp _ (List.getElem_mem hjl)]; rfl
          have hJ1 : (J : Int) < (ts.length : Int) + 1 := by omega
          have hJ0' : (0 : Int) ≤ (J : Int) := by omega
          have hJ2 : J ≤ 1000 := by omega
          have hj2 : j ≤ 1000 := by have := HJ.out; have := HJ0.out; omega
          clear t0 t1 y0 y2 hget
          have hown0 : (wr.drew).ownsRow (wo.heap.size + 1) 201 2 pv j (rcs (ps.take j)) := hprow
          go_wp2_with fail
          go_region_law ((refine step_append_lies _ (by rfl) _ _ _ (by rfl) (wo.heap.size + 1) 201 i _ 2 24 Tryz.underlying138 hi hz0 hz1 hz2 rfl (by omega) pv j (rcs (ps.take j)) (by rfl) (by exact hprow.alloc _) _ 1 _ (rcells ps[j]) (by rfl) rfl (by exact World.news_of_block (heap_alloc_new wr _)) (by exact rcells_one _) (by omega) (by unfold maxLen; omega) (by omega) (by simp; omega) _ rfl ?_; intro g cap1 w2 hown2 hgrow hat hlt2; have hbox2 := grown_type (World.ownsRow.drew (hprow.alloc _)) hgrow (by decide) ((Below.heap_alloc wr _ wo.heap.size hwlt).trans hbox); have z2 := cell_of_row w2 wo.heap.size 2 _ _ _ hbox2; have zz := frozen_of_row w2 wo.heap.size 2 _ _ hbox2; simp only [List.getElem?_toArray, List.getElem?_cons_succ, List.getElem?_cons_zero] at z2))
          all_goals
            have hb2 : Below wo.heap.size wo w2 := (Below.drew (hbx.alloc (by omega) _)).grown hgrow (by simp [heap_drew]; omega) (fun k hk => by have := (hprow.lt k hk).1; omega)
            go_wp2_with fail
            go_roundw
            case rel =>
              refine ⟨j + 1, J + 1, _, by omega, by have := HJ.out; show _ = _; omega, by go_num, hb2.setCell (Nat.le_refl _) _, blk_set _ hbox2, ?_⟩
              rw [List.take_succ_eq_append_getElem hjl, rcs_snoc]
              exact ownsRow_set hown2 hbox2 (by decide)
            case measure => simp [intOf]; omega
        · have hj3 : j = ps.length := by omega
          subst hj3
          obtain ⟨y0, y1, y2⟩ := hget (1 + ps.length) e (by rw [show 1 + ps.length = ps.length + 1 by omega, List.getElem?_cons_succ, List.getElem?_append_right (Nat.le_refl _), Nat.sub_self]; rfl)
          rw [show k + (1 + ps.length) = J by have := HJ.out; have := HJ0.out; omega] at y0 y1
          have ⟨t0, t1⟩ := rcs_get _ _ _ y0
          have x0 := row_cell hvr _ _ t0
          have x1 := row_cell hvr _ _ t1
          have hne1 : (e.txt.toList == [61]) = true := by rw [txt_eq y2, he]; rfl
          clear t0 t1 y0
          go_wp2_with fail
          go_loop [4] (fun a => ∃ (j2 J2 : Nat), j2 ≤ body.length + 1 ∧ Hid (J2 = J + j2) ∧ a = .int .i64 J2) (fun a => 2000 - (intOf a).toNat)
          case atStart => exact ⟨0, J, Nat.zero_le _, rfl, rfl⟩
          case round =>
            obtain ⟨j2, J2, hj2, HJ2, rfl⟩ := hrel
            by_cases hjb : j2 < body.length + 1
            · obtain ⟨t, hLt, hkt⟩ : ∃ t, (e :: (body ++ (m :: r)))[j2]? = some t ∧ kindOf t.txt ≠ 5 := by
                cases j2 with
                | zero => exact ⟨e, rfl, by rw [he]; decide⟩
                | succ j2 => exact ⟨body[j2]'(by omega), by rw [List.getElem?_cons_succ, List.getElem?_append_left (by omega)]; exact List.getElem?_eq_getElem (by omega), (hbo _ (List.getElem_mem (by omega))).2⟩
              obtain ⟨y0, y1, y2⟩ := hget (1 + ps.length + j2) t (by rw [show 1 + ps.length + j2 = (ps.length + j2) + 1 by omega, List.getElem?_cons_succ, List.getElem?_append_right (by omega), show ps.length + j2 - ps.length = j2 by omega]; exact hLt)
              rw [show k + (1 + ps.length + j2) = J2 by have := HJ.out; have := HJ0.out; have := HJ2.out; omega] at y0 y1
              have ⟨t0, t1⟩ := rcs_get _ _ _ y0
              have x0' := row_cell hvr _ _ t0
              have hne2 : (t.txt.toList == [59]) = false := by rw [txt_semi y2]; simpa using hkt
              clear t0 t1 y0
              go_wp2_with fail
              go_round
              case rel => exact ⟨j2 + 1, J2 + 1, by omega, by have := HJ2.out; show _ = _; omega, by go_num⟩
              case measure => simp [intOf]; omega
            · have hj4 : j2 = body.length + 1 := by omega
              subst hj4
              obtain ⟨y0, y1, y2⟩ := hget (1 + ps.length + (body.length + 1)) m (by rw [show 1 + ps.length + (body.length + 1) = (ps.length + (body.length + 1)) + 1 by omega, List.getElem?_cons_succ, List.getElem?_append_right (by omega), show ps.length + (body.length + 1) - ps.length = body.length + 1 by omega, List.getElem?_cons_succ, List.getElem?_append_right (Nat.le_refl _), Nat.sub_self]; rfl)
              rw [show k + (1 + ps.length + (body.length + 1)) = J2 by have := HJ.out; have := HJ0.out; have := HJ2.out; omega] at y0 y1
              have ⟨t0, t1⟩ := rcs_get _ _ _ y0
              have x0' := row_cell hvr _ _ t0
              have hne2 : (m.txt.toList == [59]) = true := by rw [txt_semi y2, hm]; rfl
              clear t0 t1 y0
              obtain ⟨i, hi, hz0, hz1, hz2⟩ := info_parts Tryz.infoRDef
              have ho1 := own_one hprow
              have HO1 : Hid (pv.oneCell' = true) := ho1
              clear ho1
              have hdn2 : done.length ≤ 1000 := by omega
              have hb3 : Below wo.heap.size wo ((wr.setCell ⟨wo.heap.size, 3, none⟩ (.int .i64 ((J : Int) + 1))).setCell ⟨wo.heap.size, 4, none⟩ (.int .i64 (J2 : Int))) := (hbx.setCell (Nat.le_refl _) _).setCell (Nat.le_refl _) _
              have hr3 := ownsRow_old hrow hb3
              have hp3 := ownsRow_set (i := 4) (u := .int .i64 (J2 : Int)) (ownsRow_set (i := 3) (u := .int .i64 ((J : Int) + 1)) hprow hbox (by decide)) (blk_set _ hbox) (by decide)
              have hd3 := hdl.keep hb3
              have hsz3 : ((wr.setCell ⟨wo.heap.size, 3, none⟩ (.int .i64 ((J : Int) + 1))).setCell ⟨wo.heap.size, 4, none⟩ (.int .i64 (J2 : Int))).heap.size = wr.heap.size := by simp [World.setCell]
              have HS3 : Hid _ := hsz3
              clear hsz3
              go_wp2_with (at_builtin; go_must (refine wpList_append_lies _ rfl _ _ _ rfl w.heap.size 208 i _ 5 64 Tryz.underlying142 hi hz0 hz1 hz2 rfl (by omega) u3 done.length xs rfl ?hown _ 1 _ (rdcells ⟨n, ps, body⟩ pv (J + 1) J2) rfl rfl ?hnews ?h1 (by omega) ?h63 ?hbytes ?hbase _ rfl ?_))
              case hown => exact hr3.alloc _
              case hnews =>
                intro j u h
                rw [rdcells, show ((J + 1 : Nat) : Int) = (J : Int) + 1 by omega] at h
                exact h
              case h1 => exact rdcells_one _ _ _ _ HO1.out
              case h63 => unfold maxLen; omega
              case hbytes => omega
              case hbase => first | omega | (simp; omega)
              intro g cap1 w2 hown2 hgrow hat hlt2
              have hsz3 := HS3.out
              clear HS3
              generalize hW3 : (wr.setCell ⟨wo.heap.size, 3, none⟩ (.int .i64 ((J : Int) + 1))).setCell ⟨wo.heap.size, 4, none⟩ (.int .i64 (J2 : Int)) = W3 at *
              clear hW3
              generalize (Obj.cells #[.string n.txt, .int .i64 n.pos, pv, .int .i64 ((J : Int) + 1), .int .i64 (J2 : Int)] 208) = O at hgrow
              have HB : ∀ j, j < body.length → ts[J + 1 + j]? = body[j]? := by
                intro j hj
                have h1 : (ts.drop k)[2 + ps.length + j]? = body[j]? := by
                  rw [HL.out, show 2 + ps.length + j = (ps.length + (j + 1)) + 1 by omega, List.getElem?_cons_succ, List.getElem?_append_right (by omega), show ps.length + (j + 1) - ps.length = j + 1 by omega, List.getElem?_cons_succ, List.getElem?_append_left hj]
                rw [List.getElem?_drop] at h1
                rw [show J + 1 + j = k + (2 + ps.length + j) by have := HJ.out; have := HJ0.out; omega]
                exact h1
              have HDR : ts.drop (J2 + 1) = r := by
                have h1 : (ts.drop k).drop (ps.length + body.length + 3) = r := by
                  rw [HL.out, show ps.length + body.length + 3 = (ps.length + (body.length + 1 + 1)) + 1 by omega, List.drop_succ_cons, List.drop_append, List.drop_eq_nil_of_le (by omega), List.nil_append, show ps.length + (body.length + 1 + 1) - ps.length = (body.length + 1) + 1 by omega, List.drop_succ_cons, List.drop_append, List.drop_eq_nil_of_le (by omega), List.nil_append, show body.length + 1 - body.length = 0 + 1 by omega, List.drop_succ_cons, List.drop_zero]
                rw [List.drop_drop] at h1
                rw [show J2 + 1 = k + (ps.length + body.length + 3) by have := HJ.out; have := HJ0.out; have := HJ2.out; omega]
                exact h1
              have HSM : ts.drop (J + 1) = body ++ m :: r := by
                have h1 : (ts.drop k).drop (ps.length + 2) = body ++ m :: r := by
                  rw [HL.out, show ps.length + 2 = (ps.length + 1) + 1 by omega, List.drop_succ_cons, List.drop_append, List.drop_eq_nil_of_le (by omega), List.nil_append, show ps.length + 1 - ps.length = 0 + 1 by omega, List.drop_succ_cons, List.drop_zero]
                rw [List.drop_drop] at h1
                rw [show J + 1 = k + (ps.length + 2) by have := HJ.out; have := HJ0.out; omega]
                exact h1
              have HDR2 : Shp (ts.drop (J2 + 1)) ds' := by rw [HDR]; exact hr
              have HD2 : Hid ((done ++ [⟨n, ps, body⟩]) ++ ds' = ds) := by have := HD.out; show _ = _; rw [← this]; simp
              have hgs := hgrow.size
              have hok : RDOk (W3.alloc O) (W3.alloc O).heap.size ts ⟨n, ps, body⟩ pv (J + 1) J2 := by
                refine ⟨?_, fun k hk => ?_, by have := HJ2.out; show J + 1 + body.length = J2; omega, by omega, HB, m, r, HSM, hm⟩
                · have h1 := ownsRow_base (hp3.alloc O) (Nat.zero_le _)
                  rw [List.take_length] at h1
                  exact h1
                · have := (hp3.lt k hk).2; simp; omega
              have hall := RDList.type (hr3.alloc O) hgrow (RDList.snoc hok (RDList.up (T' := (W3.alloc O).heap.size) (by simp; omega) (hd3.keep (Below.mono ((Below.refl W3.heap.size W3).alloc (Nat.le_refl _) O) (by omega)))))
              have hbf : Below w.heap.size w w2 := (hb.trans ((hb3.mono hbsz).alloc (by omega) O)).grown hgrow (by simp; omega) (fun k hk => (hr3.lt k hk).1)
              clear HDR HB HSM hd3 hget b0 b1 b2 b3 b4 fz x0 x1 x0' d0 d1 hi hz0 hz1 hz2
              go_wp2_with fail
              go_roundw
              case rel => exact ⟨J2 + 1, _, ds', _, by omega, by go_num, HD2, HDR2, by rw [List.length_append]; exact hown2, hall.up hgs, hbf, by simp; have := HJ2.out; have := HJ.out; have := HJ0.out; omega⟩
              case measure => simp [intOf]; have := HJ2.out; have := HJ.out; have := HJ0.out; omega

end Go.Proofs.YtnndoagpbcacdaaGreatDoor
namespace Go.Proofs.YtnndoagpbcacdaaGreatDoor
open Go.RowKit

set_option maxHeartbeats 400000 in
theorem rWhere (v : Value) (ts : List Tk) (m : Nat) (n : ByteArray) (w : World) (hl : ts.length ≤ 1000000) (hm : m ≤ ts.length) (hv : w.ownsRow 0 201 2 v ts.length (rcs ts)) :
    Calls Tryz.prog 131 #[v, .int .i64 m, .string n] w fun e w' => e = .returned (.int .i64 (whr (ts.take m) n)) ∧ w' = w := by
  obtain ⟨ao, cap, rfl⟩ := own_form hv
  go_enter Tryz.func131, Tryz.ntmps131
  go_wp2_with fail
  go_loop [7] (fun a => ∃ (k : Nat), k ≤ m ∧ a = .int .i64 k ∧ Hid (∀ j (h : j < ts.length), j < k → (ts[j].txt.toList == n.toList) = false)) (fun a => m - (intOf a).toNat)
  case atStart => exact ⟨0, Nat.zero_le _, rfl, fun j _ h => by omega⟩
  case round =>
    obtain ⟨k, hk, rfl, HH⟩ := hrel
    by_cases hlt : k < m
    · have hlt2 : k < ts.length := by omega
      obtain ⟨q, cap', hq, _, hqlt⟩ := hv.form (by omega)
      cases hq
      have ⟨t0, t1⟩ := rcs_at ts k hlt2
      have d0 := row_cell hv _ _ t0
      clear t0 t1
      cases he : (ts[k].txt.toList == n.toList)
      · have HH2 : Hid (∀ j (h : j < ts.length), j < k + 1 → (ts[j].txt.toList == n.toList) = false) := by
          intro j h hj
          by_cases hjk : j = k
          · subst hjk; exact he
          · exact HH.out j h (by omega)
        clear HH
        go_wp2_with fail
        go_round
        case rel => exact ⟨k + 1, by omega, by go_num, HH2⟩
        case measure => simp [intOf]; omega
      · have HE : Hid (whr (ts.take m) n = (k : Int)) := by
          have : (ts.take m).findIdx? (fun t => t.txt.toList == n.toList) = some k := by
            rw [List.findIdx?_eq_some_iff_getElem]
            refine ⟨by simp; omega, by rw [List.getElem_take]; exact he, ?_⟩
            intro j hj
            rw [List.getElem_take]
            have := HH.out j (by omega) hj
            simp [this]
          show whr _ _ = _
          unfold whr; rw [this]
        go_wp2_with fail
        go_ret
        exact ⟨ret_int HE.out.symm, rfl⟩
    · have HE : Hid (whr (ts.take m) n = -1) := by
        have : (ts.take m).findIdx? (fun t => t.txt.toList == n.toList) = none := by
          rw [List.findIdx?_eq_none_iff]
          intro x hx
          obtain ⟨j, hj, rfl⟩ := List.mem_iff_getElem.1 hx
          rw [List.getElem_take]
          simp only [List.length_take] at hj
          exact HH.out j (by omega) (by omega)
        show whr _ _ = _
        unfold whr; rw [this]
      go_wp2_with fail
      go_ret
      exact ⟨ret_int HE.out.symm, rfl⟩

theorem RDList.at {w : World} {T : Nat} {ts : List Tk} : ∀ {ds : List Df} {xs : List Value}, RDList w T ts ds xs → ∀ (i : Nat) (h : i < ds.length), ∃ pv a b, xs[i * 5]? = some (.string (ds[i]'h).name.txt) ∧ xs[i * 5 + 1]? = some (.int .i64 (ds[i]'h).name.pos) ∧ xs[i * 5 + 2]? = some pv ∧ xs[i * 5 + 3]? = some (.int .i64 (a : Nat)) ∧ xs[i * 5 + 4]? = some (.int .i64 (b : Nat)) ∧ RDOk w T ts (ds[i]'h) pv a b
  | [], _, _, i, h => by simp at h
  | d :: ds, _, ⟨pv, a, b, r, rfl, h2, h3⟩, 0, _ => ⟨pv, a, b, rfl, rfl, rfl, rfl, rfl, h2⟩
  | d :: ds, _, ⟨pv, a, b, r, rfl, h2, h3⟩, i + 1, h => by
    obtain ⟨p, a', b', e0, e1, e2, e3, e4, e5⟩ := RDList.at h3 i (by simpa using h)
    refine ⟨p, a', b', ?_, ?_, ?_, ?_, ?_, e5⟩
    · rw [show (i + 1) * 5 = i * 5 + 1 + 1 + 1 + 1 + 1 by omega]; exact e0
    · rw [show (i + 1) * 5 + 1 = (i * 5 + 1) + 1 + 1 + 1 + 1 + 1 by omega]; exact e1
    · rw [show (i + 1) * 5 + 2 = (i * 5 + 2) + 1 + 1 + 1 + 1 + 1 by omega]; exact e2
    · rw [show (i + 1) * 5 + 3 = (i * 5 + 3) + 1 + 1 + 1 + 1 + 1 by omega]; exact e3
    · rw [show (i + 1) * 5 + 4 = (i * 5 + 4) + 1 + 1 + 1 + 1 + 1 by omega]; exact e4

set_option maxHeartbeats 1000000 in
theorem rHeads (v : Value) (ts : List Tk) (ds : List Df) (xs : List Value) (T : Nat) (w : World) (hl : ds.length ≤ 1000000) (hv : w.ownsRow 0 208 5 v ds.length xs) (hd : RDList w T ts ds xs) (hT : T ≤ w.heap.size) :
    Calls Tryz.prog 130 #[v] w fun e w' => ∃ fv, e = .returned fv ∧ Below w.heap.size w w' ∧ w'.ownsRow w.heap.size 201 2 fv ds.length (rcs (ds.map (·.name))) := by
  obtain ⟨i, hi, hz0, hz1, hz2⟩ := info_parts Tryz.infoRTok
  obtain ⟨ao, cap, rfl⟩ := own_form hv
  go_enter Tryz.func130, Tryz.ntmps130
  go_wp2_with fail
  go_loopw [3, 4] (fun fv a wr => ∃ (k : Nat), k ≤ ds.length ∧ a = .int .i64 k ∧ Below w.heap.size w wr ∧ wr.ownsRow w.heap.size 201 2 fv k (rcs ((ds.take k).map (·.name)))) (fun _ a _ => ds.length - (intOf a).toNat)
  case atStart => exact ⟨0, Nat.zero_le _, rfl, Below.refl _ _, World.ownsRow_nil _ _ _ _⟩
  case round =>
    obtain ⟨k, hk, rfl, hb, hrow⟩ := hrel
    have hbsz := hb.size
    by_cases hlt : k < ds.length
    · obtain ⟨q, cap', hq, _, hqlt⟩ := hv.form (by omega)
      cases hq
      have hvr := ownsRow_old hv hb
      obtain ⟨pv, a, b, t0, t1, t2, t3, t4, hok⟩ := (hd.keep (hb.mono hT)).at k hlt
      have d0 := row_cell hvr _ _ t0
      have d1 := row_cell hvr _ _ t1
      clear t0 t1 t2 t3 t4 hvr hok
      go_wp2_with (at_builtin; go_must (refine wpList_append_lies _ rfl _ _ _ rfl w.heap.size 201 i _ 2 24 Tryz.underlying138 hi hz0 hz1 hz2 rfl (by omega) u3 k (rcs ((ds.take k).map (·.name))) rfl ?hown _ 1 _ (rcells ds[k].name) rfl rfl ?hnews ?h1 (by omega) ?h63 ?hbytes ?hbase _ rfl ?_))
      case hown => exact hrow.alloc _
      case hnews => first | exact fun _ _ h => h | exact World.news_of_block (heap_alloc_new wr _)
      case h1 => exact rcells_one _
      case h63 => unfold maxLen; omega
      case hbytes => omega
      case hbase => first | omega | (simp; omega)
      intro g cap1 w1 hown1 hgrow hat hlt1
      have hbf := (hb.alloc hb.size _).grown hgrow (by simp; omega) (fun q hq => (hrow.lt q hq).1)
      clear hi hz0 hz1 hz2 d0 d1
      go_wp2_with fail
      go_roundw
      case rel =>
        refine ⟨k + 1, by omega, by go_num, hbf, ?_⟩
        rw [List.take_succ_eq_append_getElem hlt, List.map_append, List.map_cons, List.map_nil, rcs_snoc]
        first | exact hown1 | (rw [List.map_take]; exact hown1)
      case measure => simp [intOf]; omega
    · have hk2 : k = ds.length := by omega
      subst hk2
      rw [List.take_length] at hrow
      go_wp2_with fail
      go_ret
      exact ⟨_, rfl, hb, hrow⟩

end Go.Proofs.YtnndoagpbcacdaaGreatDoor
