import Derived.Test.YtnndoagpbcacdaaGreatDoorMR3
import Derived.Test.YtnndoagpbcacdaaGreatDoorA8
import Derived.Test.YtnndoagpbcacdaaGreatDoorA7
namespace Go.Proofs.YtnndoagpbcacdaaGreatDoor
open Go.RowKit

theorem wPart_parts (g : Wk) (l : List Int) (x : Int) (h : (wPart g l x).1 = true) : (wPart g l x).2.parts = l ++ [x + 1] ∧ (wPart g l x).2.st = g.st := by
  unfold wPart at h ⊢
  split
  · rename_i h8; simp [h8] at h
  · split <;> exact ⟨rfl, rfl⟩

theorem WBlk.grown {w w' : World} {b : Nat} {g : Wk} {av : Value} {B n size : Nat} {xs : List Value} {o : Obj} (h : WBlk w b g av) (hr : w.ownsRow B 3 size av n xs) (hg : (w.alloc o).grownBy w' av.ownBlock) : WBlk w' b g av :=
  grown_type (hr.alloc o) hg (by decide) ((Below.heap_alloc w o b (Array.getElem?_eq_some_iff.1 h).1).trans h)
theorem Otw.grown {w0 w w' : World} {av : Value} {B n size : Nat} {xs : List Value} {o : Obj} (h : Otw w0 w) (hr : w.ownsRow B 3 size av n xs) (hg : (w.alloc o).grownBy w' av.ownBlock) : Otw w0 w' := by
  intro k cs t fr h1 h2 h3
  have h4 := h.alloc o k cs t fr h1 h2 h3
  exact grown_type (hr.alloc o) hg h2 h4
theorem WRep.push {B : Nat} {w0 w2 : World} {b : Nat} {g : Wk} {av nv : Value} (hB2 : WBlk w2 b g av) (hlo : B ≤ b) (hown : w2.ownsRow B 3 1 nv (g.parts.length + 1) (ints g.parts ++ [.int .i64 0])) (bel : Below B w0 w2) (oth : Otw w0 w2) :
    WRep B w0 ((w2.setCell ⟨b, 4, none⟩ nv).setCell ⟨b, 0, none⟩ (.int .i64 2)) b { g with st := 2, parts := g.parts ++ [0] } nv := by
  refine ⟨blk_set _ (blk_set _ hB2), hlo, ?_, (bel.setCell hlo _).setCell hlo _, (oth.set _ hB2).set _ (blk_set _ hB2)⟩
  have := ownsRow_set (i := 0) (u := .int .i64 2) (ownsRow_set (i := 4) (u := nv) hown hB2 (by decide)) (blk_set _ hB2) (by decide)
  simpa [ints] using this

set_option maxHeartbeats 4000000 in
theorem rOn3 (B b : Nat) (fu pa inn x : Int) (l : List Int) (av : Value) (s : Int) (w0 w : World) (h : WRep B w0 w b ⟨3, fu, pa, inn, l ++ [x]⟩ av) (hn : l.length ≤ 1000000) (hi0 : 0 ≤ inn) (hi1 : inn ≤ 1000000) (hx0 : 0 ≤ x) (hx1 : x ≤ 8) :
    Calls Tryz.prog 129 #[.pointer (some ⟨b, 0, none⟩), .int .i64 s] w fun e w' => e = .returned (.int .i64 (wOn3 ⟨3, fu, pa, inn, l ++ [x]⟩ l x s).1) ∧ ∃ av', WRep B w0 w' b (wOn3 ⟨3, fu, pa, inn, l ++ [x]⟩ l x s).2 av' := by
  have c0 := h.blk.c0
  have c1 := h.blk.c1
  have c2 := h.blk.c2
  have c3 := h.blk.c3
  have c4 := h.blk.c4
  have f0 := h.blk.fz 0
  have f1 := h.blk.fz 1
  have f2 := h.blk.fz 2
  have f3 := h.blk.fz 3
  have f4 := h.blk.fz 4
  have hlo := h.lo
  have hblt := h.lt
  simp only at *
  obtain ⟨q, cap, rfl, _, _⟩ := h.row.form (by simp)
  simp only [List.length_append, List.length_cons, List.length_nil, Nat.zero_add] at *
  have hcap : l.length + 1 ≤ cap := own_cap h.row
  have hrow := h.row
  simp only [ints, List.map_append, List.map_cons, List.map_nil, List.length_append, List.length_cons, List.length_nil] at hrow
  have cq : w.cell? ⟨q, l.length, none⟩ = some (.int .i64 x) := by
    have := hrow.cells (g := q) rfl l.length (.int .i64 x) (by simp)
    simpa [Addr.add_lit] using this
  obtain ⟨cur, hq⟩ := own_block hrow
  have fq := frozen_of_row w q l.length _ _ hq
  have hqb : ¬ q = b := by
    intro e
    have := h.blk
    unfold WBlk at this
    rw [← e, hq] at this
    simp at this
  have hbq : ¬ b = q := fun e => hqb e.symm
  clear hrow hq
  by_cases h1 : s = 1 ∨ s = 2 ∨ s = 5
  · have hw : wOn3 ⟨3, fu, pa, inn, l ++ [x]⟩ l x s = (if (wPart ⟨3, fu, pa, inn, l ++ [x]⟩ l x).1 then (if s = 5 then (0, { (wPart ⟨3, fu, pa, inn, l ++ [x]⟩ l x).2 with st := 2, parts := (wPart ⟨3, fu, pa, inn, l ++ [x]⟩ l x).2.parts ++ [0] }) else (0, (wPart ⟨3, fu, pa, inn, l ++ [x]⟩ l x).2)) else (3, (wPart ⟨3, fu, pa, inn, l ++ [x]⟩ l x).2)) := by
      unfold wOn3
      rw [if_pos (by rcases h1 with rfl | rfl | rfl <;> simp [plainS])]
    rw [hw]
    clear hw
    have hpp := wPart_parts ⟨3, fu, pa, inn, l ++ [x]⟩ l x
    have HP : Hid ((wPart ⟨3, fu, pa, inn, l ++ [x]⟩ l x).1 = true → (wPart ⟨3, fu, pa, inn, l ++ [x]⟩ l x).2.parts = l ++ [x + 1] ∧ (wPart ⟨3, fu, pa, inn, l ++ [x]⟩ l x).2.st = 3) := hpp
    clear hpp
    cases hp : (wPart ⟨3, fu, pa, inn, l ++ [x]⟩ l x).1
    · rcases h1 with rfl | rfl | rfl
      all_goals
        go_enter Tryz.func129, Tryz.ntmps129
        go_wp2_with (go_at_call 172; refine (rPart B b 3 fu pa inn x l _ w0 w h hi0 hi1 hx0 hx1 hn).mono ?_; rintro e w1 ⟨rfl, hg⟩)
        go_ret
        exact ⟨rfl, _, hg⟩
    · obtain ⟨HP1, HP2⟩ := HP.out hp
      have HP1' : Hid _ := HP1
      have HP2' : Hid _ := HP2
      clear HP HP1 HP2
      rcases h1 with rfl | rfl | rfl
      · simp only [if_true, show ¬ ((1 : Int) = 5) by decide, if_false]
        go_enter Tryz.func129, Tryz.ntmps129
        go_wp2_with (go_at_call 172; refine (rPart B b 3 fu pa inn x l _ w0 w h hi0 hi1 hx0 hx1 hn).mono ?_; rintro e w1 ⟨rfl, hg⟩)
        go_ret
        exact ⟨rfl, _, hg⟩
      · simp only [if_true, show ¬ ((2 : Int) = 5) by decide, if_false]
        go_enter Tryz.func129, Tryz.ntmps129
        go_wp2_with (go_at_call 172; refine (rPart B b 3 fu pa inn x l _ w0 w h hi0 hi1 hx0 hx1 hn).mono ?_; rintro e w1 ⟨rfl, hg⟩)
        go_ret
        exact ⟨rfl, _, hg⟩
      · simp only [if_true]
        obtain ⟨i, hi, hz0, hz1, hz2⟩ := info_parts Tryz.infoInt
        generalize hq2 : (wPart ⟨3, fu, pa, inn, l ++ [x]⟩ l x).2 = q2 at *
        have HQ : Hid ((wPart ⟨3, fu, pa, inn, l ++ [x]⟩ l x).2 = q2) := hq2
        clear hq2
        have hq3 : Hid (q2.parts.length = l.length + 1) := by have := HP1'.out; show _ = _; rw [this]; simp
        clear HP1' HP2'
        go_enter Tryz.func129, Tryz.ntmps129
        go_wp2_with fail
        refine (rPart B b 3 fu pa inn x l _ w0 w h hi0 hi1 hx0 hx1 hn).mono ?_
        rintro e w1 ⟨rfl, hg⟩
        rw [HQ.out] at hg
        have c4' := hg.blk.c4
        have hsz1 := hg.bel.size
        have hlt1 := hg.lt
        have hgrow0 := hg.row
        clear HQ c0 c1 c2 c3 c4 f0 f1 f2 f3 f4 cq fq h
        go_wp2_with (at_builtin; go_must (refine wpList_append_lies _ rfl _ _ _ rfl B 3 i _ 1 8 Tryz.underlying35 hi hz0 hz1 hz2 rfl (by omega) _ q2.parts.length (ints q2.parts) rfl ?hown _ 1 _ [.int .i64 0] rfl rfl ?hnews ?h1 (by omega) ?h63 ?hbytes ?hbase _ rfl ?_))
        case hown => exact hgrow0.alloc _
        case hnews => exact World.news_of_block (heap_alloc_new w1 _)
        case h1 => simp [Value.oneCell']
        case h63 => rw [hq3.out]; unfold maxLen; omega
        case hbytes => rw [hq3.out]; omega
        case hbase => simp; omega
        intro q cap1 w2 hown2 hgrow hat hlt2
        have hB2 := hg.blk.grown hgrow0 hgrow
        have e4 := hB2.c4
        have e0 := hB2.c0
        have z4 := hB2.fz 4
        have z0 := hB2.fz 0
        have bel2 := (hg.bel.alloc (o := Obj.cells #[.int .i64 0] 3) (by omega)).grown hgrow (by simp; omega) (fun k hk => (hgrow0.lt k hk).1)
        have oth2 := hg.oth.grown hgrow0 hgrow
        clear hi hz0 hz1 hz2 c4' hgrow0 hgrow
        go_wp2
        go_ret
        exact ⟨rfl, _, WRep.push hB2 hlo hown2 bel2 oth2⟩
  · have e1 : (s == 1) = false := by rw [beq_eq_false_iff_ne]; omega
    have e2 : (s == 2) = false := by rw [beq_eq_false_iff_ne]; omega
    have e5 : (s == 5) = false := by rw [beq_eq_false_iff_ne]; omega
    have hw : wOn3 ⟨3, fu, pa, inn, l ++ [x]⟩ l x s = (if s = 6 then (if l = [] then (2, ⟨3, fu, pa, inn, l ++ [x]⟩) else (0, ⟨3, fu, pa, inn, l⟩)) else if s = 4 then (if l = [] then (0, ⟨0, fu, pa, inn, l ++ [x]⟩) else (2, ⟨3, fu, pa, inn, l ++ [x]⟩)) else (2, ⟨3, fu, pa, inn, l ++ [x]⟩)) := by
      unfold wOn3
      rw [if_neg (by simp [plainS]; omega)]
    rw [hw]
    clear hw h1
    by_cases h6 : s = 6
    · subst h6
      rw [if_pos rfl]
      by_cases hl : l = []
      · rw [if_pos hl]
        have hl0 : ¬ (0 : Int) < (l.length : Int) := by simp [hl]
        have hd : decide ((0 : Int) < (l.length : Int)) = false := by simp [hl]
        clear hl
        go_enter Tryz.func129, Tryz.ntmps129
        go_wp2
        go_ret
        exact ⟨rfl, _, h⟩
      · rw [if_neg hl]
        have hl0 : (0 : Int) < (l.length : Int) := by cases l with | nil => exact absurd rfl hl | cons _ _ => simp
        clear hl
        go_enter Tryz.func129, Tryz.ntmps129
        go_wp2
        go_ret
        exact ⟨rfl, _, h.cut⟩
    · rw [if_neg h6]
      have e6 : (s == 6) = false := by simpa using h6
      by_cases h4 : s = 4
      · subst h4
        rw [if_pos rfl]
        clear h6
        by_cases hl : l = []
        · rw [if_pos hl]
          have hl0 : ((l.length : Int) == 0) = true := by simp [hl]
          clear hl
          go_enter Tryz.func129, Tryz.ntmps129
          go_wp2
          go_ret
          exact ⟨rfl, _, h.set0 _⟩
        · rw [if_neg hl]
          have hl0 : ((l.length : Int) == 0) = false := len_ne hl
          clear hl
          go_enter Tryz.func129, Tryz.ntmps129
          go_wp2
          go_ret
          exact ⟨rfl, _, h⟩
      · rw [if_neg h4]
        have e4 : (s == 4) = false := by simpa using h4
        clear h4 h6
        go_enter Tryz.func129, Tryz.ntmps129
        go_wp2
        go_ret
        exact ⟨rfl, _, h⟩

end Go.Proofs.YtnndoagpbcacdaaGreatDoor
namespace Go.Proofs.YtnndoagpbcacdaaGreatDoor
open Go.RowKit

/-- The two machines stand alike. -/
structure Sim (g : Gr) (k : Wk) : Prop where
  st : k.st = g.aw
  aw : g.aw = 0 ∨ g.aw = 1 ∨ g.aw = 2 ∨ g.aw = 3
  fu : k.fu = g.fn
  fn0 : 0 ≤ g.fn
  fn1 : g.fn ≤ 16
  pa0 : 0 ≤ k.pa
  pa1 : k.pa ≤ 6
  pa : g.aw = 1 → k.pa = g.pa
  no0 : 0 ≤ g.no
  no1 : g.no ≤ 12
  i1 : g.aw = 1 → k.inn = 0
  inn : g.aw = 2 ∨ g.aw = 3 → k.inn = g.no
  ar1 : g.aw = 0 ∨ g.aw = 1 → g.ar = []
  ar : ∀ x ∈ g.ar, 1 ≤ x ∧ x ≤ 8
  p2 : g.aw = 2 → k.parts = g.ar ++ [0]
  p3 : g.aw = 3 → k.parts = g.ar ++ [g.wi] ∧ 1 ≤ g.wi ∧ g.wi ≤ 8

theorem sim0 : Sim g0 ⟨0, 0, 0, 0, []⟩ :=
  ⟨rfl, .inl rfl, rfl, by decide, by decide, by decide, by decide, fun h => by simp [g0] at h, by decide, by decide, fun _ => rfl, fun h => by simp [g0] at h, fun _ => rfl, by simp [g0], fun h => by simp [g0] at h, fun h => by simp [g0] at h⟩

def wTake (g : Wk) (l : List Int) (x : Int) (s : Int) : Int × Wk := if g.st = 0 ∨ g.st = 1 then wStarts g s else if g.st = 2 then wOn2 g l s else wOn3 g l x s

theorem kindC_range (c : Int) (n : Nat) : 0 ≤ kindC c n ∧ kindC c n ≤ 7 := by
  unfold kindC
  repeat (first | (split; skip) | omega)
theorem kindOf_range (t : ByteArray) : 0 ≤ kindOf t ∧ kindOf t ≤ 7 := kindC_range _ _

theorem k_cases {k : Int} (h : 0 ≤ k ∧ k ≤ 7) : k = 0 ∨ k = 1 ∨ k = 2 ∨ k = 3 ∨ k = 4 ∨ k = 5 ∨ k = 6 ∨ k = 7 := by omega

theorem sim_step0 {g : Gr} {w : Wk} (h : Sim g w) (h0 : g.aw = 0) (k : Int) (hk : 0 ≤ k ∧ k ≤ 7) : (wStarts w (sortK k)).1 = (gTake g k).1 ∧ ((gTake g k).1 = 0 → Sim (gTake g k).2 (wStarts w (sortK k)).2) := by
  have hst : w.st = 0 := h.st.trans h0
  have hfu := h.fu
  have hf1 := h.fn1
  have hf0 := h.fn0
  have hk8 := k_cases hk
  by_cases h1 : k = 1
  · subst h1
    by_cases hf : g.fn = 16
    · simp [gTake, h0, gFunction, hf, wStarts, hst, sortK, hfu]
    · have hf2 : ¬ 16 ≤ g.fn := by omega
      simp only [gTake, h0, gFunction, hf2, wStarts, hst, sortK, hfu, hf, if_true, if_false, ne_eq, not_true_eq_false]
      refine ⟨trivial, fun _ => ?_⟩
      exact ⟨rfl, .inr (.inl rfl), rfl, by show 0 ≤ g.fn + 1; omega, by show g.fn + 1 ≤ 16; omega, by simp, by simp, fun _ => rfl, h.no0, h.no1, fun _ => rfl, fun h => by simp at h, fun _ => h.ar1 (.inl h0), h.ar, fun h => by simp at h, fun h => by simp at h⟩
  · have hs : ¬ sortK k = 1 := by
      rcases hk8 with rfl | rfl | rfl | rfl | rfl | rfl | rfl | rfl <;> first | exact absurd rfl h1 | decide
    simp [gTake, h0, gFunction, h1, wStarts, hst, hs]

theorem sim_step1 {g : Gr} {w : Wk} (h : Sim g w) (h0 : g.aw = 1) (k : Int) (hk : 0 ≤ k ∧ k ≤ 7) : (wStarts w (sortK k)).1 = (gTake g k).1 ∧ ((gTake g k).1 = 0 → Sim (gTake g k).2 (wStarts w (sortK k)).2) := by
  have hst : w.st = 1 := h.st.trans h0
  have hpa := h.pa h0
  have hp1 := h.pa1
  have hp0 := h.pa0
  have hk8 := k_cases hk
  by_cases h1 : k = 1
  · subst h1
    by_cases hf : g.pa = 6
    · simp [gTake, h0, gParameter, hf, wStarts, hst, sortK, hpa]
    · have hf2 : ¬ 6 ≤ g.pa := by omega
      have e1 : gTake g 1 = (0, { g with pa := g.pa + 1 }) := by simp [gTake, h0, gParameter, hf2]
      have e2 : wStarts w (sortK 1) = (0, { w with pa := w.pa + 1 }) := by simp [wStarts, hst, sortK, hpa, hf]
      rw [e1, e2]
      refine ⟨rfl, fun _ => ?_⟩
      exact ⟨h.st, h.aw, h.fu, h.fn0, h.fn1, by show 0 ≤ w.pa + 1; omega, by show w.pa + 1 ≤ 6; omega, fun _ => by show w.pa + 1 = g.pa + 1; omega, h.no0, h.no1, h.i1, h.inn, h.ar1, h.ar, h.p2, h.p3⟩
  · by_cases h4 : k = 4
    · subst h4
      have e1 : gTake g 4 = (0, { g with no := 0, aw := 2 }) := by simp [gTake, h0, gParameter]
      have e2 : wStarts w (sortK 4) = (0, { w with parts := [0], st := 2 }) := by simp [wStarts, hst, sortK]
      rw [e1, e2]
      refine ⟨rfl, fun _ => ?_⟩
      have har : g.ar = [] := h.ar1 (.inr h0)
      exact ⟨rfl, .inr (.inr (.inl rfl)), h.fu, h.fn0, h.fn1, h.pa0, h.pa1, fun h => by simp at h, by simp, by simp, fun h => by simp at h, fun _ => h.i1 h0, fun h => by simp at h, h.ar, fun _ => by show [0] = g.ar ++ [0]; rw [har]; rfl, fun h => by simp at h⟩
    · have hs : ¬ sortK k = 1 ∧ ¬ sortK k = 3 := by
        rcases hk8 with rfl | rfl | rfl | rfl | rfl | rfl | rfl | rfl <;> first | exact absurd rfl h1 | exact absurd rfl h4 | decide
      simp [gTake, h0, gParameter, h1, h4, wStarts, hst, hs]

theorem sim_step2 {g : Gr} {w : Wk} (h : Sim g w) (h0 : g.aw = 2) (k : Int) (hk : 0 ≤ k ∧ k ≤ 7) : (wOn2 w g.ar (sortK k)).1 = (gTake g k).1 ∧ ((gTake g k).1 = 0 → Sim (gTake g k).2 (wOn2 w g.ar (sortK k)).2) := by
  have hst : w.st = 2 := h.st.trans h0
  have hk8 := k_cases hk
  have hpl : plainS (sortK k) = simpleK k := by
    rcases hk8 with rfl | rfl | rfl | rfl | rfl | rfl | rfl | rfl <;> decide
  cases hs : simpleK k
  · simp [gTake, h0, gHead, wOn2, hpl, hs]
  · have e1 : gTake g k = (0, { g with wi := 1, aw := 3 }) := by simp [gTake, h0, gHead, hs]
    have e2 : wOn2 w g.ar (sortK k) = (0, { w with st := 3, parts := g.ar ++ [1] }) := by simp [wOn2, hpl, hs]
    rw [e1, e2]
    refine ⟨rfl, fun _ => ?_⟩
    exact ⟨rfl, .inr (.inr (.inr rfl)), h.fu, h.fn0, h.fn1, h.pa0, h.pa1, fun h => by simp at h, h.no0, h.no1, fun h => by simp at h, fun _ => h.inn (.inl h0), fun h => by simp at h, h.ar, fun h => by simp at h, fun _ => ⟨rfl, by simp, by simp⟩⟩

theorem sim_count {g : Gr} {w : Wk} (h : Sim g w) (h0 : g.aw = 3) : ((wPart w g.ar g.wi).1 = decide ((gCount g).1 = 0)) ∧ ((gCount g).1 = 0 ∨ (gCount g).1 = 3) ∧ ((gCount g).1 = 0 → Sim (gCount g).2 (wPart w g.ar g.wi).2 ∧ (gCount g).2.aw = 3) := by
  obtain ⟨hp, hw1, hw8⟩ := h.p3 h0
  have hin := h.inn (.inr h0)
  have hn0 := h.no0
  have hn1 := h.no1
  by_cases h8 : g.wi = 8
  · have e1 : gCount g = (3, g) := by simp [gCount, h8]
    rw [e1]
    simp [wPart, h8]
  · by_cases hc : g.ar ≠ [] ∧ g.wi = 1
    · by_cases h12 : 12 ≤ g.no
      · have e1 : gCount g = (3, { g with wi := g.wi + 1 }) := by simp [gCount, hc.1, hc.2, h12]
        rw [e1]
        simp [wPart, hc.1, hc.2, hin]
        omega
      · have e1 : gCount g = (0, { g with wi := g.wi + 1, no := g.no + 1 }) := by simp [gCount, hc.1, hc.2, h12]
        have e2 : wPart w g.ar g.wi = (decide (w.inn + 1 ≤ 12), { w with inn := w.inn + 1, parts := g.ar ++ [g.wi + 1] }) := by simp [wPart, hc.1, hc.2]
        rw [e1, e2]
        refine ⟨by simp; omega, .inl rfl, fun _ => ⟨?_, h0⟩⟩
        exact ⟨h.st, h.aw, h.fu, h.fn0, h.fn1, h.pa0, h.pa1, fun e => by simp [h0] at e, by show 0 ≤ g.no + 1; omega, by show g.no + 1 ≤ 12; omega, fun e => by simp [h0] at e, fun _ => by show w.inn + 1 = g.no + 1; omega, fun e => by simp [h0] at e, h.ar, fun e => by simp [h0] at e, fun _ => ⟨rfl, by show 1 ≤ g.wi + 1; omega, by show g.wi + 1 ≤ 8; omega⟩⟩
    · have hc2 : g.wi + 1 ≠ 2 ∨ g.ar = [] := by
        by_cases hl : g.ar = []
        · exact .inr hl
        · left; intro e; exact hc ⟨hl, by omega⟩
      have e1 : gCount g = (0, { g with wi := g.wi + 1 }) := by
        unfold gCount
        rw [if_neg (by omega), if_pos hc2]
      have e2 : wPart w g.ar g.wi = (decide (w.inn ≤ 12), { w with parts := g.ar ++ [g.wi + 1] }) := by
        unfold wPart
        rw [if_neg h8, if_neg hc]
      rw [e1, e2]
      refine ⟨by simp; omega, .inl rfl, fun _ => ⟨?_, h0⟩⟩
      exact ⟨h.st, h.aw, h.fu, h.fn0, h.fn1, h.pa0, h.pa1, fun e => by simp [h0] at e, h.no0, h.no1, fun e => by simp [h0] at e, fun _ => hin, fun e => by simp [h0] at e, h.ar, fun e => by simp [h0] at e, fun _ => ⟨rfl, by show 1 ≤ g.wi + 1; omega, by show g.wi + 1 ≤ 8; omega⟩⟩

theorem sim_step3 {g : Gr} {w : Wk} (h : Sim g w) (h0 : g.aw = 3) (k : Int) (hk : 0 ≤ k ∧ k ≤ 7) : (wOn3 w g.ar g.wi (sortK k)).1 = (gTake g k).1 ∧ ((gTake g k).1 = 0 → Sim (gTake g k).2 (wOn3 w g.ar g.wi (sortK k)).2) := by
  obtain ⟨hp, hw1, hw8⟩ := h.p3 h0
  obtain ⟨s1, s2, s3⟩ := sim_count h h0
  have hg : gTake g k = gPart g k := by simp [gTake, h0]
  rw [hg]
  have hcnt : ∀ k, (k = 1 ∨ k = 2 ∨ k = 3) → (wOn3 w g.ar g.wi (sortK k)).1 = (gPart g k).1 ∧ ((gPart g k).1 = 0 → Sim (gPart g k).2 (wOn3 w g.ar g.wi (sortK k)).2) := by
    intro k hk
    have e1 : gPart g k = gCount g := by rcases hk with rfl | rfl | rfl <;> simp [gPart, simpleK]
    have e2 : wOn3 w g.ar g.wi (sortK k) = (if (wPart w g.ar g.wi).1 then (0, (wPart w g.ar g.wi).2) else (3, (wPart w g.ar g.wi).2)) := by rcases hk with rfl | rfl | rfl <;> simp [wOn3, plainS, sortK]
    rw [e1, e2, s1]
    rcases s2 with s2 | s2
    · simp only [s2, decide_true, if_true]
      exact ⟨trivial, fun _ => (s3 s2).1⟩
    · simp [s2]
  rcases k_cases hk with rfl | rfl | rfl | rfl | rfl | rfl | rfl | rfl
  · simp [gPart, simpleK, wOn3, plainS, sortK]
  · exact hcnt 1 (.inl rfl)
  · exact hcnt 2 (.inr (.inl rfl))
  · exact hcnt 3 (.inr (.inr rfl))
  · simp [gPart, simpleK, wOn3, plainS, sortK]
  · by_cases hl : g.ar = []
    · have e1 : gPart g 5 = (0, { g with aw := 0 }) := by simp [gPart, gEndDef, hl]
      have e2 : wOn3 w g.ar g.wi (sortK 5) = (0, { w with st := 0 }) := by simp [wOn3, plainS, sortK, hl]
      rw [e1, e2]
      refine ⟨rfl, fun _ => ?_⟩
      exact ⟨rfl, .inl rfl, h.fu, h.fn0, h.fn1, h.pa0, h.pa1, fun e => by simp at e, h.no0, h.no1, fun e => by simp at e, fun e => by simp at e, fun _ => hl, h.ar, fun e => by simp at e, fun e => by simp at e⟩
    · simp [gPart, gEndDef, hl, wOn3, plainS, sortK]
  · have e1 : gPart g 6 = gBegin g := by simp [gPart]
    have e2 : wOn3 w g.ar g.wi (sortK 6) = (if (wPart w g.ar g.wi).1 then (0, { (wPart w g.ar g.wi).2 with st := 2, parts := (wPart w g.ar g.wi).2.parts ++ [0] }) else (3, (wPart w g.ar g.wi).2)) := by simp [wOn3, plainS, sortK]
    rw [e1, e2, s1]
    rcases s2 with s2 | s2
    · have e3 : gBegin g = (0, { (gCount g).2 with ar := (gCount g).2.ar ++ [(gCount g).2.wi], aw := 2 }) := by simp [gBegin, s2]
      rw [e3]
      simp only [s2, decide_true, if_true]
      refine ⟨trivial, fun _ => ?_⟩
      obtain ⟨q, qa⟩ := s3 s2
      obtain ⟨qp, q1, q8⟩ := q.p3 qa
      refine ⟨rfl, .inr (.inr (.inl rfl)), q.fu, q.fn0, q.fn1, q.pa0, q.pa1, fun e => by simp at e, q.no0, q.no1, fun e => by simp at e, fun _ => q.inn (.inr qa), fun e => by simp at e, ?_, fun _ => by show _ ++ [0] = _ ++ [_] ++ [0]; rw [qp], fun e => by simp at e⟩
      intro x hx
      simp only [List.mem_append, List.mem_cons, List.not_mem_nil, or_false] at hx
      rcases hx with hx | hx
      · exact q.ar x hx
      · rw [hx]; exact ⟨q1, q8⟩
    · have e3 : gBegin g = gCount g := by simp [gBegin, s2]
      rw [e3]
      simp [s2]
  · rcases List.eq_nil_or_concat g.ar with hl | ⟨l, x, hl⟩
    · simp [gPart, gEndInner, hl, wOn3, plainS, sortK]
    · rw [List.concat_eq_append] at hl
      have hne : g.ar ≠ [] := by rw [hl]; simp
      have e1 : gPart g 7 = (0, { g with wi := x, ar := l }) := by simp [gPart, gEndInner, hl]
      have e2 : wOn3 w g.ar g.wi (sortK 7) = (0, { w with parts := g.ar }) := by simp [wOn3, plainS, sortK, hne]
      rw [e1, e2]
      refine ⟨rfl, fun _ => ?_⟩
      have hx := h.ar x (by rw [hl]; simp)
      exact ⟨h.st, h.aw, h.fu, h.fn0, h.fn1, h.pa0, h.pa1, fun e => by simp [h0] at e, h.no0, h.no1, fun e => by simp [h0] at e, h.inn, fun e => by simp [h0] at e, fun y hy => h.ar y (by rw [hl]; simp [hy]), fun e => by simp [h0] at e, fun _ => ⟨hl, hx.1, hx.2⟩⟩

set_option maxHeartbeats 400000 in
/-- 'on', by the program's machine. -/
theorem rOn (B b : Nat) (g : Gr) (wk : Wk) (av : Value) (k : Int) (w0 w : World) (h : WRep B w0 w b wk av) (sim : Sim g wk) (hk : 0 ≤ k ∧ k ≤ 7) (hn : g.ar.length ≤ 1000000) :
    Calls Tryz.prog 129 #[.pointer (some ⟨b, 0, none⟩), .int .i64 (sortK k)] w fun e w' => e = .returned (.int .i64 (gTake g k).1) ∧ ∃ wk' av', WRep B w0 w' b wk' av' ∧ ((gTake g k).1 = 0 → Sim (gTake g k).2 wk') := by
  have hfu := sim.fu
  have hf0 := sim.fn0
  have hf1 := sim.fn1
  have hp0 := sim.pa0
  have hp1 := sim.pa1
  rcases sim.aw with h0 | h1 | h2 | h3
  · obtain ⟨q1, q2⟩ := sim_step0 sim h0 k hk
    refine (rOn01 B b wk av (sortK k) w0 w h (.inl (sim.st.trans h0)) (by omega) (by omega) hp0 (by omega)).mono ?_
    rintro e w1 ⟨rfl, av1, hg⟩
    exact ⟨by rw [q1], _, av1, hg, q2⟩
  · obtain ⟨q1, q2⟩ := sim_step1 sim h1 k hk
    refine (rOn01 B b wk av (sortK k) w0 w h (.inr (sim.st.trans h1)) (by omega) (by omega) hp0 (by omega)).mono ?_
    rintro e w1 ⟨rfl, av1, hg⟩
    exact ⟨by rw [q1], _, av1, hg, q2⟩
  · obtain ⟨q1, q2⟩ := sim_step2 sim h2 k hk
    obtain ⟨st, fu, pa, inn, parts⟩ := wk
    have hst : st = 2 := sim.st.trans h2
    have hpp : parts = g.ar ++ [0] := sim.p2 h2
    subst hst
    subst hpp
    refine (rOn2 B b fu pa inn 0 g.ar av (sortK k) w0 w h hn).mono ?_
    rintro e w1 ⟨rfl, av1, hg⟩
    exact ⟨by rw [q1], _, av1, hg, q2⟩
  · obtain ⟨q1, q2⟩ := sim_step3 sim h3 k hk
    obtain ⟨hp, hw1, hw8⟩ := sim.p3 h3
    have hin := sim.inn (.inr h3)
    have hn0 := sim.no0
    have hn1 := sim.no1
    obtain ⟨st, fu, pa, inn, parts⟩ := wk
    have hst : st = 3 := sim.st.trans h3
    simp only at hp hin
    subst hst
    subst hp
    refine (rOn3 B b fu pa inn g.wi g.ar av (sortK k) w0 w h hn (by omega) (by omega) (by omega) (by omega)).mono ?_
    rintro e w1 ⟨rfl, av1, hg⟩
    exact ⟨by rw [q1], _, av1, hg, q2⟩

set_option maxHeartbeats 400000 in
theorem rOnEnd (B b : Nat) (g : Gr) (wk : Wk) (av : Value) (w0 w : World) (h : WRep B w0 w b wk av) (sim : Sim g wk) (hn : g.ar.length ≤ 1000000) :
    Calls Tryz.prog 129 #[.pointer (some ⟨b, 0, none⟩), .int .i64 0] w fun e w' => e = .returned (.int .i64 2) ∧ ∃ wk' av', WRep B w0 w' b wk' av' := by
  have hfu := sim.fu
  have hf0 := sim.fn0
  have hf1 := sim.fn1
  have hp0 := sim.pa0
  have hp1 := sim.pa1
  rcases sim.aw with h0 | h1 | h2 | h3
  · refine (rOn01 B b wk av 0 w0 w h (.inl (sim.st.trans h0)) (by omega) (by omega) hp0 (by omega)).mono ?_
    rintro e w1 ⟨rfl, av1, hg⟩
    exact ⟨by simp [wStarts, sim.st.trans h0], _, av1, hg⟩
  · refine (rOn01 B b wk av 0 w0 w h (.inr (sim.st.trans h1)) (by omega) (by omega) hp0 (by omega)).mono ?_
    rintro e w1 ⟨rfl, av1, hg⟩
    exact ⟨by simp [wStarts, sim.st.trans h1], _, av1, hg⟩
  · obtain ⟨st, fu, pa, inn, parts⟩ := wk
    have hst : st = 2 := sim.st.trans h2
    have hpp : parts = g.ar ++ [0] := sim.p2 h2
    subst hst
    subst hpp
    refine (rOn2 B b fu pa inn 0 g.ar av 0 w0 w h hn).mono ?_
    rintro e w1 ⟨rfl, av1, hg⟩
    exact ⟨by simp [wOn2, plainS], _, av1, hg⟩
  · obtain ⟨hp, hw1, hw8⟩ := sim.p3 h3
    have hin := sim.inn (.inr h3)
    have hn0 := sim.no0
    have hn1 := sim.no1
    obtain ⟨st, fu, pa, inn, parts⟩ := wk
    have hst : st = 3 := sim.st.trans h3
    simp only at hp hin
    subst hst
    subst hp
    refine (rOn3 B b fu pa inn g.wi g.ar av 0 w0 w h hn (by omega) (by omega) (by omega) (by omega)).mono ?_
    rintro e w1 ⟨rfl, av1, hg⟩
    exact ⟨by simp [wOn3, plainS], _, av1, hg⟩

theorem rcs_at (ts : List Tk) (k : Nat) (h : k < ts.length) : (rcs ts)[k * 2]? = some (.string (ts[k]'h).txt) ∧ (rcs ts)[k * 2 + 1]? = some (.int .i64 (ts[k]'h).pos) := by
  induction ts generalizing k with
  | nil => simp at h
  | cons t r ih =>
    cases k with
    | zero => simp [rcs, rcells]
    | succ k =>
      have := ih k (by simpa using h)
      simp only [rcs, List.flatMap_cons, rcells, List.getElem_cons_succ] at this ⊢
      refine ⟨?_, ?_⟩
      · rw [show (k + 1) * 2 = k * 2 + 1 + 1 by omega]; exact this.1
      · rw [show (k + 1) * 2 + 1 = (k * 2 + 1) + 1 + 1 by omega]; exact this.2

set_option maxHeartbeats 4000000 in
theorem rShape (s : ByteArray) (v : Value) (ts : List Tk) (w : World) (_hs : s.size ≤ 1000) (hl : ts.length ≤ 1000) (hwt : ∀ t ∈ ts, WT t.txt) (hv : w.ownsRow 0 201 2 v (ts.length + 1) (rcs (ts ++ [endTk s]))) :
    Calls Tryz.prog 83 #[v] w fun e w' => e = .returned (.tuple #[.int .i64 (gAll s.size g0 ts).1, .int .i64 (gAll s.size g0 ts).2]) ∧ Below w.heap.size w w' := by
  obtain ⟨q, cap, rfl, _, hqlt⟩ := hv.form (by omega)
  generalize hR : gAll s.size g0 ts = R
  have HR : Hid (gAll s.size g0 ts = R) := hR
  clear hR
  go_enter Tryz.func83, Tryz.ntmps83
  go_wp2_with fail
  go_loopw [5] (fun a wr => ∃ (k : Nat) (g : Gr) (wk : Wk) (av : Value), k ≤ ts.length ∧ a = .int .i64 k ∧ Hid (gAll s.size g (ts.drop k) = R) ∧ WRep w.heap.size w wr w.heap.size wk av ∧ Sim g wk ∧ g.ar.length ≤ k) (fun a _ => ts.length - (intOf a).toNat)
  case atStart => exact ⟨0, g0, ⟨0, 0, 0, 0, []⟩, .slice none 0 0, Nat.zero_le _, rfl, HR, ⟨heap_alloc_new w _, Nat.le_refl _, World.ownsRow_nil _ _ _ _, (Below.refl _ _).alloc (Nat.le_refl _) _, (Otw.refl w).alloc _⟩, sim0, Nat.le_refl _⟩
  case round =>
    obtain ⟨k, g, wk, av, hk, rfl, HG, hrep, sim, har⟩ := hrel
    have hvr := ownsRow_old hv hrep.bel
    have c0 := hrep.blk.c0
    have c1 := hrep.blk.c1
    have hst := sim.st
    have hfu := sim.fu
    rw [hst] at c0
    rw [hfu] at c1
    clear hst hfu
    by_cases hlt : k < ts.length
    · have hlt2 : k < (ts ++ [endTk s]).length := by simp; omega
      have ⟨t0, t1⟩ := rcs_at (ts ++ [endTk s]) k hlt2
      rw [List.getElem_append_left hlt] at t0 t1
      have d0 := row_cell hvr _ _ t0
      have d1 := row_cell hvr _ _ t1
      clear t0 t1 hvr
      have hw := hwt ts[k] (List.getElem_mem hlt)
      have hkr := kindOf_range ts[k].txt
      have hse : (sortK (kindOf ts[k].txt) == 0) = false := by
        rcases k_cases hkr with h | h | h | h | h | h | h | h <;> rw [h] <;> decide
      have htk := gTake_len g (kindOf ts[k].txt)
      by_cases he : (gTake g (kindOf ts[k].txt)).1 = 0
      · have HG2 : Hid (gAll s.size (gTake g (kindOf ts[k].txt)).2 (ts.drop (k + 1)) = R) := by
          have := HG.out
          rw [List.drop_eq_getElem_cons hlt, gAll, if_pos he] at this
          exact this
        go_wp2_with fail
        refine (rSort _ _ hw).mono ?_
        rintro e w1 ⟨rfl, rfl⟩
        go_wp2_with fail
        refine (rOn w.heap.size w.heap.size g wk av _ w _ hrep sim hkr (by omega)).mono ?_
        rintro e w2 ⟨rfl, wk2, av2, hg, hsim⟩
        have hsim2 : Hid _ := hsim he
        clear hsim
        go_wp2_with fail
        go_roundw
        case rel => exact ⟨k + 1, _, wk2, av2, by omega, by go_num, HG2, hg, hsim2, by omega⟩
        case measure => simp [intOf]; omega
      · have HG2 : Hid ((((ts[k].pos : Nat) : Int), (gTake g (kindOf ts[k].txt)).1) = R) := by
          have := HG.out
          rw [List.drop_eq_getElem_cons hlt, gAll, if_neg he] at this
          exact this
        have he' : ((gTake g (kindOf ts[k].txt)).1 == 0) = false := by simpa using he
        clear he
        go_wp2_with fail
        refine (rSort _ _ hw).mono ?_
        rintro e w1 ⟨rfl, rfl⟩
        go_wp2_with fail
        refine (rOn w.heap.size w.heap.size g wk av _ w _ hrep sim hkr (by omega)).mono ?_
        rintro e w2 ⟨rfl, wk2, av2, hg, _⟩
        have hvr2 := ownsRow_old hv hg.bel
        have ⟨t0, t1⟩ := rcs_at (ts ++ [endTk s]) k hlt2
        rw [List.getElem_append_left hlt] at t0 t1
        have d1' := row_cell hvr2 _ _ t1
        clear t0 t1 hvr2
        go_wp2_with fail
        go_ret2
        exact ⟨ret_two HG2.out, hg.bel⟩
    · have e0 : k = ts.length := by omega
      subst e0
      have hlt2 : ts.length < (ts ++ [endTk s]).length := by simp
      have ⟨t0, t1⟩ := rcs_at (ts ++ [endTk s]) ts.length hlt2
      simp only [List.getElem_append_right (Nat.le_refl _), Nat.sub_self, List.getElem_cons_zero, endTk] at t0 t1
      have d0 := row_cell hvr _ _ t0
      have d1 := row_cell hvr _ _ t1
      clear t0 t1 hvr
      have HG2 : Hid (gAll s.size g [] = R) := by have := HG.out; rw [List.drop_eq_nil_of_le (by omega)] at this; exact this
      have hsz := hrep.bel.size
      by_cases ha : g.aw = 0
      · by_cases hf : g.fn = 0
        · have h2 : Hid ((((s.size : Nat) : Int), (2 : Int)) = R) := by have := HG2.out; simp [gAll, hf] at this; exact this
          go_wp2_with fail
          refine (rSort0 _).mono ?_
          rintro e w1 ⟨rfl, rfl⟩
          go_wp2_with fail
          refine (rOnEnd w.heap.size w.heap.size g wk av w _ hrep sim (by omega)).mono ?_
          rintro e w2 ⟨rfl, wk2, av2, hg⟩
          have hvr2 := ownsRow_old hv hg.bel
          have ⟨t0, t1⟩ := rcs_at (ts ++ [endTk s]) ts.length hlt2
          simp only [List.getElem_append_right (Nat.le_refl _), Nat.sub_self, List.getElem_cons_zero, endTk] at t0 t1
          have d1' := row_cell hvr2 _ _ t1
          clear t0 t1 hvr2
          go_wp2_with fail
          go_ret2
          exact ⟨ret_two h2.out, hg.bel⟩
        · have h2 : Hid (((0 : Int), (0 : Int)) = R) := by have := HG2.out; simp [gAll, hf, ha] at this; exact this
          have hf2 : (0 : Int) < g.fn := by have := sim.fn0; omega
          clear hf
          go_wp2_with fail
          refine (rSort0 _).mono ?_
          rintro e w1 ⟨rfl, rfl⟩
          go_wp2_with fail
          go_ret2
          exact ⟨ret_two h2.out, hrep.bel⟩
      · have ha' : (g.aw == 0) = false := by simpa using ha
        have h2 : Hid ((((s.size : Nat) : Int), (2 : Int)) = R) := by have := HG2.out; simp [gAll, ha] at this; exact this
        clear ha
        go_wp2_with fail
        refine (rSort0 _).mono ?_
        rintro e w1 ⟨rfl, rfl⟩
        go_wp2_with fail
        refine (rOnEnd w.heap.size w.heap.size g wk av w _ hrep sim (by omega)).mono ?_
        rintro e w2 ⟨rfl, wk2, av2, hg⟩
        have hvr2 := ownsRow_old hv hg.bel
        have ⟨t0, t1⟩ := rcs_at (ts ++ [endTk s]) ts.length hlt2
        simp only [List.getElem_append_right (Nat.le_refl _), Nat.sub_self, List.getElem_cons_zero, endTk] at t0 t1
        have d1' := row_cell hvr2 _ _ t1
        clear t0 t1 hvr2
        go_wp2_with fail
        go_ret2
        exact ⟨ret_two h2.out, hg.bel⟩

end Go.Proofs.YtnndoagpbcacdaaGreatDoor
