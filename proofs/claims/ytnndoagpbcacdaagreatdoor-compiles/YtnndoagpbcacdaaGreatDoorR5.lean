import Derived.Test.YtnndoagpbcacdaaGreatDoorR4
import Derived.Test.YtnndoagpbcacdaaGreatDoorA8
namespace Go.Proofs.YtnndoagpbcacdaaGreatDoor
open Go.RowKit

theorem wPart_parts (g : Wk) (l : List Int) (x : Int) (h : (wPart g l x).1 = true) : (wPart g l x).2.parts = l ++ [x + 1] ∧ (wPart g l x).2.st = g.st := by
  unfold wPart at h ⊢
  split
  · rename_i h8; simp [h8] at h
  · split <;> exact ⟨rfl, rfl⟩

theorem WBlk.grown {w w' : World} {b : Nat} {g : Wk} {av : Value} {B n size : Nat} {xs : List Value} {o : Obj} (h : WBlk w b g av) (hr : w.ownsRow B 3 size av n xs) (hg : (w.alloc o).grownBy w' av.ownBlock) : WBlk w' b g av :=
  grown_type (hr.alloc o) hg (by decide) ((Below.heap_alloc w o b (Array.getElem?_eq_some_iff.1 h).1).trans h)
theorem Otw.grown {w0 w w' : World} {av : Value} {B n size : Nat} {xs : List Value} {o : Obj} (h : Otw w0 w) (hr : w.ownsRow B 3 size av n xs) (hg : (w.alloc o).grownBy w' av.ownBlock) : Otw w0 w' := by
  intro k cs t fr h1 h2 h3
  have h4 := h.alloc o k cs t fr h1 h2 h3
  exact grown_type (hr.alloc o) hg h2 h4
theorem WRep.push {B : Nat} {w0 w2 : World} {b : Nat} {g : Wk} {av nv : Value} (hB2 : WBlk w2 b g av) (hlo : B ≤ b) (hown : w2.ownsRow B 3 1 nv (g.parts.length + 1) (ints g.parts ++ [.int .i64 0])) (bel : Below B w0 w2) (oth : Otw w0 w2) :
    WRep B w0 ((w2.setCell ⟨b, 4, none⟩ nv).setCell ⟨b, 0, none⟩ (.int .i64 2)) b { g with st := 2, parts := g.parts ++ [0] } nv := by
  refine ⟨blk_set _ (blk_set _ hB2), hlo, ?_, (bel.setCell hlo _).setCell hlo _, (oth.set _ hB2).set _ (blk_set _ hB2)⟩
  have := ownsRow_set (i := 0) (u := .int .i64 2) (ownsRow_set (i := 4) (u := nv) hown hB2 (by decide)) (blk_set _ hB2) (by decide)
  simpa [ints] using this

set_option maxHeartbeats 4000000 in
theorem rOn3 (B b : Nat) (fu pa inn x : Int) (l : List Int) (av : Value) (s : Int) (w0 w : World) (h : WRep B w0 w b ⟨3, fu, pa, inn, l ++ [x]⟩ av) (hn : l.length ≤ 1000000) (hi0 : 0 ≤ inn) (hi1 : inn ≤ 1000000) (hx0 : 0 ≤ x) (hx1 : x ≤ 8) :
    Calls Tryz.prog 129 #[.pointer (some ⟨b, 0, none⟩), .int .i64 s] w fun e w' => e = .returned (.int .i64 (wOn3 ⟨3, fu, pa, inn, l ++ [x]⟩ l x s).1) ∧ ∃ av', WRep B w0 w' b (wOn3 ⟨3, fu, pa, inn, l ++ [x]⟩ l x s).2 av' := by
  have c0 := h.blk.c0
  have c1 := h.blk.c1
  have c2 := h.blk.c2
  have c3 := h.blk.c3
  have c4 := h.blk.c4
  have f0 := h.blk.fz 0
  have f1 := h.blk.fz 1
  have f2 := h.blk.fz 2
  have f3 := h.blk.fz 3
  have f4 := h.blk.fz 4
  have hlo := h.lo
  have hblt := h.lt
  simp only at *
  obtain ⟨q, cap, rfl, _, _⟩ := h.row.form (by simp)
  simp only [List.length_append, List.length_cons, List.length_nil, Nat.zero_add] at *
  have hcap : l.length + 1 ≤ cap := own_cap h.row
  have hrow := h.row
  simp only [ints, List.map_append, List.map_cons, List.map_nil, List.length_append, List.length_cons, List.length_nil] at hrow
  have cq : w.cell? ⟨q, l.length, none⟩ = some (.int .i64 x) := by
    have := hrow.cells (g := q) rfl l.length (.int .i64 x) (by simp)
    simpa [Addr.add_lit] using this
  obtain ⟨cur, hq⟩ := own_block hrow
  have fq := frozen_of_row w q l.length _ _ hq
  have hqb : ¬ q = b := by
    intro e
    have := h.blk
    unfold WBlk at this
    rw [← e, hq] at this
    simp at this
  have hbq : ¬ b = q := fun e => hqb e.symm
  clear hrow hq
  by_cases h1 : s = 1 ∨ s = 2 ∨ s = 5
  · have hw : wOn3 ⟨3, fu, pa, inn, l ++ [x]⟩ l x s = (if (wPart ⟨3, fu, pa, inn, l ++ [x]⟩ l x).1 then (if s = 5 then (0, { (wPart ⟨3, fu, pa, inn, l ++ [x]⟩ l x).2 with st := 2, parts := (wPart ⟨3, fu, pa, inn, l ++ [x]⟩ l x).2.parts ++ [0] }) else (0, (wPart ⟨3, fu, pa, inn, l ++ [x]⟩ l x).2)) else (3, (wPart ⟨3, fu, pa, inn, l ++ [x]⟩ l x).2)) := by
      unfold wOn3
      rw [if_pos (by rcases h1 with rfl | rfl | rfl <;> simp [plainS])]
    rw [hw]
    clear hw
    have hpp := wPart_parts ⟨3, fu, pa, inn, l ++ [x]⟩ l x
    have HP : Hid ((wPart ⟨3, fu, pa, inn, l ++ [x]⟩ l x).1 = true → (wPart ⟨3, fu, pa, inn, l ++ [x]⟩ l x).2.parts = l ++ [x + 1] ∧ (wPart ⟨3, fu, pa, inn, l ++ [x]⟩ l x).2.st = 3) := hpp
    clear hpp
    cases hp : (wPart ⟨3, fu, pa, inn, l ++ [x]⟩ l x).1
    · rcases h1 with rfl | rfl | rfl
      all_goals
        go_enter Tryz.func129, Tryz.ntmps129
        go_wp2_with (go_at_call 172; refine (rPart B b 3 fu pa inn x l _ w0 w h hi0 hi1 hx0 hx1 hn).mono ?_; rintro e w1 ⟨rfl, hg⟩)
        go_ret
        exact ⟨rfl, _, hg⟩
    · obtain ⟨HP1, HP2⟩ := HP.out hp
      have HP1' : Hid _ := HP1
      have HP2' : Hid _ := HP2
      clear HP HP1 HP2
      rcases h1 with rfl | rfl | rfl
      · simp only [if_true, show ¬ ((1 : Int) = 5) by decide, if_false]
        go_enter Tryz.func129, Tryz.ntmps129
        go_wp2_with (go_at_call 172; refine (rPart B b 3 fu pa inn x l _ w0 w h hi0 hi1 hx0 hx1 hn).mono ?_; rintro e w1 ⟨rfl, hg⟩)
        go_ret
        exact ⟨rfl, _, hg⟩
      · simp only [if_true, show ¬ ((2 : Int) = 5) by decide, if_false]
        go_enter Tryz.func129, Tryz.ntmps129
        go_wp2_with (go_at_call 172; refine (rPart B b 3 fu pa inn x l _ w0 w h hi0 hi1 hx0 hx1 hn).mono ?_; rintro e w1 ⟨rfl, hg⟩)
        go_ret
        exact ⟨rfl, _, hg⟩
      · simp only [if_true]
        obtain ⟨i, hi, hz0, hz1, hz2⟩ := info_parts Tryz.infoInt
        generalize hq2 : (wPart ⟨3, fu, pa, inn, l ++ [x]⟩ l x).2 = q2 at *
        have HQ : Hid ((wPart ⟨3, fu, pa, inn, l ++ [x]⟩ l x).2 = q2) := hq2
        clear hq2
        have hq3 : Hid (q2.parts.length = l.length + 1) := by have := HP1'.out; show _ = _; rw [this]; simp
        clear HP1' HP2'
        go_enter Tryz.func129, Tryz.ntmps129
        go_wp2_with fail
        refine (rPart B b 3 fu pa inn x l _ w0 w h hi0 hi1 hx0 hx1 hn).mono ?_
        rintro e w1 ⟨rfl, hg⟩
        rw [HQ.out] at hg
        have c4' := hg.blk.c4
        have hsz1 := hg.bel.size
        have hlt1 := hg.lt
        have hgrow0 := hg.row
        clear HQ c0 c1 c2 c3 c4 f0 f1 f2 f3 f4 cq fq h
        go_wp2_with (at_builtin; go_must (refine wpList_append_lies _ rfl _ _ _ rfl B 3 i _ 1 8 Tryz.underlying35 hi hz0 hz1 hz2 rfl (by omega) _ q2.parts.length (ints q2.parts) rfl ?hown _ 1 _ [.int .i64 0] rfl rfl ?hnews ?h1 (by omega) ?h63 ?hbytes ?hbase _ rfl ?_))
        case hown => exact hgrow0.alloc _
        case hnews => exact World.news_of_block (heap_alloc_new w1 _)
        case h1 => simp [Value.oneCell']
        case h63 => rw [hq3.out]; unfold maxLen; omega
        case hbytes => rw [hq3.out]; omega
        case hbase => simp; omega
        intro q cap1 w2 hown2 hgrow hat hlt2
        have hB2 := hg.blk.grown hgrow0 hgrow
        have e4 := hB2.c4
        have e0 := hB2.c0
        have z4 := hB2.fz 4
        have z0 := hB2.fz 0
        have bel2 := (hg.bel.alloc (o := Obj.cells #[.int .i64 0] 3) (by omega)).grown hgrow (by simp; omega) (fun k hk => (hgrow0.lt k hk).1)
        have oth2 := hg.oth.grown hgrow0 hgrow
        clear hi hz0 hz1 hz2 c4' hgrow0 hgrow
        go_wp2
        go_ret
        exact ⟨rfl, _, WRep.push hB2 hlo hown2 bel2 oth2⟩
  · have e1 : (s == 1) = false := by rw [beq_eq_false_iff_ne]; omega
    have e2 : (s == 2) = false := by rw [beq_eq_false_iff_ne]; omega
    have e5 : (s == 5) = false := by rw [beq_eq_false_iff_ne]; omega
    have hw : wOn3 ⟨3, fu, pa, inn, l ++ [x]⟩ l x s = (if s = 6 then (if l = [] then (2, ⟨3, fu, pa, inn, l ++ [x]⟩) else (0, ⟨3, fu, pa, inn, l⟩)) else if s = 4 then (if l = [] then (0, ⟨0, fu, pa, inn, l ++ [x]⟩) else (2, ⟨3, fu, pa, inn, l ++ [x]⟩)) else (2, ⟨3, fu, pa, inn, l ++ [x]⟩)) := by
      unfold wOn3
      rw [if_neg (by simp [plainS]; omega)]
    rw [hw]
    clear hw h1
    by_cases h6 : s = 6
    · subst h6
      rw [if_pos rfl]
      by_cases hl : l = []
      · rw [if_pos hl]
        have hl0 : ¬ (0 : Int) < (l.length : Int) := by simp [hl]
        have hd : decide ((0 : Int) < (l.length : Int)) = false := by simp [hl]
        clear hl
        go_enter Tryz.func129, Tryz.ntmps129
        go_wp2
        go_ret
        exact ⟨rfl, _, h⟩
      · rw [if_neg hl]
        have hl0 : (0 : Int) < (l.length : Int) := by cases l with | nil => exact absurd rfl hl | cons _ _ => simp
        clear hl
        go_enter Tryz.func129, Tryz.ntmps129
        go_wp2
        go_ret
        exact ⟨rfl, _, h.cut⟩
    · rw [if_neg h6]
      have e6 : (s == 6) = false := by simpa using h6
      by_cases h4 : s = 4
      · subst h4
        rw [if_pos rfl]
        clear h6
        by_cases hl : l = []
        · rw [if_pos hl]
          have hl0 : ((l.length : Int) == 0) = true := by simp [hl]
          clear hl
          go_enter Tryz.func129, Tryz.ntmps129
          go_wp2
          go_ret
          exact ⟨rfl, _, h.set0 _⟩
        · rw [if_neg hl]
          have hl0 : ((l.length : Int) == 0) = false := len_ne hl
          clear hl
          go_enter Tryz.func129, Tryz.ntmps129
          go_wp2
          go_ret
          exact ⟨rfl, _, h⟩
      · rw [if_neg h4]
        have e4 : (s == 4) = false := by simpa using h4
        clear h4 h6
        go_enter Tryz.func129, Tryz.ntmps129
        go_wp2
        go_ret
        exact ⟨rfl, _, h⟩

end Go.Proofs.YtnndoagpbcacdaaGreatDoor
