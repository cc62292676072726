import Derived.Test.YtnndoagpbcacdaaGreatDoorMR0
import Derived.Test.YtnndoagpbcacdaaGreatDoorMB0
import Derived.Test.YtnndoagpbcacdaaGreatDoorMA4
import Derived.Test.YtnndoagpbcacdaaGreatDoorMA8
namespace Go.Proofs.YtnndoagpbcacdaaGreatDoor
open Go.RowKit

/-! The reference's table of states: the plain machine. -/
structure Wk where
  st : Int
  fu : Int
  pa : Int
  inn : Int
  parts : List Int

/-- A part begins, behind the parts l and the count x of the innermost. -/
def wPart (g : Wk) (l : List Int) (x : Int) : Bool × Wk :=
  if x = 8 then (false, g)
  else if l ≠ [] ∧ x = 1 then (decide (g.inn + 1 ≤ 12), { g with inn := g.inn + 1, parts := l ++ [x + 1] })
  else (decide (g.inn ≤ 12), { g with parts := l ++ [x + 1] })

def WBlk (w : World) (b : Nat) (g : Wk) (av : Value) : Prop :=
  w.heap[b]? = some (.cells #[.int .i64 g.st, .int .i64 g.fu, .int .i64 g.pa, .int .i64 g.inn, av] 204 (0, 0))
theorem WBlk.c0 {w : World} {b : Nat} {g : Wk} {av : Value} (h : WBlk w b g av) : w.cell? ⟨b, 0, none⟩ = some (.int .i64 g.st) := by rw [cell_of_row w b 0 _ _ _ h]; rfl
theorem WBlk.c1 {w : World} {b : Nat} {g : Wk} {av : Value} (h : WBlk w b g av) : w.cell? ⟨b, 1, none⟩ = some (.int .i64 g.fu) := by rw [cell_of_row w b 1 _ _ _ h]; rfl
theorem WBlk.c2 {w : World} {b : Nat} {g : Wk} {av : Value} (h : WBlk w b g av) : w.cell? ⟨b, 2, none⟩ = some (.int .i64 g.pa) := by rw [cell_of_row w b 2 _ _ _ h]; rfl
theorem WBlk.c3 {w : World} {b : Nat} {g : Wk} {av : Value} (h : WBlk w b g av) : w.cell? ⟨b, 3, none⟩ = some (.int .i64 g.inn) := by rw [cell_of_row w b 3 _ _ _ h]; rfl
theorem WBlk.c4 {w : World} {b : Nat} {g : Wk} {av : Value} (h : WBlk w b g av) : w.cell? ⟨b, 4, none⟩ = some av := by rw [cell_of_row w b 4 _ _ _ h]; rfl
theorem WBlk.fz {w : World} {b : Nat} {g : Wk} {av : Value} (h : WBlk w b g av) (j : Nat) : w.frozen? ⟨b, j, none⟩ = false := frozen_of_row w b j _ _ h

/-- Blocks that are neither such states nor rows of numbers are as they were. -/
def Otw (w0 w : World) : Prop := ∀ (k : Nat) (cs : Array Value) (t : TypeId) (fr : Nat × Nat), t ≠ 204 → t ≠ 3 → w0.heap[k]? = some (.cells cs t fr) → w.heap[k]? = some (.cells cs t fr)
theorem Otw.refl (w : World) : Otw w w := fun _ _ _ _ _ _ h => h
theorem Otw.trans {a b c : World} (h : Otw a b) (h' : Otw b c) : Otw a c := fun k cs t fr h1 h2 h3 => h' k cs t fr h1 h2 (h k cs t fr h1 h2 h3)
theorem Otw.alloc {w0 w : World} (h : Otw w0 w) (o : Obj) : Otw w0 (w.alloc o) := by
  intro k cs t fr h1 h2 h3
  have h4 := h k cs t fr h1 h2 h3
  exact (Below.heap_alloc w o k (Array.getElem?_eq_some_iff.1 h4).1).trans h4
theorem Otw.set {w0 w : World} {b i : Nat} {cs : Array Value} (u : Value) (h : Otw w0 w) (hb : w.heap[b]? = some (.cells cs 204 (0, 0))) : Otw w0 (w.setCell ⟨b, i, none⟩ u) := by
  intro k cs' t fr h1 h2 h3
  have h4 := h k cs' t fr h1 h2 h3
  rw [heap_setCell_other _ _ _ _ (by intro e; simp only at e; subst e; rw [hb] at h4; simp at h4; exact h1 h4.2.1.symm)]
  exact h4
theorem Otw.setRow {w0 w : World} {b i : Nat} {cs : Array Value} (u : Value) (h : Otw w0 w) (hb : w.heap[b]? = some (.cells cs 3 (0, 0))) : Otw w0 (w.setCell ⟨b, i, none⟩ u) := by
  intro k cs' t fr h1 h2 h3
  have h4 := h k cs' t fr h1 h2 h3
  rw [heap_setCell_other _ _ _ _ (by intro e; simp only at e; subst e; rw [hb] at h4; simp at h4; exact h2 h4.2.1.symm)]
  exact h4

structure WRep (B : Nat) (w0 w : World) (b : Nat) (g : Wk) (av : Value) : Prop where
  blk : WBlk w b g av
  lo : B ≤ b
  row : w.ownsRow B 3 1 av g.parts.length (ints g.parts)
  bel : Below B w0 w
  oth : Otw w0 w
theorem WRep.set0 {B : Nat} {w0 w : World} {b : Nat} {g : Wk} {av : Value} (h : WRep B w0 w b g av) (x : Int) : WRep B w0 (w.setCell ⟨b, 0, none⟩ (.int .i64 x)) b { g with st := x } av :=
  ⟨blk_set _ h.blk, h.lo, ownsRow_set h.row h.blk (by decide), h.bel.setCell h.lo _, h.oth.set _ h.blk⟩
theorem WRep.set1 {B : Nat} {w0 w : World} {b : Nat} {g : Wk} {av : Value} (h : WRep B w0 w b g av) (x : Int) : WRep B w0 (w.setCell ⟨b, 1, none⟩ (.int .i64 x)) b { g with fu := x } av :=
  ⟨blk_set _ h.blk, h.lo, ownsRow_set h.row h.blk (by decide), h.bel.setCell h.lo _, h.oth.set _ h.blk⟩
theorem WRep.set2 {B : Nat} {w0 w : World} {b : Nat} {g : Wk} {av : Value} (h : WRep B w0 w b g av) (x : Int) : WRep B w0 (w.setCell ⟨b, 2, none⟩ (.int .i64 x)) b { g with pa := x } av :=
  ⟨blk_set _ h.blk, h.lo, ownsRow_set h.row h.blk (by decide), h.bel.setCell h.lo _, h.oth.set _ h.blk⟩
theorem WRep.set3 {B : Nat} {w0 w : World} {b : Nat} {g : Wk} {av : Value} (h : WRep B w0 w b g av) (x : Int) : WRep B w0 (w.setCell ⟨b, 3, none⟩ (.int .i64 x)) b { g with inn := x } av :=
  ⟨blk_set _ h.blk, h.lo, ownsRow_set h.row h.blk (by decide), h.bel.setCell h.lo _, h.oth.set _ h.blk⟩
theorem WRep.lt {B : Nat} {w0 w : World} {b : Nat} {g : Wk} {av : Value} (h : WRep B w0 w b g av) : b < w.heap.size := (Array.getElem?_eq_some_iff.1 h.blk).1

theorem own_block {w : World} {base : Nat} {e : TypeId} {size n q m cap : Nat} {xs : List Value} (h : w.ownsRow base e size (.slice (some ⟨q, 0, none⟩) m cap) n xs) : ∃ cur, w.heap[q]? = some (.cells cur e (0, 0)) := by
  rcases h.2 with ⟨h0, _⟩ | ⟨g, cap', cur, h0, _, hh, _⟩
  · cases h0
  · cases h0; exact ⟨cur, hh⟩
/-- The innermost count turns. -/
theorem WRep.store {B : Nat} {w0 w : World} {b : Nat} {st fu pa inn x : Int} {l : List Int} {q cap : Nat} (h : WRep B w0 w b ⟨st, fu, pa, inn, l ++ [x]⟩ (.slice (some ⟨q, 0, none⟩) (l.length + 1) cap)) (y : Int) :
    WRep B w0 (w.setCell ⟨q, l.length, none⟩ (.int .i64 y)) b ⟨st, fu, pa, inn, l ++ [y]⟩ (.slice (some ⟨q, 0, none⟩) (l.length + 1) cap) := by
  have hr := h.row
  simp only [ints, List.map_append, List.map_cons, List.map_nil, List.length_append, List.length_cons, List.length_nil] at hr
  obtain ⟨cur, hq⟩ := own_block hr
  have hne : q ≠ b := by
    intro e
    have := h.blk
    unfold WBlk at this
    rw [← e, hq] at this
    simp at this
  refine ⟨?_, h.lo, ?_, h.bel.setCell (hr.lt q rfl).1 _, h.oth.setRow _ hq⟩
  · unfold WBlk
    rw [heap_setCell_other _ _ _ _ (by intro e; exact hne e.symm)]
    exact h.blk
  · simp only [ints, List.map_append, List.map_cons, List.map_nil, List.length_append, List.length_cons, List.length_nil]
    have := ownsRow_store (j := l.length) (.int .i64 y) hr
    simpa using this

set_option maxHeartbeats 1000000 in
theorem rPart (B b : Nat) (st fu pa inn x : Int) (l : List Int) (av : Value) (w0 w : World) (h : WRep B w0 w b ⟨st, fu, pa, inn, l ++ [x]⟩ av) (hi0 : 0 ≤ inn) (hi1 : inn ≤ 1000000) (hx0 : 0 ≤ x) (hx1 : x ≤ 8) (hn : l.length ≤ 1000000) :
    Calls Tryz.prog 172 #[.pointer (some ⟨b, 0, none⟩)] w fun e w' => e = .returned (.bool (wPart ⟨st, fu, pa, inn, l ++ [x]⟩ l x).1) ∧ WRep B w0 w' b (wPart ⟨st, fu, pa, inn, l ++ [x]⟩ l x).2 av := by
  have c0 := h.blk.c0
  have c1 := h.blk.c1
  have c2 := h.blk.c2
  have c3 := h.blk.c3
  have c4 := h.blk.c4
  have f0 := h.blk.fz 0
  have f1 := h.blk.fz 1
  have f2 := h.blk.fz 2
  have f3 := h.blk.fz 3
  have f4 := h.blk.fz 4
  obtain ⟨q, cap, rfl, _, _⟩ := h.row.form (by simp)
  simp only [List.length_append, List.length_cons, List.length_nil, Nat.zero_add] at *
  have hcap : l.length + 1 ≤ cap := own_cap h.row
  have hrow := h.row
  simp only [ints, List.map_append, List.map_cons, List.map_nil, List.length_append, List.length_cons, List.length_nil] at hrow
  have cq : w.cell? ⟨q, l.length, none⟩ = some (.int .i64 x) := by
    have := hrow.cells (g := q) rfl l.length (.int .i64 x) (by simp)
    simpa [Addr.add_lit] using this
  obtain ⟨cur, hq⟩ := own_block hrow
  have fq := frozen_of_row w q l.length _ _ hq
  have hqb : ¬ q = b := by
    intro e
    have := h.blk
    unfold WBlk at this
    rw [← e, hq] at this
    simp at this
  have hbq : ¬ b = q := fun e => hqb e.symm
  clear hrow hq
  by_cases h8 : x = 8
  · subst h8
    rw [show wPart ⟨st, fu, pa, inn, l ++ [8]⟩ l 8 = (false, ⟨st, fu, pa, inn, l ++ [8]⟩) by simp [wPart]]
    go_enter Tryz.func172, Tryz.ntmps172
    go_wp2
    go_ret
    exact ⟨rfl, h⟩
  · have h8' : (x == 8) = false := by simpa using h8
    by_cases hl : l = []
    · rw [show wPart ⟨st, fu, pa, inn, l ++ [x]⟩ l x = (decide (inn ≤ 12), ⟨st, fu, pa, inn, l ++ [x + 1]⟩) by simp [wPart, h8, hl]]
      have hl0 : ¬ (0 : Int) < (l.length : Int) := by simp [hl]
      have hd : decide ((0 : Int) < (l.length : Int)) = false := by simp [hl]
      clear h8 hl
      go_enter Tryz.func172, Tryz.ntmps172
      go_wp2
      go_ret
      exact ⟨rfl, h.store _⟩
    · have hl0 : (0 : Int) < (l.length : Int) := by cases l with | nil => exact absurd rfl hl | cons _ _ => simp
      by_cases h1 : x = 1
      · subst h1
        rw [show wPart ⟨st, fu, pa, inn, l ++ [1]⟩ l 1 = (decide (inn + 1 ≤ 12), ⟨st, fu, pa, inn + 1, l ++ [2]⟩) by simp [wPart, hl]]
        clear h8 hl
        go_enter Tryz.func172, Tryz.ntmps172
        go_wp2
        go_ret
        exact ⟨rfl, WRep.store (x := 1) (h.set3 _) 2⟩
      · have h1' : (x == 1) = false := by simpa using h1
        rw [show wPart ⟨st, fu, pa, inn, l ++ [x]⟩ l x = (decide (inn ≤ 12), ⟨st, fu, pa, inn, l ++ [x + 1]⟩) by simp [wPart, h8, h1]]
        clear h8 hl h1
        go_enter Tryz.func172, Tryz.ntmps172
        go_wp2
        go_ret
        exact ⟨rfl, h.store _⟩

end Go.Proofs.YtnndoagpbcacdaaGreatDoor
namespace Go.Proofs.YtnndoagpbcacdaaGreatDoor
open Go.RowKit

def wStarts (g : Wk) (s : Int) : Int × Wk :=
  if g.st = 0 then (if s = 1 then (if g.fu = 16 then (3, g) else (0, { g with fu := g.fu + 1, pa := 0, inn := 0, st := 1 })) else (2, g))
  else (if s = 1 then (if g.pa = 6 then (3, g) else (0, { g with pa := g.pa + 1 })) else if s = 3 then (0, { g with parts := [0], st := 2 }) else (2, g))

theorem WRep.single {B : Nat} {w0 w : World} {b : Nat} {g : Wk} {av : Value} (h : WRep B w0 w b g av) (hB : B ≤ w.heap.size) :
    WRep B w0 (((w.setCell ⟨b, 4, none⟩ (.slice (some ⟨w.heap.size, 0, none⟩) 1 1)).setCell ⟨b, 0, none⟩ (.int .i64 2)).alloc (.cells #[.int .i64 0] 3)) b { g with parts := [0], st := 2 } (.slice (some ⟨w.heap.size, 0, none⟩) 1 1) := by
  have hb1 := blk_set (i := 4) (.slice (some ⟨w.heap.size, 0, none⟩) 1 1) h.blk
  have hb2 := blk_set (i := 0) (.int .i64 2) hb1
  have hz : ((w.setCell ⟨b, 4, none⟩ (.slice (some ⟨w.heap.size, 0, none⟩) 1 1)).setCell ⟨b, 0, none⟩ (.int .i64 2)).heap.size = w.heap.size := by simp [World.setCell]
  refine ⟨(Below.heap_alloc _ _ b (by rw [hz]; exact h.lt)).trans hb2, h.lo, ?_, ?_, ?_⟩
  · refine ⟨rfl, .inr ⟨w.heap.size, 1, #[.int .i64 0], rfl, hB, ?_, Nat.le_refl 1, by decide, rfl, rfl⟩⟩
    have := heap_alloc_new ((w.setCell ⟨b, 4, none⟩ (.slice (some ⟨w.heap.size, 0, none⟩) 1 1)).setCell ⟨b, 0, none⟩ (.int .i64 2)) (.cells #[.int .i64 0] 3)
    rw [hz] at this
    exact this
  · exact ((h.bel.setCell h.lo _).setCell h.lo _).alloc (by rw [hz]; exact hB) _
  · exact ((h.oth.set _ h.blk).set _ hb1).alloc _

set_option maxHeartbeats 1000000 in
theorem rStarts (B b : Nat) (g : Wk) (av : Value) (s : Int) (w0 w : World) (h : WRep B w0 w b g av) (hst : g.st = 0 ∨ g.st = 1) (hf0 : 0 ≤ g.fu) (hf1 : g.fu ≤ 16) (hp0 : 0 ≤ g.pa) (hp1 : g.pa ≤ 1000000) :
    Calls Tryz.prog 171 #[.pointer (some ⟨b, 0, none⟩), .int .i64 s] w fun e w' => e = .returned (.int .i64 (wStarts g s).1) ∧ ∃ av', WRep B w0 w' b (wStarts g s).2 av' := by
  obtain ⟨st, fu, pa, inn, parts⟩ := g
  have c0 := h.blk.c0
  have c1 := h.blk.c1
  have c2 := h.blk.c2
  have c3 := h.blk.c3
  have c4 := h.blk.c4
  have f0 := h.blk.fz 0
  have f1 := h.blk.fz 1
  have f2 := h.blk.fz 2
  have f3 := h.blk.fz 3
  have f4 := h.blk.fz 4
  have hlo := h.lo
  have hblt := h.lt
  simp only at *
  rcases hst with rfl | rfl
  · by_cases h1 : s = 1
    · subst h1
      by_cases h16 : fu = 16
      · subst h16
        rw [show wStarts ⟨0, 16, pa, inn, parts⟩ 1 = (3, ⟨0, 16, pa, inn, parts⟩) by simp [wStarts]]
        go_enter Tryz.func171, Tryz.ntmps171
        go_wp2
        go_ret
        exact ⟨rfl, _, h⟩
      · have h16' : (fu == 16) = false := by simpa using h16
        rw [show wStarts ⟨0, fu, pa, inn, parts⟩ 1 = (0, ⟨1, fu + 1, 0, 0, parts⟩) by simp [wStarts, h16]]
        clear h16
        go_enter Tryz.func171, Tryz.ntmps171
        go_wp2
        go_ret
        exact ⟨rfl, _, (((h.set1 _).set2 _).set3 _).set0 _⟩
    · have h1' : (s == 1) = false := by simpa using h1
      rw [show wStarts ⟨0, fu, pa, inn, parts⟩ s = (2, ⟨0, fu, pa, inn, parts⟩) by simp [wStarts, h1]]
      clear h1
      go_enter Tryz.func171, Tryz.ntmps171
      go_wp2
      go_ret
      exact ⟨rfl, _, h⟩
  · by_cases h1 : s = 1
    · subst h1
      by_cases h6 : pa = 6
      · subst h6
        rw [show wStarts ⟨1, fu, 6, inn, parts⟩ 1 = (3, ⟨1, fu, 6, inn, parts⟩) by simp [wStarts]]
        go_enter Tryz.func171, Tryz.ntmps171
        go_wp2
        go_ret
        exact ⟨rfl, _, h⟩
      · have h6' : (pa == 6) = false := by simpa using h6
        rw [show wStarts ⟨1, fu, pa, inn, parts⟩ 1 = (0, ⟨1, fu, pa + 1, inn, parts⟩) by simp [wStarts, h6]]
        clear h6
        go_enter Tryz.func171, Tryz.ntmps171
        go_wp2
        go_ret
        exact ⟨rfl, _, h.set2 _⟩
    · have h1' : (s == 1) = false := by simpa using h1
      by_cases h3 : s = 3
      · subst h3
        rw [show wStarts ⟨1, fu, pa, inn, parts⟩ 3 = (0, ⟨2, fu, pa, inn, [0]⟩) by simp [wStarts]]
        clear h1 h1'
        go_enter Tryz.func171, Tryz.ntmps171
        go_wp2
        go_ret
        exact ⟨rfl, _, h.single (by omega)⟩
      · have h3' : (s == 3) = false := by simpa using h3
        rw [show wStarts ⟨1, fu, pa, inn, parts⟩ s = (2, ⟨1, fu, pa, inn, parts⟩) by simp [wStarts, h1, h3]]
        clear h1 h3
        go_enter Tryz.func171, Tryz.ntmps171
        go_wp2
        go_ret
        exact ⟨rfl, _, h⟩

def plainS (s : Int) : Bool := decide (s = 1 ∨ s = 2)
/-- A head is due. -/
def wOn2 (g : Wk) (l : List Int) (s : Int) : Int × Wk := if plainS s then (0, { g with st := 3, parts := l ++ [1] }) else (2, g)
/-- A part more is due, or what closes. -/
def wOn3 (g : Wk) (l : List Int) (x s : Int) : Int × Wk :=
  if plainS s = true ∨ s = 5 then (if (wPart g l x).1 then (if s = 5 then (0, { (wPart g l x).2 with st := 2, parts := (wPart g l x).2.parts ++ [0] }) else (0, (wPart g l x).2)) else (3, (wPart g l x).2))
  else if s = 6 then (if l = [] then (2, g) else (0, { g with parts := l }))
  else if s = 4 then (if l = [] then (0, { g with st := 0 }) else (2, g))
  else (2, g)

set_option maxHeartbeats 1000000 in
theorem rOn01 (B b : Nat) (g : Wk) (av : Value) (s : Int) (w0 w : World) (h : WRep B w0 w b g av) (hst : g.st = 0 ∨ g.st = 1) (hf0 : 0 ≤ g.fu) (hf1 : g.fu ≤ 16) (hp0 : 0 ≤ g.pa) (hp1 : g.pa ≤ 1000000) :
    Calls Tryz.prog 129 #[.pointer (some ⟨b, 0, none⟩), .int .i64 s] w fun e w' => e = .returned (.int .i64 (wStarts g s).1) ∧ ∃ av', WRep B w0 w' b (wStarts g s).2 av' := by
  have c0 := h.blk.c0
  have hst' := hst
  rcases hst with h0 | h1
  all_goals
    go_enter Tryz.func129, Tryz.ntmps129
    go_wp2_with (go_at_call 171; refine (rStarts B b g av s w0 w h hst' hf0 hf1 hp0 hp1).mono ?_; rintro e w1 ⟨rfl, av1, hg⟩)
    go_ret
    exact ⟨rfl, _, hg⟩

set_option maxHeartbeats 1000000 in
theorem rOn2 (B b : Nat) (fu pa inn x : Int) (l : List Int) (av : Value) (s : Int) (w0 w : World) (h : WRep B w0 w b ⟨2, fu, pa, inn, l ++ [x]⟩ av) (hn : l.length ≤ 1000000) :
    Calls Tryz.prog 129 #[.pointer (some ⟨b, 0, none⟩), .int .i64 s] w fun e w' => e = .returned (.int .i64 (wOn2 ⟨2, fu, pa, inn, l ++ [x]⟩ l s).1) ∧ ∃ av', WRep B w0 w' b (wOn2 ⟨2, fu, pa, inn, l ++ [x]⟩ l s).2 av' := by
  have c0 := h.blk.c0
  have c1 := h.blk.c1
  have c2 := h.blk.c2
  have c3 := h.blk.c3
  have c4 := h.blk.c4
  have f0 := h.blk.fz 0
  have f1 := h.blk.fz 1
  have f2 := h.blk.fz 2
  have f3 := h.blk.fz 3
  have f4 := h.blk.fz 4
  have hlo := h.lo
  have hblt := h.lt
  simp only at *
  obtain ⟨q, cap, rfl, _, _⟩ := h.row.form (by simp)
  simp only [List.length_append, List.length_cons, List.length_nil, Nat.zero_add] at *
  have hcap : l.length + 1 ≤ cap := own_cap h.row
  have hrow := h.row
  simp only [ints, List.map_append, List.map_cons, List.map_nil, List.length_append, List.length_cons, List.length_nil] at hrow
  have cq : w.cell? ⟨q, l.length, none⟩ = some (.int .i64 x) := by
    have := hrow.cells (g := q) rfl l.length (.int .i64 x) (by simp)
    simpa [Addr.add_lit] using this
  obtain ⟨cur, hq⟩ := own_block hrow
  have fq := frozen_of_row w q l.length _ _ hq
  have hqb : ¬ q = b := by
    intro e
    have := h.blk
    unfold WBlk at this
    rw [← e, hq] at this
    simp at this
  have hbq : ¬ b = q := fun e => hqb e.symm
  clear hrow hq
  by_cases h1 : s = 1 ∨ s = 2
  · rw [show wOn2 ⟨2, fu, pa, inn, l ++ [x]⟩ l s = (0, ⟨3, fu, pa, inn, l ++ [1]⟩) by simp [wOn2, plainS, h1]]
    rcases h1 with rfl | rfl
    all_goals
      go_enter Tryz.func129, Tryz.ntmps129
      go_wp2
      go_ret
      exact ⟨rfl, _, (h.store 1).set0 3⟩
  · rw [show wOn2 ⟨2, fu, pa, inn, l ++ [x]⟩ l s = (2, ⟨2, fu, pa, inn, l ++ [x]⟩) by simp [wOn2, plainS, h1]]
    have e1 : (s == 1) = false := by rw [beq_eq_false_iff_ne]; omega
    have e2 : (s == 2) = false := by rw [beq_eq_false_iff_ne]; omega
    clear h1
    go_enter Tryz.func129, Tryz.ntmps129
    go_wp2
    go_ret
    exact ⟨rfl, _, h⟩

theorem WRep.cut {B : Nat} {w0 w : World} {b : Nat} {st fu pa inn x : Int} {l : List Int} {q cap : Nat} (h : WRep B w0 w b ⟨st, fu, pa, inn, l ++ [x]⟩ (.slice (some ⟨q, 0, none⟩) (l.length + 1) cap)) :
    WRep B w0 (w.setCell ⟨b, 4, none⟩ (.slice (some ⟨q, 0, none⟩) l.length cap)) b ⟨st, fu, pa, inn, l⟩ (.slice (some ⟨q, 0, none⟩) l.length cap) := by
  refine ⟨blk_set _ h.blk, h.lo, ?_, h.bel.setCell h.lo _, h.oth.set _ h.blk⟩
  have hr := h.row
  simp only [ints, List.map_append, List.map_cons, List.map_nil, List.length_append, List.length_cons, List.length_nil] at hr
  exact ownsRow_set (ownsRow_pop (by simp [ints]) hr) h.blk (by decide)

end Go.Proofs.YtnndoagpbcacdaaGreatDoor
namespace Go.Proofs.YtnndoagpbcacdaaGreatDoor
open Go.RowKit

theorem wPart_parts (g : Wk) (l : List Int) (x : Int) (h : (wPart g l x).1 = true) : (wPart g l x).2.parts = l ++ [x + 1] ∧ (wPart g l x).2.st = g.st := by
  unfold wPart at h ⊢
  split
  · rename_i h8; simp [h8] at h
  · split <;> exact ⟨rfl, rfl⟩

theorem WBlk.grown {w w' : World} {b : Nat} {g : Wk} {av : Value} {B n size : Nat} {xs : List Value} {o : Obj} (h : WBlk w b g av) (hr : w.ownsRow B 3 size av n xs) (hg : (w.alloc o).grownBy w' av.ownBlock) : WBlk w' b g av :=
  grown_type (hr.alloc o) hg (by decide) ((Below.heap_alloc w o b (Array.getElem?_eq_some_iff.1 h).1).trans h)
theorem Otw.grown {w0 w w' : World} {av : Value} {B n size : Nat} {xs : List Value} {o : Obj} (h : Otw w0 w) (hr : w.ownsRow B 3 size av n xs) (hg : (w.alloc o).grownBy w' av.ownBlock) : Otw w0 w' := by
  intro k cs t fr h1 h2 h3
  have h4 := h.alloc o k cs t fr h1 h2 h3
  exact grown_type (hr.alloc o) hg h2 h4
theorem WRep.push {B : Nat} {w0 w2 : World} {b : Nat} {g : Wk} {av nv : Value} (hB2 : WBlk w2 b g av) (hlo : B ≤ b) (hown : w2.ownsRow B 3 1 nv (g.parts.length + 1) (ints g.parts ++ [.int .i64 0])) (bel : Below B w0 w2) (oth : Otw w0 w2) :
    WRep B w0 ((w2.setCell ⟨b, 4, none⟩ nv).setCell ⟨b, 0, none⟩ (.int .i64 2)) b { g with st := 2, parts := g.parts ++ [0] } nv := by
  refine ⟨blk_set _ (blk_set _ hB2), hlo, ?_, (bel.setCell hlo _).setCell hlo _, (oth.set _ hB2).set _ (blk_set _ hB2)⟩
  have := ownsRow_set (i := 0) (u := .int .i64 2) (ownsRow_set (i := 4) (u := nv) hown hB2 (by decide)) (blk_set _ hB2) (by decide)
  simpa [ints] using this

set_option maxHeartbeats 4000000 in
theorem rOn3 (B b : Nat) (fu pa inn x : Int) (l : List Int) (av : Value) (s : Int) (w0 w : World) (h : WRep B w0 w b ⟨3, fu, pa, inn, l ++ [x]⟩ av) (hn : l.length ≤ 1000000) (hi0 : 0 ≤ inn) (hi1 : inn ≤ 1000000) (hx0 : 0 ≤ x) (hx1 : x ≤ 8) :
    Calls Tryz.prog 129 #[.pointer (some ⟨b, 0, none⟩), .int .i64 s] w fun e w' => e = .returned (.int .i64 (wOn3 ⟨3, fu, pa, inn, l ++ [x]⟩ l x s).1) ∧ ∃ av', WRep B w0 w' b (wOn3 ⟨3, fu, pa, inn, l ++ [x]⟩ l x s).2 av' := by
  have c0 := h.blk.c0
  have c1 := h.blk.c1
  have c2 := h.blk.c2
  have c3 := h.blk.c3
  have c4 := h.blk.c4
  have f0 := h.blk.fz 0
  have f1 := h.blk.fz 1
  have f2 := h.blk.fz 2
  have f3 := h.blk.fz 3
  have f4 := h.blk.fz 4
  have hlo := h.lo
  have hblt := h.lt
  simp only at *
  obtain ⟨q, cap, rfl, _, _⟩ := h.row.form (by simp)
  simp only [List.length_append, List.length_cons, List.length_nil, Nat.zero_add] at *
  have hcap : l.length + 1 ≤ cap := own_cap h.row
  have hrow := h.row
  simp only [ints, List.map_append, List.map_cons, List.map_nil, List.length_append, List.length_cons, List.length_nil] at hrow
  have cq : w.cell? ⟨q, l.length, none⟩ = some (.int .i64 x) := by
    have := hrow.cells (g := q) rfl l.length (.int .i64 x) (by simp)
    simpa [Addr.add_lit] using this
  obtain ⟨cur, hq⟩ := own_block hrow
  have fq := frozen_of_row w q l.length _ _ hq
  have hqb : ¬ q = b := by
    intro e
    have := h.blk
    unfold WBlk at this
    rw [← e, hq] at this
    simp at this
  have hbq : ¬ b = q := fun e => hqb e.symm
  clear hrow hq
  by_cases h1 : s = 1 ∨ s = 2 ∨ s = 5
  · have hw : wOn3 ⟨3, fu, pa, inn, l ++ [x]⟩ l x s = (if (wPart ⟨3, fu, pa, inn, l ++ [x]⟩ l x).1 then (if s = 5 then (0, { (wPart ⟨3, fu, pa, inn, l ++ [x]⟩ l x).2 with st := 2, parts := (wPart ⟨3, fu, pa, inn, l ++ [x]⟩ l x).2.parts ++ [0] }) else (0, (wPart ⟨3, fu, pa, inn, l ++ [x]⟩ l x).2)) else (3, (wPart ⟨3, fu, pa, inn, l ++ [x]⟩ l x).2)) := by
      unfold wOn3
      rw [if_pos (by rcases h1 with rfl | rfl | rfl <;> simp [plainS])]
    rw [hw]
    clear hw
    have hpp := wPart_parts ⟨3, fu, pa, inn, l ++ [x]⟩ l x
    have HP : Hid ((wPart ⟨3, fu, pa, inn, l ++ [x]⟩ l x).1 = true → (wPart ⟨3, fu, pa, inn, l ++ [x]⟩ l x).2.parts = l ++ [x + 1] ∧ (wPart ⟨3, fu, pa, inn, l ++ [x]⟩ l x).2.st = 3) := hpp
    clear hpp
    cases hp : (wPart ⟨3, fu, pa, inn, l ++ [x]⟩ l x).1
    · rcases h1 with rfl | rfl | rfl
      all_goals
        go_enter Tryz.func129, Tryz.ntmps129
        go_wp2_with (go_at_call 172; refine (rPart B b 3 fu pa inn x l _ w0 w h hi0 hi1 hx0 hx1 hn).mono ?_; rintro e w1 ⟨rfl, hg⟩)
        go_ret
        exact ⟨rfl, _, hg⟩
    · obtain ⟨HP1, HP2⟩ := HP.out hp
      have HP1' : Hid _ := HP1
      have HP2' : Hid _ := HP2
      clear HP HP1 HP2
      rcases h1 with rfl | rfl | rfl
      · simp only [if_true, show ¬ ((1 : Int) = 5) by decide, if_false]
        go_enter Tryz.func129, Tryz.ntmps129
        go_wp2_with (go_at_call 172; refine (rPart B b 3 fu pa inn x l _ w0 w h hi0 hi1 hx0 hx1 hn).mono ?_; rintro e w1 ⟨rfl, hg⟩)
        go_ret
        exact ⟨rfl, _, hg⟩
      · simp only [if_true, show ¬ ((2 : Int) = 5) by decide, if_false]
        go_enter Tryz.func129, Tryz.ntmps129
        go_wp2_with (go_at_call 172; refine (rPart B b 3 fu pa inn x l _ w0 w h hi0 hi1 hx0 hx1 hn).mono ?_; rintro e w1 ⟨rfl, hg⟩)
        go_ret
        exact ⟨rfl, _, hg⟩
      · simp only [if_true]
        obtain ⟨i, hi, hz0, hz1, hz2⟩ := info_parts Tryz.infoInt
        generalize hq2 : (wPart ⟨3, fu, pa, inn, l ++ [x]⟩ l x).2 = q2 at *
        have HQ : Hid ((wPart ⟨3, fu, pa, inn, l ++ [x]⟩ l x).2 = q2) := hq2
        clear hq2
        have hq3 : Hid (q2.parts.length = l.length + 1) := by have := HP1'.out; show _ = _; rw [this]; simp
        clear HP1' HP2'
        go_enter Tryz.func129, Tryz.ntmps129
        go_wp2_with fail
        refine (rPart B b 3 fu pa inn x l _ w0 w h hi0 hi1 hx0 hx1 hn).mono ?_
        rintro e w1 ⟨rfl, hg⟩
        rw [HQ.out] at hg
        have c4' := hg.blk.c4
        have hsz1 := hg.bel.size
        have hlt1 := hg.lt
        have hgrow0 := hg.row
        clear HQ c0 c1 c2 c3 c4 f0 f1 f2 f3 f4 cq fq h
        go_wp2_with (at_builtin; go_must (refine wpList_append_lies _ rfl _ _ _ rfl B 3 i _ 1 8 Tryz.underlying35 hi hz0 hz1 hz2 rfl (by omega) _ q2.parts.length (ints q2.parts) rfl ?hown _ 1 _ [.int .i64 0] rfl rfl ?hnews ?h1 (by omega) ?h63 ?hbytes ?hbase _ rfl ?_))
        case hown => exact hgrow0.alloc _
        case hnews => exact World.news_of_block (heap_alloc_new w1 _)
        case h1 => simp [Value.oneCell']
        case h63 => rw [hq3.out]; unfold maxLen; omega
        case hbytes => rw [hq3.out]; omega
        case hbase => simp; omega
        intro q cap1 w2 hown2 hgrow hat hlt2
        have hB2 := hg.blk.grown hgrow0 hgrow
        have e4 := hB2.c4
        have e0 := hB2.c0
        have z4 := hB2.fz 4
        have z0 := hB2.fz 0
        have bel2 := (hg.bel.alloc (o := Obj.cells #[.int .i64 0] 3) (by omega)).grown hgrow (by simp; omega) (fun k hk => (hgrow0.lt k hk).1)
        have oth2 := hg.oth.grown hgrow0 hgrow
        clear hi hz0 hz1 hz2 c4' hgrow0 hgrow
        go_wp2
        go_ret
        exact ⟨rfl, _, WRep.push hB2 hlo hown2 bel2 oth2⟩
  · have e1 : (s == 1) = false := by rw [beq_eq_false_iff_ne]; omega
    have e2 : (s == 2) = false := by rw [beq_eq_false_iff_ne]; omega
    have e5 : (s == 5) = false := by rw [beq_eq_false_iff_ne]; omega
    have hw : wOn3 ⟨3, fu, pa, inn, l ++ [x]⟩ l x s = (if s = 6 then (if l = [] then (2, ⟨3, fu, pa, inn, l ++ [x]⟩) else (0, ⟨3, fu, pa, inn, l⟩)) else if s = 4 then (if l = [] then (0, ⟨0, fu, pa, inn, l ++ [x]⟩) else (2, ⟨3, fu, pa, inn, l ++ [x]⟩)) else (2, ⟨3, fu, pa, inn, l ++ [x]⟩)) := by
      unfold wOn3
      rw [if_neg (by simp [plainS]; omega)]
    rw [hw]
    clear hw h1
    by_cases h6 : s = 6
    · subst h6
      rw [if_pos rfl]
      by_cases hl : l = []
      · rw [if_pos hl]
        have hl0 : ¬ (0 : Int) < (l.length : Int) := by simp [hl]
        have hd : decide ((0 : Int) < (l.length : Int)) = false := by simp [hl]
        clear hl
        go_enter Tryz.func129, Tryz.ntmps129
        go_wp2
        go_ret
        exact ⟨rfl, _, h⟩
      · rw [if_neg hl]
        have hl0 : (0 : Int) < (l.length : Int) := by cases l with | nil => exact absurd rfl hl | cons _ _ => simp
        clear hl
        go_enter Tryz.func129, Tryz.ntmps129
        go_wp2
        go_ret
        exact ⟨rfl, _, h.cut⟩
    · rw [if_neg h6]
      have e6 : (s == 6) = false := by simpa using h6
      by_cases h4 : s = 4
      · subst h4
        rw [if_pos rfl]
        clear h6
        by_cases hl : l = []
        · rw [if_pos hl]
          have hl0 : ((l.length : Int) == 0) = true := by simp [hl]
          clear hl
          go_enter Tryz.func129, Tryz.ntmps129
          go_wp2
          go_ret
          exact ⟨rfl, _, h.set0 _⟩
        · rw [if_neg hl]
          have hl0 : ((l.length : Int) == 0) = false := len_ne hl
          clear hl
          go_enter Tryz.func129, Tryz.ntmps129
          go_wp2
          go_ret
          exact ⟨rfl, _, h⟩
      · rw [if_neg h4]
        have e4 : (s == 4) = false := by simpa using h4
        clear h4 h6
        go_enter Tryz.func129, Tryz.ntmps129
        go_wp2
        go_ret
        exact ⟨rfl, _, h⟩

end Go.Proofs.YtnndoagpbcacdaaGreatDoor
