import Derived.Test.YtnndoagpbcacdaaGreatDoorA2
import Derived.Deep.RegionLaw
namespace Go.Proofs.YtnndoagpbcacdaaGreatDoor
open Go.RowKit

/-! The grammar: the plain machine. -/
structure Gr where
  aw : Int
  fn : Int
  pa : Int
  no : Int
  wi : Int
  ar : List Int

def simpleK (k : Int) : Bool := decide (k = 1 ∨ k = 2 ∨ k = 3)
def gFunction (g : Gr) (k : Int) : Int × Gr := if k ≠ 1 then (2, g) else if 16 ≤ g.fn then (3, g) else (0, { g with fn := g.fn + 1, pa := 0, aw := 1 })
def gParameter (g : Gr) (k : Int) : Int × Gr := if k = 4 then (0, { g with no := 0, aw := 2 }) else if k ≠ 1 then (2, g) else if 6 ≤ g.pa then (3, g) else (0, { g with pa := g.pa + 1 })
def gHead (g : Gr) (k : Int) : Int × Gr := if simpleK k then (0, { g with wi := 1, aw := 3 }) else (2, g)
def gCount (g : Gr) : Int × Gr :=
  if 8 ≤ g.wi then (3, g) else if g.wi + 1 ≠ 2 ∨ g.ar = [] then (0, { g with wi := g.wi + 1 }) else if 12 ≤ g.no then (3, { g with wi := g.wi + 1 }) else (0, { g with wi := g.wi + 1, no := g.no + 1 })
def gEndDef (g : Gr) : Int × Gr := if g.ar = [] then (0, { g with aw := 0 }) else (2, g)
def gEndInner (g : Gr) : Int × Gr := if g.ar = [] then (2, g) else (0, { g with wi := g.ar.getLast?.getD 0, ar := g.ar.dropLast })
def gBegin (g : Gr) : Int × Gr := if (gCount g).1 = 0 then (0, { (gCount g).2 with ar := (gCount g).2.ar ++ [(gCount g).2.wi], aw := 2 }) else gCount g
def gPart (g : Gr) (k : Int) : Int × Gr := if k = 5 then gEndDef g else if k = 7 then gEndInner g else if k = 6 then gBegin g else if simpleK k then gCount g else (2, g)
def gTake (g : Gr) (k : Int) : Int × Gr := if g.aw = 0 then gFunction g k else if g.aw = 1 then gParameter g k else if g.aw = 2 then gHead g k else gPart g k

/-- The grammar in memory: its block. -/
def GBlk (w : World) (b : Nat) (g : Gr) (av : Value) : Prop :=
  w.heap[b]? = some (.cells #[.int .i64 g.aw, .int .i64 g.fn, .int .i64 g.pa, .int .i64 g.no, .int .i64 g.wi, av] 170 (0, 0))

theorem GBlk.c0 {w : World} {b : Nat} {g : Gr} {av : Value} (h : GBlk w b g av) : w.cell? ⟨b, 0, none⟩ = some (.int .i64 g.aw) := by rw [cell_of_row w b 0 _ _ _ h]; rfl
theorem GBlk.c1 {w : World} {b : Nat} {g : Gr} {av : Value} (h : GBlk w b g av) : w.cell? ⟨b, 1, none⟩ = some (.int .i64 g.fn) := by rw [cell_of_row w b 1 _ _ _ h]; rfl
theorem GBlk.c2 {w : World} {b : Nat} {g : Gr} {av : Value} (h : GBlk w b g av) : w.cell? ⟨b, 2, none⟩ = some (.int .i64 g.pa) := by rw [cell_of_row w b 2 _ _ _ h]; rfl
theorem GBlk.c3 {w : World} {b : Nat} {g : Gr} {av : Value} (h : GBlk w b g av) : w.cell? ⟨b, 3, none⟩ = some (.int .i64 g.no) := by rw [cell_of_row w b 3 _ _ _ h]; rfl
theorem GBlk.c4 {w : World} {b : Nat} {g : Gr} {av : Value} (h : GBlk w b g av) : w.cell? ⟨b, 4, none⟩ = some (.int .i64 g.wi) := by rw [cell_of_row w b 4 _ _ _ h]; rfl
theorem GBlk.c5 {w : World} {b : Nat} {g : Gr} {av : Value} (h : GBlk w b g av) : w.cell? ⟨b, 5, none⟩ = some av := by rw [cell_of_row w b 5 _ _ _ h]; rfl
theorem GBlk.fz {w : World} {b : Nat} {g : Gr} {av : Value} (h : GBlk w b g av) (j : Nat) : w.frozen? ⟨b, j, none⟩ = false := frozen_of_row w b j _ _ h

/-- A store into the block: its value. -/
theorem blk_set {w : World} {b i : Nat} {cs : Array Value} {t : TypeId} (v : Value) (h : w.heap[b]? = some (.cells cs t (0, 0))) : (w.setCell ⟨b, i, none⟩ v).heap[b]? = some (.cells (cs.setIfInBounds i v) t (0, 0)) :=
  heap_setCell_same w b i cs t v h

/-- A row of numbers is no grammar block: a store into the one leaves the other. -/
theorem ownsRow_set {w : World} {base b i : Nat} {e : TypeId} {size n : Nat} {v u : Value} {xs : List Value} {cs : Array Value} {t : TypeId} (h : w.ownsRow base e size v n xs) (hb : w.heap[b]? = some (.cells cs t (0, 0))) (hne : e ≠ t) :
    (w.setCell ⟨b, i, none⟩ u).ownsRow base e size v n xs := by
  refine ⟨h.1, ?_⟩
  rcases h.2 with hn | ⟨g, cap, cur, hv, hg, hh, r⟩
  · exact .inl hn
  · refine .inr ⟨g, cap, cur, hv, hg, ?_, r⟩
    rw [heap_setCell_other _ _ _ _ (by intro e1; simp only at e1; subst e1; rw [hh] at hb; simp at hb; exact hne hb.2)]
    exact hh

def ints (l : List Int) : List Value := l.map (Value.int .i64)

/-- Blocks that are neither grammars nor rows of numbers are as they were. -/
def Oth (w0 w : World) : Prop := ∀ (k : Nat) (cs : Array Value) (t : TypeId) (fr : Nat × Nat), t ≠ 170 → t ≠ 3 → w0.heap[k]? = some (.cells cs t fr) → w.heap[k]? = some (.cells cs t fr)
theorem Oth.refl (w : World) : Oth w w := fun _ _ _ _ _ _ h => h
theorem Oth.set {w0 w : World} {b i : Nat} {cs : Array Value} (u : Value) (h : Oth w0 w) (hb : w.heap[b]? = some (.cells cs 170 (0, 0))) : Oth w0 (w.setCell ⟨b, i, none⟩ u) := by
  intro k cs' t fr h1 h2 h3
  have h4 := h k cs' t fr h1 h2 h3
  rw [heap_setCell_other _ _ _ _ (by intro e; simp only at e; subst e; rw [hb] at h4; simp at h4; exact h1 h4.2.1.symm)]
  exact h4

/-- The grammar in memory, and the row of its widths, both from B on; below B the world is as w0 was. -/
structure GRep (B : Nat) (w0 w : World) (b : Nat) (g : Gr) (av : Value) : Prop where
  blk : GBlk w b g av
  lo : B ≤ b
  row : w.ownsRow B 3 1 av g.ar.length (ints g.ar)
  bel : Below B w0 w
  oth : Oth w0 w

theorem GRep.set0 {B : Nat} {w0 w : World} {b : Nat} {g : Gr} {av : Value} (h : GRep B w0 w b g av) (x : Int) : GRep B w0 (w.setCell ⟨b, 0, none⟩ (.int .i64 x)) b { g with aw := x } av :=
  ⟨blk_set _ h.blk, h.lo, ownsRow_set h.row h.blk (by decide), h.bel.setCell h.lo _, h.oth.set _ h.blk⟩
theorem GRep.set1 {B : Nat} {w0 w : World} {b : Nat} {g : Gr} {av : Value} (h : GRep B w0 w b g av) (x : Int) : GRep B w0 (w.setCell ⟨b, 1, none⟩ (.int .i64 x)) b { g with fn := x } av :=
  ⟨blk_set _ h.blk, h.lo, ownsRow_set h.row h.blk (by decide), h.bel.setCell h.lo _, h.oth.set _ h.blk⟩
theorem GRep.set2 {B : Nat} {w0 w : World} {b : Nat} {g : Gr} {av : Value} (h : GRep B w0 w b g av) (x : Int) : GRep B w0 (w.setCell ⟨b, 2, none⟩ (.int .i64 x)) b { g with pa := x } av :=
  ⟨blk_set _ h.blk, h.lo, ownsRow_set h.row h.blk (by decide), h.bel.setCell h.lo _, h.oth.set _ h.blk⟩
theorem GRep.set3 {B : Nat} {w0 w : World} {b : Nat} {g : Gr} {av : Value} (h : GRep B w0 w b g av) (x : Int) : GRep B w0 (w.setCell ⟨b, 3, none⟩ (.int .i64 x)) b { g with no := x } av :=
  ⟨blk_set _ h.blk, h.lo, ownsRow_set h.row h.blk (by decide), h.bel.setCell h.lo _, h.oth.set _ h.blk⟩
theorem GRep.set4 {B : Nat} {w0 w : World} {b : Nat} {g : Gr} {av : Value} (h : GRep B w0 w b g av) (x : Int) : GRep B w0 (w.setCell ⟨b, 4, none⟩ (.int .i64 x)) b { g with wi := x } av :=
  ⟨blk_set _ h.blk, h.lo, ownsRow_set h.row h.blk (by decide), h.bel.setCell h.lo _, h.oth.set _ h.blk⟩
theorem GRep.lt {B : Nat} {w0 w : World} {b : Nat} {g : Gr} {av : Value} (h : GRep B w0 w b g av) : b < w.heap.size := (Array.getElem?_eq_some_iff.1 h.blk).1

set_option maxHeartbeats 400000 in
theorem sIsSimple (k : Int) (w : World) :
    Calls Tryz.prog 185 #[.int .i64 k] w fun e w' => e = .returned (.bool (simpleK k)) ∧ w' = w := by
  by_cases h1 : k = 1
  · subst h1
    go_enter Tryz.func185, Tryz.ntmps185
    go_wp2
    go_ret
    exact ⟨rfl, rfl⟩
  · by_cases h2 : k = 2
    · subst h2
      go_enter Tryz.func185, Tryz.ntmps185
      go_wp2
      go_ret
      exact ⟨rfl, rfl⟩
    · have h1' : (k == 1) = false := by simpa using h1
      have h2' : (k == 2) = false := by simpa using h2
      clear h1 h2
      go_enter Tryz.func185, Tryz.ntmps185
      go_wp2
      go_ret
      refine ⟨ret_bool ?_, rfl⟩
      simp at h1' h2'
      rw [Bool.eq_iff_iff]; simp [simpleK, h1', h2']

set_option maxHeartbeats 400000 in
theorem sTakeFunction (B b : Nat) (g : Gr) (av : Value) (k : Int) (w0 w : World) (h : GRep B w0 w b g av) (h0 : 0 ≤ g.fn) :
    Calls Tryz.prog 150 #[.pointer (some ⟨b, 0, none⟩), .int .i64 k] w fun e w' => e = .returned (.int .i64 (gFunction g k).1) ∧ ∃ av', GRep B w0 w' b (gFunction g k).2 av' := by
  have c0 := h.blk.c0
  have c1 := h.blk.c1
  have c2 := h.blk.c2
  have c3 := h.blk.c3
  have c4 := h.blk.c4
  have c5 := h.blk.c5
  have f0 := h.blk.fz 0
  have f1 := h.blk.fz 1
  have f2 := h.blk.fz 2
  have f3 := h.blk.fz 3
  have f4 := h.blk.fz 4
  have f5 := h.blk.fz 5
  obtain ⟨aw, fn, pa, no, wi, ar⟩ := g
  simp only at *
  by_cases hk : k = 1
  · subst hk
    by_cases hf : 16 ≤ fn
    · rw [show gFunction ⟨aw, fn, pa, no, wi, ar⟩ 1 = (3, ⟨aw, fn, pa, no, wi, ar⟩) by simp [gFunction, hf]]
      go_enter Tryz.func150, Tryz.ntmps150
      go_wp2
      go_ret
      exact ⟨rfl, av, h⟩
    · rw [show gFunction ⟨aw, fn, pa, no, wi, ar⟩ 1 = (0, ⟨1, fn + 1, 0, no, wi, ar⟩) by simp [gFunction, hf]]
      go_enter Tryz.func150, Tryz.ntmps150
      go_wp2
      go_ret
      exact ⟨rfl, av, ((h.set1 _).set2 _).set0 _⟩
  · have hk' : (k == 1) = false := by simpa using hk
    rw [show gFunction ⟨aw, fn, pa, no, wi, ar⟩ k = (2, ⟨aw, fn, pa, no, wi, ar⟩) by simp [gFunction, hk]]
    clear hk
    go_enter Tryz.func150, Tryz.ntmps150
    go_wp2
    go_ret
    exact ⟨rfl, av, h⟩

set_option maxHeartbeats 400000 in
theorem sTakeParameter (B b : Nat) (g : Gr) (av : Value) (k : Int) (w0 w : World) (h : GRep B w0 w b g av) (h0 : 0 ≤ g.pa) :
    Calls Tryz.prog 151 #[.pointer (some ⟨b, 0, none⟩), .int .i64 k] w fun e w' => e = .returned (.int .i64 (gParameter g k).1) ∧ ∃ av', GRep B w0 w' b (gParameter g k).2 av' := by
  have c0 := h.blk.c0
  have c1 := h.blk.c1
  have c2 := h.blk.c2
  have c3 := h.blk.c3
  have c4 := h.blk.c4
  have c5 := h.blk.c5
  have f0 := h.blk.fz 0
  have f1 := h.blk.fz 1
  have f2 := h.blk.fz 2
  have f3 := h.blk.fz 3
  have f4 := h.blk.fz 4
  have f5 := h.blk.fz 5
  obtain ⟨aw, fn, pa, no, wi, ar⟩ := g
  simp only at *
  by_cases hk : k = 4
  · subst hk
    rw [show gParameter ⟨aw, fn, pa, no, wi, ar⟩ 4 = (0, ⟨2, fn, pa, 0, wi, ar⟩) by simp [gParameter]]
    go_enter Tryz.func151, Tryz.ntmps151
    go_wp2
    go_ret
    exact ⟨rfl, av, (h.set3 _).set0 _⟩
  · by_cases hk1 : k = 1
    · subst hk1
      by_cases hf : 6 ≤ pa
      · rw [show gParameter ⟨aw, fn, pa, no, wi, ar⟩ 1 = (3, ⟨aw, fn, pa, no, wi, ar⟩) by simp [gParameter, hf]]
        go_enter Tryz.func151, Tryz.ntmps151
        go_wp2
        go_ret
        exact ⟨rfl, av, h⟩
      · rw [show gParameter ⟨aw, fn, pa, no, wi, ar⟩ 1 = (0, ⟨aw, fn, pa + 1, no, wi, ar⟩) by simp [gParameter, hf]]
        go_enter Tryz.func151, Tryz.ntmps151
        go_wp2
        go_ret
        exact ⟨rfl, av, h.set2 _⟩
    · rw [show gParameter ⟨aw, fn, pa, no, wi, ar⟩ k = (2, ⟨aw, fn, pa, no, wi, ar⟩) by simp [gParameter, hk, hk1]]
      have hk' : (k == 4) = false := by simpa using hk
      have hk1' : (k == 1) = false := by simpa using hk1
      clear hk hk1
      go_enter Tryz.func151, Tryz.ntmps151
      go_wp2
      go_ret
      exact ⟨rfl, av, h⟩

set_option maxHeartbeats 400000 in
theorem sTakeHead (B b : Nat) (g : Gr) (av : Value) (k : Int) (w0 w : World) (h : GRep B w0 w b g av) :
    Calls Tryz.prog 152 #[.pointer (some ⟨b, 0, none⟩), .int .i64 k] w fun e w' => e = .returned (.int .i64 (gHead g k).1) ∧ ∃ av', GRep B w0 w' b (gHead g k).2 av' := by
  have c0 := h.blk.c0
  have c1 := h.blk.c1
  have c2 := h.blk.c2
  have c3 := h.blk.c3
  have c4 := h.blk.c4
  have c5 := h.blk.c5
  have f0 := h.blk.fz 0
  have f1 := h.blk.fz 1
  have f2 := h.blk.fz 2
  have f3 := h.blk.fz 3
  have f4 := h.blk.fz 4
  have f5 := h.blk.fz 5
  obtain ⟨aw, fn, pa, no, wi, ar⟩ := g
  simp only at *
  cases hs : simpleK k
  · rw [show gHead ⟨aw, fn, pa, no, wi, ar⟩ k = (2, ⟨aw, fn, pa, no, wi, ar⟩) by simp [gHead, hs]]
    go_enter Tryz.func152, Tryz.ntmps152
    go_wp2_with (go_at_call 185; refine (sIsSimple _ _).mono ?_; rintro e w' ⟨rfl, rfl⟩)
    go_ret
    exact ⟨rfl, av, h⟩
  · rw [show gHead ⟨aw, fn, pa, no, wi, ar⟩ k = (0, ⟨3, fn, pa, no, 1, ar⟩) by simp [gHead, hs]]
    go_enter Tryz.func152, Tryz.ntmps152
    go_wp2_with (go_at_call 185; refine (sIsSimple _ _).mono ?_; rintro e w' ⟨rfl, rfl⟩)
    go_ret
    exact ⟨rfl, av, (h.set4 _).set0 _⟩

end Go.Proofs.YtnndoagpbcacdaaGreatDoor
