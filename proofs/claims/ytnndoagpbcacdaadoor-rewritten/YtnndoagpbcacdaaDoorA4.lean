import Derived.Test.YtnndoagpbcacdaaDoorA3
namespace Go.Proofs.YtnndoagpbcacdaaDoor
open Go.RowKit

theorem own_form {w : World} {base : Nat} {e : TypeId} {size n : Nat} {v : Value} {xs : List Value} (h : w.ownsRow base e size v n xs) : ∃ ao cap, v = .slice ao n cap := by
  rcases h.2 with ⟨rfl, rfl⟩ | ⟨g, cap, _, rfl, _⟩
  · exact ⟨none, 0, rfl⟩
  · exact ⟨_, cap, rfl⟩

theorem own_cap {w : World} {base : Nat} {e : TypeId} {size n m cap : Nat} {ao : Option Addr} {xs : List Value} (h : w.ownsRow base e size (.slice ao m cap) n xs) : m ≤ cap := by
  rcases h.2 with ⟨h0, _⟩ | ⟨g, cap', _, h0, _, _, hc, _⟩
  · cases h0; exact Nat.le_refl _
  · cases h0; exact hc

theorem len_ne {l : List Int} (h : l ≠ []) : ((l.length : Int) == 0) = false := by
  cases l with
  | nil => exact absurd rfl h
  | cons a r => simp; omega

/-- What every state keeps. -/
structure Gr.ok (g : Gr) : Prop where
  fn : 0 ≤ g.fn
  pa : 0 ≤ g.pa
  no : 0 ≤ g.no
  wi : 0 ≤ g.wi
  ar : ∀ x ∈ g.ar, 0 ≤ x

set_option maxHeartbeats 400000 in
theorem sCountPart (B b : Nat) (g : Gr) (av : Value) (w0 w : World) (h : GRep B w0 w b g av) (ok : g.ok) :
    Calls Tryd.prog 92 #[.pointer (some ⟨b, 0, none⟩)] w fun e w' => e = .returned (.int .i64 (gCount g).1) ∧ ∃ av', GRep B w0 w' b (gCount g).2 av' := by
  have c0 := h.blk.c0
  have c1 := h.blk.c1
  have c2 := h.blk.c2
  have c3 := h.blk.c3
  have c4 := h.blk.c4
  have c5 := h.blk.c5
  have f0 := h.blk.fz 0
  have f1 := h.blk.fz 1
  have f2 := h.blk.fz 2
  have f3 := h.blk.fz 3
  have f4 := h.blk.fz 4
  have f5 := h.blk.fz 5
  obtain ⟨aw, fn, pa, no, wi, ar⟩ := g
  simp only at *
  have k1 : 0 ≤ wi := ok.wi
  have k2 : 0 ≤ no := ok.no
  clear ok
  obtain ⟨ao, cap, rfl⟩ := own_form h.row
  by_cases h1 : 8 ≤ wi
  · rw [show gCount ⟨aw, fn, pa, no, wi, ar⟩ = (3, ⟨aw, fn, pa, no, wi, ar⟩) by simp [gCount, h1]]
    go_enter Tryd.func92, Tryd.ntmps92
    go_wp2
    go_ret
    exact ⟨rfl, _, h⟩
  · by_cases h2 : wi = 1
    · subst h2
      by_cases h3 : ar = []
      · rw [show gCount ⟨aw, fn, pa, no, 1, ar⟩ = (0, ⟨aw, fn, pa, no, 2, ar⟩) by simp [gCount, h3]]
        subst h3
        go_enter Tryd.func92, Tryd.ntmps92
        go_wp2
        go_ret
        exact ⟨rfl, _, h.set4 _⟩
      · have h3' := len_ne h3
        by_cases h4 : 12 ≤ no
        · rw [show gCount ⟨aw, fn, pa, no, 1, ar⟩ = (3, ⟨aw, fn, pa, no, 2, ar⟩) by simp [gCount, h3, h4]]
          clear h3
          go_enter Tryd.func92, Tryd.ntmps92
          go_wp2
          go_ret
          exact ⟨rfl, _, h.set4 _⟩
        · rw [show gCount ⟨aw, fn, pa, no, 1, ar⟩ = (0, ⟨aw, fn, pa, no + 1, 2, ar⟩) by simp [gCount, h3, h4]]
          clear h3
          go_enter Tryd.func92, Tryd.ntmps92
          go_wp2
          go_ret
          exact ⟨rfl, _, (h.set4 _).set3 _⟩
    · have h2' : (wi + 1 == 2) = false := by rw [beq_eq_false_iff_ne]; omega
      rw [show gCount ⟨aw, fn, pa, no, wi, ar⟩ = (0, ⟨aw, fn, pa, no, wi + 1, ar⟩) by simp [gCount, h1]; omega]
      clear h2
      go_enter Tryd.func92, Tryd.ntmps92
      go_wp2
      go_ret
      exact ⟨rfl, _, h.set4 _⟩

set_option maxHeartbeats 400000 in
theorem sEndDef (B b : Nat) (g : Gr) (av : Value) (w0 w : World) (h : GRep B w0 w b g av) :
    Calls Tryd.prog 89 #[.pointer (some ⟨b, 0, none⟩)] w fun e w' => e = .returned (.int .i64 (gEndDef g).1) ∧ ∃ av', GRep B w0 w' b (gEndDef g).2 av' := by
  have c0 := h.blk.c0
  have c1 := h.blk.c1
  have c2 := h.blk.c2
  have c3 := h.blk.c3
  have c4 := h.blk.c4
  have c5 := h.blk.c5
  have f0 := h.blk.fz 0
  have f1 := h.blk.fz 1
  have f2 := h.blk.fz 2
  have f3 := h.blk.fz 3
  have f4 := h.blk.fz 4
  have f5 := h.blk.fz 5
  obtain ⟨aw, fn, pa, no, wi, ar⟩ := g
  simp only at *
  obtain ⟨ao, cap, rfl⟩ := own_form h.row
  by_cases h3 : ar = []
  · rw [show gEndDef ⟨aw, fn, pa, no, wi, ar⟩ = (0, ⟨0, fn, pa, no, wi, ar⟩) by simp [gEndDef, h3]]
    subst h3
    go_enter Tryd.func89, Tryd.ntmps89
    go_wp2
    go_ret
    exact ⟨rfl, _, h.set0 _⟩
  · rw [show gEndDef ⟨aw, fn, pa, no, wi, ar⟩ = (2, ⟨aw, fn, pa, no, wi, ar⟩) by simp [gEndDef, h3]]
    have h4 : (0 : Int) < (ar.length : Int) := by cases ar with | nil => exact absurd rfl h3 | cons _ _ => simp
    clear h3
    go_enter Tryd.func89, Tryd.ntmps89
    go_wp2
    go_ret
    exact ⟨rfl, _, h⟩

theorem GRep.pop {B : Nat} {w0 w : World} {b : Nat} {aw fn pa no wi x : Int} {l : List Int} {q cap : Nat} (h : GRep B w0 w b ⟨aw, fn, pa, no, wi, l ++ [x]⟩ (.slice (some ⟨q, 0, none⟩) (l.length + 1) cap)) (y : Int) :
    GRep B w0 ((w.setCell ⟨b, 4, none⟩ (.int .i64 y)).setCell ⟨b, 5, none⟩ (.slice (some ⟨q, 0, none⟩) l.length cap)) b ⟨aw, fn, pa, no, y, l⟩ (.slice (some ⟨q, 0, none⟩) l.length cap) := by
  have h4 := h.set4 y
  refine ⟨blk_set _ h4.blk, h.lo, ?_, h4.bel.setCell h.lo _, h4.oth.set _ h4.blk⟩
  have hr := h4.row
  simp only [ints, List.map_append, List.map_cons, List.map_nil, List.length_append, List.length_cons, List.length_nil] at hr
  exact ownsRow_set (ownsRow_pop (by simp [ints]) hr) h4.blk (by decide)

set_option maxHeartbeats 400000 in
theorem sEndInner (B b : Nat) (g : Gr) (av : Value) (w0 w : World) (h : GRep B w0 w b g av) (hn : g.ar.length ≤ 1000000) :
    Calls Tryd.prog 90 #[.pointer (some ⟨b, 0, none⟩)] w fun e w' => e = .returned (.int .i64 (gEndInner g).1) ∧ ∃ av', GRep B w0 w' b (gEndInner g).2 av' := by
  have c0 := h.blk.c0
  have c1 := h.blk.c1
  have c2 := h.blk.c2
  have c3 := h.blk.c3
  have c4 := h.blk.c4
  have c5 := h.blk.c5
  have f0 := h.blk.fz 0
  have f1 := h.blk.fz 1
  have f2 := h.blk.fz 2
  have f3 := h.blk.fz 3
  have f4 := h.blk.fz 4
  have f5 := h.blk.fz 5
  obtain ⟨aw, fn, pa, no, wi, ar⟩ := g
  simp only at *
  rcases List.eq_nil_or_concat ar with rfl | ⟨l, x, rfl⟩
  · obtain ⟨ao, cap, rfl⟩ := own_form h.row
    rw [show gEndInner ⟨aw, fn, pa, no, wi, []⟩ = (2, ⟨aw, fn, pa, no, wi, []⟩) by simp [gEndInner]]
    go_enter Tryd.func90, Tryd.ntmps90
    go_wp2
    go_ret
    exact ⟨rfl, _, h⟩
  · simp only [List.concat_eq_append] at *
    rw [show gEndInner ⟨aw, fn, pa, no, wi, l ++ [x]⟩ = (0, ⟨aw, fn, pa, no, x, l⟩) by simp [gEndInner]]
    obtain ⟨q, cap, rfl, _, _⟩ := h.row.form (by simp)
    simp only [List.length_append, List.length_cons, List.length_nil, Nat.zero_add] at *
    have hcap : l.length + 1 ≤ cap := own_cap h.row
    have cq : w.cell? ⟨q, l.length, none⟩ = some (.int .i64 x) := by
      have := h.row.cells (g := q) rfl l.length (.int .i64 x) (by simp [ints])
      simpa [Addr.add_lit] using this
    go_enter Tryd.func90, Tryd.ntmps90
    go_wp2
    go_ret
    exact ⟨rfl, _, h.pop x⟩

end Go.Proofs.YtnndoagpbcacdaaDoor
