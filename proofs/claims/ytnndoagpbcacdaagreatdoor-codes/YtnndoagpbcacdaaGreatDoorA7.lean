import Derived.Test.YtnndoagpbcacdaaGreatDoorMA4
namespace Go.Proofs.YtnndoagpbcacdaaGreatDoor
open Go.RowKit

def gAll (n : Nat) : Gr → List Tk → Int × Int
  | g, [] => if g.fn = 0 ∨ g.aw ≠ 0 then (n, 2) else (0, 0)
  | g, t :: r => if (gTake g (kindOf t.txt)).1 = 0 then gAll n (gTake g (kindOf t.txt)).2 r else (t.pos, (gTake g (kindOf t.txt)).1)
def g0 : Gr := ⟨0, 0, 0, 0, 0, []⟩

theorem ownsRow_below {w w' : World} {base B : Nat} {e : TypeId} {size n : Nat} {v : Value} {xs : List Value} (h : w.ownsRow base e size v n xs) (hb : Below B w w') (hB : ∀ k, v.ownBlock = some k → k < B) : w'.ownsRow base e size v n xs := by
  refine ⟨h.1, ?_⟩
  rcases h.2 with hn | ⟨g, cap, cur, rfl, hg, hh, r⟩
  · exact .inl hn
  · refine .inr ⟨g, cap, cur, rfl, hg, ?_, r⟩
    rw [hb.block g (hB g rfl)]
    exact hh
theorem ownsRow_base {w : World} {base base' : Nat} {e : TypeId} {size n : Nat} {v : Value} {xs : List Value} (h : w.ownsRow base e size v n xs) (hb : base' ≤ base) : w.ownsRow base' e size v n xs := by
  refine ⟨h.1, ?_⟩
  rcases h.2 with hn | ⟨g, cap, cur, hv, hg, r⟩
  · exact .inl hn
  · exact .inr ⟨g, cap, cur, hv, by omega, r⟩
/-- Old rows stand when new memory is made. -/
theorem ownsRow_old {w w' : World} {base : Nat} {e : TypeId} {size n : Nat} {v : Value} {xs : List Value} (h : w.ownsRow base e size v n xs) (hb : Below w.heap.size w w') : w'.ownsRow base e size v n xs :=
  ownsRow_below h hb (fun k hk => (h.lt k hk).2)

theorem row_cell {w : World} {base : Nat} {e : TypeId} {size n q m cap : Nat} {xs : List Value} (h : w.ownsRow base e size (.slice (some ⟨q, 0, none⟩) m cap) n xs) (j : Nat) (u : Value) (hu : xs[j]? = some u) : w.cell? ⟨q, j, none⟩ = some u := by
  have := h.cells (g := q) rfl j u hu
  simpa [Addr.add_lit] using this

theorem tcs_at (ts : List Tk) (k : Nat) (h : k < ts.length) : (tcs ts)[k * 3]? = some (.int .i64 (kindOf (ts[k]'h).txt)) ∧ (tcs ts)[k * 3 + 1]? = some (.int .i64 (ts[k]'h).pos) ∧ (tcs ts)[k * 3 + 2]? = some (.string (ts[k]'h).txt) := by
  induction ts generalizing k with
  | nil => simp at h
  | cons t r ih =>
    cases k with
    | zero => simp [tcs, tcells]
    | succ k =>
      have := ih k (by simpa using h)
      simp only [tcs, List.flatMap_cons, tcells, List.getElem_cons_succ] at this ⊢
      refine ⟨?_, ?_, ?_⟩
      · rw [show (k + 1) * 3 = k * 3 + 1 + 1 + 1 by omega]; exact this.1
      · rw [show (k + 1) * 3 + 1 = (k * 3 + 1) + 1 + 1 + 1 by omega]; exact this.2.1
      · rw [show (k + 1) * 3 + 2 = (k * 3 + 2) + 1 + 1 + 1 by omega]; exact this.2.2

theorem Oth.alloc {w0 w : World} (h : Oth w0 w) (o : Obj) : Oth w0 (w.alloc o) := by
  intro k cs t fr h1 h2 h3
  have h4 := h k cs t fr h1 h2 h3
  exact (Below.heap_alloc w o k (Array.getElem?_eq_some_iff.1 h4).1).trans h4
theorem Oth.trans {a b c : World} (h : Oth a b) (h' : Oth b c) : Oth a c := fun k cs t fr h1 h2 h3 => h' k cs t fr h1 h2 (h k cs t fr h1 h2 h3)
/-- The grammar behind a new block, from there on. -/
theorem GRep.anew {B : Nat} {w0 w : World} {b : Nat} {g : Gr} {av : Value} (h : GRep B w0 w b g av) (o : Obj) : GRep B (w.alloc o) (w.alloc o) b g av :=
  ⟨(Below.heap_alloc w o b h.lt).trans h.blk, h.lo, h.row.alloc o, Below.refl _ _, Oth.refl _⟩
theorem GRep.join {B : Nat} {w0 w w1 : World} {b : Nat} {g g' : Gr} {av av' : Value} {o : Obj} (h : GRep B w0 w b g av) (h' : GRep B (w.alloc o) w1 b g' av') (hB : B ≤ w.heap.size) : GRep B w0 w1 b g' av' :=
  ⟨h'.blk, h'.lo, h'.row, (h.bel.alloc hB o).trans h'.bel, (h.oth.alloc o).trans h'.oth⟩

theorem ret_two {a b : Int × Int} (h : a = b) : Ending.returned (.tuple #[.int .i64 a.1, .int .i64 a.2]) = .returned (.tuple #[.int .i64 b.1, .int .i64 b.2]) := by rw [h]

set_option maxHeartbeats 1000000 in
theorem sCheckGrammar (s : ByteArray) (v : Value) (ts : List Tk) (w : World) (_hs : s.size ≤ 1000) (hl : ts.length ≤ 1000) (hv : w.ownsRow 0 84 3 v ts.length (tcs ts)) :
    Calls Tryz.prog 60 #[.string s, v] w fun e w' => e = .returned (.tuple #[.int .i64 (gAll s.size g0 ts).1, .int .i64 (gAll s.size g0 ts).2]) ∧ Below w.heap.size w w' := by
  obtain ⟨ao, cap, rfl⟩ := own_form hv
  generalize hR : gAll s.size g0 ts = R
  have HR : Hid (gAll s.size g0 ts = R) := hR
  clear hR
  go_enter Tryz.func60, Tryz.ntmps60
  go_wp2_with fail
  go_loopw [12] (fun a wr => ∃ (k : Nat) (g : Gr) (av : Value), k ≤ ts.length ∧ a = .int .i64 k ∧ Hid (gAll s.size g (ts.drop k) = R) ∧ GRep w.heap.size w wr w.heap.size g av ∧ g.ok ∧ g.ar.length ≤ k) (fun a _ => ts.length - (intOf a).toNat)
  case atStart => exact ⟨0, g0, .slice none 0 0, Nat.zero_le _, rfl, HR, ⟨heap_alloc_new w _, Nat.le_refl _, World.ownsRow_nil _ _ _ _, (Below.refl _ _).alloc (Nat.le_refl _) _, (Oth.refl w).alloc _⟩, ⟨by decide, by decide, by decide, by decide, by simp [g0]⟩, Nat.le_refl _⟩
  case round =>
    obtain ⟨k, g, av, hk, rfl, HG, hrep, ok, har⟩ := hrel
    by_cases hlt : k < ts.length
    · obtain ⟨q, cap', hq, _, hqlt⟩ := hv.form (by omega)
      cases hq
      have hvr := ownsRow_old hv hrep.bel
      have ⟨t0, t1, t2⟩ := tcs_at ts k hlt
      have d0 := row_cell hvr _ _ t0
      have d1 := row_cell hvr _ _ t1
      have d2 := row_cell hvr _ _ t2
      clear t0 t1 t2 hvr
      have hbsz := hrep.bel.size
      have htk := gTake_len g (kindOf ts[k].txt)
      have hok := gTake_ok ok (kindOf ts[k].txt)
      by_cases he : (gTake g (kindOf ts[k].txt)).1 = 0
      · have HG2 : Hid (gAll s.size (gTake g (kindOf ts[k].txt)).2 (ts.drop (k + 1)) = R) := by
          have := HG.out
          rw [List.drop_eq_getElem_cons hlt, gAll, if_pos he] at this
          exact this
        go_wp2_with fail
        refine (sTake w.heap.size w.heap.size g av _ _ _ (hrep.anew _) ok (by omega)).mono ?_
        rintro e w1 ⟨rfl, av1, hg⟩
        go_wp2_with fail
        go_roundw
        case rel => exact ⟨k + 1, _, av1, by omega, by go_num, HG2, hrep.join hg hbsz, hok, by omega⟩
        case measure => simp [intOf]; omega
      · have HG2 : Hid ((((ts[k].pos : Nat) : Int), (gTake g (kindOf ts[k].txt)).1) = R) := by
          have := HG.out
          rw [List.drop_eq_getElem_cons hlt, gAll, if_neg he] at this
          exact this
        have he' : ((gTake g (kindOf ts[k].txt)).1 == 0) = false := by simpa using he
        clear he
        go_wp2_with fail
        refine (sTake w.heap.size w.heap.size g av _ _ _ (hrep.anew _) ok (by omega)).mono ?_
        rintro e w1 ⟨rfl, av1, hg⟩
        have hbox := hg.oth wr.heap.size _ _ _ (by decide) (by decide) (heap_alloc_new wr _)
        have e1 := cell_of_row w1 wr.heap.size 1 _ _ _ hbox
        simp only [List.getElem?_toArray, List.getElem?_cons_succ, List.getElem?_cons_zero] at e1
        clear hbox
        go_wp2_with fail
        go_ret2
        exact ⟨ret_two HG2.out, (hrep.bel.alloc hbsz _).trans hg.bel⟩
    · have e0 : k = ts.length := by omega
      have HG2 : Hid (gAll s.size g [] = R) := by have := HG.out; rw [List.drop_eq_nil_of_le (by omega)] at this; exact this
      have c0 := hrep.blk.c0
      have c1 := hrep.blk.c1
      by_cases h1 : g.fn = 0
      · have h2 : Hid ((((s.size : Nat) : Int), (2 : Int)) = R) := by have := HG2.out; simp [gAll, h1] at this; exact this
        go_wp2_with fail
        go_ret2
        exact ⟨ret_two h2.out, hrep.bel⟩
      · have h1' : (g.fn == 0) = false := by simpa using h1
        by_cases h3 : g.aw = 0
        · have h2 : Hid (((0 : Int), (0 : Int)) = R) := by have := HG2.out; simp [gAll, h1, h3] at this; exact this
          clear h1
          go_wp2_with fail
          go_ret2
          exact ⟨ret_two h2.out, hrep.bel⟩
        · have h3' : (g.aw == 0) = false := by simpa using h3
          have h2 : Hid ((((s.size : Nat) : Int), (2 : Int)) = R) := by have := HG2.out; simp [gAll, h1, h3] at this; exact this
          clear h1 h3
          go_wp2_with fail
          go_ret2
          exact ⟨ret_two h2.out, hrep.bel⟩

end Go.Proofs.YtnndoagpbcacdaaGreatDoor
