import Derived.Test.YtnndoagpbcacdaaGreatDoorMA1
namespace Go.Proofs.YtnndoagpbcacdaaGreatDoor
open Go.RowKit

theorem own_form {w : World} {base : Nat} {e : TypeId} {size n : Nat} {v : Value} {xs : List Value} (h : w.ownsRow base e size v n xs) : ∃ ao cap, v = .slice ao n cap := by
  rcases h.2 with ⟨rfl, rfl⟩ | ⟨g, cap, _, rfl, _⟩
  · exact ⟨none, 0, rfl⟩
  · exact ⟨_, cap, rfl⟩

theorem own_cap {w : World} {base : Nat} {e : TypeId} {size n m cap : Nat} {ao : Option Addr} {xs : List Value} (h : w.ownsRow base e size (.slice ao m cap) n xs) : m ≤ cap := by
  rcases h.2 with ⟨h0, _⟩ | ⟨g, cap', _, h0, _, _, hc, _⟩
  · cases h0; exact Nat.le_refl _
  · cases h0; exact hc

theorem len_ne {l : List Int} (h : l ≠ []) : ((l.length : Int) == 0) = false := by
  cases l with
  | nil => exact absurd rfl h
  | cons a r => simp; omega

/-- What every state keeps. -/
structure Gr.ok (g : Gr) : Prop where
  fn : 0 ≤ g.fn
  pa : 0 ≤ g.pa
  no : 0 ≤ g.no
  wi : 0 ≤ g.wi
  ar : ∀ x ∈ g.ar, 0 ≤ x

set_option maxHeartbeats 400000 in
theorem sCountPart (B b : Nat) (g : Gr) (av : Value) (w0 w : World) (h : GRep B w0 w b g av) (ok : g.ok) :
    Calls Tryz.prog 189 #[.pointer (some ⟨b, 0, none⟩)] w fun e w' => e = .returned (.int .i64 (gCount g).1) ∧ ∃ av', GRep B w0 w' b (gCount g).2 av' := by
  have c0 := h.blk.c0
  have c1 := h.blk.c1
  have c2 := h.blk.c2
  have c3 := h.blk.c3
  have c4 := h.blk.c4
  have c5 := h.blk.c5
  have f0 := h.blk.fz 0
  have f1 := h.blk.fz 1
  have f2 := h.blk.fz 2
  have f3 := h.blk.fz 3
  have f4 := h.blk.fz 4
  have f5 := h.blk.fz 5
  obtain ⟨aw, fn, pa, no, wi, ar⟩ := g
  simp only at *
  have k1 : 0 ≤ wi := ok.wi
  have k2 : 0 ≤ no := ok.no
  clear ok
  obtain ⟨ao, cap, rfl⟩ := own_form h.row
  by_cases h1 : 8 ≤ wi
  · rw [show gCount ⟨aw, fn, pa, no, wi, ar⟩ = (3, ⟨aw, fn, pa, no, wi, ar⟩) by simp [gCount, h1]]
    go_enter Tryz.func189, Tryz.ntmps189
    go_wp2
    go_ret
    exact ⟨rfl, _, h⟩
  · by_cases h2 : wi = 1
    · subst h2
      by_cases h3 : ar = []
      · rw [show gCount ⟨aw, fn, pa, no, 1, ar⟩ = (0, ⟨aw, fn, pa, no, 2, ar⟩) by simp [gCount, h3]]
        subst h3
        go_enter Tryz.func189, Tryz.ntmps189
        go_wp2
        go_ret
        exact ⟨rfl, _, h.set4 _⟩
      · have h3' := len_ne h3
        by_cases h4 : 12 ≤ no
        · rw [show gCount ⟨aw, fn, pa, no, 1, ar⟩ = (3, ⟨aw, fn, pa, no, 2, ar⟩) by simp [gCount, h3, h4]]
          clear h3
          go_enter Tryz.func189, Tryz.ntmps189
          go_wp2
          go_ret
          exact ⟨rfl, _, h.set4 _⟩
        · rw [show gCount ⟨aw, fn, pa, no, 1, ar⟩ = (0, ⟨aw, fn, pa, no + 1, 2, ar⟩) by simp [gCount, h3, h4]]
          clear h3
          go_enter Tryz.func189, Tryz.ntmps189
          go_wp2
          go_ret
          exact ⟨rfl, _, (h.set4 _).set3 _⟩
    · have h2' : (wi + 1 == 2) = false := by rw [beq_eq_false_iff_ne]; omega
      rw [show gCount ⟨aw, fn, pa, no, wi, ar⟩ = (0, ⟨aw, fn, pa, no, wi + 1, ar⟩) by simp [gCount, h1]; omega]
      clear h2
      go_enter Tryz.func189, Tryz.ntmps189
      go_wp2
      go_ret
      exact ⟨rfl, _, h.set4 _⟩

set_option maxHeartbeats 400000 in
theorem sEndDef (B b : Nat) (g : Gr) (av : Value) (w0 w : World) (h : GRep B w0 w b g av) :
    Calls Tryz.prog 186 #[.pointer (some ⟨b, 0, none⟩)] w fun e w' => e = .returned (.int .i64 (gEndDef g).1) ∧ ∃ av', GRep B w0 w' b (gEndDef g).2 av' := by
  have c0 := h.blk.c0
  have c1 := h.blk.c1
  have c2 := h.blk.c2
  have c3 := h.blk.c3
  have c4 := h.blk.c4
  have c5 := h.blk.c5
  have f0 := h.blk.fz 0
  have f1 := h.blk.fz 1
  have f2 := h.blk.fz 2
  have f3 := h.blk.fz 3
  have f4 := h.blk.fz 4
  have f5 := h.blk.fz 5
  obtain ⟨aw, fn, pa, no, wi, ar⟩ := g
  simp only at *
  obtain ⟨ao, cap, rfl⟩ := own_form h.row
  by_cases h3 : ar = []
  · rw [show gEndDef ⟨aw, fn, pa, no, wi, ar⟩ = (0, ⟨0, fn, pa, no, wi, ar⟩) by simp [gEndDef, h3]]
    subst h3
    go_enter Tryz.func186, Tryz.ntmps186
    go_wp2
    go_ret
    exact ⟨rfl, _, h.set0 _⟩
  · rw [show gEndDef ⟨aw, fn, pa, no, wi, ar⟩ = (2, ⟨aw, fn, pa, no, wi, ar⟩) by simp [gEndDef, h3]]
    have h4 : (0 : Int) < (ar.length : Int) := by cases ar with | nil => exact absurd rfl h3 | cons _ _ => simp
    clear h3
    go_enter Tryz.func186, Tryz.ntmps186
    go_wp2
    go_ret
    exact ⟨rfl, _, h⟩

theorem GRep.pop {B : Nat} {w0 w : World} {b : Nat} {aw fn pa no wi x : Int} {l : List Int} {q cap : Nat} (h : GRep B w0 w b ⟨aw, fn, pa, no, wi, l ++ [x]⟩ (.slice (some ⟨q, 0, none⟩) (l.length + 1) cap)) (y : Int) :
    GRep B w0 ((w.setCell ⟨b, 4, none⟩ (.int .i64 y)).setCell ⟨b, 5, none⟩ (.slice (some ⟨q, 0, none⟩) l.length cap)) b ⟨aw, fn, pa, no, y, l⟩ (.slice (some ⟨q, 0, none⟩) l.length cap) := by
  have h4 := h.set4 y
  refine ⟨blk_set _ h4.blk, h.lo, ?_, h4.bel.setCell h.lo _, h4.oth.set _ h4.blk⟩
  have hr := h4.row
  simp only [ints, List.map_append, List.map_cons, List.map_nil, List.length_append, List.length_cons, List.length_nil] at hr
  exact ownsRow_set (ownsRow_pop (by simp [ints]) hr) h4.blk (by decide)

set_option maxHeartbeats 400000 in
theorem sEndInner (B b : Nat) (g : Gr) (av : Value) (w0 w : World) (h : GRep B w0 w b g av) (hn : g.ar.length ≤ 1000000) :
    Calls Tryz.prog 187 #[.pointer (some ⟨b, 0, none⟩)] w fun e w' => e = .returned (.int .i64 (gEndInner g).1) ∧ ∃ av', GRep B w0 w' b (gEndInner g).2 av' := by
  have c0 := h.blk.c0
  have c1 := h.blk.c1
  have c2 := h.blk.c2
  have c3 := h.blk.c3
  have c4 := h.blk.c4
  have c5 := h.blk.c5
  have f0 := h.blk.fz 0
  have f1 := h.blk.fz 1
  have f2 := h.blk.fz 2
  have f3 := h.blk.fz 3
  have f4 := h.blk.fz 4
  have f5 := h.blk.fz 5
  obtain ⟨aw, fn, pa, no, wi, ar⟩ := g
  simp only at *
  rcases List.eq_nil_or_concat ar with rfl | ⟨l, x, rfl⟩
  · obtain ⟨ao, cap, rfl⟩ := own_form h.row
    rw [show gEndInner ⟨aw, fn, pa, no, wi, []⟩ = (2, ⟨aw, fn, pa, no, wi, []⟩) by simp [gEndInner]]
    go_enter Tryz.func187, Tryz.ntmps187
    go_wp2
    go_ret
    exact ⟨rfl, _, h⟩
  · simp only [List.concat_eq_append] at *
    rw [show gEndInner ⟨aw, fn, pa, no, wi, l ++ [x]⟩ = (0, ⟨aw, fn, pa, no, x, l⟩) by simp [gEndInner]]
    obtain ⟨q, cap, rfl, _, _⟩ := h.row.form (by simp)
    simp only [List.length_append, List.length_cons, List.length_nil, Nat.zero_add] at *
    have hcap : l.length + 1 ≤ cap := own_cap h.row
    have cq : w.cell? ⟨q, l.length, none⟩ = some (.int .i64 x) := by
      have := h.row.cells (g := q) rfl l.length (.int .i64 x) (by simp [ints])
      simpa [Addr.add_lit] using this
    go_enter Tryz.func187, Tryz.ntmps187
    go_wp2
    go_ret
    exact ⟨rfl, _, h.pop x⟩

end Go.Proofs.YtnndoagpbcacdaaGreatDoor
namespace Go.Proofs.YtnndoagpbcacdaaGreatDoor
open Go.RowKit

/-- Behind an append to the widths the grammar's block is as it was. -/
theorem GBlk.grown {w w' : World} {b : Nat} {g : Gr} {av : Value} {B n size : Nat} {xs : List Value} {o : Obj} (h : GBlk w b g av) (hr : w.ownsRow B 3 size av n xs) (hg : (w.alloc o).drew.grownBy w' av.ownBlock) : GBlk w' b g av := by
  have hlt : b < w.heap.size := (Array.getElem?_eq_some_iff.1 h).1
  have hne : some b ≠ av.ownBlock := by
    intro e
    rcases hr.2 with ⟨rfl, _⟩ | ⟨q, cap, cur, rfl, _, hq, _⟩
    · simp [Value.ownBlock] at e
    · simp [Value.ownBlock] at e
      subst e
      unfold GBlk at h
      rw [hq] at h
      simp at h
  have := hg.block b (by simp; omega) hne
  unfold GBlk
  rw [this]
  exact (Below.heap_alloc w o b hlt).trans h

theorem Oth.grown {w0 w w' : World} {av : Value} {B n size : Nat} {xs : List Value} {o : Obj} (h : Oth w0 w) (hr : w.ownsRow B 3 size av n xs) (hg : (w.alloc o).drew.grownBy w' av.ownBlock) : Oth w0 w' := by
  intro k cs t fr h1 h2 h3
  have h4 := h k cs t fr h1 h2 h3
  have hlt : k < w.heap.size := (Array.getElem?_eq_some_iff.1 h4).1
  have hne : some k ≠ av.ownBlock := by
    intro e
    rcases hr.2 with ⟨rfl, _⟩ | ⟨q, cap, cur, rfl, _, hq, _⟩
    · simp [Value.ownBlock] at e
    · simp [Value.ownBlock] at e
      subst e
      rw [hq] at h4
      simp at h4
      exact h2 h4.2.1.symm
  rw [hg.block k (by simp; omega) hne]
  exact (Below.heap_alloc w o k hlt).trans h4

theorem Tryz.infoInt : (Tryz.prog.info? 3).map (fun i => (i.zero, i.size, i.bytes)) = some (some (.int .i64 0), 1, 8) := by kernel_rfl

theorem GRep.push {B : Nat} {w0 w2 : World} {b : Nat} {aw fn pa no wi : Int} {ar : List Int} {av nv : Value} (hB2 : GBlk w2 b ⟨aw, fn, pa, no, wi, ar⟩ av) (hlo : B ≤ b) (hown : w2.ownsRow B 3 1 nv (ar.length + 1) (ints ar ++ [.int .i64 wi])) (bel : Below B w0 w2) (oth : Oth w0 w2) :
    GRep B w0 ((w2.setCell ⟨b, 5, none⟩ nv).setCell ⟨b, 0, none⟩ (.int .i64 2)) b ⟨2, fn, pa, no, wi, ar ++ [wi]⟩ nv := by
  refine ⟨blk_set _ (blk_set _ hB2), hlo, ?_, (bel.setCell hlo _).setCell hlo _, (oth.set _ hB2).set _ (blk_set _ hB2)⟩
  have := ownsRow_set (i := 0) (u := .int .i64 2) (ownsRow_set (i := 5) (u := nv) hown hB2 (by decide)) (blk_set _ hB2) (by decide)
  simpa [ints] using this

set_option maxHeartbeats 1000000 in
theorem sBegin (B b : Nat) (g : Gr) (av : Value) (w0 w : World) (h : GRep B w0 w b g av) (ok : g.ok) (hn : g.ar.length ≤ 1000000) :
    Calls Tryz.prog 188 #[.pointer (some ⟨b, 0, none⟩)] w fun e w' => e = .returned (.int .i64 (gBegin g).1) ∧ ∃ av', GRep B w0 w' b (gBegin g).2 av' := by
  obtain ⟨i, hi, hz0, hz1, hz2⟩ := info_parts Tryz.infoInt
  have har : (gCount g).2.ar = g.ar := by unfold gCount; split <;> (try split) <;> (try split) <;> rfl
  by_cases he : (gCount g).1 = 0
  · rw [show gBegin g = (0, { (gCount g).2 with ar := (gCount g).2.ar ++ [(gCount g).2.wi], aw := 2 }) by simp [gBegin, he]]
    have hlen : (gCount g).2.ar.length ≤ 1000000 := by rw [har]; exact hn
    clear har hn
    generalize hq : (gCount g).2 = q2 at *
    have HQ : Hid ((gCount g).2 = q2) := hq
    clear hq
    obtain ⟨aw, fn, pa, no, wi, ar⟩ := q2
    simp only at *
    go_enter Tryz.func188, Tryz.ntmps188
    go_wp2_with (go_at_call 189; refine (sCountPart B b g av w0 _ h ok).mono ?_; rintro e w1 ⟨rfl, av1, hg⟩)
    rw [HQ.out] at hg
    clear HQ ok h
    have c4 := hg.blk.c4
    have c5 := hg.blk.c5
    have f5 := hg.blk.fz 5
    have f0 := hg.blk.fz 0
    have c0 := hg.blk.c0
    have hrow := hg.row
    have hsz := hg.bel.size
    have hblt := hg.lt
    have hlo := hg.lo
    simp only at *
    go_region_law ((refine step_append_lies _ (by rfl) _ _ _ (by rfl) B 3 i _ 1 8 Tryz.underlying35 hi hz0 hz1 hz2 rfl (by omega) av1 ar.length (ints ar) (by rfl) (by exact hrow.alloc _) _ 1 _ [.int .i64 wi] (by rfl) rfl (by exact World.news_of_block (heap_alloc_new w1 _)) (by simp [Value.oneCell']) (by omega) (by unfold maxLen; omega) (by omega) (by simp; omega) _ rfl ?_; intro q cap w2 hown2 hgrow hat hlt2; have hB2 := hg.blk.grown hrow hgrow; have c5' := hB2.c5; have f5' := hB2.fz 5; have f0' := hB2.fz 0; have c0' := hB2.c0; have bel2 := (Below.drew (hg.bel.alloc (o := Obj.cells #[.int .i64 wi] 3) (by omega))).grown hgrow (by simp; omega) (fun k hk => (hrow.lt k hk).1); have oth2 := hg.oth.grown hrow hgrow))
    all_goals go_wp2
    all_goals go_ret
    all_goals exact ⟨rfl, _, GRep.push hB2 hlo hown2 bel2 oth2⟩
  · rw [show gBegin g = gCount g by simp [gBegin, he]]
    have he' : ((gCount g).1 == 0) = false := by simpa using he
    clear he har
    generalize hq : gCount g = q at *
    have HQ : Hid (gCount g = q) := hq
    clear hq
    obtain ⟨q1, q2⟩ := q
    simp only at *
    go_enter Tryz.func188, Tryz.ntmps188
    go_wp2_with fail
    refine (sCountPart B b g av w0 _ h ok).mono ?_
    rintro e w1 ⟨he1, av1, hg⟩
    rw [HQ.out] at he1 hg
    subst he1
    clear HQ h ok
    have hne : (q1 == 0) = false := he'
    clear he' hi hz0 hz1 hz2
    dsimp only
    go_wp2
    go_ret
    exact ⟨rfl, _, hg⟩

end Go.Proofs.YtnndoagpbcacdaaGreatDoor
namespace Go.Proofs.YtnndoagpbcacdaaGreatDoor
open Go.RowKit

theorem gCount_ok {g : Gr} (h : g.ok) : (gCount g).2.ok := by
  obtain ⟨h1, h2, h3, h4, h5⟩ := h
  unfold gCount
  split
  · exact ⟨h1, h2, h3, h4, h5⟩
  · split
    · exact ⟨h1, h2, h3, by show 0 ≤ g.wi + 1; omega, h5⟩
    · split
      · exact ⟨h1, h2, h3, by show 0 ≤ g.wi + 1; omega, h5⟩
      · exact ⟨h1, h2, by show 0 ≤ g.no + 1; omega, by show 0 ≤ g.wi + 1; omega, h5⟩
theorem gCount_ar (g : Gr) : (gCount g).2.ar = g.ar := by
  unfold gCount; split <;> (try split) <;> (try split) <;> rfl
theorem gBegin_ok {g : Gr} (h : g.ok) : (gBegin g).2.ok := by
  have hc := gCount_ok h
  unfold gBegin
  split
  · obtain ⟨h1, h2, h3, h4, h5⟩ := hc
    refine ⟨h1, h2, h3, h4, ?_⟩
    intro x hx
    simp only [List.mem_append, List.mem_cons, List.not_mem_nil, or_false] at hx
    rcases hx with hx | hx
    · exact h5 x hx
    · rw [hx]; exact h4
  · exact hc
theorem gEndInner_ok {g : Gr} (h : g.ok) : (gEndInner g).2.ok := by
  obtain ⟨h1, h2, h3, h4, h5⟩ := h
  unfold gEndInner
  split
  · exact ⟨h1, h2, h3, h4, h5⟩
  · refine ⟨h1, h2, h3, ?_, fun x hx => h5 x (List.dropLast_subset _ hx)⟩
    show 0 ≤ g.ar.getLast?.getD 0
    cases hl : g.ar.getLast? with
    | none => simp
    | some y => exact h5 y (List.mem_of_getLast? hl)
theorem gTake_ok {g : Gr} (h : g.ok) (k : Int) : (gTake g k).2.ok := by
  have h' := h
  obtain ⟨h1, h2, h3, h4, h5⟩ := h
  unfold gTake
  split
  · unfold gFunction; split
    · exact h'
    · split
      · exact h'
      · exact ⟨by show 0 ≤ g.fn + 1; omega, by show (0 : Int) ≤ 0; omega, h3, h4, h5⟩
  · split
    · unfold gParameter; split
      · exact ⟨h1, h2, by show (0 : Int) ≤ 0; omega, h4, h5⟩
      · split
        · exact h'
        · split
          · exact h'
          · exact ⟨h1, by show 0 ≤ g.pa + 1; omega, h3, h4, h5⟩
    · split
      · unfold gHead; split
        · exact ⟨h1, h2, h3, by show (0 : Int) ≤ 1; omega, h5⟩
        · exact h'
      · unfold gPart; split
        · unfold gEndDef; split
          · exact ⟨h1, h2, h3, h4, h5⟩
          · exact h'
        · split
          · exact gEndInner_ok h'
          · split
            · exact gBegin_ok h'
            · split
              · exact gCount_ok h'
              · exact h'
theorem gTake_len (g : Gr) (k : Int) : (gTake g k).2.ar.length ≤ g.ar.length + 1 := by
  unfold gTake
  split
  · unfold gFunction; split <;> (try split) <;> simp
  · split
    · unfold gParameter; split <;> (try split) <;> (try split) <;> simp
    · split
      · unfold gHead; split <;> simp
      · unfold gPart; split
        · unfold gEndDef; split <;> simp
        · split
          · unfold gEndInner; split <;> simp
            omega
          · split
            · unfold gBegin; split
              · simp [gCount_ar]
              · rw [gCount_ar]; omega
            · split
              · rw [gCount_ar]; omega
              · simp

set_option maxHeartbeats 400000 in
theorem sTakePart (B b : Nat) (g : Gr) (av : Value) (k : Int) (w0 w : World) (h : GRep B w0 w b g av) (ok : g.ok) (hn : g.ar.length ≤ 1000000) :
    Calls Tryz.prog 153 #[.pointer (some ⟨b, 0, none⟩), .int .i64 k] w fun e w' => e = .returned (.int .i64 (gPart g k).1) ∧ ∃ av', GRep B w0 w' b (gPart g k).2 av' := by
  by_cases h5 : k = 5
  · subst h5
    rw [show gPart g 5 = gEndDef g by simp [gPart]]
    go_enter Tryz.func153, Tryz.ntmps153
    go_wp2_with fail
    refine (sEndDef B b g av w0 _ h).mono ?_
    rintro e w1 ⟨rfl, av1, hg⟩
    go_wp2
    go_ret
    exact ⟨rfl, _, hg⟩
  · have h5' : (k == 5) = false := by simpa using h5
    by_cases h7 : k = 7
    · subst h7
      clear h5 h5'
      rw [show gPart g 7 = gEndInner g by simp [gPart]]
      go_enter Tryz.func153, Tryz.ntmps153
      go_wp2_with fail
      refine (sEndInner B b g av w0 _ h hn).mono ?_
      rintro e w1 ⟨rfl, av1, hg⟩
      go_wp2
      go_ret
      exact ⟨rfl, _, hg⟩
    · have h7' : (k == 7) = false := by simpa using h7
      by_cases h6 : k = 6
      · subst h6
        clear h5 h5' h7 h7'
        rw [show gPart g 6 = gBegin g by simp [gPart]]
        go_enter Tryz.func153, Tryz.ntmps153
        go_wp2_with fail
        refine (sBegin B b g av w0 _ h ok hn).mono ?_
        rintro e w1 ⟨rfl, av1, hg⟩
        go_wp2
        go_ret
        exact ⟨rfl, _, hg⟩
      · have h6' : (k == 6) = false := by simpa using h6
        cases hs : simpleK k
        · rw [show gPart g k = (2, g) by simp [gPart, h5, h6, h7, hs]]
          clear h5 h6 h7
          go_enter Tryz.func153, Tryz.ntmps153
          go_wp2_with fail
          refine (sIsSimple _ _).mono ?_
          rintro e w1 ⟨rfl, rfl⟩
          go_wp2
          go_ret
          exact ⟨rfl, _, h⟩
        · rw [show gPart g k = gCount g by simp [gPart, h5, h6, h7, hs]]
          clear h5 h6 h7
          go_enter Tryz.func153, Tryz.ntmps153
          go_wp2_with fail
          refine (sIsSimple _ _).mono ?_
          rintro e w1 ⟨rfl, rfl⟩
          go_wp2_with fail
          refine (sCountPart B b g av w0 _ h ok).mono ?_
          rintro e w1 ⟨rfl, av1, hg⟩
          go_wp2
          go_ret
          exact ⟨rfl, _, hg⟩

set_option maxHeartbeats 400000 in
theorem sTake (B b : Nat) (g : Gr) (av : Value) (k : Int) (w0 w : World) (h : GRep B w0 w b g av) (ok : g.ok) (hn : g.ar.length ≤ 1000000) :
    Calls Tryz.prog 100 #[.pointer (some ⟨b, 0, none⟩), .int .i64 k] w fun e w' => e = .returned (.int .i64 (gTake g k).1) ∧ ∃ av', GRep B w0 w' b (gTake g k).2 av' := by
  have c0 := h.blk.c0
  by_cases h0 : g.aw = 0
  · rw [show gTake g k = gFunction g k by simp [gTake, h0]]
    go_enter Tryz.func100, Tryz.ntmps100
    go_wp2_with fail
    refine (sTakeFunction B b g av k w0 _ h ok.fn).mono ?_
    rintro e w1 ⟨rfl, av1, hg⟩
    go_wp2
    go_ret
    exact ⟨rfl, _, hg⟩
  · have h0' : (g.aw == 0) = false := by simpa using h0
    by_cases h1 : g.aw = 1
    · rw [show gTake g k = gParameter g k by simp [gTake, h1]]
      clear h0 h0'
      go_enter Tryz.func100, Tryz.ntmps100
      go_wp2_with fail
      refine (sTakeParameter B b g av k w0 _ h ok.pa).mono ?_
      rintro e w1 ⟨rfl, av1, hg⟩
      go_wp2
      go_ret
      exact ⟨rfl, _, hg⟩
    · have h1' : (g.aw == 1) = false := by simpa using h1
      by_cases h2 : g.aw = 2
      · rw [show gTake g k = gHead g k by simp [gTake, h2]]
        clear h0 h0' h1 h1'
        go_enter Tryz.func100, Tryz.ntmps100
        go_wp2_with fail
        refine (sTakeHead B b g av k w0 _ h).mono ?_
        rintro e w1 ⟨rfl, av1, hg⟩
        go_wp2
        go_ret
        exact ⟨rfl, _, hg⟩
      · have h2' : (g.aw == 2) = false := by simpa using h2
        rw [show gTake g k = gPart g k by simp [gTake, h0, h1, h2]]
        clear h0 h1 h2
        go_enter Tryz.func100, Tryz.ntmps100
        go_wp2_with fail
        refine (sTakePart B b g av k w0 _ h ok hn).mono ?_
        rintro e w1 ⟨rfl, av1, hg⟩
        go_wp2
        go_ret
        exact ⟨rfl, _, hg⟩

end Go.Proofs.YtnndoagpbcacdaaGreatDoor
namespace Go.Proofs.YtnndoagpbcacdaaGreatDoor
open Go.RowKit

def gAll (n : Nat) : Gr → List Tk → Int × Int
  | g, [] => if g.fn = 0 ∨ g.aw ≠ 0 then (n, 2) else (0, 0)
  | g, t :: r => if (gTake g (kindOf t.txt)).1 = 0 then gAll n (gTake g (kindOf t.txt)).2 r else (t.pos, (gTake g (kindOf t.txt)).1)
def g0 : Gr := ⟨0, 0, 0, 0, 0, []⟩

theorem ownsRow_below {w w' : World} {base B : Nat} {e : TypeId} {size n : Nat} {v : Value} {xs : List Value} (h : w.ownsRow base e size v n xs) (hb : Below B w w') (hB : ∀ k, v.ownBlock = some k → k < B) : w'.ownsRow base e size v n xs := by
  refine ⟨h.1, ?_⟩
  rcases h.2 with hn | ⟨g, cap, cur, rfl, hg, hh, r⟩
  · exact .inl hn
  · refine .inr ⟨g, cap, cur, rfl, hg, ?_, r⟩
    rw [hb.block g (hB g rfl)]
    exact hh
theorem ownsRow_base {w : World} {base base' : Nat} {e : TypeId} {size n : Nat} {v : Value} {xs : List Value} (h : w.ownsRow base e size v n xs) (hb : base' ≤ base) : w.ownsRow base' e size v n xs := by
  refine ⟨h.1, ?_⟩
  rcases h.2 with hn | ⟨g, cap, cur, hv, hg, r⟩
  · exact .inl hn
  · exact .inr ⟨g, cap, cur, hv, by omega, r⟩
/-- Old rows stand when new memory is made. -/
theorem ownsRow_old {w w' : World} {base : Nat} {e : TypeId} {size n : Nat} {v : Value} {xs : List Value} (h : w.ownsRow base e size v n xs) (hb : Below w.heap.size w w') : w'.ownsRow base e size v n xs :=
  ownsRow_below h hb (fun k hk => (h.lt k hk).2)

theorem row_cell {w : World} {base : Nat} {e : TypeId} {size n q m cap : Nat} {xs : List Value} (h : w.ownsRow base e size (.slice (some ⟨q, 0, none⟩) m cap) n xs) (j : Nat) (u : Value) (hu : xs[j]? = some u) : w.cell? ⟨q, j, none⟩ = some u := by
  have := h.cells (g := q) rfl j u hu
  simpa [Addr.add_lit] using this

theorem tcs_at (ts : List Tk) (k : Nat) (h : k < ts.length) : (tcs ts)[k * 3]? = some (.int .i64 (kindOf (ts[k]'h).txt)) ∧ (tcs ts)[k * 3 + 1]? = some (.int .i64 (ts[k]'h).pos) ∧ (tcs ts)[k * 3 + 2]? = some (.string (ts[k]'h).txt) := by
  induction ts generalizing k with
  | nil => simp at h
  | cons t r ih =>
    cases k with
    | zero => simp [tcs, tcells]
    | succ k =>
      have := ih k (by simpa using h)
      simp only [tcs, List.flatMap_cons, tcells, List.getElem_cons_succ] at this ⊢
      refine ⟨?_, ?_, ?_⟩
      · rw [show (k + 1) * 3 = k * 3 + 1 + 1 + 1 by omega]; exact this.1
      · rw [show (k + 1) * 3 + 1 = (k * 3 + 1) + 1 + 1 + 1 by omega]; exact this.2.1
      · rw [show (k + 1) * 3 + 2 = (k * 3 + 2) + 1 + 1 + 1 by omega]; exact this.2.2

theorem Oth.alloc {w0 w : World} (h : Oth w0 w) (o : Obj) : Oth w0 (w.alloc o) := by
  intro k cs t fr h1 h2 h3
  have h4 := h k cs t fr h1 h2 h3
  exact (Below.heap_alloc w o k (Array.getElem?_eq_some_iff.1 h4).1).trans h4
theorem Oth.trans {a b c : World} (h : Oth a b) (h' : Oth b c) : Oth a c := fun k cs t fr h1 h2 h3 => h' k cs t fr h1 h2 (h k cs t fr h1 h2 h3)
/-- The grammar behind a new block, from there on. -/
theorem GRep.anew {B : Nat} {w0 w : World} {b : Nat} {g : Gr} {av : Value} (h : GRep B w0 w b g av) (o : Obj) : GRep B (w.alloc o) (w.alloc o) b g av :=
  ⟨(Below.heap_alloc w o b h.lt).trans h.blk, h.lo, h.row.alloc o, Below.refl _ _, Oth.refl _⟩
theorem GRep.join {B : Nat} {w0 w w1 : World} {b : Nat} {g g' : Gr} {av av' : Value} {o : Obj} (h : GRep B w0 w b g av) (h' : GRep B (w.alloc o) w1 b g' av') (hB : B ≤ w.heap.size) : GRep B w0 w1 b g' av' :=
  ⟨h'.blk, h'.lo, h'.row, (h.bel.alloc hB o).trans h'.bel, (h.oth.alloc o).trans h'.oth⟩

theorem ret_two {a b : Int × Int} (h : a = b) : Ending.returned (.tuple #[.int .i64 a.1, .int .i64 a.2]) = .returned (.tuple #[.int .i64 b.1, .int .i64 b.2]) := by rw [h]

set_option maxHeartbeats 1000000 in
theorem sCheckGrammar (s : ByteArray) (v : Value) (ts : List Tk) (w : World) (_hs : s.size ≤ 1000) (hl : ts.length ≤ 1000) (hv : w.ownsRow 0 84 3 v ts.length (tcs ts)) :
    Calls Tryz.prog 60 #[.string s, v] w fun e w' => e = .returned (.tuple #[.int .i64 (gAll s.size g0 ts).1, .int .i64 (gAll s.size g0 ts).2]) ∧ Below w.heap.size w w' := by
  obtain ⟨ao, cap, rfl⟩ := own_form hv
  generalize hR : gAll s.size g0 ts = R
  have HR : Hid (gAll s.size g0 ts = R) := hR
  clear hR
  go_enter Tryz.func60, Tryz.ntmps60
  go_wp2_with fail
  go_loopw [12] (fun a wr => ∃ (k : Nat) (g : Gr) (av : Value), k ≤ ts.length ∧ a = .int .i64 k ∧ Hid (gAll s.size g (ts.drop k) = R) ∧ GRep w.heap.size w wr w.heap.size g av ∧ g.ok ∧ g.ar.length ≤ k) (fun a _ => ts.length - (intOf a).toNat)
  case atStart => exact ⟨0, g0, .slice none 0 0, Nat.zero_le _, rfl, HR, ⟨heap_alloc_new w _, Nat.le_refl _, World.ownsRow_nil _ _ _ _, (Below.refl _ _).alloc (Nat.le_refl _) _, (Oth.refl w).alloc _⟩, ⟨by decide, by decide, by decide, by decide, by simp [g0]⟩, Nat.le_refl _⟩
  case round =>
    obtain ⟨k, g, av, hk, rfl, HG, hrep, ok, har⟩ := hrel
    by_cases hlt : k < ts.length
    · obtain ⟨q, cap', hq, _, hqlt⟩ := hv.form (by omega)
      cases hq
      have hvr := ownsRow_old hv hrep.bel
      have ⟨t0, t1, t2⟩ := tcs_at ts k hlt
      have d0 := row_cell hvr _ _ t0
      have d1 := row_cell hvr _ _ t1
      have d2 := row_cell hvr _ _ t2
      clear t0 t1 t2 hvr
      have hbsz := hrep.bel.size
      have htk := gTake_len g (kindOf ts[k].txt)
      have hok := gTake_ok ok (kindOf ts[k].txt)
      by_cases he : (gTake g (kindOf ts[k].txt)).1 = 0
      · have HG2 : Hid (gAll s.size (gTake g (kindOf ts[k].txt)).2 (ts.drop (k + 1)) = R) := by
          have := HG.out
          rw [List.drop_eq_getElem_cons hlt, gAll, if_pos he] at this
          exact this
        go_wp2_with fail
        refine (sTake w.heap.size w.heap.size g av _ _ _ (hrep.anew _) ok (by omega)).mono ?_
        rintro e w1 ⟨rfl, av1, hg⟩
        go_wp2_with fail
        go_roundw
        case rel => exact ⟨k + 1, _, av1, by omega, by go_num, HG2, hrep.join hg hbsz, hok, by omega⟩
        case measure => simp [intOf]; omega
      · have HG2 : Hid ((((ts[k].pos : Nat) : Int), (gTake g (kindOf ts[k].txt)).1) = R) := by
          have := HG.out
          rw [List.drop_eq_getElem_cons hlt, gAll, if_neg he] at this
          exact this
        have he' : ((gTake g (kindOf ts[k].txt)).1 == 0) = false := by simpa using he
        clear he
        go_wp2_with fail
        refine (sTake w.heap.size w.heap.size g av _ _ _ (hrep.anew _) ok (by omega)).mono ?_
        rintro e w1 ⟨rfl, av1, hg⟩
        have hbox := hg.oth wr.heap.size _ _ _ (by decide) (by decide) (heap_alloc_new wr _)
        have e1 := cell_of_row w1 wr.heap.size 1 _ _ _ hbox
        simp only [List.getElem?_toArray, List.getElem?_cons_succ, List.getElem?_cons_zero] at e1
        clear hbox
        go_wp2_with fail
        go_ret2
        exact ⟨ret_two HG2.out, (hrep.bel.alloc hbsz _).trans hg.bel⟩
    · have e0 : k = ts.length := by omega
      have HG2 : Hid (gAll s.size g [] = R) := by have := HG.out; rw [List.drop_eq_nil_of_le (by omega)] at this; exact this
      have c0 := hrep.blk.c0
      have c1 := hrep.blk.c1
      by_cases h1 : g.fn = 0
      · have h2 : Hid ((((s.size : Nat) : Int), (2 : Int)) = R) := by have := HG2.out; simp [gAll, h1] at this; exact this
        go_wp2_with fail
        go_ret2
        exact ⟨ret_two h2.out, hrep.bel⟩
      · have h1' : (g.fn == 0) = false := by simpa using h1
        by_cases h3 : g.aw = 0
        · have h2 : Hid (((0 : Int), (0 : Int)) = R) := by have := HG2.out; simp [gAll, h1, h3] at this; exact this
          clear h1
          go_wp2_with fail
          go_ret2
          exact ⟨ret_two h2.out, hrep.bel⟩
        · have h3' : (g.aw == 0) = false := by simpa using h3
          have h2 : Hid ((((s.size : Nat) : Int), (2 : Int)) = R) := by have := HG2.out; simp [gAll, h1, h3] at this; exact this
          clear h1 h3
          go_wp2_with fail
          go_ret2
          exact ⟨ret_two h2.out, hrep.bel⟩

end Go.Proofs.YtnndoagpbcacdaaGreatDoor
