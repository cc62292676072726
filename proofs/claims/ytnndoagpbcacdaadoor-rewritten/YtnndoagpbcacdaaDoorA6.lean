import Derived.Test.YtnndoagpbcacdaaDoorA5
namespace Go.Proofs.YtnndoagpbcacdaaDoor
open Go.RowKit

theorem gCount_ok {g : Gr} (h : g.ok) : (gCount g).2.ok := by
  obtain ⟨h1, h2, h3, h4, h5⟩ := h
  unfold gCount
  split
  · exact ⟨h1, h2, h3, h4, h5⟩
  · split
    · exact ⟨h1, h2, h3, by show 0 ≤ g.wi + 1; omega, h5⟩
    · split
      · exact ⟨h1, h2, h3, by show 0 ≤ g.wi + 1; omega, h5⟩
      · exact ⟨h1, h2, by show 0 ≤ g.no + 1; omega, by show 0 ≤ g.wi + 1; omega, h5⟩
theorem gCount_ar (g : Gr) : (gCount g).2.ar = g.ar := by
  unfold gCount; split <;> (try split) <;> (try split) <;> rfl
theorem gBegin_ok {g : Gr} (h : g.ok) : (gBegin g).2.ok := by
  have hc := gCount_ok h
  unfold gBegin
  split
  · obtain ⟨h1, h2, h3, h4, h5⟩ := hc
    refine ⟨h1, h2, h3, h4, ?_⟩
    intro x hx
    simp only [List.mem_append, List.mem_cons, List.not_mem_nil, or_false] at hx
    rcases hx with hx | hx
    · exact h5 x hx
    · rw [hx]; exact h4
  · exact hc
theorem gEndInner_ok {g : Gr} (h : g.ok) : (gEndInner g).2.ok := by
  obtain ⟨h1, h2, h3, h4, h5⟩ := h
  unfold gEndInner
  split
  · exact ⟨h1, h2, h3, h4, h5⟩
  · refine ⟨h1, h2, h3, ?_, fun x hx => h5 x (List.dropLast_subset _ hx)⟩
    show 0 ≤ g.ar.getLast?.getD 0
    cases hl : g.ar.getLast? with
    | none => simp
    | some y => exact h5 y (List.mem_of_getLast? hl)
theorem gTake_ok {g : Gr} (h : g.ok) (k : Int) : (gTake g k).2.ok := by
  have h' := h
  obtain ⟨h1, h2, h3, h4, h5⟩ := h
  unfold gTake
  split
  · unfold gFunction; split
    · exact h'
    · split
      · exact h'
      · exact ⟨by show 0 ≤ g.fn + 1; omega, by show (0 : Int) ≤ 0; omega, h3, h4, h5⟩
  · split
    · unfold gParameter; split
      · exact ⟨h1, h2, by show (0 : Int) ≤ 0; omega, h4, h5⟩
      · split
        · exact h'
        · split
          · exact h'
          · exact ⟨h1, by show 0 ≤ g.pa + 1; omega, h3, h4, h5⟩
    · split
      · unfold gHead; split
        · exact ⟨h1, h2, h3, by show (0 : Int) ≤ 1; omega, h5⟩
        · exact h'
      · unfold gPart; split
        · unfold gEndDef; split
          · exact ⟨h1, h2, h3, h4, h5⟩
          · exact h'
        · split
          · exact gEndInner_ok h'
          · split
            · exact gBegin_ok h'
            · split
              · exact gCount_ok h'
              · exact h'
theorem gTake_len (g : Gr) (k : Int) : (gTake g k).2.ar.length ≤ g.ar.length + 1 := by
  unfold gTake
  split
  · unfold gFunction; split <;> (try split) <;> simp
  · split
    · unfold gParameter; split <;> (try split) <;> (try split) <;> simp
    · split
      · unfold gHead; split <;> simp
      · unfold gPart; split
        · unfold gEndDef; split <;> simp
        · split
          · unfold gEndInner; split <;> simp
            omega
          · split
            · unfold gBegin; split
              · simp [gCount_ar]
              · rw [gCount_ar]; omega
            · split
              · rw [gCount_ar]; omega
              · simp

set_option maxHeartbeats 400000 in
theorem sTakePart (B b : Nat) (g : Gr) (av : Value) (k : Int) (w0 w : World) (h : GRep B w0 w b g av) (ok : g.ok) (hn : g.ar.length ≤ 1000000) :
    Calls Tryd.prog 83 #[.pointer (some ⟨b, 0, none⟩), .int .i64 k] w fun e w' => e = .returned (.int .i64 (gPart g k).1) ∧ ∃ av', GRep B w0 w' b (gPart g k).2 av' := by
  by_cases h5 : k = 5
  · subst h5
    rw [show gPart g 5 = gEndDef g by simp [gPart]]
    go_enter Tryd.func83, Tryd.ntmps83
    go_wp2_with fail
    refine (sEndDef B b g av w0 _ h).mono ?_
    rintro e w1 ⟨rfl, av1, hg⟩
    go_wp2
    go_ret
    exact ⟨rfl, _, hg⟩
  · have h5' : (k == 5) = false := by simpa using h5
    by_cases h7 : k = 7
    · subst h7
      clear h5 h5'
      rw [show gPart g 7 = gEndInner g by simp [gPart]]
      go_enter Tryd.func83, Tryd.ntmps83
      go_wp2_with fail
      refine (sEndInner B b g av w0 _ h hn).mono ?_
      rintro e w1 ⟨rfl, av1, hg⟩
      go_wp2
      go_ret
      exact ⟨rfl, _, hg⟩
    · have h7' : (k == 7) = false := by simpa using h7
      by_cases h6 : k = 6
      · subst h6
        clear h5 h5' h7 h7'
        rw [show gPart g 6 = gBegin g by simp [gPart]]
        go_enter Tryd.func83, Tryd.ntmps83
        go_wp2_with fail
        refine (sBegin B b g av w0 _ h ok hn).mono ?_
        rintro e w1 ⟨rfl, av1, hg⟩
        go_wp2
        go_ret
        exact ⟨rfl, _, hg⟩
      · have h6' : (k == 6) = false := by simpa using h6
        cases hs : simpleK k
        · rw [show gPart g k = (2, g) by simp [gPart, h5, h6, h7, hs]]
          clear h5 h6 h7
          go_enter Tryd.func83, Tryd.ntmps83
          go_wp2_with fail
          refine (sIsSimple _ _).mono ?_
          rintro e w1 ⟨rfl, rfl⟩
          go_wp2
          go_ret
          exact ⟨rfl, _, h⟩
        · rw [show gPart g k = gCount g by simp [gPart, h5, h6, h7, hs]]
          clear h5 h6 h7
          go_enter Tryd.func83, Tryd.ntmps83
          go_wp2_with fail
          refine (sIsSimple _ _).mono ?_
          rintro e w1 ⟨rfl, rfl⟩
          go_wp2_with fail
          refine (sCountPart B b g av w0 _ h ok).mono ?_
          rintro e w1 ⟨rfl, av1, hg⟩
          go_wp2
          go_ret
          exact ⟨rfl, _, hg⟩

set_option maxHeartbeats 400000 in
theorem sTake (B b : Nat) (g : Gr) (av : Value) (k : Int) (w0 w : World) (h : GRep B w0 w b g av) (ok : g.ok) (hn : g.ar.length ≤ 1000000) :
    Calls Tryd.prog 65 #[.pointer (some ⟨b, 0, none⟩), .int .i64 k] w fun e w' => e = .returned (.int .i64 (gTake g k).1) ∧ ∃ av', GRep B w0 w' b (gTake g k).2 av' := by
  have c0 := h.blk.c0
  by_cases h0 : g.aw = 0
  · rw [show gTake g k = gFunction g k by simp [gTake, h0]]
    go_enter Tryd.func65, Tryd.ntmps65
    go_wp2_with fail
    refine (sTakeFunction B b g av k w0 _ h ok.fn).mono ?_
    rintro e w1 ⟨rfl, av1, hg⟩
    go_wp2
    go_ret
    exact ⟨rfl, _, hg⟩
  · have h0' : (g.aw == 0) = false := by simpa using h0
    by_cases h1 : g.aw = 1
    · rw [show gTake g k = gParameter g k by simp [gTake, h1]]
      clear h0 h0'
      go_enter Tryd.func65, Tryd.ntmps65
      go_wp2_with fail
      refine (sTakeParameter B b g av k w0 _ h ok.pa).mono ?_
      rintro e w1 ⟨rfl, av1, hg⟩
      go_wp2
      go_ret
      exact ⟨rfl, _, hg⟩
    · have h1' : (g.aw == 1) = false := by simpa using h1
      by_cases h2 : g.aw = 2
      · rw [show gTake g k = gHead g k by simp [gTake, h2]]
        clear h0 h0' h1 h1'
        go_enter Tryd.func65, Tryd.ntmps65
        go_wp2_with fail
        refine (sTakeHead B b g av k w0 _ h).mono ?_
        rintro e w1 ⟨rfl, av1, hg⟩
        go_wp2
        go_ret
        exact ⟨rfl, _, hg⟩
      · have h2' : (g.aw == 2) = false := by simpa using h2
        rw [show gTake g k = gPart g k by simp [gTake, h0, h1, h2]]
        clear h0 h1 h2
        go_enter Tryd.func65, Tryd.ntmps65
        go_wp2_with fail
        refine (sTakePart B b g av k w0 _ h ok hn).mono ?_
        rintro e w1 ⟨rfl, av1, hg⟩
        go_wp2
        go_ret
        exact ⟨rfl, _, hg⟩

end Go.Proofs.YtnndoagpbcacdaaDoor
