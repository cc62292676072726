import Derived.Test.YtnndoagpbcacdaaDoorA4
namespace Go.Proofs.YtnndoagpbcacdaaDoor
open Go.RowKit

/-- Behind an append to the widths the grammar's block is as it was. -/
theorem GBlk.grown {w w' : World} {b : Nat} {g : Gr} {av : Value} {B n size : Nat} {xs : List Value} {o : Obj} (h : GBlk w b g av) (hr : w.ownsRow B 3 size av n xs) (hg : (w.alloc o).drew.grownBy w' av.ownBlock) : GBlk w' b g av := by
  have hlt : b < w.heap.size := (Array.getElem?_eq_some_iff.1 h).1
  have hne : some b ≠ av.ownBlock := by
    intro e
    rcases hr.2 with ⟨rfl, _⟩ | ⟨q, cap, cur, rfl, _, hq, _⟩
    · simp [Value.ownBlock] at e
    · simp [Value.ownBlock] at e
      subst e
      unfold GBlk at h
      rw [hq] at h
      simp at h
  have := hg.block b (by simp; omega) hne
  unfold GBlk
  rw [this]
  exact (Below.heap_alloc w o b hlt).trans h

theorem Oth.grown {w0 w w' : World} {av : Value} {B n size : Nat} {xs : List Value} {o : Obj} (h : Oth w0 w) (hr : w.ownsRow B 3 size av n xs) (hg : (w.alloc o).drew.grownBy w' av.ownBlock) : Oth w0 w' := by
  intro k cs t fr h1 h2 h3
  have h4 := h k cs t fr h1 h2 h3
  have hlt : k < w.heap.size := (Array.getElem?_eq_some_iff.1 h4).1
  have hne : some k ≠ av.ownBlock := by
    intro e
    rcases hr.2 with ⟨rfl, _⟩ | ⟨q, cap, cur, rfl, _, hq, _⟩
    · simp [Value.ownBlock] at e
    · simp [Value.ownBlock] at e
      subst e
      rw [hq] at h4
      simp at h4
      exact h2 h4.2.1.symm
  rw [hg.block k (by simp; omega) hne]
  exact (Below.heap_alloc w o k hlt).trans h4

theorem Tryd.infoInt : (Tryd.prog.info? 3).map (fun i => (i.zero, i.size, i.bytes)) = some (some (.int .i64 0), 1, 8) := by kernel_rfl

theorem GRep.push {B : Nat} {w0 w2 : World} {b : Nat} {aw fn pa no wi : Int} {ar : List Int} {av nv : Value} (hB2 : GBlk w2 b ⟨aw, fn, pa, no, wi, ar⟩ av) (hlo : B ≤ b) (hown : w2.ownsRow B 3 1 nv (ar.length + 1) (ints ar ++ [.int .i64 wi])) (bel : Below B w0 w2) (oth : Oth w0 w2) :
    GRep B w0 ((w2.setCell ⟨b, 5, none⟩ nv).setCell ⟨b, 0, none⟩ (.int .i64 2)) b ⟨2, fn, pa, no, wi, ar ++ [wi]⟩ nv := by
  refine ⟨blk_set _ (blk_set _ hB2), hlo, ?_, (bel.setCell hlo _).setCell hlo _, (oth.set _ hB2).set _ (blk_set _ hB2)⟩
  have := ownsRow_set (i := 0) (u := .int .i64 2) (ownsRow_set (i := 5) (u := nv) hown hB2 (by decide)) (blk_set _ hB2) (by decide)
  simpa [ints] using this

set_option maxHeartbeats 1000000 in
theorem sBegin (B b : Nat) (g : Gr) (av : Value) (w0 w : World) (h : GRep B w0 w b g av) (ok : g.ok) (hn : g.ar.length ≤ 1000000) :
    Calls Tryd.prog 91 #[.pointer (some ⟨b, 0, none⟩)] w fun e w' => e = .returned (.int .i64 (gBegin g).1) ∧ ∃ av', GRep B w0 w' b (gBegin g).2 av' := by
  obtain ⟨i, hi, hz0, hz1, hz2⟩ := info_parts Tryd.infoInt
  have har : (gCount g).2.ar = g.ar := by unfold gCount; split <;> (try split) <;> (try split) <;> rfl
  by_cases he : (gCount g).1 = 0
  · rw [show gBegin g = (0, { (gCount g).2 with ar := (gCount g).2.ar ++ [(gCount g).2.wi], aw := 2 }) by simp [gBegin, he]]
    have hlen : (gCount g).2.ar.length ≤ 1000000 := by rw [har]; exact hn
    clear har hn
    generalize hq : (gCount g).2 = q2 at *
    have HQ : Hid ((gCount g).2 = q2) := hq
    clear hq
    obtain ⟨aw, fn, pa, no, wi, ar⟩ := q2
    simp only at *
    go_enter Tryd.func91, Tryd.ntmps91
    go_wp2_with (go_at_call 92; refine (sCountPart B b g av w0 _ h ok).mono ?_; rintro e w1 ⟨rfl, av1, hg⟩)
    rw [HQ.out] at hg
    clear HQ ok h
    have c4 := hg.blk.c4
    have c5 := hg.blk.c5
    have f5 := hg.blk.fz 5
    have f0 := hg.blk.fz 0
    have c0 := hg.blk.c0
    have hrow := hg.row
    have hsz := hg.bel.size
    have hblt := hg.lt
    have hlo := hg.lo
    simp only at *
    go_region_law ((refine step_append_lies _ (by rfl) _ _ _ (by rfl) B 3 i _ 1 8 Tryd.underlying22 hi hz0 hz1 hz2 rfl (by omega) av1 ar.length (ints ar) (by rfl) (by exact hrow.alloc _) _ 1 _ [.int .i64 wi] (by rfl) rfl (by exact World.news_of_block (heap_alloc_new w1 _)) (by simp [Value.oneCell']) (by omega) (by unfold maxLen; omega) (by omega) (by simp; omega) _ rfl ?_; intro q cap w2 hown2 hgrow hat hlt2; have hB2 := hg.blk.grown hrow hgrow; have c5' := hB2.c5; have f5' := hB2.fz 5; have f0' := hB2.fz 0; have c0' := hB2.c0; have bel2 := (Below.drew (hg.bel.alloc (o := Obj.cells #[.int .i64 wi] 3) (by omega))).grown hgrow (by simp; omega) (fun k hk => (hrow.lt k hk).1); have oth2 := hg.oth.grown hrow hgrow))
    all_goals go_wp2
    all_goals go_ret
    all_goals exact ⟨rfl, _, GRep.push hB2 hlo hown2 bel2 oth2⟩
  · rw [show gBegin g = gCount g by simp [gBegin, he]]
    have he' : ((gCount g).1 == 0) = false := by simpa using he
    clear he har
    generalize hq : gCount g = q at *
    have HQ : Hid (gCount g = q) := hq
    clear hq
    obtain ⟨q1, q2⟩ := q
    simp only at *
    go_enter Tryd.func91, Tryd.ntmps91
    go_wp2_with fail
    refine (sCountPart B b g av w0 _ h ok).mono ?_
    rintro e w1 ⟨he1, av1, hg⟩
    rw [HQ.out] at he1 hg
    subst he1
    clear HQ h ok
    have hne : (q1 == 0) = false := he'
    clear he' hi hz0 hz1 hz2
    dsimp only
    go_wp2
    go_ret
    exact ⟨rfl, _, hg⟩

end Go.Proofs.YtnndoagpbcacdaaDoor
