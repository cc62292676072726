import Derived.Test.YtnndoagpbcacdaaGreatDoorMM12
import Derived.Test.YtnndoagpbcacdaaGreatDoorMM0
import Derived.Test.YtnndoagpbcacdaaGreatDoorV2
import Derived.Test.YtnndoagpbcacdaaGreatDoorL4
import Derived.Test.YtnndoagpbcacdaaGreatDoorMY1
namespace Go.Proofs.YtnndoagpbcacdaaGreatDoor

/-! Behind every move of good code the walk's bounds hold. -/
theorem free_val (s : Ms) : ∀ p ∈ (freeM s).fre, 0 ≤ p ∧ p < s.nds.length := by
  intro p hp
  unfold freeM at hp
  simp only at hp
  rcases (mem_offs _ _ _ _).1 hp with h | ⟨j, e, h⟩
  · simp at h
  · have := (List.getElem?_eq_some_iff.1 h).1
    rw [need_len] at this
    omega
theorem iv_init (c : Cf) (mn : Int) (h : 0 ≤ mn ∧ mn < c.fs.length) : Iv c (initM mn) ∧ Ct 0 (initM mn) := by
  refine ⟨⟨by simp [initM, flr], trivial, fun f hf => by simp [initM] at hf, fun x hx => ?_, fun n hn => by simp [initM] at hn, fun p hp => by simp [initM] at hp⟩, ⟨by simp [initM], by simp [initM], by simp [initM], by simp [initM], by simp [initM], by simp [initM]⟩⟩
  simp [initM] at hx
  subst hx
  exact ⟨fun e => by simp at e, fun _ => h, fun e => by simp at e⟩
theorem iv_iter (c : Cf) (mn : Int) (hmn : 0 ≤ mn ∧ mn < c.fs.length) (ht : ∀ t ∈ c.fs, TG c t) : ∀ i, (iterM c i (initM mn)).out = 0 → Iv c (iterM c i (initM mn)) ∧ Ct i (iterM c i (initM mn))
  | 0, _ => iv_init c mn hmn
  | i + 1, h => by
    have ho : (iterM c i (initM mn)).out = 0 := by
      apply Classical.byContradiction
      intro hn
      rw [iter_out c i (i + 1) _ (by omega) hn] at h
      exact hn h
    rw [iter_one c i _ ho] at h ⊢
    obtain ⟨h1, h2⟩ := iv_iter c mn hmn ht i ho
    exact iv_move h1 h2 ht free_len free_val h
theorem ok_of {c : Cf} {s : Ms} {i : Nat} (h : Iv c s) (hc : Ct i s) (hi : i ≤ 1000000) : Ok c s := by
  have ha := hc.a
  have hb := hc.b
  have hd := hc.d
  have he := hc.e
  have hg := hc.g
  have hne := h.ne
  refine ⟨⟨by omega, by omega, by omega, by omega, fun n hn => by have := (h.nd n hn).2.1; omega, by omega, hc.f, by omega, fun x hx e => (h.it x hx).1 e, fun f hf => (h.kd f hf).2⟩, fun e => ?_⟩
  cases hs : s.stk with
  | nil => rw [hs] at hne; simp at hne
  | cons t r =>
    rw [hs] at e
    exact (h.it t (by rw [hs]; simp)).2.1 e

end Go.Proofs.YtnndoagpbcacdaaGreatDoor
namespace Go.Proofs.YtnndoagpbcacdaaGreatDoor
open Go.RowKit

/-! redex.Run; Collected. -/
set_option maxHeartbeats 400000 in
theorem xRunOk (s : ByteArray) (bud hp : Int) (cd : Cd) (N : Nat) (w : World) (hs : s.size ≤ maxLen) (hrd : rdC s = some cd) (hre : rdE s = 0) (hb0 : 0 ≤ bud) (hb1 : bud ≤ 2000) (hh0 : 0 ≤ hp) (hh1 : hp ≤ 24000)
    (hmn : 0 ≤ cd.mn ∧ cd.mn < cd.fs.length) (htg : ∀ t ∈ cd.fs, TG ⟨cd.fs, bud, hp⟩ t) (hNb : N ≤ 1000000) (hN : (iterM ⟨cd.fs, bud, hp⟩ N (initM cd.mn)).out ≠ 0) :
    Calls Tryz.prog 16 #[.string s, .int .i64 bud, .int .i64 hp] w fun e w' => e = .returned (.tuple #[.agg #[.int .i64 (iterM ⟨cd.fs, bud, hp⟩ N (initM cd.mn)).out, .int .i64 (iterM ⟨cd.fs, bud, hp⟩ N (initM cd.mn)).val, .int .i64 (iterM ⟨cd.fs, bud, hp⟩ N (initM cd.mn)).stp], .int .i64 0]) ∧ Below w.heap.size w w' := by
  have HC : Hid _ := mRunOk s bud hp cd N (w.alloc (Obj.cells #[.int .i64 0, .int .i64 0, .int .i64 0] 31)) hs hrd hre hb0 hb1 hh0 hh1 ⟨hh0, by show hp ≤ _; omega, fun t ht => by have h := htg t ht; exact ⟨h.a0, by have := h.a1; omega, h.n0, by have := h.n1; omega, fun l hl => by have := (h.ln l hl).2.1; omega⟩⟩
    (fun i hi ho => by
      obtain ⟨h1, h2⟩ := iv_iter ⟨cd.fs, bud, hp⟩ cd.mn hmn htg i ho
      exact ok_of h1 h2 (by omega)) hN
  clear hN htg hmn hrd hre
  generalize iterM ⟨cd.fs, bud, hp⟩ N (initM cd.mn) = st at *
  go_enter Tryz.func16, Tryz.ntmps16
  go_wp2_with fail
  refine (show Calls _ _ _ _ _ from HC.out).mono ?_
  rintro e w1 ⟨rfl, hb1⟩
  clear HC
  have hX := (hb1.block w.heap.size (by simp)).trans (heap_alloc_new w _)
  have hwl : w.heap.size < w1.heap.size := (Array.getElem?_eq_some_iff.1 hX).1
  have r0 := cell_of_row w1 w.heap.size 0 _ _ _ hX
  have r1 := cell_of_row w1 w.heap.size 1 _ _ _ hX
  have r2 := cell_of_row w1 w.heap.size 2 _ _ _ hX
  simp only [List.getElem?_toArray, List.getElem?_cons_succ, List.getElem?_cons_zero] at r0 r1 r2
  have z0 := frozen_of_row w1 w.heap.size 0 _ _ hX
  have z1 := frozen_of_row w1 w.heap.size 1 _ _ hX
  have z2 := frozen_of_row w1 w.heap.size 2 _ _ hX
  have HXX : Hid _ := hX
  have HB1 : Hid (Below w.heap.size w w1) := (below_al w _).trans (hb1.mono (by simp))
  clear hX hb1
  go_wp2_with fail
  obtain ⟨q0, q1, q2⟩ := cells_three w1 w.heap.size _ _ _ _ (.int .i64 st.out) (.int .i64 st.val) (.int .i64 st.stp) HXX.out
  refine bodyPost_ret (v := .tuple #[.agg #[.int .i64 st.out, .int .i64 st.val, .int .i64 st.stp], .int .i64 0]) (by simp [results, Tryz.results16, go_sem, q0, q1, q2]) rfl ⟨rfl, ?_⟩
  exact ((HB1.out.setCell (by exact Nat.le_refl _) _).setCell (by exact Nat.le_refl _) _).setCell (by exact Nat.le_refl _) _

end Go.Proofs.YtnndoagpbcacdaaGreatDoor
