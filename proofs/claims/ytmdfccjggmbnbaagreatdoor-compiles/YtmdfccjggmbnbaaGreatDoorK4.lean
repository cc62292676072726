import Derived.Test.YtmdfccjggmbnbaaGreatDoorK1
import Derived.Deep.QuietTactic
import Derived.BigQuiet
namespace Go.Proofs.YtmdfccjggmbnbaaGreatDoor
open Go.RowKit

theorem nums_at (op : List Nat) (n : Nat) : (nums (op ++ [n]))[op.length]? = some (.int .i64 n) := by
  rw [nums_snoc, List.getElem?_append_right (by simp [nums])]
  simp [nums]

theorem size_adn (w : World) (o o2 : Obj) (k : Nat) : (((w.alloc o).drewN k).alloc o2).heap.size = w.heap.size + 1 + 1 := by
  have e : ((w.alloc o).drewN k).heap.size = w.heap.size + 1 := by show (w.alloc o).heap.size = _; simp
  rw [World.size_alloc, e]
theorem new_adn (w : World) (o o2 : Obj) (k : Nat) : (((w.alloc o).drewN k).alloc o2).heap[w.heap.size + 1]? = some o2 := by
  have e : ((w.alloc o).drewN k).heap.size = w.heap.size + 1 := by show (w.alloc o).heap.size = _; simp
  rw [← e]; exact heap_alloc_new _ _
theorem own_frozen {w : World} {base : Nat} {e : TypeId} {size n q m cap : Nat} {xs : List Value} (h : w.ownsRow base e size (.slice (some ⟨q, 0, none⟩) m cap) n xs) (i : Nat) : w.frozen? ⟨q, i, none⟩ = false := by
  rcases h.2 with ⟨h0, _⟩ | ⟨g', cap', cur, h0, hg, hh, _⟩
  · cases h0
  · cases h0; exact frozen_of_row w q i _ _ hh

set_option maxRecDepth 100000 in
set_option maxHeartbeats 4000000 in
theorem sPut (b : Nat) (lv ov : Value) (L : List Ln) (vs : List Value) (op : List Nat) (n : Nat) (a : Int × Int) (w : World) (h : Lay w b lv ov L vs (op ++ [n])) (hn : n < L.length) (hL : L.length ≤ 2000) (ho : op.length ≤ 2000) (hl : L[n].length ≤ 2000) :
    Calls Tryz.prog 70 #[.pointer (some ⟨b, 0, none⟩), .agg #[.int .i64 a.1, .int .i64 a.2]] w fun e w' => (∃ v, e = .returned v) ∧ Below b w w' ∧ ∃ vs', Lay w' b lv ov (L.set n (L[n] ++ [a])) vs' (op ++ [n]) := by
  obtain ⟨i, hi, hz0, hz1, hz2⟩ := info_parts Tryz.infoAtom
  obtain ⟨lo, lcap, rfl⟩ := own_form h.lrow
  obtain ⟨oo, ocap, rfl⟩ := own_form h.orow
  have hol : (op ++ [n]).length = op.length + 1 := by simp
  obtain ⟨q, cap', hq, hqb, hqlt⟩ := h.lrow.form (by omega)
  cases hq
  obtain ⟨qo, cap', hq, hqob, hqolt⟩ := h.orow.form (by omega)
  cases hq
  have c0 := cell_of_row w b 0 _ _ _ h.box
  have c1 := cell_of_row w b 1 _ _ _ h.box
  simp only [List.getElem?_toArray, List.getElem?_cons_succ, List.getElem?_cons_zero] at c0 c1
  have HOC : Hid _ := row_cell h.orow op.length _ (nums_at op n)
  obtain ⟨v, hv, hrow⟩ := h.rows n hn
  have HVC : Hid _ := row_cell h.lrow n _ hv
  have hblt := h.blt
  rw [hol] at c1
  obtain ⟨vo, vcap, rfl⟩ := own_form hrow
  obtain ⟨a1, a2⟩ := a
  simp only at *
  have k0 : w.cell? ⟨qo, op.length, none⟩ = some (.int .i64 n) := HOC.out
  have k1 : w.cell? ⟨q, n, none⟩ = some (.slice vo L[n].length vcap) := HVC.out
  clear HOC HVC
  go_enter Tryz.func70, Tryz.ntmps70
  go_wp2_with fail
  have g0 : decide ((op.length : Int) < 0) = false := by simp
  have g1 : decide ((L.length : Int) ≤ (n : Int)) = false := by simp; omega
  have g1n : ¬ (L.length : Int) ≤ (n : Int) := by omega
  go_quiet (fail)
  go_wp2_with fail
  have HQ : Hid (Lay (((w.alloc (Obj.cells #[.int .i64 a1, .int .i64 a2] 48)).drewN (nq + 1)).alloc (Obj.cells #[.int .i64 a1, .int .i64 a2] 48)) b (.slice (some ⟨q, 0, none⟩) L.length lcap) (.slice (some ⟨qo, 0, none⟩) (op ++ [n]).length ocap) L vs (op ++ [n])) := ((h.alloc _).old (below_drewN (Below.refl _ _) _)).alloc _
  have HNB : Hid _ := new_adn w (Obj.cells #[.int .i64 a1, .int .i64 a2] 48) (Obj.cells #[.int .i64 a1, .int .i64 a2] 48) (nq + 1)
  have HRW : Hid _ := (ownsRow_old (hrow.alloc (Obj.cells #[.int .i64 a1, .int .i64 a2] 48)) (below_drewN (Below.refl _ _) (nq + 1))).alloc (Obj.cells #[.int .i64 a1, .int .i64 a2] 48)
  have HBW : Hid (Below b w (((w.alloc (Obj.cells #[.int .i64 a1, .int .i64 a2] 48)).drewN (nq + 1)).alloc (Obj.cells #[.int .i64 a1, .int .i64 a2] 48))) := (below_drewN ((Below.refl b w).alloc (Nat.le_of_lt hblt) _) _).alloc (by show b ≤ (w.alloc _).heap.size; simp; omega) _
  have HV : Hid _ := hv
  go_region_law ((refine step_append_lies _ (by rfl) _ _ _ (by rfl) (b + 1) 48 i _ 2 16 Tryz.underlying49 hi hz0 hz1 hz2 rfl (by omega) (.slice vo L[n].length vcap) L[n].length (acs L[n]) (by rfl) (by exact HRW.out) _ 1 _ [.int .i64 a1, .int .i64 a2] (by rfl) rfl (by exact World.news_of_block HNB.out) (by simp [Value.oneCell']) (by omega) (by unfold maxLen; omega) (by omega) (by simp; omega) _ rfl ?_; intro g cap2 w2 hown2 hgrow hat hlt2; have HPA : Hid _ := Lay.pushA (a := (a1, a2)) HQ.out hn HV.out hown2 hgrow hat rfl; have kc := row_cell HPA.out.2.1 n _ HV.out; have kf := own_frozen HPA.out.2.1 n; have kb := cell_of_row w2 b 0 _ _ _ HPA.out.2.2.1; simp only [List.getElem?_toArray, List.getElem?_cons_zero] at kb; clear hown2 hgrow hat hlt2))
  all_goals
    refine bodyPost_end (v := .tuple #[]) (by simp [results, Tryz.results70, go_sem]) rfl ⟨⟨_, rfl⟩, ?_, _, HPA.out.2.2.2⟩
    exact (HBW.out.trans HPA.out.1).setCell (by show b ≤ q; omega) _

set_option maxHeartbeats 4000000 in
theorem sPutNil (b : Nat) (lv ov : Value) (L : List Ln) (vs : List Value) (a : Int × Int) (w : World) (h : Lay w b lv ov L vs []) :
    Calls Tryz.prog 70 #[.pointer (some ⟨b, 0, none⟩), .agg #[.int .i64 a.1, .int .i64 a.2]] w fun e w' => (∃ v, e = .returned v) ∧ Below b w w' ∧ Lay w' b lv ov L vs [] := by
  obtain ⟨oo, ocap, rfl⟩ := own_form h.orow
  have c1 := cell_of_row w b 1 _ _ _ h.box
  simp only [List.getElem?_toArray, List.getElem?_cons_succ, List.getElem?_cons_zero, List.length_nil] at c1
  have hblt := h.blt
  go_enter Tryz.func70, Tryz.ntmps70
  go_wp2_with fail
  go_quiet (fail)
  go_wp2_with fail
  refine bodyPost_ret (v := .tuple #[]) (by simp [results, Tryz.results70, go_sem]) rfl ?_
  exact ⟨⟨_, rfl⟩, below_drewN ((Below.refl b w).alloc (Nat.le_of_lt hblt) _) _, (h.alloc _).old (below_drewN (Below.refl _ _) _)⟩

end Go.Proofs.YtmdfccjggmbnbaaGreatDoor
