import Derived.Test.YtnndoagpbcacdaaGreatDoorMN4
import Derived.Test.YtnndoagpbcacdaaGreatDoorMN2
namespace Go.Proofs.YtnndoagpbcacdaaGreatDoor
open Go.RowKit

/-! The reference's Work in memory. -/
structure WB (w : World) (T g : Nat) (fv : Value) (mn : Int) (c : Cf) (nds : List (Ln × Bool)) (stp out : Int) (bys : List Ln) (ops : List Int) (av bv ov : Value) (vs bs : List Value) : Prop where
  blk : w.heap[g]? = some (.cells #[.int .i64 mn, fv, .int .i64 c.bud, .int .i64 c.hp, .int .i64 stp, av, bv, ov, .int .i64 out] 159 (0, 0))
  lo : T ≤ g
  fu : FunsRd w T fv c.fs
  ra : w.ownsRow T 239 2 av nds.length (ncs vs nds)
  vl : vs.length = nds.length
  rv : ∀ (j : Nat) (v : Value) (n : Ln × Bool), vs[j]? = some v → nds[j]? = some n → Rd w T v n.1
  rb : w.ownsRow T 76 1 bv bys.length bs
  rl : ∀ (j : Nat) (v : Value) (l : Ln), bs[j]? = some v → bys[j]? = some l → Rd w T v l
  ro : w.ownsRow T 3 1 ov ops.length (ints ops)
def WP (w : World) (T g : Nat) (fv : Value) (mn : Int) (c : Cf) (nds : List (Ln × Bool)) (stp out : Int) (bys : List Ln) (ops : List Int) : Prop := ∃ av bv ov vs bs, WB w T g fv mn c nds stp out bys ops av bv ov vs bs
section
variable {w w' w2 : World} {T g : Nat} {fv : Value} {mn : Int} {c : Cf} {nds : List (Ln × Bool)} {stp out : Int} {bys : List Ln} {ops : List Int} {av bv ov : Value} {vs bs : List Value}
theorem WB.lt (h : WB w T g fv mn c nds stp out bys ops av bv ov vs bs) : g < w.heap.size := (Array.getElem?_eq_some_iff.1 h.blk).1
theorem WB.bl (h : WB w T g fv mn c nds stp out bys ops av bv ov vs bs) : bs.length = bys.length := by have := h.rb.1; omega
theorem WB.hT (h : WB w T g fv mn c nds stp out bys ops av bv ov vs bs) : T ≤ w.heap.size := by have := h.lt; have := h.lo; omega
theorem WB.old (h : WB w T g fv mn c nds stp out bys ops av bv ov vs bs) (hb : Below w.heap.size w w') : WB w' T g fv mn c nds stp out bys ops av bv ov vs bs :=
  ⟨(hb.block g h.lt).trans h.blk, h.lo, h.fu.keep (hb.mono h.hT), ownsRow_old h.ra hb, h.vl, fun j v n a b => (h.rv j v n a b).old hb, ownsRow_old h.rb hb, fun j v n a b => (h.rl j v n a b).old hb, ownsRow_old h.ro hb⟩
/-- Another block than those of the work. -/
theorem WB.other (h : WB w T g fv mn c nds stp out bys ops av bv ov vs bs) {b i : Nat} {u : Value} {cs : Array Value} {t : TypeId} (hb : w.heap[b]? = some (.cells cs t (0, 0))) (hT : T ≤ b) (h1 : t ≠ 75) (h2 : 239 ≠ t) (h3 : 76 ≠ t) (h4 : 3 ≠ t) (h5 : b ≠ g) : WB (w.setCell ⟨b, i, none⟩ u) T g fv mn c nds stp out bys ops av bv ov vs bs := by
  have fx : Fx T w (w.setCell ⟨b, i, none⟩ u) := Fx.set hb h1 hT
  exact ⟨(heap_set_ne _ (Ne.symm h5)).trans h.blk, h.lo, h.fu.keep fx.bel, ownsRow_set h.ra hb h2, h.vl, fun j v n a b => (h.rv j v n a b).keep fx, ownsRow_set h.rb hb h3, fun j v n a b => (h.rl j v n a b).keep fx, ownsRow_set h.ro hb h4⟩
/-- A field of the work itself. -/
theorem WB.field (h : WB w T g fv mn c nds stp out bys ops av bv ov vs bs) {i : Nat} {u : Value} {stp' out' : Int} (he : (#[.int .i64 mn, fv, .int .i64 c.bud, .int .i64 c.hp, .int .i64 stp, av, bv, ov, .int .i64 out] : Array Value).setIfInBounds i u = #[.int .i64 mn, fv, .int .i64 c.bud, .int .i64 c.hp, .int .i64 stp', av, bv, ov, .int .i64 out']) :
    Fx T w (w.setCell ⟨g, i, none⟩ u) ∧ WB (w.setCell ⟨g, i, none⟩ u) T g fv mn c nds stp' out' bys ops av bv ov vs bs := by
  have fx : Fx T w (w.setCell ⟨g, i, none⟩ u) := Fx.set h.blk (by decide) h.lo
  exact ⟨fx, by rw [blk_set _ h.blk, he], h.lo, h.fu.keep fx.bel, ownsRow_set h.ra h.blk (by decide), h.vl, fun j v n a b => (h.rv j v n a b).keep fx, ownsRow_set h.rb h.blk (by decide), fun j v n a b => (h.rl j v n a b).keep fx, ownsRow_set h.ro h.blk (by decide)⟩
theorem WB.setStp (h : WB w T g fv mn c nds stp out bys ops av bv ov vs bs) (m : Int) : Fx T w (w.setCell ⟨g, 4, none⟩ (.int .i64 m)) ∧ WB (w.setCell ⟨g, 4, none⟩ (.int .i64 m)) T g fv mn c nds m out bys ops av bv ov vs bs := h.field rfl
theorem WB.setOut (h : WB w T g fv mn c nds stp out bys ops av bv ov vs bs) (m : Int) : Fx T w (w.setCell ⟨g, 8, none⟩ (.int .i64 m)) ∧ WB (w.setCell ⟨g, 8, none⟩ (.int .i64 m)) T g fv mn c nds stp m bys ops av bv ov vs bs := h.field rfl
/-- One node more. -/
theorem WB.pushN (h : WB w T g fv mn c nds stp out bys ops av bv ov vs bs) {q cap : Nat} {v : Value} {l : Ln} {b : Bool} (hr : Rd w T v l) (hown : w2.ownsRow T 239 2 (.slice (some ⟨q, 0, none⟩) (nds.length + 1) cap) (nds.length + 1) (ncs vs nds ++ [v, .bool b])) (hg : w.grownBy w2 av.ownBlock) :
    Fx T w (w2.setCell ⟨g, 5, none⟩ (.slice (some ⟨q, 0, none⟩) (nds.length + 1) cap)) ∧ WB (w2.setCell ⟨g, 5, none⟩ (.slice (some ⟨q, 0, none⟩) (nds.length + 1) cap)) T g fv mn c (nds ++ [(l, b)]) stp out bys ops (.slice (some ⟨q, 0, none⟩) (nds.length + 1) cap) bv ov (vs ++ [v]) bs := by
  have hb2 := grown_type h.ra hg (by decide) h.blk
  have fx : Fx T w (w2.setCell ⟨g, 5, none⟩ (.slice (some ⟨q, 0, none⟩) (nds.length + 1) cap)) := (Fx.grown h.ra hg (by decide) h.hT).trans (Fx.set hb2 (by decide) h.lo)
  refine ⟨fx, blk_set _ hb2, h.lo, h.fu.keep fx.bel, ?_, by simp [h.vl], fun j u n hu hn => ?_, ownsRow_set (own_grown_type h.ra hg (by decide) h.rb) hb2 (by decide), fun j u n hu hn => (h.rl j u n hu hn).keep fx, ownsRow_set (own_grown_type h.ra hg (by decide) h.ro) hb2 (by decide)⟩
  · rw [List.length_append, ncs_snoc _ _ _ _ h.vl]; exact ownsRow_set hown hb2 (by decide)
  · by_cases hj : j < nds.length
    · rw [List.getElem?_append_left (by rw [h.vl]; exact hj)] at hu
      rw [List.getElem?_append_left hj] at hn
      exact (h.rv j u n hu hn).keep fx
    · rw [List.getElem?_append_right (by rw [h.vl]; omega)] at hu
      rw [List.getElem?_append_right (by omega)] at hn
      rw [h.vl] at hu
      have hj0 : j - nds.length = 0 := by
        have := (List.getElem?_eq_some_iff.1 hn).1; simp at this; omega
      rw [hj0] at hu hn
      simp at hu hn
      subst hu hn
      exact hr.keep fx
/-- A node is laid anew. -/
theorem WB.layN (h : WB w T g fv mn c nds stp out bys ops av bv ov vs bs) {q m cap p : Nat} {v : Value} {l : Ln} {b : Bool} (ha : av = .slice (some ⟨q, 0, none⟩) m cap) (hr : Rd w T v l) (hp : p < nds.length) :
    Fx T w ((w.setCell ⟨q, p * 2, none⟩ v).setCell ⟨q, p * 2 + 1, none⟩ (.bool b)) ∧ WB ((w.setCell ⟨q, p * 2, none⟩ v).setCell ⟨q, p * 2 + 1, none⟩ (.bool b)) T g fv mn c (nds.set p (l, b)) stp out bys ops av bv ov (vs.set p v) bs := by
  subst ha
  have hra := h.ra
  obtain ⟨q', cap', hq, hqb, hqlt⟩ := hra.form (by omega)
  cases hq
  obtain ⟨cs, hg⟩ := rowB hra
  have hg2 := blk_set (i := p * 2) v hg
  have fx : Fx T w ((w.setCell ⟨q, p * 2, none⟩ v).setCell ⟨q, p * 2 + 1, none⟩ (.bool b)) := (Fx.set hg (by decide) hqb).trans (Fx.set hg2 (by decide) hqb)
  refine ⟨fx, ?_, h.lo, h.fu.keep fx.bel, ?_, by simp [h.vl], fun j u n hu hn => ?_, ownsRow_set (ownsRow_set h.rb hg (by decide)) hg2 (by decide), fun j u n hu hn => (h.rl j u n hu hn).keep fx, ownsRow_set (ownsRow_set h.ro hg (by decide)) hg2 (by decide)⟩
  · rw [heap_set_ne _ (ty_ne' h.blk hg (by decide)), heap_set_ne _ (ty_ne' h.blk hg (by decide))]; exact h.blk
  · rw [← ncs_set vs nds p v l b h.vl hp, List.length_set]
    exact own_store (own_store hra _ _) _ _
  · by_cases hjp : p = j
    · subst hjp
      rw [List.getElem?_set_self (by rw [h.vl]; exact hp)] at hu
      rw [List.getElem?_set_self hp] at hn
      cases hu; cases hn
      exact hr.keep fx
    · rw [List.getElem?_set_ne hjp] at hu hn
      exact (h.rv j u n hu hn).keep fx
/-- One list more is put by. -/
theorem WB.pushB (h : WB w T g fv mn c nds stp out bys ops av bv ov vs bs) {q cap : Nat} {v : Value} {l : Ln} (hr : Rd w T v l) (hown : w2.ownsRow T 76 1 (.slice (some ⟨q, 0, none⟩) (bys.length + 1) cap) (bys.length + 1) (bs ++ [v])) (hg : w.grownBy w2 bv.ownBlock) :
    Fx T w (w2.setCell ⟨g, 6, none⟩ (.slice (some ⟨q, 0, none⟩) (bys.length + 1) cap)) ∧ WB (w2.setCell ⟨g, 6, none⟩ (.slice (some ⟨q, 0, none⟩) (bys.length + 1) cap)) T g fv mn c nds stp out (bys ++ [l]) ops av (.slice (some ⟨q, 0, none⟩) (bys.length + 1) cap) ov vs (bs ++ [v]) := by
  have hb2 := grown_type h.rb hg (by decide) h.blk
  have fx : Fx T w (w2.setCell ⟨g, 6, none⟩ (.slice (some ⟨q, 0, none⟩) (bys.length + 1) cap)) := (Fx.grown h.rb hg (by decide) h.hT).trans (Fx.set hb2 (by decide) h.lo)
  refine ⟨fx, blk_set _ hb2, h.lo, h.fu.keep fx.bel, ownsRow_set (own_grown_type h.rb hg (by decide) h.ra) hb2 (by decide), h.vl, fun j u n hu hn => (h.rv j u n hu hn).keep fx, ?_, fun j u n hu hn => ?_, ownsRow_set (own_grown_type h.rb hg (by decide) h.ro) hb2 (by decide)⟩
  · rw [List.length_append]; exact ownsRow_set hown hb2 (by decide)
  · have hbl := h.bl
    by_cases hj : j < bys.length
    · rw [List.getElem?_append_left (by omega)] at hu
      rw [List.getElem?_append_left hj] at hn
      exact (h.rl j u n hu hn).keep fx
    · rw [List.getElem?_append_right (by omega)] at hu
      rw [List.getElem?_append_right (by omega)] at hn
      rw [hbl] at hu
      have hj0 : j - bys.length = 0 := by
        have := (List.getElem?_eq_some_iff.1 hn).1; simp at this; omega
      rw [hj0] at hu hn
      simp at hu hn
      subst hu hn
      exact hr.keep fx
/-- The last list that was put by is gone. -/
theorem WB.popB {l : Ln} (h : WB w T g fv mn c nds stp out (bys ++ [l]) ops av bv ov vs bs) {q m cap : Nat} (hb : bv = .slice (some ⟨q, 0, none⟩) m cap) :
    Fx T w (w.setCell ⟨g, 6, none⟩ (.slice (some ⟨q, 0, none⟩) bys.length cap)) ∧ WB (w.setCell ⟨g, 6, none⟩ (.slice (some ⟨q, 0, none⟩) bys.length cap)) T g fv mn c nds stp out bys ops av (.slice (some ⟨q, 0, none⟩) bys.length cap) ov vs (bs.take bys.length) := by
  subst hb
  have fx : Fx T w (w.setCell ⟨g, 6, none⟩ (.slice (some ⟨q, 0, none⟩) bys.length cap)) := Fx.set h.blk (by decide) h.lo
  have hrb := h.rb
  rw [List.length_append] at hrb
  obtain ⟨q', cap', hq, _, _⟩ := hrb.form (by simp)
  cases hq
  have h2 := own_less hrb (m := bys.length) (by simp)
  rw [Nat.mul_one] at h2
  refine ⟨fx, blk_set _ h.blk, h.lo, h.fu.keep fx.bel, ownsRow_set h.ra h.blk (by decide), h.vl, fun j u n hu hn => (h.rv j u n hu hn).keep fx, ownsRow_set h2 h.blk (by decide), fun j u n hu hn => ?_, ownsRow_set h.ro h.blk (by decide)⟩
  have hj := (List.getElem?_eq_some_iff.1 hn).1
  rw [List.getElem?_take, if_pos hj] at hu
  exact (h.rl j u n hu (by rw [List.getElem?_append_left hj]; exact hn)).keep fx
/-- One node more is open. -/
theorem WB.pushO (h : WB w T g fv mn c nds stp out bys ops av bv ov vs bs) {q cap : Nat} {p : Int} (hown : w2.ownsRow T 3 1 (.slice (some ⟨q, 0, none⟩) (ops.length + 1) cap) (ops.length + 1) (ints ops ++ [.int .i64 p])) (hg : w.grownBy w2 ov.ownBlock) :
    Fx T w (w2.setCell ⟨g, 7, none⟩ (.slice (some ⟨q, 0, none⟩) (ops.length + 1) cap)) ∧ WB (w2.setCell ⟨g, 7, none⟩ (.slice (some ⟨q, 0, none⟩) (ops.length + 1) cap)) T g fv mn c nds stp out bys (ops ++ [p]) av bv (.slice (some ⟨q, 0, none⟩) (ops.length + 1) cap) vs bs := by
  have hb2 := grown_type h.ro hg (by decide) h.blk
  have fx : Fx T w (w2.setCell ⟨g, 7, none⟩ (.slice (some ⟨q, 0, none⟩) (ops.length + 1) cap)) := (Fx.grown h.ro hg (by decide) h.hT).trans (Fx.set hb2 (by decide) h.lo)
  refine ⟨fx, blk_set _ hb2, h.lo, h.fu.keep fx.bel, ownsRow_set (own_grown_type h.ro hg (by decide) h.ra) hb2 (by decide), h.vl, fun j u n hu hn => (h.rv j u n hu hn).keep fx, ownsRow_set (own_grown_type h.ro hg (by decide) h.rb) hb2 (by decide), fun j u n hu hn => (h.rl j u n hu hn).keep fx, ?_⟩
  rw [List.length_append, show ints (ops ++ [p]) = ints ops ++ [.int .i64 p] by simp [ints]]
  exact ownsRow_set hown hb2 (by decide)
theorem WB.popO {p : Int} (h : WB w T g fv mn c nds stp out bys (ops ++ [p]) av bv ov vs bs) {q m cap : Nat} (hb : ov = .slice (some ⟨q, 0, none⟩) m cap) :
    Fx T w (w.setCell ⟨g, 7, none⟩ (.slice (some ⟨q, 0, none⟩) ops.length cap)) ∧ WB (w.setCell ⟨g, 7, none⟩ (.slice (some ⟨q, 0, none⟩) ops.length cap)) T g fv mn c nds stp out bys ops av bv (.slice (some ⟨q, 0, none⟩) ops.length cap) vs bs := by
  subst hb
  have fx : Fx T w (w.setCell ⟨g, 7, none⟩ (.slice (some ⟨q, 0, none⟩) ops.length cap)) := Fx.set h.blk (by decide) h.lo
  have hrb := h.ro
  rw [List.length_append] at hrb
  obtain ⟨q', cap', hq, _, _⟩ := hrb.form (by simp)
  cases hq
  have h2 := own_less hrb (m := ops.length) (by simp)
  rw [Nat.mul_one, show ints (ops ++ [p]) = ints ops ++ [.int .i64 p] by simp [ints], List.take_left' (by simp [ints])] at h2
  exact ⟨fx, blk_set _ h.blk, h.lo, h.fu.keep fx.bel, ownsRow_set h.ra h.blk (by decide), h.vl, fun j u n hu hn => (h.rv j u n hu hn).keep fx, ownsRow_set h.rb h.blk (by decide), fun j u n hu hn => (h.rl j u n hu hn).keep fx, ownsRow_set h2 h.blk (by decide)⟩
/-- What is read of the work's own block. -/
theorem WB.cells (h : WB w T g fv mn c nds stp out bys ops av bv ov vs bs) : w.cell? ⟨g, 0, none⟩ = some (.int .i64 mn) ∧ w.cell? ⟨g, 1, none⟩ = some fv ∧ w.cell? ⟨g, 2, none⟩ = some (.int .i64 c.bud) ∧ w.cell? ⟨g, 3, none⟩ = some (.int .i64 c.hp) ∧ w.cell? ⟨g, 4, none⟩ = some (.int .i64 stp) ∧ w.cell? ⟨g, 5, none⟩ = some av ∧ w.cell? ⟨g, 6, none⟩ = some bv ∧ w.cell? ⟨g, 7, none⟩ = some ov ∧ w.cell? ⟨g, 8, none⟩ = some (.int .i64 out) := by
  refine ⟨?_, ?_, ?_, ?_, ?_, ?_, ?_, ?_, ?_⟩ <;> rw [cell_of_row _ _ _ _ _ _ h.blk] <;> rfl
theorem WB.fz (h : WB w T g fv mn c nds stp out bys ops av bv ov vs bs) (i : Nat) : w.frozen? ⟨g, i, none⟩ = false := frozen_of_row _ _ _ _ _ h.blk
end
/-! step. -/
set_option maxHeartbeats 1000000 in
theorem rStepY (w : World) (T g : Nat) (fv : Value) (mn : Int) (c : Cf) (nds : List (Ln × Bool)) (stp out : Int) (bys : List Ln) (ops : List Int) (h : WP w T g fv mn c nds stp out bys ops) (hs : 0 ≤ stp) (hb : c.bud ≤ 2000) (hlt2 : stp < c.bud) :
    Calls Tryz.prog 178 #[.pointer (some ⟨g, 0, none⟩)] w fun e w' => e = .returned (.bool true) ∧ Fx T w w' ∧ But g w w' ∧ WP w' T g fv mn c nds (stp + 1) out bys ops := by
  obtain ⟨av, bv, ov, vs, bs, hw⟩ := h
  obtain ⟨_, _, c2, _, c4, _, _, _, c8⟩ := hw.cells
  have f4 := hw.fz 4
  have f8 := hw.fz 8
  have hlt := hw.lt
  have H1 : Hid _ := hw.setStp (stp + 1)
  have hd : decide (c.bud ≤ stp) = false := decide_eq_false (by omega)
  have hd2 : ¬ c.bud ≤ stp := by omega
  go_enter Tryz.func178, Tryz.ntmps178
  go_wp2_with fail
  go_region
  all_goals
    go_wp2_with fail
    go_ret
    exact ⟨rfl, H1.out.1.drew, (But.refl g w).set.trans (But.of (Below.drew (Below.refl _ _)) (by rw [sz_setc]; omega)), _, _, _, _, _, H1.out.2.old (Below.drew (Below.refl _ _))⟩
set_option maxHeartbeats 1000000 in
theorem rStepN (w : World) (T g : Nat) (fv : Value) (mn : Int) (c : Cf) (nds : List (Ln × Bool)) (stp out : Int) (bys : List Ln) (ops : List Int) (h : WP w T g fv mn c nds stp out bys ops) (hlt2 : c.bud ≤ stp) :
    Calls Tryz.prog 178 #[.pointer (some ⟨g, 0, none⟩)] w fun e w' => e = .returned (.bool false) ∧ Fx T w w' ∧ But g w w' ∧ WP w' T g fv mn c nds stp 5 bys ops := by
  obtain ⟨av, bv, ov, vs, bs, hw⟩ := h
  obtain ⟨_, _, c2, _, c4, _, _, _, c8⟩ := hw.cells
  have f4 := hw.fz 4
  have f8 := hw.fz 8
  have hlt := hw.lt
  have H1 : Hid _ := hw.setOut 5
  have hd : decide (c.bud ≤ stp) = true := decide_eq_true hlt2
  go_enter Tryz.func178, Tryz.ntmps178
  go_wp2_with fail
  go_region
  all_goals
    go_wp2_with fail
    go_ret
    exact ⟨rfl, H1.out.1.drew, (But.refl g w).set.trans (But.of (Below.drew (Below.refl _ _)) (by rw [sz_setc]; omega)), _, _, _, _, _, H1.out.2.old (Below.drew (Below.refl _ _))⟩

end Go.Proofs.YtnndoagpbcacdaaGreatDoor
namespace Go.Proofs.YtnndoagpbcacdaaGreatDoor
open Go.RowKit

/-! The reference's run: instance. -/
def insR (ar : Ln) (at_ : Nat) (a : Int × Int) : Int × Int := if a.1 = 2 then ar[a.2.toNat]?.getD (0, 0) else if a.1 = 5 then (5, a.2 + at_) else a
theorem insR_snoc (l : Ln) (j : Nat) (h : j < l.length) (ar : Ln) (n : Nat) : (l.take (j + 1)).map (insR ar n) = (l.take j).map (insR ar n) ++ [insR ar n l[j]] := by
  rw [List.take_succ_eq_append_getElem h, List.map_append]; rfl
set_option maxRecDepth 100000 in
set_option maxHeartbeats 2000000 in
theorem rInst (l ar : Ln) (n : Nat) (lv av : Value) (T : Nat) (w : World) (hlv : Rd w T lv l) (hav : Rd w T av ar) (hl : l.length ≤ 1000) (hn : n ≤ 10000000) (h2 : ∀ a ∈ l, a.1 = 2 → 0 ≤ a.2 ∧ a.2 < ar.length) (h5 : ∀ a ∈ l, a.1 = 5 → 0 ≤ a.2 ∧ a.2 ≤ 1000) :
    Calls Tryz.prog 179 #[lv, av, .int .i64 n] w fun e w' => ∃ v, e = .returned v ∧ Below w.heap.size w w' ∧ w'.ownsRow w.heap.size 75 2 v l.length (acs (l.map (insR ar n))) := by
  obtain ⟨ii, hi, hz0, hz1, hz2⟩ := info_parts Tryz.infoAtom
  have HLV : Hid (Rd w T lv l) := hlv
  have HAV : Hid (Rd w T av ar) := hav
  obtain ⟨lo, lc, rfl⟩ := hlv.form
  obtain ⟨ao, ac, rfl⟩ := hav.form
  have hacc := hav.cap
  obtain ⟨_, hac1, hac2⟩ := hacc
  unfold maxLen at hac2
  have H2 : Hid _ := h2
  have H5 : Hid _ := h5
  clear hlv hav h2 h5
  go_enter Tryz.func179, Tryz.ntmps179
  go_wp2_with fail
  go_loopw [7, 8] (fun y z wr => ∃ j : Nat, j ≤ l.length ∧ z = .int .i64 j ∧ Hid (Below w.heap.size w wr) ∧ (∃ yo yc, y = .slice yo j yc) ∧ Hid (wr.ownsRow w.heap.size 75 2 y j (acs ((l.take j).map (insR ar n))))) (fun _ z _ => l.length - (intOf z).toNat)
  case atStart => exact ⟨0, by omega, rfl, Below.refl _ _, ⟨none, 0, rfl⟩, World.ownsRow_nil _ _ _ _⟩
  case round =>
    obtain ⟨j, hj, rfl, HB, ⟨yo, yc, rfl⟩, HR⟩ := hrel
    have hsz := HB.out.size
    by_cases hjl : j < l.length
    · obtain ⟨b, off, lc', e, hblt⟩ := HLV.out.isSome (by omega)
      cases e
      obtain ⟨k0, k1⟩ := Rd.at (Rd.old HLV.out HB.out) j hjl
      have hblt2 : b < wr.heap.size := by omega
      have HS : Hid (acs ((l.take (j + 1)).map (insR ar n)) = acs ((l.take j).map (insR ar n)) ++ [.int .i64 (insR ar n l[j]).1, .int .i64 (insR ar n l[j]).2]) := by show _ = _; rw [insR_snoc l j hjl, acs_snoc]
      have h2j := H2.out l[j] (List.getElem_mem hjl)
      have h5j := H5.out l[j] (List.getElem_mem hjl)
      generalize l[j] = a at *
      obtain ⟨a1, a2⟩ := a
      obtain ⟨x, hx⟩ : ∃ x : Int × Int, x = insR ar n (a1, a2) := ⟨_, rfl⟩
      rw [← hx] at HS
      obtain ⟨x1, x2⟩ := x
      simp only at *
      have HX : Hid ((x1, x2) = insR ar n (a1, a2)) := hx
      clear hx
      generalize acs ((l.take j).map (insR ar n)) = AC at *
      have HNB : Hid (((wr.alloc (Obj.cells #[.int .i64 x1, .int .i64 x2] 75)).alloc (Obj.cells #[.int .i64 x1, .int .i64 x2] 75)).heap[wr.heap.size + 1]? = some (Obj.cells #[.int .i64 x1, .int .i64 x2] 75)) := by
        have := heap_alloc_new (wr.alloc (Obj.cells #[.int .i64 x1, .int .i64 x2] 75)) (Obj.cells #[.int .i64 x1, .int .i64 x2] 75)
        rw [World.size_alloc] at this
        exact this
      have HB3 : Hid (Below w.heap.size w ((wr.alloc (Obj.cells #[.int .i64 x1, .int .i64 x2] 75)).alloc (Obj.cells #[.int .i64 x1, .int .i64 x2] 75))) := (HB.out.alloc hsz _).alloc (by simp; omega) _
      by_cases e2 : a1 = 2
      · subst e2
        obtain ⟨h0, h1⟩ := h2j rfl
        obtain ⟨m, rfl⟩ := Int.eq_ofNat_of_zero_le h0
        have hm : m < ar.length := by omega
        obtain ⟨ab, aoff, ac', e, hablt⟩ := HAV.out.isSome (by omega)
        cases e
        obtain ⟨n0, n1⟩ := Rd.at (Rd.old HAV.out HB.out) m hm
        have hablt2 : ab < wr.heap.size := by omega
        have HXX : x1 = ar[m].1 ∧ x2 = ar[m].2 := by
          have e : insR ar n (2, (m : Int)) = ar[m] := by unfold insR; rw [if_pos rfl]; simp [hm]
          have := HX.out
          rw [e] at this
          exact ⟨congrArg Prod.fst this, congrArg Prod.snd this⟩
        rw [← HXX.1] at n0
        rw [← HXX.2] at n1
        clear HX HXX
        go_wp2_with (at_builtin; go_must (refine wpList_append_lies _ rfl _ _ _ rfl w.heap.size 75 ii _ 2 16 Tryz.underlying76 hi hz0 hz1 hz2 rfl (by omega) (.slice yo j yc) j AC rfl ?hownA _ 1 _ [.int .i64 x1, .int .i64 x2] rfl rfl ?hnewsA ?h1A (by omega) ?h63A ?hbytesA ?hbaseA _ rfl ?_))
        case hownA => exact (World.ownsRow.alloc HR.out _).alloc _
        try case hnewsA => exact World.news_of_block HNB.out
        case h1A => simp [Value.oneCell']
        case h63A => unfold maxLen; omega
        case hbytesA => omega
        case hbaseA => first | omega | (simp; omega)
        intro g cap2 w2 hown2 hgrow2 hat2 hlt2
        have HB2 : Hid (Below w.heap.size w w2) := (HB3.out).grown hgrow2 (by simp; omega) (fun k hk => ((World.ownsRow.lt HR.out k hk).1))
        have HR2 : Hid (w2.ownsRow w.heap.size 75 2 (.slice (some ⟨g, 0, none⟩) (j + 1) cap2) (j + 1) (acs ((l.take (j + 1)).map (insR ar n)))) := by rw [HS.out]; exact hown2
        clear hown2 hgrow2 hat2 hlt2
        go_wp2_with fail
        go_roundw
        case rel => exact ⟨j + 1, hjl, by go_num, HB2.out, ⟨_, _, rfl⟩, HR2.out⟩
        case measure => simp [intOf]; omega
      · have e2' : (a1 == 2) = false := by simpa using e2
        by_cases e5 : a1 = 5
        · subst e5
          obtain ⟨h0, h1⟩ := h5j rfl
          have HXX : x1 = 5 ∧ x2 = a2 + (n : Int) := by
            have e : insR ar n (5, a2) = (5, a2 + (n : Int)) := by unfold insR; rw [if_neg (by simp), if_pos rfl]
            have := HX.out
            rw [e] at this
            exact ⟨congrArg Prod.fst this, congrArg Prod.snd this⟩
          obtain ⟨e1, e3⟩ := HXX
          subst e1
          subst e3
          clear HX
          go_wp2_with (at_builtin; go_must (refine wpList_append_lies _ rfl _ _ _ rfl w.heap.size 75 ii _ 2 16 Tryz.underlying76 hi hz0 hz1 hz2 rfl (by omega) (.slice yo j yc) j AC rfl ?hownB _ 1 _ [.int .i64 5, .int .i64 (a2 + (n : Int))] rfl rfl ?hnewsB ?h1B (by omega) ?h63B ?hbytesB ?hbaseB _ rfl ?_))
          case hownB => exact (World.ownsRow.alloc HR.out _).alloc _
          try case hnewsB => exact World.news_of_block HNB.out
          case h1B => simp [Value.oneCell']
          case h63B => unfold maxLen; omega
          case hbytesB => omega
          case hbaseB => first | omega | (simp; omega)
          intro g cap2 w2 hown2 hgrow2 hat2 hlt2
          have HB2 : Hid (Below w.heap.size w w2) := (HB3.out).grown hgrow2 (by simp; omega) (fun k hk => ((World.ownsRow.lt HR.out k hk).1))
          have HR2 : Hid (w2.ownsRow w.heap.size 75 2 (.slice (some ⟨g, 0, none⟩) (j + 1) cap2) (j + 1) (acs ((l.take (j + 1)).map (insR ar n)))) := by rw [HS.out]; exact hown2
          clear hown2 hgrow2 hat2 hlt2
          go_wp2_with fail
          go_roundw
          case rel => exact ⟨j + 1, hjl, by go_num, HB2.out, ⟨_, _, rfl⟩, HR2.out⟩
          case measure => simp [intOf]; omega
        · have e5' : (a1 == 5) = false := by simpa using e5
          have HXX : x1 = a1 ∧ x2 = a2 := by
            have e : insR ar n (a1, a2) = (a1, a2) := by unfold insR; rw [if_neg e2, if_neg e5]
            have := HX.out
            rw [e] at this
            exact ⟨congrArg Prod.fst this, congrArg Prod.snd this⟩
          obtain ⟨e1, e3⟩ := HXX
          subst e1
          subst e3
          clear HX
          go_wp2_with (at_builtin; go_must (refine wpList_append_lies _ rfl _ _ _ rfl w.heap.size 75 ii _ 2 16 Tryz.underlying76 hi hz0 hz1 hz2 rfl (by omega) (.slice yo j yc) j AC rfl ?hownC _ 1 _ [.int .i64 x1, .int .i64 x2] rfl rfl ?hnewsC ?h1C (by omega) ?h63C ?hbytesC ?hbaseC _ rfl ?_))
          case hownC => exact (World.ownsRow.alloc HR.out _).alloc _
          try case hnewsC => exact World.news_of_block HNB.out
          case h1C => simp [Value.oneCell']
          case h63C => unfold maxLen; omega
          case hbytesC => omega
          case hbaseC => first | omega | (simp; omega)
          intro g cap2 w2 hown2 hgrow2 hat2 hlt2
          have HB2 : Hid (Below w.heap.size w w2) := (HB3.out).grown hgrow2 (by simp; omega) (fun k hk => ((World.ownsRow.lt HR.out k hk).1))
          have HR2 : Hid (w2.ownsRow w.heap.size 75 2 (.slice (some ⟨g, 0, none⟩) (j + 1) cap2) (j + 1) (acs ((l.take (j + 1)).map (insR ar n)))) := by rw [HS.out]; exact hown2
          clear hown2 hgrow2 hat2 hlt2
          go_wp2_with fail
          go_roundw
          case rel => exact ⟨j + 1, hjl, by go_num, HB2.out, ⟨_, _, rfl⟩, HR2.out⟩
          case measure => simp [intOf]; omega
    · have HK : Hid (j = l.length) := by show _ = _; omega
      have hkd : decide ((j : Int) < (l.length : Int)) = false := decide_eq_false (by omega)
      go_wp2_with fail
      go_ret
      refine ⟨_, rfl, HB.out, ?_⟩
      have := HR.out
      rw [List.take_of_length_le (by omega)] at this
      show wr.ownsRow _ _ _ (.slice yo j yc) l.length (acs (l.map (insR ar n)))
      rw [← HK.out]
      exact this

end Go.Proofs.YtnndoagpbcacdaaGreatDoor
