import Derived.Test.YtnndoagpbcacdaaGreatDoorMO1
import Derived.Test.YtnndoagpbcacdaaGreatDoorG9
import Derived.Test.YtnndoagpbcacdaaGreatDoorMM2
namespace Go.Proofs.YtnndoagpbcacdaaGreatDoor
open Go.RowKit

/-! Package redexkeep: grown. -/
/-- A block of four cells: what is read of it, and what is read behind four stores. -/
theorem four_cells {W : World} {b : Nat} {a0 a1 a2 a3 : Value} {t : TypeId} (h : W.heap[b]? = some (.cells #[a0, a1, a2, a3] t (0, 0))) :
    b < W.heap.size ∧ W.cell? ⟨b, 0, none⟩ = some a0 ∧ W.cell? ⟨b, 1, none⟩ = some a1 ∧ W.cell? ⟨b, 2, none⟩ = some a2 ∧ W.cell? ⟨b, 3, none⟩ = some a3 ∧ W.frozen? ⟨b, 0, none⟩ = false ∧ W.frozen? ⟨b, 1, none⟩ = false ∧ W.frozen? ⟨b, 2, none⟩ = false ∧ W.frozen? ⟨b, 3, none⟩ = false ∧
    Hid (∀ x0 x1 x2 x3 : Value, ((((W.setCell ⟨b, 0, none⟩ x0).setCell ⟨b, 1, none⟩ x1).setCell ⟨b, 2, none⟩ x2).setCell ⟨b, 3, none⟩ x3).heap[b]? = some (.cells #[x0, x1, x2, x3] t (0, 0))) := by
  refine ⟨(Array.getElem?_eq_some_iff.1 h).1, ?_, ?_, ?_, ?_, frozen_of_row _ _ _ _ _ h, frozen_of_row _ _ _ _ _ h, frozen_of_row _ _ _ _ _ h, frozen_of_row _ _ _ _ _ h, fun x0 x1 x2 x3 => ?_⟩
  · rw [cell_of_row _ _ 0 _ _ _ h]; rfl
  · rw [cell_of_row _ _ 1 _ _ _ h]; rfl
  · rw [cell_of_row _ _ 2 _ _ _ h]; rfl
  · rw [cell_of_row _ _ 3 _ _ _ h]; rfl
  · rw [blk_set _ (blk_set _ (blk_set _ (blk_set _ h)))]; rfl
theorem But.far {g b i : Nat} {w w' : World} {v : Value} (h : But g w w') (hb : w.heap.size ≤ b) (hg : g ≤ w.heap.size) : But g w (w'.setCell ⟨b, i, none⟩ v) :=
  ⟨h.bel.setCell (by exact Nat.le_trans hg hb) _, fun k hk hn => (heap_set_ne _ (by omega)).trans (h.oth k hk hn)⟩
theorem GB.setO {w : World} {T g b j : Nat} {lv nv pv u : Value} {L : List Int} {k i : Nat} {ns ps : List ByteArray} {cs : Array Value} {t : TypeId} (h : GB w T g lv nv pv L k i ns ps) (hb : w.heap[b]? = some (.cells cs t (0, 0))) (ht : 9 ≠ t) (hg : g < b) : GB (w.setCell ⟨b, j, none⟩ u) T g lv nv pv L k i ns ps :=
  ⟨(heap_set_ne _ (by omega)).trans h.blk, h.lo, h.ri.keep ((Below.refl T w).setCell (by have := h.lo; show T ≤ b; omega) _), h.kl, ownsRow_set h.rn hb ht, ownsRow_set h.rp hb ht⟩
theorem GB.four {w : World} {T g b : Nat} {lv nv pv x0 x1 x2 x3 : Value} {L : List Int} {k i : Nat} {ns ps : List ByteArray} {cs : Array Value} (h : GB w T g lv nv pv L k i ns ps) (hb : w.heap[b]? = some (.cells cs 41 (0, 0))) (hg : g < b) : GB ((((w.setCell ⟨b, 0, none⟩ x0).setCell ⟨b, 1, none⟩ x1).setCell ⟨b, 2, none⟩ x2).setCell ⟨b, 3, none⟩ x3) T g lv nv pv L k i ns ps :=
  (((h.setO hb (by decide) hg).setO (blk_set _ hb) (by decide) hg).setO (blk_set _ (blk_set _ hb)) (by decide) hg).setO (blk_set _ (blk_set _ (blk_set _ hb))) (by decide) hg
theorem But.four {g b : Nat} {w w' : World} {x0 x1 x2 x3 : Value} (h : But g w w') (hb : w.heap.size ≤ b) (hg : g ≤ w.heap.size) : But g w ((((w'.setCell ⟨b, 0, none⟩ x0).setCell ⟨b, 1, none⟩ x1).setCell ⟨b, 2, none⟩ x2).setCell ⟨b, 3, none⟩ x3) := (((h.far hb hg).far hb hg).far hb hg).far hb hg
set_option maxRecDepth 100000 in
set_option maxHeartbeats 1000000 in
theorem kGrown0 (T g : Nat) (lv nv pv : Value) (L : List Int) (k i : Nat) (ns ps : List ByteArray) (w : World) (h : GB w T g lv nv pv L k i ns ps) (hin : ∀ c ∈ L, -9223372036854775808 ≤ c ∧ c ≤ 9223372036854775807) (hL : L.length ≤ maxLen) (dp : Nat) (hdp : dp ≤ 3) (hl : dp = 0 ∨ (nxF 4 (L.drop k)).1 = 0) :
    Calls Tryz.prog 17 #[.pointer (some ⟨g, 0, none⟩), .int .i64 dp] w fun ev w' => ∃ x : ByteArray, ev = .returned (.agg #[.string x, .int .i64 ((nxF 1000000 (nxF 4 (L.drop k)).2).1 : Nat), .bool true, .int .i64 0]) ∧ x.data.toList = decL (nxF 1000000 (nxF 4 (L.drop k)).2).1 ∧ But g w w' ∧ ∃ k', (nxF 1000000 (nxF 4 (L.drop k)).2).2 = L.drop k' ∧ GB w' T g lv nv pv L k' i ns ps := by
  have hal := bel_al w (Obj.cells #[.string ⟨#[]⟩, .int .i64 0, .bool false, .int .i64 0] 41)
  have HC1 : Hid _ := kNext 4 T g lv nv pv L k i ns ps (w.alloc (Obj.cells #[.string ⟨#[]⟩, .int .i64 0, .bool false, .int .i64 0] 41)) (h.old hal) hin hL (by omega) (by omega)
  have HC2 : Hid (∀ k w, GB w T g lv nv pv L k i ns ps → _) := fun k w h => kNext 1000000 T g lv nv pv L k i ns ps w h hin hL (by omega) (by omega)
  have hlt := nxF_lt 4 (L.drop k) (by omega)
  have hgl := h.lt
  have HAL : Hid (But g w (w.alloc (Obj.cells #[.string ⟨#[]⟩, .int .i64 0, .bool false, .int .i64 0] 41))) := But.of hal (by omega)
  have HRB : Hid ((w.alloc (Obj.cells #[.string ⟨#[]⟩, .int .i64 0, .bool false, .int .i64 0] 41)).heap[w.heap.size]? = some (.cells #[.string ⟨#[]⟩, .int .i64 0, .bool false, .int .i64 0] 41 (0, 0))) := heap_alloc_new _ _
  generalize nxF 4 (L.drop k) = x1 at *
  obtain ⟨q, l1⟩ := x1
  simp only at HC1 hl hlt ⊢
  clear h
  have hc : (decide ((dp : Int) = 0) || decide ((q : Int) = 0)) = true := by rcases hl with rfl | rfl <;> simp
  by_cases hd0 : dp = 0
  · subst hd0
    go_enter Tryz.func17, Tryz.ntmps17
    go_wp2_with fail
    refine (show Calls _ _ _ _ _ from HC1.out).mono ?_
    rintro e w1 ⟨rfl, hb1, k1, hk1, hg1⟩
    subst hk1
    clear HC1
    have HC3 : Hid _ := HC2.out k1 w1 hg1
    have hn := nxF_lt 1000000 (L.drop k1) (by omega)
    generalize hx2 : nxF 1000000 (L.drop k1) = x2 at *
    obtain ⟨n, l2⟩ := x2
    have HX2 : Hid (nxF 1000000 (L.drop k1) = (n, l2)) := hx2
    simp only at HC3 hn
    clear hx2
    clear HC2 hg1
    go_wp2_with fail
    refine (show Calls _ _ _ _ _ from HC3.out).mono ?_
    rintro e w2 ⟨rfl, hb2, k2, hk2, hg2⟩
    clear HC3
    have HC4 : Hid _ := kDecimal n w2 (by omega)
    have HG2 : Hid _ := hg2
    have HB2 : Hid (But g w w2) := HAL.out.trans (hb1.trans hb2)
    have hX := (hb2.oth w.heap.size (by have := hb1.size; simp at this; omega) (by omega)).trans ((hb1.oth w.heap.size (by simp) (by omega)).trans HRB.out)
    have HX : Hid _ := hX
    have HK2 : Hid (l2 = L.drop k2) := hk2
    have hgl2 := hg2.lt
    clear hg2 hb1 hb2 hk2
    go_wp2_with fail
    refine (show Calls _ _ _ _ _ from HC4.out).mono ?_
    rintro e w3 ⟨x, rfl, hx, hb3⟩
    clear HC4
    have HXX : Hid _ := (hb3.block _ (Array.getElem?_eq_some_iff.1 hX).1).trans hX
    obtain ⟨hwl, r0, r1, r2, r3, z0, z1, z2, z3, HR⟩ := four_cells HXX.out
    clear hX
    go_wp2_with fail
    obtain ⟨_, q0, q1, q2, q3, _⟩ := four_cells (HR.out (.string x) (.int .i64 (n : Int)) (.bool true) (.int .i64 0))
    refine bodyPost_ret (v := .agg #[.string x, .int .i64 (n : Int), .bool true, .int .i64 0]) (by simp [results, Tryz.results17, go_sem, q0, q1, q2, q3]) rfl ⟨x, by rw [HX2.out], by rw [HX2.out]; exact hx, ?_, k2, by rw [HX2.out]; exact HK2.out, ?_⟩
    · exact (HB2.out.trans (But.of hb3 (by omega))).four (Nat.le_refl _) (by omega)
    · exact (HG2.out.old hb3).four HXX.out hgl
  · obtain rfl : q = 0 := by omega
    have hd1 : ¬ (dp : Int) = 0 := by omega
    go_enter Tryz.func17, Tryz.ntmps17
    go_wp2_with fail
    refine (show Calls _ _ _ _ _ from HC1.out).mono ?_
    rintro e w1 ⟨rfl, hb1, k1, hk1, hg1⟩
    subst hk1
    clear HC1
    have HC3 : Hid _ := HC2.out k1 w1 hg1
    have hn := nxF_lt 1000000 (L.drop k1) (by omega)
    generalize hx2 : nxF 1000000 (L.drop k1) = x2 at *
    obtain ⟨n, l2⟩ := x2
    have HX2 : Hid (nxF 1000000 (L.drop k1) = (n, l2)) := hx2
    simp only at HC3 hn
    clear hx2
    clear HC2 hg1
    go_wp2_with fail
    refine (show Calls _ _ _ _ _ from HC3.out).mono ?_
    rintro e w2 ⟨rfl, hb2, k2, hk2, hg2⟩
    clear HC3
    have HC4 : Hid _ := kDecimal n w2 (by omega)
    have HG2 : Hid _ := hg2
    have HB2 : Hid (But g w w2) := HAL.out.trans (hb1.trans hb2)
    have hX := (hb2.oth w.heap.size (by have := hb1.size; simp at this; omega) (by omega)).trans ((hb1.oth w.heap.size (by simp) (by omega)).trans HRB.out)
    have HX : Hid _ := hX
    have HK2 : Hid (l2 = L.drop k2) := hk2
    have hgl2 := hg2.lt
    clear hg2 hb1 hb2 hk2
    go_wp2_with fail
    refine (show Calls _ _ _ _ _ from HC4.out).mono ?_
    rintro e w3 ⟨x, rfl, hx, hb3⟩
    clear HC4
    have HXX : Hid _ := (hb3.block _ (Array.getElem?_eq_some_iff.1 hX).1).trans hX
    obtain ⟨hwl, r0, r1, r2, r3, z0, z1, z2, z3, HR⟩ := four_cells HXX.out
    clear hX
    go_wp2_with fail
    obtain ⟨_, q0, q1, q2, q3, _⟩ := four_cells (HR.out (.string x) (.int .i64 (n : Int)) (.bool true) (.int .i64 0))
    refine bodyPost_ret (v := .agg #[.string x, .int .i64 (n : Int), .bool true, .int .i64 0]) (by simp [results, Tryz.results17, go_sem, q0, q1, q2, q3]) rfl ⟨x, by rw [HX2.out], by rw [HX2.out]; exact hx, ?_, k2, by rw [HX2.out]; exact HK2.out, ?_⟩
    · exact (HB2.out.trans (But.of hb3 (by omega))).four (Nat.le_refl _) (by omega)
    · exact (HG2.out.old hb3).four HXX.out hgl
def GrC (T g : Nat) (lv nv pv : Value) (L : List Int) (i : Nat) (ns ps : List ByteArray) (e dp : Nat) : Prop := ∀ (k : Nat) (w : World), GB w T g lv nv pv L k i ns ps →
  Calls Tryz.prog 17 #[.pointer (some ⟨g, 0, none⟩), .int .i64 dp] w fun ev w' => ∃ x : ByteArray, ev = .returned (.agg #[.string x, .int .i64 (grF e dp (L.drop k)).1.wo, .bool (grF e dp (L.drop k)).1.ok, .int .i64 ((grF e dp (L.drop k)).1.st : Nat)]) ∧ x.data.toList = shP n0 (e + dp) (grF e dp (L.drop k)).1.t ∧ But g w w' ∧ ∃ k', (grF e dp (L.drop k)).2 = L.drop k' ∧ GB w' T g lv nv pv L k' i ns ps
theorem calc_in {x y : Int} (hx : -1000000000 ≤ x ∧ x ≤ 1000000000) (hy : -1000000000 ≤ y ∧ y ≤ 1000000000) : -1000000000000000000 ≤ x * y ∧ x * y ≤ 1000000000000000000 := by
  have h : (x * y).natAbs ≤ 1000000000 * 1000000000 := by
    rw [Int.natAbs_mul]
    exact Nat.mul_le_mul (by omega) (by omega)
  omega
set_option maxRecDepth 100000 in
set_option maxHeartbeats 1000000 in
theorem kGrownN (T g : Nat) (lv nv pv : Value) (L : List Int) (i : Nat) (ns ps : List ByteArray) (hin : ∀ c ∈ L, -9223372036854775808 ≤ c ∧ c ≤ 9223372036854775807) (hL : L.length ≤ maxLen) (e dp : Nat) (hdp : dp < 3) (ih : GrC T g lv nv pv L i ns ps e dp) (k : Nat) (w : World) (h : GB w T g lv nv pv L k i ns ps) (p : Nat) (hp : p ≤ 2) (hz : (nxF 4 (L.drop k)).1 = p + 1) (hok : (grF e dp (nxF 4 (L.drop k)).2).1.ok = false) :
    Calls Tryz.prog 17 #[.pointer (some ⟨g, 0, none⟩), .int .i64 (dp + 1 : Nat)] w fun ev w' => ∃ x : ByteArray, ev = .returned (.agg #[.string x, .int .i64 (grF e (dp + 1) (L.drop k)).1.wo, .bool (grF e (dp + 1) (L.drop k)).1.ok, .int .i64 ((grF e (dp + 1) (L.drop k)).1.st : Nat)]) ∧ x.data.toList = shP n0 (e + (dp + 1)) (grF e (dp + 1) (L.drop k)).1.t ∧ But g w w' ∧ ∃ k', (grF e (dp + 1) (L.drop k)).2 = L.drop k' ∧ GB w' T g lv nv pv L k' i ns ps := by
  have hal := bel_al w (Obj.cells #[.string ⟨#[]⟩, .int .i64 0, .bool false, .int .i64 0] 41)
  have HC1 : Hid _ := kNext 4 T g lv nv pv L k i ns ps (w.alloc (Obj.cells #[.string ⟨#[]⟩, .int .i64 0, .bool false, .int .i64 0] 41)) (h.old hal) hin hL (by omega) (by omega)
  have HGR : Hid (grF e (dp + 1) (L.drop k) = if (nxF 4 (L.drop k)).1 = 0 then grL (e + dp + 1) (nxF 4 (L.drop k)).2 else if (grF e dp (nxF 4 (L.drop k)).2).1.ok then (smB ((nxF 4 (L.drop k)).1 - 1) (grF e dp (nxF 4 (L.drop k)).2).1 (grF e dp (grF e dp (nxF 4 (L.drop k)).2).2).1, (grF e dp (grF e dp (nxF 4 (L.drop k)).2).2).2) else (smN ((nxF 4 (L.drop k)).1 - 1) (grF e dp (nxF 4 (L.drop k)).2).1, (grF e dp (nxF 4 (L.drop k)).2).2)) := rfl
  rw [if_neg (by omega)] at HGR
  have hgl := h.lt
  have HAL : Hid (But g w (w.alloc (Obj.cells #[.string ⟨#[]⟩, .int .i64 0, .bool false, .int .i64 0] 41))) := But.of hal (by omega)
  have HRB : Hid ((w.alloc (Obj.cells #[.string ⟨#[]⟩, .int .i64 0, .bool false, .int .i64 0] 41)).heap[w.heap.size]? = some (.cells #[.string ⟨#[]⟩, .int .i64 0, .bool false, .int .i64 0] 41 (0, 0))) := heap_alloc_new _ _
  generalize hG : grF e (dp + 1) (L.drop k) = GR at *
  clear hG h
  generalize nxF 4 (L.drop k) = x1 at *
  obtain ⟨q', l1⟩ := x1
  simp only at HC1 hz HGR hok
  subst hz
  have HIH : Hid _ := ih
  have hdi : ((dp + 1 : Nat) : Int) - 1 = (dp : Int) := by omega
  have hd1 : ¬ ((dp + 1 : Nat) : Int) = 0 := by omega
  have hq2 : ¬ (p : Int) + 1 = 0 := by omega
  have hq3 : ((p : Int) + 1 == 0) = false := by simpa using hq2
  have hw : IntKind.i64.wrap (p : Int) = (p : Int) := by
    have : p = 0 ∨ p = 1 ∨ p = 2 := by omega
    rcases this with rfl | rfl | rfl <;> decide
  have hp0 : 0 ≤ (p : Int) + 1 := by omega
  have hp3 : (p : Int) + 1 ≤ 3 := by omega
  have hpp : (p : Int) ≤ (p : Int) + 1 := by omega
  have hd2 : ¬ (dp : Int) + 1 = 0 := by omega
  have hd3 : ((dp : Int) + 1 == 0) = false := by simpa using hd2
  have hb2 : 2 ^ dp ≤ 4 := by
    have : dp = 0 ∨ dp = 1 ∨ dp = 2 := by omega
    rcases this with rfl | rfl | rfl <;> decide
  obtain ⟨sg, HSG, hsl, hx⟩ : ∃ sg : ByteArray, Hid (sg.data.toList = wdT n0 (4, ((p + 1 : Nat) : Int) - 1)) ∧ sg.size = 1 ∧ (⟨#[43, 45, 42]⟩ : ByteArray).extract p (p + 1) = sg := by
    have : p = 0 ∨ p = 1 ∨ p = 2 := by omega
    rcases this with rfl | rfl | rfl
    · exact ⟨_, by show _ = _; decide, by decide, rfl⟩
    · exact ⟨_, by show _ = _; decide, by decide, rfl⟩
    · exact ⟨_, by show _ = _; decide, by decide, rfl⟩
  clear ih hal
  go_enter Tryz.func17, Tryz.ntmps17
  go_wp2_with fail
  refine (show Calls _ _ _ _ _ from HC1.out).mono ?_
  rintro ev w1 ⟨rfl, hb1, k1, hk1, hg1⟩
  subst hk1
  clear HC1
  have HC2 : Hid _ := HIH.out k1 w1 hg1
  have hA := gr_ok e dp (L.drop k1)
  generalize grF e dp (L.drop k1) = A at *
  obtain ⟨⟨at_, awo, aok, ast⟩, l2⟩ := A
  simp only at HC2 HGR hA hok
  subst hok
  have ha1 := hA.ln
  have ha2 := hA.st
  have ha3 := hA.un
  have ha4 := hA.lo
  simp only at ha1 ha2 ha3 ha4
  clear hg1 hA
  go_wp2_with fail
  refine (show Calls _ _ _ _ _ from HC2.out).mono ?_
  rintro ev w2 ⟨xa, rfl, hxa, hb2', k2, hk2, hg2⟩
  clear HC2
  have hxal : xa.size ≤ 44 := by rw [size_len, hxa]; omega
  have HXA : Hid _ := hxa
  have HB2 : Hid (But g w w2) := HAL.out.trans (hb1.trans hb2')
  have HX : Hid _ := (hb2'.oth w.heap.size (by have := hb1.size; simp at this; omega) (by omega)).trans ((hb1.oth w.heap.size (by simp) (by omega)).trans HRB.out)
  subst hk2
  have HG2 : Hid _ := hg2
  have hgl2 := hg2.lt
  have hs1 : ¬ 9223372036854775807 < 3 + xa.size := by omega
  clear hxa hb1 hb2'
  rw [if_neg (by simp)] at HGR
  clear hg2
  have hs2 : ¬ 9223372036854775807 < 3 + xa.size + 3 := by omega
  have HBA : Hid (Below w2.heap.size w2 (w2.alloc (Obj.cells #[.string xa, .int .i64 awo, .bool false, .int .i64 (ast : Nat)] 41)).drew) := Below.drew (bel_al w2 _)
  have HXX : Hid _ := (HBA.out.block _ (Array.getElem?_eq_some_iff.1 HX.out).1).trans HX.out
  obtain ⟨hwl, r0, r1, r2, r3, z0, z1, z2, z3, HR⟩ := four_cells HXX.out
  have HXY : Hid _ := ((bel_al w2 (Obj.cells #[.string xa, .int .i64 awo, .bool false, .int .i64 (ast : Nat)] 41)).block _ (Array.getElem?_eq_some_iff.1 HX.out).1).trans HX.out
  obtain ⟨_, s0, s1, s2, s3, y0, y1, y2, y3, HR2⟩ := four_cells HXY.out
  go_wp2_with fail
  go_region_law (fail)
  all_goals
    go_wp2_with fail
    obtain ⟨_, q0, q1, q2, q3, _⟩ := four_cells (HR2.out (.string (⟨#[40]⟩ ++ sg ++ ⟨#[32]⟩ ++ xa ++ ⟨#[32, 49, 41]⟩)) (.int .i64 0) (.bool false) (.int .i64 (ast : Nat)))
    refine bodyPost_ret (v := .agg #[.string (⟨#[40]⟩ ++ sg ++ ⟨#[32]⟩ ++ xa ++ ⟨#[32, 49, 41]⟩), .int .i64 0, .bool false, .int .i64 (ast : Nat)]) (by simp [results, Tryz.results17, go_sem, q0, q1, q2, q3]) rfl ⟨_, by rw [HGR.out]; rfl, ?_, ?_, k2, by rw [HGR.out], ?_⟩
    · rw [HGR.out]
      show _ = shP n0 _ (aE (4, _) [at_, wE _ (1, 1)])
      rw [shP_two, shP_w, one_wd]
      simp [HXA.out, HSG.out]
    · exact But.trans ((HB2.out.trans (But.of (bel_al w2 _) (by omega))).four (Nat.le_refl _) (by omega)) (But.of (Below.drew (Below.refl _ _)) (by simp [World.setCell]; omega))
    · exact GB.old ((HG2.out.old (bel_al w2 _)).four HXY.out hgl) (Below.drew (Below.refl _ _))

end Go.Proofs.YtnndoagpbcacdaaGreatDoor
namespace Go.Proofs.YtnndoagpbcacdaaGreatDoor
open Go.RowKit

/-! grown, where the first of two is within the bound. -/
set_option maxRecDepth 100000 in
set_option maxHeartbeats 4000000 in
theorem kGrownB (T g : Nat) (lv nv pv : Value) (L : List Int) (i : Nat) (ns ps : List ByteArray) (hin : ∀ c ∈ L, -9223372036854775808 ≤ c ∧ c ≤ 9223372036854775807) (hL : L.length ≤ maxLen) (e dp : Nat) (hdp : dp < 3) (ih : GrC T g lv nv pv L i ns ps e dp) (k : Nat) (w : World) (h : GB w T g lv nv pv L k i ns ps) (p : Nat) (hp : p ≤ 2) (hz : (nxF 4 (L.drop k)).1 = p + 1) (hok : (grF e dp (nxF 4 (L.drop k)).2).1.ok = true) :
    Calls Tryz.prog 17 #[.pointer (some ⟨g, 0, none⟩), .int .i64 (dp + 1 : Nat)] w fun ev w' => ∃ x : ByteArray, ev = .returned (.agg #[.string x, .int .i64 (grF e (dp + 1) (L.drop k)).1.wo, .bool (grF e (dp + 1) (L.drop k)).1.ok, .int .i64 ((grF e (dp + 1) (L.drop k)).1.st : Nat)]) ∧ x.data.toList = shP n0 (e + (dp + 1)) (grF e (dp + 1) (L.drop k)).1.t ∧ But g w w' ∧ ∃ k', (grF e (dp + 1) (L.drop k)).2 = L.drop k' ∧ GB w' T g lv nv pv L k' i ns ps := by
  have hal := bel_al w (Obj.cells #[.string ⟨#[]⟩, .int .i64 0, .bool false, .int .i64 0] 41)
  have HC1 : Hid _ := kNext 4 T g lv nv pv L k i ns ps (w.alloc (Obj.cells #[.string ⟨#[]⟩, .int .i64 0, .bool false, .int .i64 0] 41)) (h.old hal) hin hL (by omega) (by omega)
  have HGR : Hid (grF e (dp + 1) (L.drop k) = if (nxF 4 (L.drop k)).1 = 0 then grL (e + dp + 1) (nxF 4 (L.drop k)).2 else if (grF e dp (nxF 4 (L.drop k)).2).1.ok then (smB ((nxF 4 (L.drop k)).1 - 1) (grF e dp (nxF 4 (L.drop k)).2).1 (grF e dp (grF e dp (nxF 4 (L.drop k)).2).2).1, (grF e dp (grF e dp (nxF 4 (L.drop k)).2).2).2) else (smN ((nxF 4 (L.drop k)).1 - 1) (grF e dp (nxF 4 (L.drop k)).2).1, (grF e dp (nxF 4 (L.drop k)).2).2)) := rfl
  rw [if_neg (by omega)] at HGR
  have hgl := h.lt
  have HAL : Hid (But g w (w.alloc (Obj.cells #[.string ⟨#[]⟩, .int .i64 0, .bool false, .int .i64 0] 41))) := But.of hal (by omega)
  have HRB : Hid ((w.alloc (Obj.cells #[.string ⟨#[]⟩, .int .i64 0, .bool false, .int .i64 0] 41)).heap[w.heap.size]? = some (.cells #[.string ⟨#[]⟩, .int .i64 0, .bool false, .int .i64 0] 41 (0, 0))) := heap_alloc_new _ _
  generalize hG : grF e (dp + 1) (L.drop k) = GR at *
  clear hG h
  generalize nxF 4 (L.drop k) = x1 at *
  obtain ⟨q', l1⟩ := x1
  simp only at HC1 hz HGR hok
  subst hz
  have HIH : Hid _ := ih
  have hdi : ((dp + 1 : Nat) : Int) - 1 = (dp : Int) := by omega
  have hd1 : ¬ ((dp + 1 : Nat) : Int) = 0 := by omega
  have hq2 : ¬ (p : Int) + 1 = 0 := by omega
  have hq3 : ((p : Int) + 1 == 0) = false := by simpa using hq2
  have hw : IntKind.i64.wrap (p : Int) = (p : Int) := by
    have : p = 0 ∨ p = 1 ∨ p = 2 := by omega
    rcases this with rfl | rfl | rfl <;> decide
  have hp0 : 0 ≤ (p : Int) + 1 := by omega
  have hp3 : (p : Int) + 1 ≤ 3 := by omega
  have hpp : (p : Int) ≤ (p : Int) + 1 := by omega
  have hd2 : ¬ (dp : Int) + 1 = 0 := by omega
  have hd3 : ((dp : Int) + 1 == 0) = false := by simpa using hd2
  have hb2 : 2 ^ dp ≤ 4 := by
    have : dp = 0 ∨ dp = 1 ∨ dp = 2 := by omega
    rcases this with rfl | rfl | rfl <;> decide
  obtain ⟨sg, HSG, hsl, hx⟩ : ∃ sg : ByteArray, Hid (sg.data.toList = wdT n0 (4, ((p + 1 : Nat) : Int) - 1)) ∧ sg.size = 1 ∧ (⟨#[43, 45, 42]⟩ : ByteArray).extract p (p + 1) = sg := by
    have : p = 0 ∨ p = 1 ∨ p = 2 := by omega
    rcases this with rfl | rfl | rfl
    · exact ⟨_, by show _ = _; decide, by decide, rfl⟩
    · exact ⟨_, by show _ = _; decide, by decide, rfl⟩
    · exact ⟨_, by show _ = _; decide, by decide, rfl⟩
  clear ih hal
  go_enter Tryz.func17, Tryz.ntmps17
  go_wp2_with fail
  refine (show Calls _ _ _ _ _ from HC1.out).mono ?_
  rintro ev w1 ⟨rfl, hb1, k1, hk1, hg1⟩
  subst hk1
  clear HC1
  have HC2 : Hid _ := HIH.out k1 w1 hg1
  have hA := gr_ok e dp (L.drop k1)
  generalize grF e dp (L.drop k1) = A at *
  obtain ⟨⟨at_, awo, aok, ast⟩, l2⟩ := A
  simp only at HC2 HGR hA hok
  subst hok
  have ha1 := hA.ln
  have ha2 := hA.st
  have ha3 := hA.un
  have ha4 := hA.lo
  simp only at ha1 ha2 ha3 ha4
  clear hg1 hA
  go_wp2_with fail
  refine (show Calls _ _ _ _ _ from HC2.out).mono ?_
  rintro ev w2 ⟨xa, rfl, hxa, hb2', k2, hk2, hg2⟩
  clear HC2
  have hxal : xa.size ≤ 44 := by rw [size_len, hxa]; omega
  have HXA : Hid _ := hxa
  have HB2 : Hid (But g w w2) := HAL.out.trans (hb1.trans hb2')
  have HX : Hid _ := (hb2'.oth w.heap.size (by have := hb1.size; simp at this; omega) (by omega)).trans ((hb1.oth w.heap.size (by simp) (by omega)).trans HRB.out)
  subst hk2
  have HG2 : Hid _ := hg2
  have hgl2 := hg2.lt
  have hs1 : ¬ 9223372036854775807 < 3 + xa.size := by omega
  clear hxa hb1 hb2'
  rw [if_pos trivial] at HGR
  have HA2 : Hid (Below w2.heap.size w2 (w2.alloc (Obj.cells #[.string xa, .int .i64 awo, .bool true, .int .i64 (ast : Nat)] 41))) := bel_al w2 _
  have HC3 : Hid _ := HIH.out k2 _ (hg2.old HA2.out)
  have hB := gr_ok e dp (L.drop k2)
  generalize grF e dp (L.drop k2) = B at *
  obtain ⟨⟨bt_, bwo, bok, bst⟩, l3⟩ := B
  simp only at HC3 HGR hB
  have hb1 := hB.ln
  have hb3 := hB.st
  have hb4 := hB.un
  have hb5 := hB.lo
  simp only at hb1 hb3 hb4 hb5
  have HAX : Hid ((w2.alloc (Obj.cells #[.string xa, .int .i64 awo, .bool true, .int .i64 (ast : Nat)] 41)).heap[w2.heap.size]? = some (.cells #[.string xa, .int .i64 awo, .bool true, .int .i64 (ast : Nat)] 41 (0, 0))) := heap_alloc_new _ _
  have HRX : Hid _ := (HA2.out.block _ (Array.getElem?_eq_some_iff.1 HX.out).1).trans HX.out
  have ha5 := ha4 trivial
  clear hg2 hB ha4
  go_wp2_with fail
  refine (show Calls _ _ _ _ _ from HC3.out).mono ?_
  rintro ev w3 ⟨xb, rfl, hxb, hb3', k3, hk3, hg3⟩
  clear HC3
  have hxbl : xb.size ≤ 44 := by rw [size_len, hxb]; omega
  have HXB : Hid _ := hxb
  have hs3 := hb3'.size
  rw [World.size_alloc] at hs3
  have hwl2 : w.heap.size < w2.heap.size := (Array.getElem?_eq_some_iff.1 HX.out).1
  have HB3 : Hid (But g w w3) := (HB2.out.trans (But.of HA2.out (by omega))).trans hb3'
  have HA3 : Hid _ := (hb3'.oth w2.heap.size (by simp) (by omega)).trans HAX.out
  have HR3 : Hid _ := (hb3'.oth w.heap.size (by simp; omega) (by omega)).trans HRX.out
  have HG3 : Hid _ := hg3
  subst hk3
  have hgl3 := hg3.lt
  have hs2 : ¬ 9223372036854775807 < 3 + xa.size + 1 := by omega
  have hs4 : ¬ 9223372036854775807 < 3 + xa.size + 1 + xb.size := by omega
  have hs5 : ¬ 9223372036854775807 < 3 + xa.size + 1 + xb.size + 1 := by omega
  clear hxb hb3' hg3 HIH HX HAX HRX HAL HRB HA2
  obtain ⟨S, HS⟩ : ∃ S : ByteArray, Hid (S = ⟨#[40]⟩ ++ sg ++ ⟨#[32]⟩ ++ xa ++ ⟨#[32]⟩ ++ xb ++ ⟨#[41]⟩) := ⟨_, rfl⟩
  obtain ⟨st, hst⟩ : ∃ st : Int, st = (ast : Int) + (bst : Int) := ⟨_, rfl⟩
  have HST : Hid (st = (ast : Int) + (bst : Int)) := hst
  clear hst
  go_wp2_with fail
  have HAB : Hid (Below w3.heap.size w3 (w3.alloc (Obj.cells #[.string xb, .int .i64 bwo, .bool bok, .int .i64 (bst : Nat)] 41))) := bel_al w3 _
  have HA4 : Hid _ := (HAB.out.block _ (Array.getElem?_eq_some_iff.1 HA3.out).1).trans HA3.out
  have HB4 : Hid ((w3.alloc (Obj.cells #[.string xb, .int .i64 bwo, .bool bok, .int .i64 (bst : Nat)] 41)).heap[w3.heap.size]? = some (.cells #[.string xb, .int .i64 bwo, .bool bok, .int .i64 (bst : Nat)] 41 (0, 0))) := heap_alloc_new _ _
  generalize w3.alloc (Obj.cells #[.string xb, .int .i64 bwo, .bool bok, .int .i64 (bst : Nat)] 41) = W at *
  obtain ⟨hal1, e0, e1, e2, e3, _, _, _, _, _⟩ := four_cells HA4.out
  obtain ⟨hal2, f0, f1, f2, f3, _, _, _, _, _⟩ := four_cells HB4.out
  go_cut [9] (fun vx wc => vx = .pointer (some ⟨W.heap.size, 0, none⟩) ∧ Hid (Below W.heap.size W wc) ∧ Hid (wc.heap[W.heap.size]? = some (.cells #[.string S, .int .i64 0, .bool false, .int .i64 st] 41 (0, 0))))
  case first =>
    go_region
    all_goals
      go_wp2_with fail
      go_meet
      case rel => exact ⟨rfl, Below.drew (bel_al W _), by rw [HS.out, HST.out]; exact heap_alloc_new W _⟩
  case rest =>
    obtain ⟨hx9, HBC, HSC⟩ := hcut
    rw [hx9]
    clear hx9
    have HBW : Hid (Below w3.heap.size w3 wc) := HAB.out.trans (HBC.out.mono HAB.out.size)
    have HAC : Hid _ := (HBC.out.block _ hal1).trans HA4.out
    have HBB : Hid _ := (HBC.out.block _ hal2).trans HB4.out
    have HRC : Hid _ := (HBW.out.block _ (Array.getElem?_eq_some_iff.1 HR3.out).1).trans HR3.out
    have HTX : Hid (S.data.toList = shP n0 (e + dp + 1) (aE (4, ((p + 1 : Nat) : Int) - 1) [at_, bt_])) := by
      show _ = _
      rw [shP_two, HS.out]
      simp [HXA.out, HXB.out, HSG.out]
    have HGC : Hid _ := HG3.out.old HBW.out
    have HBG : Hid (But g w wc) := HB3.out.trans (But.of HBW.out (by omega))
    obtain ⟨hsl1, r0, r1, r2, r3, z0, z1, z2, z3, _⟩ := four_cells HSC.out
    obtain ⟨hbl1, b0, b1, b2, b3, _, _, _, _, _⟩ := four_cells HBB.out
    obtain ⟨hcl1, c0, c1, c2, c3, _, _, _, _, _⟩ := four_cells HAC.out
    obtain ⟨hrl1, d0, d1, d2, d3, y0, y1, y2, y3, HRR⟩ := four_cells HRC.out
    cases bok
    · have HGE : Hid (GR = (⟨aE (4, ((p + 1 : Nat) : Int) - 1) [at_, bt_], 0, false, ast + bst⟩, L.drop k3)) := by rw [HGR.out]; exact rfl
      go_wp2_with fail
      obtain ⟨_, q0, q1, q2, q3, _⟩ := four_cells (HRR.out (.string S) (.int .i64 0) (.bool false) (.int .i64 st))
      refine bodyPost_ret (v := .agg #[.string S, .int .i64 0, .bool false, .int .i64 st]) (by simp [results, Tryz.results17, go_sem, q0, q1, q2, q3]) rfl ⟨S, ?_, ?_, ?_, k3, by rw [HGR.out], ?_⟩
      · rw [HGE.out]
        simp only
        rw [HST.out, Int.natCast_add]
      · rw [HGE.out]; exact HTX.out
      · exact HBG.out.four (Nat.le_refl _) (by omega)
      · exact HGC.out.four HRC.out hgl
    · have hb6 := hb5 rfl
      obtain ⟨V, hV⟩ : ∃ V, V = calcV (((p + 1 : Nat) : Int) - 1) awo bwo := ⟨_, rfl⟩
      have hmul := calc_in ha5 hb6
      have hVb : -1000000000000000000 ≤ V ∧ V ≤ 1000000000000000000 := by
        rw [hV]; unfold calcV
        split
        · omega
        · split <;> omega
      have HGE : Hid (GR = (⟨aE (4, ((p + 1 : Nat) : Int) - 1) [at_, bt_], V, !overV V, ast + bst + 1⟩, L.drop k3)) := by rw [HGR.out, hV]; exact rfl
      have hpc : (p = 0 ∧ awo + bwo = V) ∨ (p = 1 ∧ awo - bwo = V) ∨ (p = 2 ∧ awo * bwo = V) := by
        have : p = 0 ∨ p = 1 ∨ p = 2 := by omega
        rcases this with rfl | rfl | rfl
        · exact .inl ⟨rfl, hV.symm⟩
        · exact .inr (.inl ⟨rfl, hV.symm⟩)
        · exact .inr (.inr ⟨rfl, hV.symm⟩)
      have hst3 : 0 ≤ st ∧ st ≤ 100 := by rw [HST.out]; omega
      obtain ⟨B, hB⟩ : ∃ B, B = !overV V := ⟨_, rfl⟩
      have HBV : Hid (B = !overV V) := hB
      have hBc : (B = true ∧ V ≤ 1000000000 ∧ -1000000000 ≤ V) ∨ (B = false ∧ ¬ V ≤ 1000000000) ∨ (B = false ∧ V ≤ 1000000000 ∧ ¬ -1000000000 ≤ V) := by
        rw [hB]; unfold overV
        by_cases h1 : V ≤ 1000000000
        · by_cases h2 : -1000000000 ≤ V
          · exact .inl ⟨by simp; omega, h1, h2⟩
          · exact .inr (.inr ⟨by simp; omega, h1, h2⟩)
        · exact .inr (.inl ⟨by simp; omega, h1⟩)
      have hwW : w.heap.size ≤ W.heap.size := by omega
      have hwW2 : w.heap.size ≠ W.heap.size := by omega
      have HR7 : Hid (∀ x y z : Value, (((wc.setCell ⟨W.heap.size, 3, none⟩ x).setCell ⟨W.heap.size, 1, none⟩ y).setCell ⟨W.heap.size, 2, none⟩ z).heap[w.heap.size]? = some (.cells #[.string ⟨#[]⟩, .int .i64 0, .bool false, .int .i64 0] 41 (0, 0))) := by
        intro x y z
        rw [heap_set_ne _ hwW2, heap_set_ne _ hwW2, heap_set_ne _ hwW2]; exact HRC.out
      have HG7 : Hid (∀ x y z : Value, GB (((wc.setCell ⟨W.heap.size, 3, none⟩ x).setCell ⟨W.heap.size, 1, none⟩ y).setCell ⟨W.heap.size, 2, none⟩ z) T g lv nv pv L k3 i ns ps) := fun x y z =>
        ((HGC.out.setO HSC.out (by decide) (by omega)).setO (blk_set _ HSC.out) (by decide) (by omega)).setO (blk_set _ (blk_set _ HSC.out)) (by decide) (by omega)
      clear hb5 hV hmul hB HGR hx hwW2
      rcases hBc with hBc | hBc | hBc
      · obtain ⟨hBB, h1, h2⟩ := hBc
        rw [hBB] at HBV
        obtain ⟨_, q0, q1, q2, q3, _⟩ := four_cells ((four_cells (HR7.out (.int .i64 (st + 1)) (.int .i64 V) (.bool true))).2.2.2.2.2.2.2.2.2.out (.string S) (.int .i64 V) (.bool true) (.int .i64 (st + 1)))
        have Q0 : Hid _ := q0
        have Q1 : Hid _ := q1
        have Q2 : Hid _ := q2
        have Q3 : Hid _ := q3
        clear q0 q1 q2 q3
        rcases hpc with ⟨rfl, hv⟩ | ⟨rfl, hv⟩ | ⟨rfl, hv⟩
        all_goals
          go_wp2_with fail
          refine bodyPost_ret (v := .agg #[.string S, .int .i64 V, .bool true, .int .i64 (st + 1)]) (by simp [results, Tryz.results17, go_sem, Q0.out, Q1.out, Q2.out, Q3.out]) rfl ⟨S, ?_, ?_, ?_, k3, by rw [HGE.out], ?_⟩
          · rw [HGE.out]
            simp only
            rw [← HBV.out, HST.out, Int.natCast_add, Int.natCast_add]; rfl
          · rw [HGE.out]; exact HTX.out
          · exact (((HBG.out.far hwW (by omega)).far hwW (by omega)).far hwW (by omega)).four (Nat.le_refl _) (by omega)
          · exact GB.four (HG7.out _ _ _) (HR7.out _ _ _) hgl
      · obtain ⟨hBB, h1⟩ := hBc
        rw [hBB] at HBV
        obtain ⟨_, q0, q1, q2, q3, _⟩ := four_cells ((four_cells (HR7.out (.int .i64 (st + 1)) (.int .i64 V) (.bool false))).2.2.2.2.2.2.2.2.2.out (.string S) (.int .i64 V) (.bool false) (.int .i64 (st + 1)))
        have Q0 : Hid _ := q0
        have Q1 : Hid _ := q1
        have Q2 : Hid _ := q2
        have Q3 : Hid _ := q3
        clear q0 q1 q2 q3
        rcases hpc with ⟨rfl, hv⟩ | ⟨rfl, hv⟩ | ⟨rfl, hv⟩
        all_goals
          go_wp2_with fail
          refine bodyPost_ret (v := .agg #[.string S, .int .i64 V, .bool false, .int .i64 (st + 1)]) (by simp [results, Tryz.results17, go_sem, Q0.out, Q1.out, Q2.out, Q3.out]) rfl ⟨S, ?_, ?_, ?_, k3, by rw [HGE.out], ?_⟩
          · rw [HGE.out]
            simp only
            rw [← HBV.out, HST.out, Int.natCast_add, Int.natCast_add]; rfl
          · rw [HGE.out]; exact HTX.out
          · exact (((HBG.out.far hwW (by omega)).far hwW (by omega)).far hwW (by omega)).four (Nat.le_refl _) (by omega)
          · exact GB.four (HG7.out _ _ _) (HR7.out _ _ _) hgl
      · obtain ⟨hBB, h1, h2⟩ := hBc
        rw [hBB] at HBV
        obtain ⟨_, q0, q1, q2, q3, _⟩ := four_cells ((four_cells (HR7.out (.int .i64 (st + 1)) (.int .i64 V) (.bool false))).2.2.2.2.2.2.2.2.2.out (.string S) (.int .i64 V) (.bool false) (.int .i64 (st + 1)))
        have Q0 : Hid _ := q0
        have Q1 : Hid _ := q1
        have Q2 : Hid _ := q2
        have Q3 : Hid _ := q3
        clear q0 q1 q2 q3
        rcases hpc with ⟨rfl, hv⟩ | ⟨rfl, hv⟩ | ⟨rfl, hv⟩
        all_goals
          go_wp2_with fail
          refine bodyPost_ret (v := .agg #[.string S, .int .i64 V, .bool false, .int .i64 (st + 1)]) (by simp [results, Tryz.results17, go_sem, Q0.out, Q1.out, Q2.out, Q3.out]) rfl ⟨S, ?_, ?_, ?_, k3, by rw [HGE.out], ?_⟩
          · rw [HGE.out]
            simp only
            rw [← HBV.out, HST.out, Int.natCast_add, Int.natCast_add]; rfl
          · rw [HGE.out]; exact HTX.out
          · exact (((HBG.out.far hwW (by omega)).far hwW (by omega)).far hwW (by omega)).four (Nat.le_refl _) (by omega)
          · exact GB.four (HG7.out _ _ _) (HR7.out _ _ _) hgl

end Go.Proofs.YtnndoagpbcacdaaGreatDoor
