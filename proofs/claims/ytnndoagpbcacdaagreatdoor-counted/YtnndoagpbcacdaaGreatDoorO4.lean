import Derived.Test.YtnndoagpbcacdaaGreatDoorMO3
import Derived.Test.YtnndoagpbcacdaaGreatDoorMO1
import Derived.Test.YtnndoagpbcacdaaGreatDoorML0
import Derived.Test.YtnndoagpbcacdaaGreatDoorMG15
import Derived.Test.YtnndoagpbcacdaaGreatDoorMM2
namespace Go.Proofs.YtnndoagpbcacdaaGreatDoor
open Go.RowKit

/-! Counted, walked. -/
theorem kGrown (T g : Nat) (lv nv pv : Value) (L : List Int) (i : Nat) (ns ps : List ByteArray) (hin : ∀ c ∈ L, -9223372036854775808 ≤ c ∧ c ≤ 9223372036854775807) (hL : L.length ≤ maxLen) (e : Nat) : ∀ dp, dp ≤ 3 → GrC T g lv nv pv L i ns ps e dp
  | 0, _ => fun k w h => by
    have := kGrown0 T g lv nv pv L k i ns ps w h hin hL 0 (by omega) (.inl rfl)
    refine this.mono ?_
    rintro ev w' ⟨x, h1, h2, h3⟩
    refine ⟨x, h1, ?_, h3⟩
    show _ = shP n0 e (wE e _)
    rw [shP_w, h2]
    show _ = decL _
    rw [Int.toNat_natCast]
  | dp + 1, hd => fun k w h => by
    by_cases h0 : (nxF 4 (L.drop k)).1 = 0
    · have := kGrown0 T g lv nv pv L k i ns ps w h hin hL (dp + 1) hd (.inr h0)
      refine this.mono ?_
      rintro ev w' ⟨x, h1, h2, h3⟩
      have hg : grF e (dp + 1) (L.drop k) = grL (e + dp + 1) (nxF 4 (L.drop k)).2 := by rw [grF, if_pos h0]
      rw [hg]
      refine ⟨x, h1, ?_, h3⟩
      show _ = shP n0 (e + dp + 1) (wE (e + dp + 1) _)
      rw [shP_w, h2]
      show _ = decL _
      rw [Int.toNat_natCast]
    · have h4 := nxF_lt 4 (L.drop k) (by omega)
      have ih := kGrown T g lv nv pv L i ns ps hin hL e dp (by omega)
      cases hok : (grF e dp (nxF 4 (L.drop k)).2).1.ok with
      | false => exact kGrownN T g lv nv pv L i ns ps hin hL e dp (by omega) ih k w h ((nxF 4 (L.drop k)).1 - 1) (by omega) (by omega) hok
      | true => exact kGrownB T g lv nv pv L i ns ps hin hL e dp (by omega) ih k w h ((nxF 4 (L.drop k)).1 - 1) (by omega) (by omega) hok

theorem tri_cells {W : World} {b : Nat} {a0 a1 a2 : Value} {t : TypeId} (h : W.heap[b]? = some (.cells #[a0, a1, a2] t (0, 0))) :
    b < W.heap.size ∧ W.cell? ⟨b, 0, none⟩ = some a0 ∧ W.cell? ⟨b, 1, none⟩ = some a1 ∧ W.cell? ⟨b, 2, none⟩ = some a2 ∧ W.frozen? ⟨b, 0, none⟩ = false ∧ W.frozen? ⟨b, 1, none⟩ = false ∧ W.frozen? ⟨b, 2, none⟩ = false := by
  refine ⟨(Array.getElem?_eq_some_iff.1 h).1, ?_, ?_, ?_, frozen_of_row _ _ _ _ _ h, frozen_of_row _ _ _ _ _ h, frozen_of_row _ _ _ _ _ h⟩
  · rw [cell_of_row _ _ 0 _ _ _ h]; rfl
  · rw [cell_of_row _ _ 1 _ _ _ h]; rfl
  · rw [cell_of_row _ _ 2 _ _ _ h]; rfl
set_option maxRecDepth 100000 in
set_option maxHeartbeats 4000000 in
theorem kCounted (lv : Value) (L : List Int) (n : Int) (w : World) (hri : IntsRd w w.heap.size lv L) (hin : ∀ c ∈ L, -9223372036854775808 ≤ c ∧ c ≤ 9223372036854775807) (hn1 : -9223372036854775808 ≤ n) (hn2 : n ≤ 9223372036854775807) (ht : Tab w) :
    Calls Tryz.prog 10 #[lv, .int .i64 n] w fun e w' => e = .returned (.bool true) ∧ Below w.heap.size w w' := by
  have hal := bel_al w (Obj.cells #[lv, .int .i64 0, .slice none 0 0, .slice none 0 0, .int .i64 0] 39)
  have hL : L.length ≤ maxLen := by obtain ⟨a, cap, _, h1, h2, _⟩ := hri; omega
  have hgb : GB (w.alloc (Obj.cells #[lv, .int .i64 0, .slice none 0 0, .slice none 0 0, .int .i64 0] 39)) w.heap.size w.heap.size lv (.slice none 0 0) (.slice none 0 0) L 0 0 [] [] :=
    ⟨heap_alloc_new _ _, Nat.le_refl _, hri.keep hal, Nat.zero_le _, World.ownsRow_nil _ _ _ _, World.ownsRow_nil _ _ _ _⟩
  have HC1 : Hid _ := kGrown w.heap.size w.heap.size lv (.slice none 0 0) (.slice none 0 0) L 0 [] [] hin hL 0 3 (by omega) 0 _ hgb
  have HC2 : Hid _ := kGrown w.heap.size w.heap.size lv (.slice none 0 0) (.slice none 0 0) L 0 [] [] hin hL 1 2 (by omega)
  have HCP : Hid (∀ w', Calls Tryz.prog 19 #[.int .i64 n, .int .i64 2] w' fun e w'' => e = .returned (.int .i64 (pickF n 2 : Nat)) ∧ w'' = w') := fun w' => kPick n 2 w' hn1 hn2 (by omega) (by omega)
  have hpk : pickF n 2 < 2 := by unfold pickF; omega
  have HT : Hid (∀ w', Below w.heap.size w w' → Tab w') := fun w' hb => ht.below hb
  rw [List.drop_zero] at HC1
  have hA := gr_ok 0 3 L
  generalize grF 0 3 L = A at *
  obtain ⟨a, l1⟩ := A
  simp only at HC1 hA
  generalize pickF n 2 = c at *
  obtain ⟨va, vc, rfl, _, _, _⟩ := hri
  have hs0 := hal.size
  have HAL : Hid _ := hal
  clear hgb ht hal
  go_enter Tryz.func10, Tryz.ntmps10
  go_wp2_with fail
  refine (show Calls _ _ _ _ _ from HC1.out).mono ?_
  rintro ev w1 ⟨xa, rfl, hxa, hb1, k1, hk1, hg1⟩
  clear HC1
  subst hk1
  have HB1 : Hid (Below w.heap.size w w1) := HAL.out.trans hb1.bel
  have hxal : xa.size ≤ 83 := by have := hA.ln; rw [size_len, hxa]; omega
  have hs1 := hb1.size
  rw [World.size_alloc] at hs1
  obtain ⟨S, hS⟩ : ∃ S : ByteArray, S = ⟨#[109, 97, 105, 110, 32, 61, 32, 105, 32]⟩ ++ xa ++ ⟨#[59, 32, 105, 32, 120, 32, 61, 32, 120, 59]⟩ := ⟨_, rfl⟩
  have hSd : S.data.toList = [109, 97, 105, 110, 32, 61, 32, 105, 32] ++ (shP n0 3 a.t ++ [59, 32, 105, 32, 120, 32, 61, 32, 120, 59]) := by
    rw [hS, data_app, data_app, hxa]; simp
  have hun : unE 3 a.t + 1 ≤ 8 := hA.un
  obtain ⟨hck, hcd, hgd⟩ := cnt_i a.t hA.ok (by omega) S (by rw [size_len, hSd]; simp; rw [← hxa, ← size_len]; omega) hSd
  obtain ⟨R, hR⟩ : ∃ R, R = runI ⟨[⟨0, [(3, 1), partE 3 a.t 0] :: linesE 3 a.t 0⟩, ⟨1, [[(2, 0)]]⟩], 2000, 24000⟩ 0 := ⟨_, rfl⟩
  have hrun := run_i a 8 hA (by omega) _ rfl
  rw [← hR] at hrun
  have HEV : Hid (∀ w', Below w.heap.size w w' → Calls Tryz.prog 18 #[.string (⟨#[109, 97, 105, 110, 32, 61, 32, 105, 32]⟩ ++ xa ++ ⟨#[59, 32, 105, 32, 120, 32, 61, 32, 120, 59]⟩), .int .i64 2000] w' fun e w'' => e = .returned (.tuple #[.agg #[.int .i64 R.out, .int .i64 R.val, .int .i64 R.stp], .int .i64 0]) ∧ Below w'.heap.size w' w'') := fun w' hb => by
    have := xEvalI S 2000 _ w' (by unfold maxLen; rw [size_len, hSd]; simp; rw [← hxa, ← size_len]; omega) (HT.out w' hb) hck hcd hgd (by omega) (by omega)
    rw [← hS, hR]
    exact this
  have HXA : Hid _ := hxa
  have HG1 : Hid _ := hg1
  have HHA : Hid _ := hA
  have HRUN : Hid _ := hrun
  have hat : a.st ≤ unE 3 a.t := hA.st
  clear hg1 hxa hb1 hS hSd hck hcd hgd hR hrun hA
  obtain ⟨t, wo, ok, st⟩ := a
  simp only at *
  have hst7 : st ≤ 7 := by omega
  cases ok
  · obtain ⟨q1, q2, q3⟩ := HRUN.out.2 rfl
    rw [q1, q2, q3] at HEV
    have HC3 : Hid _ := HEV.out (w1.alloc (Obj.cells #[.string xa, .int .i64 wo, .bool false, .int .i64 (st : Nat)] 41)) (HB1.out.trans ((bel_al w1 _).mono (by omega)))
    have HGA : Hid _ := HG1.out.old (bel_al w1 (Obj.cells #[.string xa, .int .i64 wo, .bool false, .int .i64 (st : Nat)] 41))
    clear HRUN HEV q1 q2 q3 R
    go_wp2_with fail
    refine (show Calls _ _ _ _ _ from HC3.out).mono ?_
    rintro ev w2 ⟨rfl, hb2⟩
    clear HC3
    have HG2 : Hid _ := HGA.out.old hb2
    have HAX : Hid _ := (hb2.block w1.heap.size (by simp)).trans (heap_alloc_new w1 (Obj.cells #[.string xa, .int .i64 wo, .bool false, .int .i64 (st : Nat)] 41))
    obtain ⟨hal1, e0, e1, e2, e3, _, _, _, _, _⟩ := four_cells HAX.out
    have HB2 : Hid (Below w.heap.size w w2) := (HB1.out.trans ((bel_al w1 _).mono (by omega))).trans (hb2.mono (by simp; omega))
    have HAL2 : Hid (Below w2.heap.size w2 ((w2.alloc (Obj.cells #[.int .i64 4, .int .i64 0, .int .i64 ((st : Int) + 2)] 31)).alloc (Obj.cells #[.int .i64 4, .int .i64 0, .int .i64 ((st : Int) + 2)] 31))) := below_al2 _ _ _
    have HC4 : Hid _ := HC2.out k1 _ (HG2.out.old HAL2.out)
    generalize grF 1 2 (L.drop k1) = B at *
    obtain ⟨⟨u, bwo, bok, bst⟩, l2⟩ := B
    simp only at HC4
    clear hb2 HGA HC2
    go_wp2_with fail
    refine (show Calls _ _ _ _ _ from HC4.out).mono ?_
    rintro ev w3 ⟨xb, rfl, _, hb3, _⟩
    clear HC4
    have HAY : Hid _ := (hb3.oth w1.heap.size (by have := HAL2.out.size; omega) (by omega)).trans ((HAL2.out.block _ hal1).trans HAX.out)
    obtain ⟨hal2, f0, f1, f2, f3, _, _, _, _, _⟩ := four_cells HAY.out
    have HB3 : Hid (Below w.heap.size w w3) := (HB2.out.trans (HAL2.out.mono HB2.out.size)).trans hb3.bel
    clear hb3
    go_wp2_with fail
    go_ret
    exact ⟨rfl, HB3.out.trans ((bel_al w3 _).mono HB3.out.size)⟩
  · obtain ⟨q1, q2, q3⟩ := HRUN.out.1 rfl
    rw [q1, q2, q3] at HEV
    have HC3 : Hid _ := HEV.out (w1.alloc (Obj.cells #[.string xa, .int .i64 wo, .bool true, .int .i64 (st : Nat)] 41)) (HB1.out.trans ((bel_al w1 _).mono (by omega)))
    have HGA : Hid _ := HG1.out.old (bel_al w1 (Obj.cells #[.string xa, .int .i64 wo, .bool true, .int .i64 (st : Nat)] 41))
    clear HRUN HEV q1 q2 q3 R
    go_wp2_with fail
    refine (show Calls _ _ _ _ _ from HC3.out).mono ?_
    rintro ev w2 ⟨rfl, hb2⟩
    clear HC3
    have HG2 : Hid _ := HGA.out.old hb2
    have HAX : Hid _ := (hb2.block w1.heap.size (by simp)).trans (heap_alloc_new w1 (Obj.cells #[.string xa, .int .i64 wo, .bool true, .int .i64 (st : Nat)] 41))
    obtain ⟨hal1, e0, e1, e2, e3, _, _, _, _, _⟩ := four_cells HAX.out
    have HB2 : Hid (Below w.heap.size w w2) := (HB1.out.trans ((bel_al w1 _).mono (by omega))).trans (hb2.mono (by simp; omega))
    have HAL2 : Hid (Below w2.heap.size w2 ((w2.alloc (Obj.cells #[.int .i64 1, .int .i64 wo, .int .i64 ((st : Int) + 2)] 31)).alloc (Obj.cells #[.int .i64 1, .int .i64 wo, .int .i64 ((st : Int) + 2)] 31))) := below_al2 _ _ _
    have HC4 : Hid _ := HC2.out k1 _ (HG2.out.old HAL2.out)
    have hB := gr_ok 1 2 (L.drop k1)
    generalize grF 1 2 (L.drop k1) = B at *
    obtain ⟨⟨u, bwo, bok, bst⟩, l2⟩ := B
    simp only at HC4 hB
    have HHB : Hid _ := hB
    have hbt : bst ≤ unE 3 u := hB.st
    have hbu : unE 3 u + 1 ≤ 4 := hB.un
    have hbl : (shP n0 3 u).length + 5 ≤ 44 := hB.ln
    clear hb2 HGA HC2 hB
    have hwo : (wo == wo) = true := by simp
    have hwst : ((st : Int) + 2 == (st : Int) + 2) = true := by simp
    go_wp2_with fail
    refine (show Calls _ _ _ _ _ from HC4.out).mono ?_
    rintro ev w3 ⟨xb, rfl, hxb, hb3, _⟩
    clear HC4
    have HXB : Hid (xb.data.toList = shP n0 3 u) := hxb
    have hxbl : xb.size ≤ 39 := by rw [size_len, HXB.out]; omega
    have HAY : Hid _ := (hb3.oth w1.heap.size (by have := HAL2.out.size; omega) (by omega)).trans ((HAL2.out.block _ hal1).trans HAX.out)
    obtain ⟨hal2, f0, f1, f2, f3, _, _, _, _, _⟩ := four_cells HAY.out
    have HB3 : Hid (Below w.heap.size w w3) := (HB2.out.trans (HAL2.out.mono HB2.out.size)).trans hb3.bel
    have HR3 : Hid _ := (hb3.oth w2.heap.size (by have := HAL2.out.size; simp at this ⊢; omega) (by have := HB2.out.size; omega)).trans ((Below.heap_alloc (w2.alloc (Obj.cells #[.int .i64 1, .int .i64 wo, .int .i64 ((st : Int) + 2)] 31)) (Obj.cells #[.int .i64 1, .int .i64 wo, .int .i64 ((st : Int) + 2)] 31) w2.heap.size (by simp)).trans (heap_alloc_new w2 (Obj.cells #[.int .i64 1, .int .i64 wo, .int .i64 ((st : Int) + 2)] 31)))
    clear hb3 hxb
    cases bok
    · go_wp2_with fail
      go_ret
      exact ⟨rfl, HB3.out.trans ((bel_al w3 _).mono HB3.out.size)⟩
    · have hR3 : Hid (w3.heap[w2.heap.size]? = some (.cells #[.int .i64 1, .int .i64 wo, .int .i64 ((st : Int) + 2)] 31 (0, 0))) := HR3
      have HBW : Hid (Below w3.heap.size w3 (w3.alloc (Obj.cells #[.string xb, .int .i64 bwo, .bool true, .int .i64 (bst : Nat)] 41))) := bel_al w3 _
      have HBX : Hid ((w3.alloc (Obj.cells #[.string xb, .int .i64 bwo, .bool true, .int .i64 (bst : Nat)] 41)).heap[w3.heap.size]? = some (.cells #[.string xb, .int .i64 bwo, .bool true, .int .i64 (bst : Nat)] 41 (0, 0))) := heap_alloc_new _ _
      have hs1 := (Array.getElem?_eq_some_iff.1 HAY.out).1
      have hs2 := (Array.getElem?_eq_some_iff.1 hR3.out).1
      have HAW : Hid _ := (HBW.out.block _ hs1).trans HAY.out
      have HRW : Hid _ := (HBW.out.block _ hs2).trans hR3.out
      obtain ⟨Y, V, hYV⟩ : ∃ (Y : Bool) (V : Int), Y = picks ((c : Int) + 3) wo bwo ∧ V = if Y then 7 else 8 := ⟨_, _, rfl, rfl⟩
      have HEV : Hid (∀ w', Below w.heap.size w w' → ∀ sg : ByteArray, sg = (⟨#[60, 63]⟩ : ByteArray).extract c (c + 1) → Calls Tryz.prog 18 #[.string (⟨#[109, 97, 105, 110, 32, 61, 32]⟩ ++ sg ++ ⟨#[32]⟩ ++ xa ++ ⟨#[32]⟩ ++ xb ++ ⟨#[32, 55, 32, 56, 59]⟩), .int .i64 2000] w' fun e w'' => e = .returned (.tuple #[.agg #[.int .i64 1, .int .i64 V, .int .i64 ((st : Int) + (bst : Int) + 2)], .int .i64 0]) ∧ Below w'.heap.size w' w'') := fun w' hb sg hsg => by
        obtain ⟨S, hS⟩ : ∃ S : ByteArray, S = ⟨#[109, 97, 105, 110, 32, 61, 32]⟩ ++ sg ++ ⟨#[32]⟩ ++ xa ++ ⟨#[32]⟩ ++ xb ++ ⟨#[32, 55, 32, 56, 59]⟩ := ⟨_, rfl⟩
        have hsd : sg.data.toList = [if (c : Int) + 3 = 3 then (60 : UInt8) else 63] := by
          rw [hsg]
          have : c = 0 ∨ c = 1 := by omega
          rcases this with rfl | rfl <;> decide
        have hSd : S.data.toList = [109, 97, 105, 110, 32, 61, 32, if (c : Int) + 3 = 3 then (60 : UInt8) else 63, 32] ++ (shP n0 3 t ++ (32 :: (shP n0 3 u ++ [32, 55, 32, 56, 59]))) := by
          rw [hS, data_app, data_app, data_app, data_app, data_app, data_app, HXA.out, HXB.out, hsd]; simp
        have hsz : S.size ≤ 1000 := by
          rw [size_len, hSd]
          have h1 : (shP n0 3 t).length = xa.size := by rw [size_len, HXA.out]
          have h2 : (shP n0 3 u).length = xb.size := by rw [size_len, HXB.out]
          simp only [List.length_append, List.length_cons, List.length_nil, h1, h2]; omega
        obtain ⟨hck, hcd, hgd⟩ := cnt_p t u HHA.out.ok HHB.out.ok (by omega) ((c : Int) + 3) (by omega) _ rfl S hsz hSd
        have hE := xEvalI S 2000 _ w' (by unfold maxLen; omega) (HT.out w' hb) hck hcd hgd (by omega) (by omega)
        obtain ⟨r1, r2, r3⟩ := run_p ⟨t, wo, true, st⟩ ⟨u, bwo, true, bst⟩ 8 4 HHA.out HHB.out (by omega) (by omega) rfl rfl ((c : Int) + 3) (by omega) _ rfl
        simp only at r1 r2 r3 hE
        rw [r1, r2, r3, ← hYV.1, ← hYV.2, hS] at hE
        exact hE
      have hcs : (c = 0 ∧ Y = decide (wo < bwo)) ∨ (c = 1 ∧ Y = decide (wo = bwo)) := by
        have : c = 0 ∨ c = 1 := by omega
        rcases this with rfl | rfl
        · exact .inl ⟨rfl, hYV.1⟩
        · exact .inr ⟨rfl, hYV.1⟩
      have HV : Hid (V = if Y then 7 else 8) := hYV.2
      have hb2s : bst ≤ 3 := by omega
      have hc1 : ¬ 9223372036854775807 < 9 + xa.size := by omega
      have hc2 : ¬ 9223372036854775807 < 9 + xa.size + 1 := by omega
      have hc3 : ¬ 9223372036854775807 < 9 + xa.size + 1 + xb.size := by omega
      have hc4 : ¬ 9223372036854775807 < 9 + xa.size + 1 + xb.size + 5 := by omega
      have hz0 : IntKind.i64.wrap 0 = 0 := by decide
      have hz1 : IntKind.i64.wrap 1 = 1 := by decide
      have hz2 : IntKind.i64.wrap 2 = 2 := by decide
      obtain ⟨sg, hsg⟩ : ∃ sg : ByteArray, sg = (⟨#[60, 63]⟩ : ByteArray).extract c (c + 1) := ⟨_, rfl⟩
      have hsl : sg.size = 1 := by
        rw [hsg]
        have : c = 0 ∨ c = 1 := by omega
        rcases this with rfl | rfl <;> decide
      have HEV2 : Hid (∀ w', Below w.heap.size w w' → _) := fun w' hb => HEV.out w' hb sg hsg
      clear HHA HHB HEV hYV
      go_wp2_with fail
      refine (show Calls _ _ _ _ _ from HCP.out _).mono ?_
      rintro ev w4 ⟨rfl, rfl⟩
      clear HCP
      have HBA : Hid (Below w.heap.size w (w3.alloc (Obj.cells #[.string xb, .int .i64 bwo, .bool true, .int .i64 (bst : Nat)] 41))) := HB3.out.trans (HBW.out.mono HB3.out.size)
      have hne1 : w1.heap.size ≠ w2.heap.size := by omega
      have hne2 : w3.heap.size ≠ w2.heap.size := by omega
      generalize w3.alloc (Obj.cells #[.string xb, .int .i64 bwo, .bool true, .int .i64 (bst : Nat)] 41) = W at *
      obtain ⟨ha, i0, i1, i2, i3, _, _, _, _, _⟩ := four_cells HAW.out
      obtain ⟨hb, j0, j1, j2, j3, _, _, _, _, _⟩ := four_cells HBX.out
      have hwl2 : w.heap.size ≤ w2.heap.size := HB2.out.size
      rcases hcs with ⟨rfl, hY⟩ | ⟨rfl, hY⟩
      · have hx : (⟨#[60, 63]⟩ : ByteArray).extract 0 1 = sg := hsg.symm
        clear hsg
        by_cases hlt : wo < bwo
        · have hd : decide (wo < bwo) = true := by simpa using hlt
          rw [hd] at hY
          subst hY
          obtain rfl : V = 7 := HV.out
          go_wp2_with fail
          go_region_with (go_at_call 18; go_must (refine (show Calls _ _ _ _ _ from HEV2.out _ (by first | exact HBA.out | exact Below.drew HBA.out)).mono ?_); rintro ev w5 ⟨rfl, hb5⟩; obtain ⟨hr0, m0, m1, m2, n0', n1, n2⟩ := tri_cells ((hb5.block _ (by exact (Array.getElem?_eq_some_iff.1 HRW.out).1)).trans HRW.out); obtain ⟨_, t0, t1, t2, t3, _, _, _, _, _⟩ := four_cells ((hb5.block _ (by exact ha)).trans HAW.out); obtain ⟨_, p0, p1, p2, p3, _, _, _, _, _⟩ := four_cells ((hb5.block _ (by exact hb)).trans HBX.out); have HB5 : Hid (Below w.heap.size w w5) := (Below.drew HBA.out).trans (hb5.mono (by have := HBA.out.size; exact this)))
          all_goals
            go_wp2_with fail
            go_ret
            exact ⟨rfl, ((HB5.out.setCell (by exact hwl2) _).setCell (by exact hwl2) _).setCell (by exact hwl2) _⟩
        · have hd : decide (wo < bwo) = false := by simpa using hlt
          rw [hd] at hY
          subst hY
          obtain rfl : V = 8 := HV.out
          go_wp2_with fail
          go_region_with (go_at_call 18; go_must (refine (show Calls _ _ _ _ _ from HEV2.out _ (by first | exact HBA.out | exact Below.drew HBA.out)).mono ?_); rintro ev w5 ⟨rfl, hb5⟩; obtain ⟨hr0, m0, m1, m2, n0', n1, n2⟩ := tri_cells ((hb5.block _ (by exact (Array.getElem?_eq_some_iff.1 HRW.out).1)).trans HRW.out); obtain ⟨_, t0, t1, t2, t3, _, _, _, _, _⟩ := four_cells ((hb5.block _ (by exact ha)).trans HAW.out); obtain ⟨_, p0, p1, p2, p3, _, _, _, _, _⟩ := four_cells ((hb5.block _ (by exact hb)).trans HBX.out); have HB5 : Hid (Below w.heap.size w w5) := (Below.drew HBA.out).trans (hb5.mono (by have := HBA.out.size; exact this)))
          all_goals
            go_wp2_with fail
            go_ret
            exact ⟨rfl, ((HB5.out.setCell (by exact hwl2) _).setCell (by exact hwl2) _).setCell (by exact hwl2) _⟩
      · have hx : (⟨#[60, 63]⟩ : ByteArray).extract 1 2 = sg := hsg.symm
        clear hsg
        by_cases hlt : wo = bwo
        · have he : (wo == bwo) = true := by simpa using hlt
          have hd : decide (wo = bwo) = true := by simpa using hlt
          rw [hd] at hY
          subst hY
          obtain rfl : V = 7 := HV.out
          go_wp2_with fail
          go_region_with (go_at_call 18; go_must (refine (show Calls _ _ _ _ _ from HEV2.out _ (by first | exact HBA.out | exact Below.drew HBA.out)).mono ?_); rintro ev w5 ⟨rfl, hb5⟩; obtain ⟨hr0, m0, m1, m2, n0', n1, n2⟩ := tri_cells ((hb5.block _ (by exact (Array.getElem?_eq_some_iff.1 HRW.out).1)).trans HRW.out); obtain ⟨_, t0, t1, t2, t3, _, _, _, _, _⟩ := four_cells ((hb5.block _ (by exact ha)).trans HAW.out); obtain ⟨_, p0, p1, p2, p3, _, _, _, _, _⟩ := four_cells ((hb5.block _ (by exact hb)).trans HBX.out); have HB5 : Hid (Below w.heap.size w w5) := (Below.drew HBA.out).trans (hb5.mono (by have := HBA.out.size; exact this)))
          all_goals
            go_wp2_with fail
            go_ret
            exact ⟨rfl, ((HB5.out.setCell (by exact hwl2) _).setCell (by exact hwl2) _).setCell (by exact hwl2) _⟩
        · have he : (wo == bwo) = false := by simpa using hlt
          have hd : decide (wo = bwo) = false := by simpa using hlt
          rw [hd] at hY
          subst hY
          obtain rfl : V = 8 := HV.out
          go_wp2_with fail
          go_region_with (go_at_call 18; go_must (refine (show Calls _ _ _ _ _ from HEV2.out _ (by first | exact HBA.out | exact Below.drew HBA.out)).mono ?_); rintro ev w5 ⟨rfl, hb5⟩; obtain ⟨hr0, m0, m1, m2, n0', n1, n2⟩ := tri_cells ((hb5.block _ (by exact (Array.getElem?_eq_some_iff.1 HRW.out).1)).trans HRW.out); obtain ⟨_, t0, t1, t2, t3, _, _, _, _, _⟩ := four_cells ((hb5.block _ (by exact ha)).trans HAW.out); obtain ⟨_, p0, p1, p2, p3, _, _, _, _, _⟩ := four_cells ((hb5.block _ (by exact hb)).trans HBX.out); have HB5 : Hid (Below w.heap.size w w5) := (Below.drew HBA.out).trans (hb5.mono (by have := HBA.out.size; exact this)))
          all_goals
            go_wp2_with fail
            go_ret
            exact ⟨rfl, ((HB5.out.setCell (by exact hwl2) _).setCell (by exact hwl2) _).setCell (by exact hwl2) _⟩

end Go.Proofs.YtnndoagpbcacdaaGreatDoor
