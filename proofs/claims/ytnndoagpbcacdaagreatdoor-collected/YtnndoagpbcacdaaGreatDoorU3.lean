import Derived.Test.YtnndoagpbcacdaaGreatDoorMU2
import Derived.Test.YtnndoagpbcacdaaGreatDoorMV3a
import Derived.Test.YtnndoagpbcacdaaGreatDoorMV3c
import Derived.Test.YtnndoagpbcacdaaGreatDoorMV3e
namespace Go.Proofs.YtnndoagpbcacdaaGreatDoor
open Go.RowKit

/-! Collected, walked. -/
theorem tg_good {cd : Cd} {bud hp : Int} (h : goodC cd = true) : (0 ≤ cd.mn ∧ cd.mn < cd.fs.length) ∧ ∀ t ∈ cd.fs, TG ⟨cd.fs, bud, hp⟩ t := by
  simp only [goodC, Bool.and_eq_true, decide_eq_true_eq, List.all_eq_true] at h
  obtain ⟨h1, h2, h3, h4, h5, _⟩ := h
  refine ⟨⟨h3, h4⟩, fun t ht => ?_⟩
  have g := h5 t ht
  simp only [goodT, Bool.and_eq_true, decide_eq_true_eq] at g
  obtain ⟨g1, g2, g3, g4, g5⟩ := g
  refine ⟨g1, g2, g3, g4, fun l hl => ?_⟩
  obtain ⟨i, hi⟩ := goodLs_mem g5 l hl
  simp only [goodL, Bool.and_eq_true, decide_eq_true_eq, List.all_eq_true] at hi
  obtain ⟨k1, k2, _, _, k5⟩ := hi
  refine ⟨k2, k1, fun a ha => ?_⟩
  have q := k5 a ha
  simp only [goodA, Bool.and_eq_true, decide_eq_true_eq] at q
  obtain ⟨q1, q2, _⟩ := q
  unfold boundF at q2
  refine ⟨fun e => ?_, fun e => ?_, fun e => ?_⟩
  · rw [if_pos e] at q2; omega
  · rw [if_neg (by omega), if_neg (by omega), if_pos e] at q2; exact ⟨q1, q2⟩
  · rw [if_neg (by omega), if_neg (by omega), if_neg (by omega), if_neg (by omega), if_pos e] at q2; exact ⟨q1, by omega⟩
theorem col_good : (List.range 666).all (fun k => goodC ⟨0, cc k⟩) = true := by decide +kernel
theorem col_part {k q : Nat} (h : ((List.range 111).map (· + q)).all colOk = true) (h1 : q ≤ k) (h2 : k < q + 111) : colOk k = true :=
  List.all_eq_true.1 h k (List.mem_map.2 ⟨k - q, List.mem_range.2 (by omega), by omega⟩)
theorem col_all {k : Nat} (h : k ≤ 665) : colOk k = true := by
  by_cases h1 : k < 111
  · exact col_part col_a (by omega) (by omega)
  by_cases h2 : k < 222
  · exact col_part col_b (by omega) (by omega)
  by_cases h3 : k < 333
  · exact col_part col_c (by omega) (by omega)
  by_cases h4 : k < 444
  · exact col_part col_d (by omega) (by omega)
  by_cases h5 : k < 555
  · exact col_part col_e (by omega) (by omega)
  · exact col_part col_f (by omega) (by omega)
theorem col_cmp {k : Nat} (h : k ≤ 665) : goodC ⟨0, cc k⟩ = true ∧ cmpE (colT k) = 0 ∧ cmpL (colT k) = cdL ⟨0, cc k⟩ := by
  obtain ⟨h1, h2⟩ := col_ok (col_all h)
  have hg : goodC ⟨0, cc k⟩ = true := List.all_eq_true.1 col_good k (List.mem_range.2 (by omega))
  refine ⟨hg, ?_, ?_⟩
  · unfold cmpE; rw [if_pos h1, h2]; unfold wrE; rw [if_pos hg]
  · unfold cmpL; rw [if_pos h1, h2]; unfold wrL; rw [if_pos hg]
theorem col_read {k : Nat} (h : k ≤ 665) {x : ByteArray} (hx : x.data.toList = cmpL (colT k)) (hs : x.size ≤ 20000) : rdC x = some ⟨0, cc k⟩ ∧ rdE x = 0 := by
  obtain ⟨hg, _, hl⟩ := col_cmp h
  have hr := code_read ⟨0, cc k⟩ hg x (hx.trans hl)
  have hb : ¬ 30000 < x.size := by omega
  exact ⟨by rw [rdC, if_neg hb, hr], by rw [rdE, if_neg hb, hr]; rfl⟩

set_option maxRecDepth 100000 in
set_option maxHeartbeats 2000000 in
theorem kCollected (n : Int) (w : World) (hn1 : -9223372036854775808 ≤ n) (hn2 : n ≤ 9223372036854775807) (ht : Tab w) :
    Calls Tryz.prog 8 #[.int .i64 n] w fun e w' => e = .returned (.bool true) ∧ Below w.heap.size w w' := by
  have hbi := bentF_in n 0 665 (by omega)
  have HC0 : Hid _ := kBent n 0 665 w hn1 hn2 (by omega) (by omega) (by omega)
  generalize bentF n 0 665 = kk at *
  obtain ⟨k, rfl⟩ := Int.eq_ofNat_of_zero_le hbi.1
  have hk : k ≤ 665 := by omega
  have HC1 : Hid _ := kDecimal k w (by omega)
  have HT : Hid (∀ w', Below w.heap.size w w' → Tab w') := fun w' hb => ht.below hb
  clear ht hbi
  go_enter Tryz.func8, Tryz.ntmps8
  go_wp2_with fail
  refine (show Calls _ _ _ _ _ from HC0.out).mono ?_
  rintro e w0 ⟨rfl, rfl⟩
  clear HC0
  go_wp2_with fail
  refine (show Calls _ _ _ _ _ from HC1.out).mono ?_
  rintro e w1 ⟨y, rfl, hy, hb1⟩
  clear HC1
  have hys : y.size ≤ 700 := by rw [size_len, hy]; have := decL_len k; omega
  have HEQ : Hid ((⟨#[109, 97, 105, 110, 32, 61, 32, 108, 32]⟩ : ByteArray) ++ y ++ ⟨#[59, 32, 108, 32, 110, 32, 61, 32, 63, 32, 110, 32, 48, 32, 40, 107, 32, 55, 41, 32, 108, 32, 40, 45, 32, 110, 32, 49, 41, 59, 32, 107, 32, 120, 32, 121, 32, 61, 32, 120, 59]⟩ = colT k) := by
    show _ = _
    apply ByteArray.ext
    apply Array.ext'
    rw [ByteArray.data_append, ByteArray.data_append, Array.toList_append, Array.toList_append, hy]
    show _ = (colA ++ decL k ++ colB).toArray.toList
    rw [List.toList_toArray]
    rfl
  have HB1 : Hid (Below w0.heap.size w0 w1) := hb1
  have hcs : (colT k).size ≤ maxLen := by
    have hsz : (colT k).size ≤ 1000 := by
      have := col_all hk
      simp only [colOk, Bool.and_eq_true, decide_eq_true_eq] at this
      exact this.2.1
    unfold maxLen; omega
  have HC2 : Hid _ := xCompile (colT k) w1 hcs (HT.out w1 hb1)
  obtain ⟨_, hce, _⟩ := col_cmp hk
  rw [hce] at HC2
  rw [← HEQ.out] at HC2
  clear hy hb1 hce hcs
  go_wp2_with fail
  refine (show Calls _ _ _ _ _ from HC2.out).mono ?_
  rintro e w2 ⟨x, rfl, hx, hxs, hb2⟩
  clear HC2
  rw [HEQ.out] at hx
  obtain ⟨hrd, hre⟩ := col_read hk hx hxs
  obtain ⟨hg, _, _⟩ := col_cmp hk
  have hxm : x.size ≤ maxLen := by unfold maxLen; omega
  obtain ⟨N4, hN4, f1, f2, f3⟩ := col4 k hk
  have HC3 : Hid _ := xRunOk x 2000 4 ⟨0, cc k⟩ N4 w2 hxm hrd hre (by omega) (by omega) (by omega) (by omega) (tg_good (bud := 0) (hp := 0) hg).1 (tg_good hg).2 (by omega) (by rw [f1]; omega)
  simp only at HC3
  rw [f1, f2, f3] at HC3
  have HB2 : Hid (Below w0.heap.size w0 w2) := HB1.out.trans (hb2.mono HB1.out.size)
  have HR3 : Hid (∃ o v s : Int, (o = if 1 < k then 6 else 1) ∧ (v = if 1 < k then 0 else 7) ∧ (s = if 1 < k then 6 else 3 * (k : Int) + 4) ∧ ∀ w', Calls Tryz.prog 16 #[.string x, .int .i64 2000, .int .i64 3] w' fun e w'' => e = .returned (.tuple #[.agg #[.int .i64 o, .int .i64 v, .int .i64 s], .int .i64 0]) ∧ Below w'.heap.size w' w'') := by
    by_cases h1 : 1 < k
    · obtain ⟨N3, hN3, g1, g2, g3⟩ := col3 k hk h1
      refine ⟨6, 0, 6, by rw [if_pos h1], by rw [if_pos h1], by rw [if_pos h1], fun w' => ?_⟩
      have h := xRunOk x 2000 3 ⟨0, cc k⟩ N3 w' hxm hrd hre (by omega) (by omega) (by omega) (by omega) (tg_good (bud := 0) (hp := 0) hg).1 (tg_good hg).2 (by omega) (by rw [g1]; omega)
      simp only at h
      rw [g1, g2, g3] at h
      exact h
    · obtain ⟨N3, hN3, g1, g2, g3⟩ := col3s k (by omega)
      refine ⟨1, 7, 3 * (k : Int) + 4, by rw [if_neg h1], by rw [if_neg h1], by rw [if_neg h1], fun w' => ?_⟩
      have h := xRunOk x 2000 3 ⟨0, cc k⟩ N3 w' hxm hrd hre (by omega) (by omega) (by omega) (by omega) (tg_good (bud := 0) (hp := 0) hg).1 (tg_good hg).2 (by omega) (by rw [g1]; omega)
      simp only at h
      rw [g1, g2, g3] at h
      exact h
  clear f1 f2 f3 hrd hre hg hx hb2 hxm HEQ
  go_wp2_with fail
  refine (show Calls _ _ _ _ _ from HC3.out).mono ?_
  rintro e w3 ⟨rfl, hb3⟩
  clear HC3
  obtain ⟨o, v, s, ho, hv, hs, HC4'⟩ := HR3.out
  have HC4 : Hid _ := HC4' (w3.alloc (Obj.cells #[.int .i64 1, .int .i64 7, .int .i64 (3 * (k : Int) + 4)] 31))
  have hs3 := hb3.size
  have HB3 : Hid (Below w0.heap.size w0 (w3.alloc (Obj.cells #[.int .i64 1, .int .i64 7, .int .i64 (3 * (k : Int) + 4)] 31))) := (HB2.out.trans (hb3.mono HB2.out.size)).alloc (by have := HB2.out.size; omega) _
  clear HC4' HR3 hb3
  by_cases h1 : 1 < k
  · rw [if_pos h1] at ho hv hs
    subst ho
    subst hv
    subst hs
    go_wp2_with fail
    refine (show Calls _ _ _ _ _ from HC4.out).mono ?_
    rintro e w4 ⟨rfl, hb4⟩
    clear HC4
    have hX := (hb4.block w3.heap.size (by simp)).trans (heap_alloc_new w3 _)
    have hlt4 : w3.heap.size < w4.heap.size := (Array.getElem?_eq_some_iff.1 hX).1
    have r0 := cell_of_row w4 w3.heap.size 0 _ _ _ hX
    have r1 := cell_of_row w4 w3.heap.size 1 _ _ _ hX
    have r2 := cell_of_row w4 w3.heap.size 2 _ _ _ hX
    simp only [List.getElem?_toArray, List.getElem?_cons_succ, List.getElem?_cons_zero] at r0 r1 r2
    have HB4 : Hid (Below w0.heap.size w0 w4) := HB3.out.trans (hb4.mono HB3.out.size)
    have hd : decide ((1 : Int) < (k : Int)) = true := by simp; omega
    have he : ((3 * (k : Int) + 4) == (3 * (k : Int) + 4)) = true := by simp
    have he2 : ((3 * (k : Int) + 4) != (3 * (k : Int) + 4)) = false := by simp
    have hs4 := HB4.out.size
    clear hX hb4
    go_wp2_with fail
    go_ret
    exact ⟨rfl, (HB4.out.alloc hs4 _).alloc (by simp; omega) _⟩
  · rw [if_neg h1] at ho hv hs
    subst ho
    subst hv
    subst hs
    go_wp2_with fail
    refine (show Calls _ _ _ _ _ from HC4.out).mono ?_
    rintro e w4 ⟨rfl, hb4⟩
    clear HC4
    have hX := (hb4.block w3.heap.size (by simp)).trans (heap_alloc_new w3 _)
    have hlt4 : w3.heap.size < w4.heap.size := (Array.getElem?_eq_some_iff.1 hX).1
    have r0 := cell_of_row w4 w3.heap.size 0 _ _ _ hX
    have r1 := cell_of_row w4 w3.heap.size 1 _ _ _ hX
    have r2 := cell_of_row w4 w3.heap.size 2 _ _ _ hX
    simp only [List.getElem?_toArray, List.getElem?_cons_succ, List.getElem?_cons_zero] at r0 r1 r2
    have HB4 : Hid (Below w0.heap.size w0 w4) := HB3.out.trans (hb4.mono HB3.out.size)
    have hd : decide ((1 : Int) < (k : Int)) = false := by simp; omega
    have hd2 : ¬ (1 : Int) < (k : Int) := by omega
    have he : ((3 * (k : Int) + 4) == (3 * (k : Int) + 4)) = true := by simp
    have he2 : ((3 * (k : Int) + 4) != (3 * (k : Int) + 4)) = false := by simp
    have hs4 := HB4.out.size
    clear hX hb4
    go_wp2_with fail
    go_ret
    exact ⟨rfl, (HB4.out.alloc hs4 _).alloc (by simp; omega) _⟩

end Go.Proofs.YtnndoagpbcacdaaGreatDoor
