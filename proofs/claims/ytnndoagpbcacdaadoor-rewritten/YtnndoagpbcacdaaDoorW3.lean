import Derived.Test.YtnndoagpbcacdaaDoorW2
namespace Go.Proofs.YtnndoagpbcacdaaDoor
open Go.RowKit

set_option maxRecDepth 100000 in
set_option maxHeartbeats 4000000 in
theorem pHoldsLines (nf : Nat) (ar : Int) (nl : Nat) (L : List Ln) (v : Value) (T : Nat) (w : World) (hT : T ≤ w.heap.size) (hv : LinesRd w T v L) :
    Calls Tryd.prog 59 #[.agg #[.int .i64 nf, .int .i64 ar, .int .i64 ((nl : Int) - 1)], v] w fun e w' => e = .returned (.bool (goodLs nf ar nl 0 L)) ∧ Below w.heap.size w w' := by
  have hv0 := hv
  obtain ⟨ad, cap, rfl, hc1, hc2, hcs⟩ := hv
  have hc3 := hc2
  unfold maxLen at hc3
  generalize hR : goodLs nf ar nl 0 L = R
  have HR : Hid (goodLs nf ar nl 0 (L.drop 0) = R) := hR
  clear hR
  have HC : Hid (∀ (j : Nat) (l : Ln) (v : Value) (w : World), T ≤ w.heap.size → AtomsRd w T v l → Calls Tryd.prog 74 #[.agg #[.int .i64 nf, .int .i64 ar, .int .i64 ((nl : Int) - 1)], .int .i64 j, v] w fun e w' => e = .returned (.bool (goodL nf ar nl j l)) ∧ Below w.heap.size w w') := fun j l v w h1 h2 => pHoldsLine nf ar nl j l v T w h1 h2
  generalize hI : (nl : Int) - 1 = inn at *
  clear hI
  go_enter Tryd.func59, Tryd.ntmps59
  go_wp2_with fail
  go_loopw [9] (fun x wr => ∃ (j : Nat), j ≤ L.length ∧ x = .int .i64 j ∧ Hid (goodLs nf ar nl j (L.drop j) = R) ∧ Below w.heap.size w wr ∧ wr.heap[w.heap.size]? = some (.cells #[.int .i64 nf, .int .i64 ar, .int .i64 inn] 108 (0, 0))) (fun x _ => L.length - (intOf x).toNat)
  case atStart => exact ⟨0, Nat.zero_le _, rfl, HR, (Below.refl _ _).alloc (Nat.le_refl _) _, heap_alloc_new w _⟩
  case round =>
    obtain ⟨j, hj, rfl, HG, hb, hbS⟩ := hrel
    have hbsz := hb.size
    have hwlt : w.heap.size < wr.heap.size := (Array.getElem?_eq_some_iff.1 hbS).1
    by_cases hlt : j < L.length
    · have S0 := cell_of_row wr w.heap.size 0 _ _ _ hbS
      have S1 := cell_of_row wr w.heap.size 1 _ _ _ hbS
      have S2 := cell_of_row wr w.heap.size 2 _ _ _ hbS
      simp only [List.getElem?_toArray, List.getElem?_cons_succ, List.getElem?_cons_zero] at S0 S1 S2
      rcases hcs with h0 | ⟨b, off, rfl, hbl, hcell⟩
      · omega
      obtain ⟨lv, c0, hat⟩ := hcell j hlt
      rw [← hb.cell (p := ⟨b, off + j, none⟩) (show b < _ by omega)] at c0
      have HA : Hid (AtomsRd wr T lv L[j]) := hat.keep (hb.mono hT)
      have hat' := hat
      obtain ⟨la, lc, rfl, hl1, hl2, _⟩ := hat'
      unfold maxLen at hl2
      have HS : Hid ((goodL nf ar nl j L[j] && goodLs nf ar nl (j + 1) (L.drop (j + 1))) = R) := (goodLs_in nf ar nl L j hlt).symm.trans HG.out
      have HC2 : Hid _ := HC.out j L[j] _ wr (by omega) HA.out
      clear HG hcell hat HA HC
      cases hg : goodL nf ar nl j L[j]
      · have HF : Hid (false = R) := by rw [← HS.out, hg]; rfl
        rw [hg] at HC2
        clear hg
        go_wp2_with fail
        refine (show Calls _ _ _ _ _ from HC2.out).mono ?_
        rintro e w1 ⟨rfl, hb1⟩
        go_wp2_with fail
        go_ret
        exact ⟨ret_bool HF.out, hb.trans (hb1.mono hbsz)⟩
      · have HS3 : Hid (goodLs nf ar nl (j + 1) (L.drop (j + 1)) = R) := by rw [← HS.out, hg]; simp [Hid]
        rw [hg] at HC2
        clear hg
        go_wp2_with fail
        refine (show Calls _ _ _ _ _ from HC2.out).mono ?_
        rintro e w1 ⟨rfl, hb1⟩
        go_wp2_with fail
        go_roundw
        case rel => exact ⟨j + 1, hlt, by go_num, HS3, hb.trans (hb1.mono hbsz), (hb1.block _ hwlt).trans hbS⟩
        case measure => simp [intOf]; omega
    · have HE : Hid (true = R) := by rw [← HG.out, List.drop_eq_nil_of_le (by omega)]; rfl
      go_wp2_with fail
      go_ret
      exact ⟨ret_bool HE.out, hb⟩

def stand (ar inn : Int) (m : Bool) : Bool := decide (0 ≤ ar) && (decide (ar ≤ 6) && (!(m && decide (0 < ar)) && (decide (0 ≤ inn) && decide (inn ≤ 12))))
set_option maxHeartbeats 1000000 in
theorem pMayStand (nf ar inn : Int) (m : Bool) (w : World) :
    Calls Tryd.prog 58 #[.agg #[.int .i64 nf, .int .i64 ar, .int .i64 inn], .bool m] w fun e w' => e = .returned (.bool (stand ar inn m)) ∧ Below w.heap.size w w' := by
  by_cases g1 : ar < 0
  · have HF : Hid (false = stand ar inn m) := by simp [Hid, stand]; omega
    go_enter Tryd.func58, Tryd.ntmps58
    go_wp2_with fail
    go_ret
    exact ⟨ret_bool HF.out, (Below.refl _ _).alloc (Nat.le_refl _) _⟩
  have g1' : decide (ar < 0) = false := by simpa using g1
  by_cases g2 : 6 < ar
  · have HF : Hid (false = stand ar inn m) := by simp [Hid, stand]; omega
    go_enter Tryd.func58, Tryd.ntmps58
    go_wp2_with fail
    go_ret
    exact ⟨ret_bool HF.out, (Below.refl _ _).alloc (Nat.le_refl _) _⟩
  have g2' : decide (6 < ar) = false := by simpa using g2
  by_cases g3 : m = true ∧ 0 < ar
  · obtain ⟨rfl, g4⟩ := g3
    have HF : Hid (false = stand ar inn true) := by simp [Hid, stand]; omega
    go_enter Tryd.func58, Tryd.ntmps58
    go_wp2_with fail
    go_ret
    exact ⟨ret_bool HF.out, (Below.refl _ _).alloc (Nat.le_refl _) _⟩
  have HS : Hid (stand ar inn m = (decide (0 ≤ inn) && decide (inn ≤ 12))) := by
    have : (m && decide (0 < ar)) = false := by
      cases m
      · rfl
      · simp at g3 ⊢; omega
    simp [Hid, stand, this, show 0 ≤ ar by omega, show ar ≤ 6 by omega]
  have gm : m = false ∨ (m = true ∧ ¬ 0 < ar) := by
    cases m
    · exact .inl rfl
    · exact .inr ⟨rfl, fun h => g3 ⟨rfl, h⟩⟩
  clear g3
  rcases gm with rfl | ⟨rfl, g4⟩
  all_goals
    by_cases g5 : 0 ≤ inn
    · by_cases g6 : inn ≤ 12
      · have HF : Hid (true = (decide (0 ≤ inn) && decide (inn ≤ 12))) := by simp [Hid, g5, g6]
        go_enter Tryd.func58, Tryd.ntmps58
        go_wp2_with fail
        go_ret
        exact ⟨ret_bool (HF.out.trans HS.out.symm), (Below.refl _ _).alloc (Nat.le_refl _) _⟩
      · have HF : Hid (false = (decide (0 ≤ inn) && decide (inn ≤ 12))) := by simp [Hid, g5, g6]
        go_enter Tryd.func58, Tryd.ntmps58
        go_wp2_with fail
        go_ret
        exact ⟨ret_bool (HF.out.trans HS.out.symm), (Below.refl _ _).alloc (Nat.le_refl _) _⟩
    · have HF : Hid (false = (decide (0 ≤ inn) && decide (inn ≤ 12))) := by simp [Hid, g5]
      go_enter Tryd.func58, Tryd.ntmps58
      go_wp2_with fail
      go_ret
      exact ⟨ret_bool (HF.out.trans HS.out.symm), (Below.refl _ _).alloc (Nat.le_refl _) _⟩

def begins (mn fn : Int) : Bool := decide (1 ≤ fn) && (decide (fn ≤ 16) && (decide (0 ≤ mn) && decide (mn < fn)))
set_option maxHeartbeats 1000000 in
theorem pMayBegin (mn fn : Int) (w : World) :
    Calls Tryd.prog 56 #[.int .i64 mn, .int .i64 fn] w fun e w' => e = .returned (.bool (begins mn fn)) ∧ w' = w := by
  by_cases g1 : fn < 1
  · have HF : Hid (false = begins mn fn) := by simp [Hid, begins]; omega
    go_enter Tryd.func56, Tryd.ntmps56
    go_wp2_with fail
    go_ret
    exact ⟨ret_bool HF.out, rfl⟩
  have g1' : decide (fn < 1) = false := by simpa using g1
  by_cases g2 : 16 < fn
  · have HF : Hid (false = begins mn fn) := by simp [Hid, begins]; omega
    go_enter Tryd.func56, Tryd.ntmps56
    go_wp2_with fail
    go_ret
    exact ⟨ret_bool HF.out, rfl⟩
  have g2' : decide (16 < fn) = false := by simpa using g2
  by_cases g3 : 0 ≤ mn
  · by_cases g4 : mn < fn
    · have HF : Hid (true = begins mn fn) := by simp [Hid, begins]; omega
      go_enter Tryd.func56, Tryd.ntmps56
      go_wp2_with fail
      go_ret
      exact ⟨ret_bool HF.out, rfl⟩
    · have HF : Hid (false = begins mn fn) := by simp [Hid, begins]; omega
      go_enter Tryd.func56, Tryd.ntmps56
      go_wp2_with fail
      go_ret
      exact ⟨ret_bool HF.out, rfl⟩
  · have HF : Hid (false = begins mn fn) := by simp [Hid, begins]; omega
    go_enter Tryd.func56, Tryd.ntmps56
    go_wp2_with fail
    go_ret
    exact ⟨ret_bool HF.out, rfl⟩

end Go.Proofs.YtnndoagpbcacdaaDoor
