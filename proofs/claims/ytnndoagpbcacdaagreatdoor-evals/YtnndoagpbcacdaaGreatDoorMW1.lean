import Derived.Test.YtnndoagpbcacdaaGreatDoorMB0
import Derived.Deep.RegionWith
namespace Go.Proofs.YtnndoagpbcacdaaGreatDoor
open Go.RowKit

/-! Package codetext: good.go. -/
def pA (nf ar inn num : Int) (a : Int × Int) : Bool :=
  if a.1 = 1 then decide (0 ≤ a.2) && decide (a.2 ≤ 999999) else if a.1 = 2 then decide (0 ≤ a.2) && decide (a.2 < ar) else if a.1 = 3 then decide (0 ≤ a.2) && decide (a.2 < nf) else if a.1 = 4 then decide (0 ≤ a.2) && decide (a.2 ≤ 4) else if a.1 = 5 then decide (num ≤ a.2) && decide (a.2 < inn) else false
theorem pA_goodA (nf : Nat) (ar : Int) (nl j : Nat) (a : Int × Int) : pA nf ar ((nl : Int) - 1) j a = goodA nf ar nl j a := by
  obtain ⟨k, n⟩ := a
  unfold pA goodA boundF
  simp only
  by_cases h1 : k = 1
  · subst h1; simp; rw [Bool.eq_iff_iff]; simp; omega
  by_cases h2 : k = 2
  · subst h2; simp
  by_cases h3 : k = 3
  · subst h3; simp
  by_cases h4 : k = 4
  · subst h4; simp; rw [Bool.eq_iff_iff]; simp; omega
  by_cases h5 : k = 5
  · subst h5; simp; rw [Bool.eq_iff_iff]; simp; omega
  simp [h1, h2, h3, h4, h5]

set_option maxHeartbeats 4000000 in
theorem pHoldsAtom (nf ar inn num k n : Int) (w : World) :
    Calls Tryz.prog 190 #[.agg #[.int .i64 nf, .int .i64 ar, .int .i64 inn], .int .i64 num, .agg #[.int .i64 k, .int .i64 n]] w fun e w' => e = .returned (.bool (pA nf ar inn num (k, n))) ∧ Below w.heap.size w w' := by
  by_cases h1 : k = 1
  · subst h1
    by_cases p1 : 0 ≤ n
    · by_cases p2 : n ≤ 999999
      · have HE : Hid (true = pA nf ar inn num (1, n)) := by simp [Hid, pA, p1, p2]
        go_enter Tryz.func190, Tryz.ntmps190
        go_wp2_with fail
        go_ret
        exact ⟨ret_bool HE.out, ((Below.refl _ _).alloc (Nat.le_refl _) _).alloc (by simp) _⟩
      · have HE : Hid (false = pA nf ar inn num (1, n)) := by simp [Hid, pA]; omega
        go_enter Tryz.func190, Tryz.ntmps190
        go_wp2_with fail
        go_ret
        exact ⟨ret_bool HE.out, ((Below.refl _ _).alloc (Nat.le_refl _) _).alloc (by simp) _⟩
    · have HE : Hid (false = pA nf ar inn num (1, n)) := by simp [Hid, pA]; omega
      go_enter Tryz.func190, Tryz.ntmps190
      go_wp2_with fail
      go_ret
      exact ⟨ret_bool HE.out, ((Below.refl _ _).alloc (Nat.le_refl _) _).alloc (by simp) _⟩
  by_cases h2 : k = 2
  · subst h2
    by_cases p1 : 0 ≤ n
    · by_cases p2 : n < ar
      · have HE : Hid (true = pA nf ar inn num (2, n)) := by simp [Hid, pA, p1, p2]
        go_enter Tryz.func190, Tryz.ntmps190
        go_wp2_with fail
        go_ret
        exact ⟨ret_bool HE.out, ((Below.refl _ _).alloc (Nat.le_refl _) _).alloc (by simp) _⟩
      · have HE : Hid (false = pA nf ar inn num (2, n)) := by simp [Hid, pA]; omega
        go_enter Tryz.func190, Tryz.ntmps190
        go_wp2_with fail
        go_ret
        exact ⟨ret_bool HE.out, ((Below.refl _ _).alloc (Nat.le_refl _) _).alloc (by simp) _⟩
    · have HE : Hid (false = pA nf ar inn num (2, n)) := by simp [Hid, pA]; omega
      go_enter Tryz.func190, Tryz.ntmps190
      go_wp2_with fail
      go_ret
      exact ⟨ret_bool HE.out, ((Below.refl _ _).alloc (Nat.le_refl _) _).alloc (by simp) _⟩
  by_cases h3 : k = 3
  · subst h3
    by_cases p1 : 0 ≤ n
    · by_cases p2 : n < nf
      · have HE : Hid (true = pA nf ar inn num (3, n)) := by simp [Hid, pA, p1, p2]
        go_enter Tryz.func190, Tryz.ntmps190
        go_wp2_with fail
        go_ret
        exact ⟨ret_bool HE.out, ((Below.refl _ _).alloc (Nat.le_refl _) _).alloc (by simp) _⟩
      · have HE : Hid (false = pA nf ar inn num (3, n)) := by simp [Hid, pA]; omega
        go_enter Tryz.func190, Tryz.ntmps190
        go_wp2_with fail
        go_ret
        exact ⟨ret_bool HE.out, ((Below.refl _ _).alloc (Nat.le_refl _) _).alloc (by simp) _⟩
    · have HE : Hid (false = pA nf ar inn num (3, n)) := by simp [Hid, pA]; omega
      go_enter Tryz.func190, Tryz.ntmps190
      go_wp2_with fail
      go_ret
      exact ⟨ret_bool HE.out, ((Below.refl _ _).alloc (Nat.le_refl _) _).alloc (by simp) _⟩
  by_cases h4 : k = 4
  · subst h4
    by_cases p1 : 0 ≤ n
    · by_cases p2 : n ≤ 4
      · have HE : Hid (true = pA nf ar inn num (4, n)) := by simp [Hid, pA, p1, p2]
        go_enter Tryz.func190, Tryz.ntmps190
        go_wp2_with fail
        go_ret
        exact ⟨ret_bool HE.out, ((Below.refl _ _).alloc (Nat.le_refl _) _).alloc (by simp) _⟩
      · have HE : Hid (false = pA nf ar inn num (4, n)) := by simp [Hid, pA]; omega
        go_enter Tryz.func190, Tryz.ntmps190
        go_wp2_with fail
        go_ret
        exact ⟨ret_bool HE.out, ((Below.refl _ _).alloc (Nat.le_refl _) _).alloc (by simp) _⟩
    · have HE : Hid (false = pA nf ar inn num (4, n)) := by simp [Hid, pA]; omega
      go_enter Tryz.func190, Tryz.ntmps190
      go_wp2_with fail
      go_ret
      exact ⟨ret_bool HE.out, ((Below.refl _ _).alloc (Nat.le_refl _) _).alloc (by simp) _⟩
  by_cases h5 : k = 5
  · subst h5
    by_cases p1 : num ≤ n
    · by_cases p2 : n < inn
      · have HE : Hid (true = pA nf ar inn num (5, n)) := by simp [Hid, pA, p1, p2]
        go_enter Tryz.func190, Tryz.ntmps190
        go_wp2_with fail
        go_ret
        exact ⟨ret_bool HE.out, ((Below.refl _ _).alloc (Nat.le_refl _) _).alloc (by simp) _⟩
      · have HE : Hid (false = pA nf ar inn num (5, n)) := by simp [Hid, pA]; omega
        go_enter Tryz.func190, Tryz.ntmps190
        go_wp2_with fail
        go_ret
        exact ⟨ret_bool HE.out, ((Below.refl _ _).alloc (Nat.le_refl _) _).alloc (by simp) _⟩
    · have HE : Hid (false = pA nf ar inn num (5, n)) := by simp [Hid, pA]; omega
      go_enter Tryz.func190, Tryz.ntmps190
      go_wp2_with fail
      go_ret
      exact ⟨ret_bool HE.out, ((Below.refl _ _).alloc (Nat.le_refl _) _).alloc (by simp) _⟩
  have HE : Hid (false = pA nf ar inn num (k, n)) := by simp [Hid, pA, h1, h2, h3, h4, h5]
  have g1 : (k == 1) = false := by simpa using h1
  have g2 : (k == 2) = false := by simpa using h2
  have g3 : (k == 3) = false := by simpa using h3
  have g4 : (k == 4) = false := by simpa using h4
  have g5 : (k == 5) = false := by simpa using h5
  go_enter Tryz.func190, Tryz.ntmps190
  go_wp2_with fail
  go_ret
  exact ⟨ret_bool HE.out, ((Below.refl _ _).alloc (Nat.le_refl _) _).alloc (by simp) _⟩
end Go.Proofs.YtnndoagpbcacdaaGreatDoor
namespace Go.Proofs.YtnndoagpbcacdaaGreatDoor
open Go.RowKit

def restL (nf : Nat) (ar : Int) (nl j : Nat) (l : Ln) (i : Nat) : Bool := (decide (0 < i) || decide ((l[0]?.getD (0, 0)).1 ≠ 5)) && (l.drop i).all (goodA nf ar nl j)
theorem restL_step (nf : Nat) (ar : Int) (nl j : Nat) (l : Ln) (i : Nat) (h : i < l.length) (h0 : i = 0 → l[i].1 ≠ 5) : restL nf ar nl j l i = (goodA nf ar nl j l[i] && restL nf ar nl j l (i + 1)) := by
  unfold restL
  rw [all_in _ l i h]
  by_cases hi : i = 0
  · subst hi
    simp [List.getElem?_eq_getElem h, h0 rfl]
  · simp [show 0 < i by omega]
theorem restL_node (nf : Nat) (ar : Int) (nl j : Nat) (l : Ln) (h : 0 < l.length) (h0 : l[0].1 = 5) : restL nf ar nl j l 0 = false := by
  unfold restL
  simp [List.getElem?_eq_getElem h, h0]
theorem goodL_rest (nf : Nat) (ar : Int) (nl j : Nat) (l : Ln) (h1 : (if j = 0 then 1 else 2) ≤ l.length) (h8 : l.length ≤ 8) : goodL nf ar nl j l = restL nf ar nl j l 0 := by
  have h2 : 1 ≤ l.length := by split at h1 <;> omega
  have h3 : (decide (0 < j) && decide (l.length < 2)) = false := by
    by_cases hj : j = 0
    · simp [hj]
    · rw [if_neg hj] at h1; simp; omega
  unfold goodL restL
  rw [h3]
  simp [h8, h2]
theorem goodL_bad (nf : Nat) (ar : Int) (nl j : Nat) (l : Ln) (h : l.length < (if j = 0 then 1 else 2) ∨ 8 < l.length) : goodL nf ar nl j l = false := by
  unfold goodL
  rcases h with h | h
  · by_cases hj : j = 0
    · rw [if_pos hj] at h; simp [show ¬ 1 ≤ l.length by omega]
    · rw [if_neg hj] at h; simp [show 0 < j by omega, show l.length < 2 by omega]
  · simp [show ¬ l.length ≤ 8 by omega]

set_option maxRecDepth 100000 in
set_option maxHeartbeats 4000000 in
theorem pHoldsLine (nf : Nat) (ar : Int) (nl j : Nat) (l : Ln) (v : Value) (T : Nat) (w : World) (hT : T ≤ w.heap.size) (hv : AtomsRd w T v l) :
    Calls Tryz.prog 154 #[.agg #[.int .i64 nf, .int .i64 ar, .int .i64 ((nl : Int) - 1)], .int .i64 j, v] w fun e w' => e = .returned (.bool (goodL nf ar nl j l)) ∧ Below w.heap.size w w' := by
  obtain ⟨ad, cap, rfl, hc1, hc2, hcs⟩ := hv
  unfold maxLen at hc2
  generalize hR : goodL nf ar nl j l = R
  have HR : Hid (goodL nf ar nl j l = R) := hR
  clear hR
  generalize hI : (nl : Int) - 1 = inn
  have HI : Hid ((nl : Int) - 1 = inn) := hI
  clear hI
  have hj : j = 0 ∨ 0 < j := by omega
  have key : ∀ (least : Nat), least = (if j = 0 then 1 else 2) → least ≤ l.length → l.length ≤ 8 → Hid (restL nf ar nl j l 0 = R) := fun least h1 h2 h3 => (goodL_rest nf ar nl j l (h1 ▸ h2) h3).symm.trans HR.out
  have bad : ∀ (least : Nat), least = (if j = 0 then 1 else 2) → l.length < least ∨ 8 < l.length → Hid (false = R) := fun least h1 h2 => (goodL_bad nf ar nl j l (h1 ▸ h2)).symm.trans HR.out
  clear HR
  rcases hj with hj | hj
  · have hj0 : (if j = 0 then 1 else 2) = 1 := if_pos hj
    have key1 := key 1 hj0.symm
    have bad1 := bad 1 hj0.symm
    clear hj0 key bad
    have hjj : ((j : Int) == 0) = true := by simp [hj]
    have HJ : Hid (j = 0) := hj
    clear hj
    by_cases q1 : l.length < 1
    · have HF := bad1 (.inl q1)
      go_enter Tryz.func154, Tryz.ntmps154
      go_wp2_with fail
      go_ret
      exact ⟨ret_bool HF.out, (Below.refl _ _).alloc (Nat.le_refl _) _⟩
    have q1' : ¬ (l.length : Int) < 1 := by omega
    by_cases q2 : 8 < l.length
    · have HF := bad1 (.inr q2)
      go_enter Tryz.func154, Tryz.ntmps154
      go_wp2_with fail
      go_ret
      exact ⟨ret_bool HF.out, (Below.refl _ _).alloc (Nat.le_refl _) _⟩
    have HK := key1 (by omega) (by omega)
    clear key1 bad1
    rcases hcs with h0 | ⟨b, off, rfl, hbl, hcell⟩
    · omega
    go_enter Tryz.func154, Tryz.ntmps154
    go_wp2_with fail
    go_loopw [23] (fun x wr => ∃ (i : Nat), i ≤ l.length ∧ x = .int .i64 i ∧ Hid (restL nf ar nl j l i = R) ∧ Below w.heap.size w wr ∧ wr.heap[w.heap.size]? = some (.cells #[.int .i64 nf, .int .i64 ar, .int .i64 inn] 177 (0, 0))) (fun x _ => l.length - (intOf x).toNat)
    case atStart => exact ⟨0, Nat.zero_le _, rfl, HK, (Below.refl _ _).alloc (Nat.le_refl _) _, heap_alloc_new w _⟩
    case round =>
      obtain ⟨i, hi, rfl, HG, hb, hbS⟩ := hrel
      have hbsz := hb.size
      have hwlt : w.heap.size < wr.heap.size := (Array.getElem?_eq_some_iff.1 hbS).1
      by_cases hlt : i < l.length
      · have S0 := cell_of_row wr w.heap.size 0 _ _ _ hbS
        have S1 := cell_of_row wr w.heap.size 1 _ _ _ hbS
        have S2 := cell_of_row wr w.heap.size 2 _ _ _ hbS
        simp only [List.getElem?_toArray, List.getElem?_cons_succ, List.getElem?_cons_zero] at S0 S1 S2
        obtain ⟨c0, c1⟩ := hcell i hlt
        rw [← hb.cell (p := ⟨b, off + i * 2, none⟩) (show b < _ by omega)] at c0
        rw [← hb.cell (p := ⟨b, off + i * 2 + 1, none⟩) (show b < _ by omega)] at c1
        have HN : Hid (i = 0 → l[i].1 = 5 → false = R) := fun h0 h5 => by subst h0; rw [← HG.out]; exact (restL_node nf ar nl j l hlt h5).symm
        have HS : Hid ((i = 0 → l[i].1 ≠ 5) → (goodA nf ar nl j l[i] && restL nf ar nl j l (i + 1)) = R) := fun h => (restL_step nf ar nl j l i hlt h).symm.trans HG.out
        have HP : Hid (pA nf ar inn j l[i] = goodA nf ar nl j l[i]) := by rw [← HI.out]; exact pA_goodA nf ar nl j l[i]
        have HC : Hid _ := fun w => pHoldsAtom nf ar inn j l[i].1 l[i].2 w
        rw [HP.out] at HC
        clear HG
        generalize hg : goodA nf ar nl j l[i] = g at *
        clear hg
        generalize l[i].1 = ak at *
        generalize l[i].2 = av at *
        by_cases hi0 : i = 0
        · have hi1 : ((i : Int) == 0) = true := by simp [hi0]
          have HI0 : Hid (i = 0) := hi0
          clear hi0
          by_cases h5 : ak = 5
          · have HF : Hid (false = R) := HN.out HI0.out h5
            subst h5
            go_wp2_with fail
            go_ret
            exact ⟨ret_bool HF.out, hb.alloc hb.size _⟩
          · have h5' : (ak == 5) = false := by simpa using h5
            have HS2 : Hid _ := HS.out (fun _ => h5)
            clear HN HS
            cases g
            · have HF : Hid (false = R) := by rw [← HS2.out]; rfl
              go_wp2_with fail
              refine (show Calls _ _ _ _ _ from HC.out _).mono ?_
              rintro e w1 ⟨rfl, hb1⟩
              go_wp2_with fail
              go_ret
              exact ⟨ret_bool HF.out, (hb.alloc hb.size _).trans (hb1.mono (by simp; omega))⟩
            · have HS3 : Hid (restL nf ar nl j l (i + 1) = R) := by rw [← HS2.out]; simp [Hid]
              go_wp2_with fail
              refine (show Calls _ _ _ _ _ from HC.out _).mono ?_
              rintro e w1 ⟨rfl, hb1⟩
              go_wp2_with fail
              go_roundw
              case rel => exact ⟨i + 1, hlt, by go_num, HS3, (hb.alloc hb.size _).trans (hb1.mono (by simp; omega)), (hb1.block _ (by simp; omega)).trans ((Below.heap_alloc wr _ _ hwlt).trans hbS)⟩
              case measure => simp [intOf]; omega
        · have hi1 : ((i : Int) == 0) = false := by simp; omega
          have HS2 : Hid _ := HS.out (fun h => absurd h hi0)
          clear HN HS hi0
          cases g
          · have HF : Hid (false = R) := by rw [← HS2.out]; rfl
            go_wp2_with fail
            refine (show Calls _ _ _ _ _ from HC.out _).mono ?_
            rintro e w1 ⟨rfl, hb1⟩
            go_wp2_with fail
            go_ret
            exact ⟨ret_bool HF.out, (hb.alloc hb.size _).trans (hb1.mono (by simp; omega))⟩
          · have HS3 : Hid (restL nf ar nl j l (i + 1) = R) := by rw [← HS2.out]; simp [Hid]
            go_wp2_with fail
            refine (show Calls _ _ _ _ _ from HC.out _).mono ?_
            rintro e w1 ⟨rfl, hb1⟩
            go_wp2_with fail
            go_roundw
            case rel => exact ⟨i + 1, hlt, by go_num, HS3, (hb.alloc hb.size _).trans (hb1.mono (by simp; omega)), (hb1.block _ (by simp; omega)).trans ((Below.heap_alloc wr _ _ hwlt).trans hbS)⟩
            case measure => simp [intOf]; omega
      · have HE : Hid (true = R) := by rw [← HG.out, show i = l.length by omega]; simp [Hid, restL]; omega
        go_wp2_with fail
        go_ret
        exact ⟨ret_bool HE.out, hb⟩
  · have hj0 : (if j = 0 then 1 else 2) = 2 := if_neg (by omega)
    have key1 := key 2 hj0.symm
    have bad1 := bad 2 hj0.symm
    clear hj0 key bad
    have hjj : ((j : Int) == 0) = false := by simp; omega
    by_cases q1 : l.length < 2
    · have HF := bad1 (.inl q1)
      go_enter Tryz.func154, Tryz.ntmps154
      go_wp2_with fail
      go_ret
      exact ⟨ret_bool HF.out, (Below.refl _ _).alloc (Nat.le_refl _) _⟩
    have q1' : ¬ (l.length : Int) < 2 := by omega
    by_cases q2 : 8 < l.length
    · have HF := bad1 (.inr q2)
      go_enter Tryz.func154, Tryz.ntmps154
      go_wp2_with fail
      go_ret
      exact ⟨ret_bool HF.out, (Below.refl _ _).alloc (Nat.le_refl _) _⟩
    have HK := key1 (by omega) (by omega)
    clear key1 bad1
    rcases hcs with h0 | ⟨b, off, rfl, hbl, hcell⟩
    · omega
    go_enter Tryz.func154, Tryz.ntmps154
    go_wp2_with fail
    go_loopw [23] (fun x wr => ∃ (i : Nat), i ≤ l.length ∧ x = .int .i64 i ∧ Hid (restL nf ar nl j l i = R) ∧ Below w.heap.size w wr ∧ wr.heap[w.heap.size]? = some (.cells #[.int .i64 nf, .int .i64 ar, .int .i64 inn] 177 (0, 0))) (fun x _ => l.length - (intOf x).toNat)
    case atStart => exact ⟨0, Nat.zero_le _, rfl, HK, (Below.refl _ _).alloc (Nat.le_refl _) _, heap_alloc_new w _⟩
    case round =>
      obtain ⟨i, hi, rfl, HG, hb, hbS⟩ := hrel
      have hbsz := hb.size
      have hwlt : w.heap.size < wr.heap.size := (Array.getElem?_eq_some_iff.1 hbS).1
      by_cases hlt : i < l.length
      · have S0 := cell_of_row wr w.heap.size 0 _ _ _ hbS
        have S1 := cell_of_row wr w.heap.size 1 _ _ _ hbS
        have S2 := cell_of_row wr w.heap.size 2 _ _ _ hbS
        simp only [List.getElem?_toArray, List.getElem?_cons_succ, List.getElem?_cons_zero] at S0 S1 S2
        obtain ⟨c0, c1⟩ := hcell i hlt
        rw [← hb.cell (p := ⟨b, off + i * 2, none⟩) (show b < _ by omega)] at c0
        rw [← hb.cell (p := ⟨b, off + i * 2 + 1, none⟩) (show b < _ by omega)] at c1
        have HN : Hid (i = 0 → l[i].1 = 5 → false = R) := fun h0 h5 => by subst h0; rw [← HG.out]; exact (restL_node nf ar nl j l hlt h5).symm
        have HS : Hid ((i = 0 → l[i].1 ≠ 5) → (goodA nf ar nl j l[i] && restL nf ar nl j l (i + 1)) = R) := fun h => (restL_step nf ar nl j l i hlt h).symm.trans HG.out
        have HP : Hid (pA nf ar inn j l[i] = goodA nf ar nl j l[i]) := by rw [← HI.out]; exact pA_goodA nf ar nl j l[i]
        have HC : Hid _ := fun w => pHoldsAtom nf ar inn j l[i].1 l[i].2 w
        rw [HP.out] at HC
        clear HG
        generalize hg : goodA nf ar nl j l[i] = g at *
        clear hg
        generalize l[i].1 = ak at *
        generalize l[i].2 = av at *
        by_cases hi0 : i = 0
        · have hi1 : ((i : Int) == 0) = true := by simp [hi0]
          have HI0 : Hid (i = 0) := hi0
          clear hi0
          by_cases h5 : ak = 5
          · have HF : Hid (false = R) := HN.out HI0.out h5
            subst h5
            go_wp2_with fail
            go_ret
            exact ⟨ret_bool HF.out, hb.alloc hb.size _⟩
          · have h5' : (ak == 5) = false := by simpa using h5
            have HS2 : Hid _ := HS.out (fun _ => h5)
            clear HN HS
            cases g
            · have HF : Hid (false = R) := by rw [← HS2.out]; rfl
              go_wp2_with fail
              refine (show Calls _ _ _ _ _ from HC.out _).mono ?_
              rintro e w1 ⟨rfl, hb1⟩
              go_wp2_with fail
              go_ret
              exact ⟨ret_bool HF.out, (hb.alloc hb.size _).trans (hb1.mono (by simp; omega))⟩
            · have HS3 : Hid (restL nf ar nl j l (i + 1) = R) := by rw [← HS2.out]; simp [Hid]
              go_wp2_with fail
              refine (show Calls _ _ _ _ _ from HC.out _).mono ?_
              rintro e w1 ⟨rfl, hb1⟩
              go_wp2_with fail
              go_roundw
              case rel => exact ⟨i + 1, hlt, by go_num, HS3, (hb.alloc hb.size _).trans (hb1.mono (by simp; omega)), (hb1.block _ (by simp; omega)).trans ((Below.heap_alloc wr _ _ hwlt).trans hbS)⟩
              case measure => simp [intOf]; omega
        · have hi1 : ((i : Int) == 0) = false := by simp; omega
          have HS2 : Hid _ := HS.out (fun h => absurd h hi0)
          clear HN HS hi0
          cases g
          · have HF : Hid (false = R) := by rw [← HS2.out]; rfl
            go_wp2_with fail
            refine (show Calls _ _ _ _ _ from HC.out _).mono ?_
            rintro e w1 ⟨rfl, hb1⟩
            go_wp2_with fail
            go_ret
            exact ⟨ret_bool HF.out, (hb.alloc hb.size _).trans (hb1.mono (by simp; omega))⟩
          · have HS3 : Hid (restL nf ar nl j l (i + 1) = R) := by rw [← HS2.out]; simp [Hid]
            go_wp2_with fail
            refine (show Calls _ _ _ _ _ from HC.out _).mono ?_
            rintro e w1 ⟨rfl, hb1⟩
            go_wp2_with fail
            go_roundw
            case rel => exact ⟨i + 1, hlt, by go_num, HS3, (hb.alloc hb.size _).trans (hb1.mono (by simp; omega)), (hb1.block _ (by simp; omega)).trans ((Below.heap_alloc wr _ _ hwlt).trans hbS)⟩
            case measure => simp [intOf]; omega
      · have HE : Hid (true = R) := by rw [← HG.out, show i = l.length by omega]; simp [Hid, restL]; omega
        go_wp2_with fail
        go_ret
        exact ⟨ret_bool HE.out, hb⟩
end Go.Proofs.YtnndoagpbcacdaaGreatDoor
namespace Go.Proofs.YtnndoagpbcacdaaGreatDoor
open Go.RowKit

set_option maxRecDepth 100000 in
set_option maxHeartbeats 4000000 in
theorem pHoldsLines (nf : Nat) (ar : Int) (nl : Nat) (L : List Ln) (v : Value) (T : Nat) (w : World) (hT : T ≤ w.heap.size) (hv : LinesRd w T v L) :
    Calls Tryz.prog 107 #[.agg #[.int .i64 nf, .int .i64 ar, .int .i64 ((nl : Int) - 1)], v] w fun e w' => e = .returned (.bool (goodLs nf ar nl 0 L)) ∧ Below w.heap.size w w' := by
  have hv0 := hv
  obtain ⟨ad, cap, rfl, hc1, hc2, hcs⟩ := hv
  have hc3 := hc2
  unfold maxLen at hc3
  generalize hR : goodLs nf ar nl 0 L = R
  have HR : Hid (goodLs nf ar nl 0 (L.drop 0) = R) := hR
  clear hR
  have HC : Hid (∀ (j : Nat) (l : Ln) (v : Value) (w : World), T ≤ w.heap.size → AtomsRd w T v l → Calls Tryz.prog 154 #[.agg #[.int .i64 nf, .int .i64 ar, .int .i64 ((nl : Int) - 1)], .int .i64 j, v] w fun e w' => e = .returned (.bool (goodL nf ar nl j l)) ∧ Below w.heap.size w w') := fun j l v w h1 h2 => pHoldsLine nf ar nl j l v T w h1 h2
  generalize hI : (nl : Int) - 1 = inn at *
  clear hI
  go_enter Tryz.func107, Tryz.ntmps107
  go_wp2_with fail
  go_loopw [9] (fun x wr => ∃ (j : Nat), j ≤ L.length ∧ x = .int .i64 j ∧ Hid (goodLs nf ar nl j (L.drop j) = R) ∧ Below w.heap.size w wr ∧ wr.heap[w.heap.size]? = some (.cells #[.int .i64 nf, .int .i64 ar, .int .i64 inn] 177 (0, 0))) (fun x _ => L.length - (intOf x).toNat)
  case atStart => exact ⟨0, Nat.zero_le _, rfl, HR, (Below.refl _ _).alloc (Nat.le_refl _) _, heap_alloc_new w _⟩
  case round =>
    obtain ⟨j, hj, rfl, HG, hb, hbS⟩ := hrel
    have hbsz := hb.size
    have hwlt : w.heap.size < wr.heap.size := (Array.getElem?_eq_some_iff.1 hbS).1
    by_cases hlt : j < L.length
    · have S0 := cell_of_row wr w.heap.size 0 _ _ _ hbS
      have S1 := cell_of_row wr w.heap.size 1 _ _ _ hbS
      have S2 := cell_of_row wr w.heap.size 2 _ _ _ hbS
      simp only [List.getElem?_toArray, List.getElem?_cons_succ, List.getElem?_cons_zero] at S0 S1 S2
      rcases hcs with h0 | ⟨b, off, rfl, hbl, hcell⟩
      · omega
      obtain ⟨lv, c0, hat⟩ := hcell j hlt
      rw [← hb.cell (p := ⟨b, off + j, none⟩) (show b < _ by omega)] at c0
      have HA : Hid (AtomsRd wr T lv L[j]) := hat.keep (hb.mono hT)
      have hat' := hat
      obtain ⟨la, lc, rfl, hl1, hl2, _⟩ := hat'
      unfold maxLen at hl2
      have HS : Hid ((goodL nf ar nl j L[j] && goodLs nf ar nl (j + 1) (L.drop (j + 1))) = R) := (goodLs_in nf ar nl L j hlt).symm.trans HG.out
      have HC2 : Hid _ := HC.out j L[j] _ wr (by omega) HA.out
      clear HG hcell hat HA HC
      cases hg : goodL nf ar nl j L[j]
      · have HF : Hid (false = R) := by rw [← HS.out, hg]; rfl
        rw [hg] at HC2
        clear hg
        go_wp2_with fail
        refine (show Calls _ _ _ _ _ from HC2.out).mono ?_
        rintro e w1 ⟨rfl, hb1⟩
        go_wp2_with fail
        go_ret
        exact ⟨ret_bool HF.out, hb.trans (hb1.mono hbsz)⟩
      · have HS3 : Hid (goodLs nf ar nl (j + 1) (L.drop (j + 1)) = R) := by rw [← HS.out, hg]; simp [Hid]
        rw [hg] at HC2
        clear hg
        go_wp2_with fail
        refine (show Calls _ _ _ _ _ from HC2.out).mono ?_
        rintro e w1 ⟨rfl, hb1⟩
        go_wp2_with fail
        go_roundw
        case rel => exact ⟨j + 1, hlt, by go_num, HS3, hb.trans (hb1.mono hbsz), (hb1.block _ hwlt).trans hbS⟩
        case measure => simp [intOf]; omega
    · have HE : Hid (true = R) := by rw [← HG.out, List.drop_eq_nil_of_le (by omega)]; rfl
      go_wp2_with fail
      go_ret
      exact ⟨ret_bool HE.out, hb⟩

def stand (ar inn : Int) (m : Bool) : Bool := decide (0 ≤ ar) && (decide (ar ≤ 6) && (!(m && decide (0 < ar)) && (decide (0 ≤ inn) && decide (inn ≤ 12))))
set_option maxHeartbeats 1000000 in
theorem pMayStand (nf ar inn : Int) (m : Bool) (w : World) :
    Calls Tryz.prog 106 #[.agg #[.int .i64 nf, .int .i64 ar, .int .i64 inn], .bool m] w fun e w' => e = .returned (.bool (stand ar inn m)) ∧ Below w.heap.size w w' := by
  by_cases g1 : ar < 0
  · have HF : Hid (false = stand ar inn m) := by simp [Hid, stand]; omega
    go_enter Tryz.func106, Tryz.ntmps106
    go_wp2_with fail
    go_ret
    exact ⟨ret_bool HF.out, (Below.refl _ _).alloc (Nat.le_refl _) _⟩
  have g1' : decide (ar < 0) = false := by simpa using g1
  by_cases g2 : 6 < ar
  · have HF : Hid (false = stand ar inn m) := by simp [Hid, stand]; omega
    go_enter Tryz.func106, Tryz.ntmps106
    go_wp2_with fail
    go_ret
    exact ⟨ret_bool HF.out, (Below.refl _ _).alloc (Nat.le_refl _) _⟩
  have g2' : decide (6 < ar) = false := by simpa using g2
  by_cases g3 : m = true ∧ 0 < ar
  · obtain ⟨rfl, g4⟩ := g3
    have HF : Hid (false = stand ar inn true) := by simp [Hid, stand]; omega
    go_enter Tryz.func106, Tryz.ntmps106
    go_wp2_with fail
    go_ret
    exact ⟨ret_bool HF.out, (Below.refl _ _).alloc (Nat.le_refl _) _⟩
  have HS : Hid (stand ar inn m = (decide (0 ≤ inn) && decide (inn ≤ 12))) := by
    have : (m && decide (0 < ar)) = false := by
      cases m
      · rfl
      · simp at g3 ⊢; omega
    simp [Hid, stand, this, show 0 ≤ ar by omega, show ar ≤ 6 by omega]
  have gm : m = false ∨ (m = true ∧ ¬ 0 < ar) := by
    cases m
    · exact .inl rfl
    · exact .inr ⟨rfl, fun h => g3 ⟨rfl, h⟩⟩
  clear g3
  rcases gm with rfl | ⟨rfl, g4⟩
  all_goals
    by_cases g5 : 0 ≤ inn
    · by_cases g6 : inn ≤ 12
      · have HF : Hid (true = (decide (0 ≤ inn) && decide (inn ≤ 12))) := by simp [Hid, g5, g6]
        go_enter Tryz.func106, Tryz.ntmps106
        go_wp2_with fail
        go_ret
        exact ⟨ret_bool (HF.out.trans HS.out.symm), (Below.refl _ _).alloc (Nat.le_refl _) _⟩
      · have HF : Hid (false = (decide (0 ≤ inn) && decide (inn ≤ 12))) := by simp [Hid, g5, g6]
        go_enter Tryz.func106, Tryz.ntmps106
        go_wp2_with fail
        go_ret
        exact ⟨ret_bool (HF.out.trans HS.out.symm), (Below.refl _ _).alloc (Nat.le_refl _) _⟩
    · have HF : Hid (false = (decide (0 ≤ inn) && decide (inn ≤ 12))) := by simp [Hid, g5]
      go_enter Tryz.func106, Tryz.ntmps106
      go_wp2_with fail
      go_ret
      exact ⟨ret_bool (HF.out.trans HS.out.symm), (Below.refl _ _).alloc (Nat.le_refl _) _⟩

def begins (mn fn : Int) : Bool := decide (1 ≤ fn) && (decide (fn ≤ 16) && (decide (0 ≤ mn) && decide (mn < fn)))
set_option maxHeartbeats 1000000 in
theorem pMayBegin (mn fn : Int) (w : World) :
    Calls Tryz.prog 105 #[.int .i64 mn, .int .i64 fn] w fun e w' => e = .returned (.bool (begins mn fn)) ∧ w' = w := by
  by_cases g1 : fn < 1
  · have HF : Hid (false = begins mn fn) := by simp [Hid, begins]; omega
    go_enter Tryz.func105, Tryz.ntmps105
    go_wp2_with fail
    go_ret
    exact ⟨ret_bool HF.out, rfl⟩
  have g1' : decide (fn < 1) = false := by simpa using g1
  by_cases g2 : 16 < fn
  · have HF : Hid (false = begins mn fn) := by simp [Hid, begins]; omega
    go_enter Tryz.func105, Tryz.ntmps105
    go_wp2_with fail
    go_ret
    exact ⟨ret_bool HF.out, rfl⟩
  have g2' : decide (16 < fn) = false := by simpa using g2
  by_cases g3 : 0 ≤ mn
  · by_cases g4 : mn < fn
    · have HF : Hid (true = begins mn fn) := by simp [Hid, begins]; omega
      go_enter Tryz.func105, Tryz.ntmps105
      go_wp2_with fail
      go_ret
      exact ⟨ret_bool HF.out, rfl⟩
    · have HF : Hid (false = begins mn fn) := by simp [Hid, begins]; omega
      go_enter Tryz.func105, Tryz.ntmps105
      go_wp2_with fail
      go_ret
      exact ⟨ret_bool HF.out, rfl⟩
  · have HF : Hid (false = begins mn fn) := by simp [Hid, begins]; omega
    go_enter Tryz.func105, Tryz.ntmps105
    go_wp2_with fail
    go_ret
    exact ⟨ret_bool HF.out, rfl⟩

end Go.Proofs.YtnndoagpbcacdaaGreatDoor
namespace Go.Proofs.YtnndoagpbcacdaaGreatDoor
open Go.RowKit

def goodPs (nf : Nat) (mn : Int) : Nat → List Tp → Bool
  | _, [] => true
  | j, t :: r => stand t.ar ((t.ls.length : Int) - 1) ((j : Int) == mn) && (goodLs nf t.ar t.ls.length 0 t.ls && goodPs nf mn (j + 1) r)
theorem goodPs_iff (nf : Nat) (mn : Int) : ∀ (r : List Tp) (j : Nat), goodPs nf mn j r = true ↔ (∀ t ∈ r, goodT nf t = true) ∧ (∀ i (h : i < r.length), ((j + i : Nat) : Int) = mn → r[i].ar = 0)
  | [], j => by simp [goodPs]
  | t :: r, j => by
    have ih := goodPs_iff nf mn r (j + 1)
    rw [goodPs, Bool.and_eq_true, Bool.and_eq_true, ih]
    constructor
    · rintro ⟨h1, h2, h3, h4⟩
      simp only [stand, Bool.and_eq_true, decide_eq_true_eq, Bool.not_eq_true', Bool.and_eq_false_iff] at h1
      refine ⟨?_, ?_⟩
      · intro x hx
        rcases List.mem_cons.1 hx with rfl | hx
        · simp only [goodT, Bool.and_eq_true, decide_eq_true_eq]
          exact ⟨h1.1, h1.2.1, by omega, by omega, h2⟩
        · exact h3 x hx
      · intro i hi he
        cases i with
        | zero =>
          simp only [List.getElem_cons_zero]
          rcases h1.2.2.1 with h | h
          · simp at h; exact absurd (by simpa using he) h
          · simp at h; omega
        | succ i =>
          simp only [List.getElem_cons_succ]
          exact h4 i (by simpa using hi) (by rw [← he]; congr 1; omega)
    · rintro ⟨h1, h2⟩
      have ht := h1 t (by simp)
      simp only [goodT, Bool.and_eq_true, decide_eq_true_eq] at ht
      refine ⟨?_, ht.2.2.2.2, fun x hx => h1 x (by simp [hx]), fun i hi he => ?_⟩
      · simp only [stand, Bool.and_eq_true, decide_eq_true_eq, Bool.not_eq_true', Bool.and_eq_false_iff]
        refine ⟨ht.1, ht.2.1, ?_, by omega, by omega⟩
        by_cases hm : (j : Int) = mn
        · right
          have := h2 0 (by simp) (by simpa using hm)
          simp only [List.getElem_cons_zero] at this
          simp; omega
        · left; simpa using hm
      · have := h2 (i + 1) (by simpa using hi) (by rw [← he]; congr 1; omega)
        simpa using this
theorem goodC_eq (c : Cd) : goodC c = (begins c.mn c.fs.length && goodPs c.fs.length c.mn 0 c.fs) := by
  rw [Bool.eq_iff_iff, Bool.and_eq_true, goodPs_iff]
  simp only [goodC, begins, Bool.and_eq_true, decide_eq_true_eq, List.all_eq_true]
  constructor
  · rintro ⟨h1, h2, h3, h4, h5, h6⟩
    refine ⟨⟨by omega, by omega, h3, h4⟩, h5, ?_⟩
    intro i hi he
    have : c.mn.toNat = i := by omega
    rw [this, List.getElem?_eq_getElem hi] at h6
    exact h6
  · rintro ⟨⟨h1, h2, h3, h4⟩, h5, h6⟩
    refine ⟨by omega, by omega, h3, h4, h5, ?_⟩
    have hi : c.mn.toNat < c.fs.length := by omega
    rw [List.getElem?_eq_getElem hi]
    exact h6 _ hi (by omega)
theorem goodPs_in (nf : Nat) (mn : Int) (F : List Tp) (j : Nat) (h : j < F.length) : goodPs nf mn j (F.drop j) = (stand F[j].ar ((F[j].ls.length : Int) - 1) ((j : Int) == mn) && (goodLs nf F[j].ar F[j].ls.length 0 F[j].ls && goodPs nf mn (j + 1) (F.drop (j + 1)))) := by
  rw [List.drop_eq_getElem_cons h, goodPs]

theorem two_later {w w1 : World} {o o2 : Obj} (hb : Below ((w.alloc o).alloc o2).heap.size ((w.alloc o).alloc o2) w1) : w1.heap[w.heap.size]? = some o ∧ w1.heap[w.heap.size + 1]? = some o2 := by
  refine ⟨(hb.block w.heap.size (by simp; omega)).trans ((Below.heap_alloc _ _ _ (by simp)).trans (heap_alloc_new w o)), ?_⟩
  have := heap_alloc_new (w.alloc o) o2
  simp only [World.size_alloc] at this
  exact (hb.block (w.heap.size + 1) (by simp)).trans this

set_option maxRecDepth 100000 in
set_option maxHeartbeats 4000000 in
theorem pIsGood (c : Cd) (fv : Value) (T : Nat) (w : World) (hT : T ≤ w.heap.size) (hf : FunsRd w T fv c.fs) :
    Calls Tryz.prog 70 #[.agg #[.int .i64 c.mn, fv]] w fun e w' => e = .returned (.bool (goodC c)) ∧ Below w.heap.size w w' := by
  rw [goodC_eq]
  obtain ⟨mn, fs⟩ := c
  obtain ⟨fo, fcap, hfv, hc1, hc2, hcs⟩ := hf
  simp only at *
  subst hfv
  have hc3 := hc2
  unfold maxLen at hc3
  cases hbg : begins mn fs.length
  · have HB : Hid _ := pMayBegin mn fs.length (w.alloc (Obj.cells #[.int .i64 mn, .slice fo fs.length fcap] 57))
    rw [hbg] at HB
    clear hbg
    go_enter Tryz.func70, Tryz.ntmps70
    go_wp2_with fail
    refine (show Calls _ _ _ _ _ from HB.out).mono ?_
    rintro e w1 ⟨rfl, rfl⟩
    go_wp2_with fail
    go_ret
    exact ⟨rfl, (Below.refl _ _).alloc (Nat.le_refl _) _⟩
  have HB : Hid _ := pMayBegin mn fs.length (w.alloc (Obj.cells #[.int .i64 mn, .slice fo fs.length fcap] 57))
  rw [hbg] at HB
  simp only [begins, Bool.and_eq_true, decide_eq_true_eq] at hbg
  have hf1 : 1 ≤ fs.length := by omega
  have hf16 : fs.length ≤ 16 := by omega
  clear hbg
  rw [Bool.true_and]
  generalize hR : goodPs fs.length mn 0 fs = R
  have HR : Hid (goodPs fs.length mn 0 (fs.drop 0) = R) := hR
  clear hR
  rcases hcs with h0 | ⟨b, off, rfl, hbl, hcell⟩
  · omega
  go_enter Tryz.func70, Tryz.ntmps70
  go_wp2_with fail
  refine (show Calls _ _ _ _ _ from HB.out).mono ?_
  rintro e w1 ⟨rfl, rfl⟩
  clear HB
  go_wp2_with fail
  go_loopw [18] (fun x wr => ∃ (j : Nat), j ≤ fs.length ∧ x = .int .i64 j ∧ Hid (goodPs fs.length mn j (fs.drop j) = R) ∧ Below w.heap.size w wr ∧ wr.heap[w.heap.size]? = some (.cells #[.int .i64 mn, .slice (some ⟨b, off, none⟩) fs.length fcap] 57 (0, 0))) (fun x _ => fs.length - (intOf x).toNat)
  case atStart => exact ⟨0, Nat.zero_le _, rfl, HR, (Below.refl _ _).alloc (Nat.le_refl _) _, heap_alloc_new w _⟩
  case round =>
    obtain ⟨j, hj, rfl, HG, hb, hbC⟩ := hrel
    have hbsz := hb.size
    have hwlt : w.heap.size < wr.heap.size := (Array.getElem?_eq_some_iff.1 hbC).1
    by_cases hlt : j < fs.length
    · have C0 := cell_of_row wr w.heap.size 0 _ _ _ hbC
      have C1 := cell_of_row wr w.heap.size 1 _ _ _ hbC
      simp only [List.getElem?_toArray, List.getElem?_cons_succ, List.getElem?_cons_zero] at C0 C1
      obtain ⟨lv, e0, e1, hls⟩ := hcell j hlt
      rw [← hb.cell (p := ⟨b, off + j * 2, none⟩) (show b < _ by omega)] at e0
      rw [← hb.cell (p := ⟨b, off + j * 2 + 1, none⟩) (show b < _ by omega)] at e1
      have HS : Hid _ := (goodPs_in fs.length mn fs j hlt).symm.trans HG.out
      have HL : Hid (LinesRd wr T lv fs[j].ls) := hls.keep (hb.mono hT)
      have hls' := hls
      obtain ⟨la, lc, rfl, hl1, hl2, _⟩ := hls'
      unfold maxLen at hl2
      have HCS : Hid _ := fun w' => pMayStand fs.length fs[j].ar ((fs[j].ls.length : Int) - 1) ((j : Int) == mn) w'
      have HCL : Hid _ := fun w' (h : Below T wr w') (h2 : T ≤ w'.heap.size) => pHoldsLines fs.length fs[j].ar fs[j].ls.length fs[j].ls _ T w' h2 (HL.out.keep h)
      clear HG hcell hls HL
      generalize hP : fs[j] = P at *
      clear hP
      obtain ⟨ar, ls⟩ := P
      simp only at *
      cases hst : stand ar ((ls.length : Int) - 1) ((j : Int) == mn)
      · have HF : Hid (false = R) := by rw [← HS.out, hst]; rfl
        rw [hst] at HCS
        clear hst HCL
        cases hjm : ((j : Int) == mn)
        · rw [hjm] at HCS
          have hjn : ¬ (j : Int) = mn := by simpa using hjm
          go_wp2_with fail
          refine (show Calls _ _ _ _ _ from HCS.out _).mono ?_
          rintro e w1 ⟨rfl, hb1⟩
          go_wp2_with fail
          go_ret
          exact ⟨ret_bool HF.out, ((hb.alloc hb.size _).alloc (by simp; omega) _).trans (hb1.mono (by simp; omega))⟩
        · rw [hjm] at HCS
          have hjn : (j : Int) = mn := by simpa using hjm
          have HJ : Hid ((j : Int) = mn) := hjn
          clear hjn
          go_wp2_with fail
          refine (show Calls _ _ _ _ _ from HCS.out _).mono ?_
          rintro e w1 ⟨rfl, hb1⟩
          go_wp2_with fail
          go_ret
          exact ⟨ret_bool HF.out, ((hb.alloc hb.size _).alloc (by simp; omega) _).trans (hb1.mono (by simp; omega))⟩
      · rw [hst] at HCS
        cases hjm : ((j : Int) == mn)
        · rw [hjm] at HCS
          have hjn : ¬ (j : Int) = mn := by simpa using hjm
          go_wp2_with fail
          refine (show Calls _ _ _ _ _ from HCS.out _).mono ?_
          rintro e w1 ⟨rfl, hb1⟩
          obtain ⟨x1, x2⟩ := two_later hb1
          have hbc : Below w.heap.size w w1 := ((hb.alloc hb.size _).alloc (by simp; omega) _).trans (hb1.mono (by simp; omega))
          have hbC1 := (hb1.block w.heap.size (by simp; omega)).trans ((Below.heap_alloc _ _ _ (by simp; omega)).trans ((Below.heap_alloc wr _ _ hwlt).trans hbC))
          have HC3 : Hid _ := HCL.out w1 ((((Below.refl T wr).alloc (by omega) _).alloc (by simp; omega) _).trans (hb1.mono (by simp; omega))) (by have := hbc.size; omega)
          have y1 := cell_of_row w1 wr.heap.size 1 _ _ _ x1
          have z0 := cell_of_row w1 (wr.heap.size + 1) 0 _ _ _ x2
          have z1 := cell_of_row w1 (wr.heap.size + 1) 1 _ _ _ x2
          have z2 := cell_of_row w1 (wr.heap.size + 1) 2 _ _ _ x2
          simp only [List.getElem?_toArray, List.getElem?_cons_succ, List.getElem?_cons_zero] at y1 z0 z1 z2
          clear HCL HCS C0 C1 e0 e1
          cases hg : goodLs fs.length ar ls.length 0 ls
          · have HF : Hid (false = R) := by rw [← HS.out, hst, hg]; rfl
            rw [hg] at HC3
            clear hg hst HS
            go_wp2_with fail
            refine (show Calls _ _ _ _ _ from HC3.out).mono ?_
            rintro e w2 ⟨rfl, hb2⟩
            go_wp2_with fail
            go_ret
            exact ⟨ret_bool HF.out, hbc.trans (hb2.mono hbc.size)⟩
          · have HS3 : Hid (goodPs fs.length mn (j + 1) (fs.drop (j + 1)) = R) := by rw [← HS.out, hst, hg]; simp [Hid]
            rw [hg] at HC3
            clear hg hst HS
            go_wp2_with fail
            refine (show Calls _ _ _ _ _ from HC3.out).mono ?_
            rintro e w2 ⟨rfl, hb2⟩
            go_wp2_with fail
            go_roundw
            case rel => exact ⟨j + 1, hlt, by go_num, HS3, hbc.trans (hb2.mono hbc.size), (hb2.block _ (by have := hb1.size; simp at this; omega)).trans hbC1⟩
            case measure => simp [intOf]; omega
        · rw [hjm] at HCS
          go_wp2_with fail
          refine (show Calls _ _ _ _ _ from HCS.out _).mono ?_
          rintro e w1 ⟨rfl, hb1⟩
          obtain ⟨x1, x2⟩ := two_later hb1
          have hbc : Below w.heap.size w w1 := ((hb.alloc hb.size _).alloc (by simp; omega) _).trans (hb1.mono (by simp; omega))
          have hbC1 := (hb1.block w.heap.size (by simp; omega)).trans ((Below.heap_alloc _ _ _ (by simp; omega)).trans ((Below.heap_alloc wr _ _ hwlt).trans hbC))
          have HC3 : Hid _ := HCL.out w1 ((((Below.refl T wr).alloc (by omega) _).alloc (by simp; omega) _).trans (hb1.mono (by simp; omega))) (by have := hbc.size; omega)
          have y1 := cell_of_row w1 wr.heap.size 1 _ _ _ x1
          have z0 := cell_of_row w1 (wr.heap.size + 1) 0 _ _ _ x2
          have z1 := cell_of_row w1 (wr.heap.size + 1) 1 _ _ _ x2
          have z2 := cell_of_row w1 (wr.heap.size + 1) 2 _ _ _ x2
          simp only [List.getElem?_toArray, List.getElem?_cons_succ, List.getElem?_cons_zero] at y1 z0 z1 z2
          clear HCL HCS C0 C1 e0 e1
          cases hg : goodLs fs.length ar ls.length 0 ls
          · have HF : Hid (false = R) := by rw [← HS.out, hst, hg]; rfl
            rw [hg] at HC3
            clear hg hst HS
            go_wp2_with fail
            refine (show Calls _ _ _ _ _ from HC3.out).mono ?_
            rintro e w2 ⟨rfl, hb2⟩
            go_wp2_with fail
            go_ret
            exact ⟨ret_bool HF.out, hbc.trans (hb2.mono hbc.size)⟩
          · have HS3 : Hid (goodPs fs.length mn (j + 1) (fs.drop (j + 1)) = R) := by rw [← HS.out, hst, hg]; simp [Hid]
            rw [hg] at HC3
            clear hg hst HS
            go_wp2_with fail
            refine (show Calls _ _ _ _ _ from HC3.out).mono ?_
            rintro e w2 ⟨rfl, hb2⟩
            go_wp2_with fail
            go_roundw
            case rel => exact ⟨j + 1, hlt, by go_num, HS3, hbc.trans (hb2.mono hbc.size), (hb2.block _ (by have := hb1.size; simp at this; omega)).trans hbC1⟩
            case measure => simp [intOf]; omega
    · have HE : Hid (true = R) := by rw [← HG.out, List.drop_eq_nil_of_le (by omega)]; rfl
      go_wp2_with fail
      go_ret
      exact ⟨ret_bool HE.out, hb⟩

end Go.Proofs.YtnndoagpbcacdaaGreatDoor
