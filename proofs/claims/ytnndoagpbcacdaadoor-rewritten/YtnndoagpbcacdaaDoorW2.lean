import Derived.Test.YtnndoagpbcacdaaDoorW1
namespace Go.Proofs.YtnndoagpbcacdaaDoor
open Go.RowKit

def restL (nf : Nat) (ar : Int) (nl j : Nat) (l : Ln) (i : Nat) : Bool := (decide (0 < i) || decide ((l[0]?.getD (0, 0)).1 ≠ 5)) && (l.drop i).all (goodA nf ar nl j)
theorem restL_step (nf : Nat) (ar : Int) (nl j : Nat) (l : Ln) (i : Nat) (h : i < l.length) (h0 : i = 0 → l[i].1 ≠ 5) : restL nf ar nl j l i = (goodA nf ar nl j l[i] && restL nf ar nl j l (i + 1)) := by
  unfold restL
  rw [all_in _ l i h]
  by_cases hi : i = 0
  · subst hi
    simp [List.getElem?_eq_getElem h, h0 rfl]
  · simp [show 0 < i by omega]
theorem restL_node (nf : Nat) (ar : Int) (nl j : Nat) (l : Ln) (h : 0 < l.length) (h0 : l[0].1 = 5) : restL nf ar nl j l 0 = false := by
  unfold restL
  simp [List.getElem?_eq_getElem h, h0]
theorem goodL_rest (nf : Nat) (ar : Int) (nl j : Nat) (l : Ln) (h1 : (if j = 0 then 1 else 2) ≤ l.length) (h8 : l.length ≤ 8) : goodL nf ar nl j l = restL nf ar nl j l 0 := by
  have h2 : 1 ≤ l.length := by split at h1 <;> omega
  have h3 : (decide (0 < j) && decide (l.length < 2)) = false := by
    by_cases hj : j = 0
    · simp [hj]
    · rw [if_neg hj] at h1; simp; omega
  unfold goodL restL
  rw [h3]
  simp [h8, h2]
theorem goodL_bad (nf : Nat) (ar : Int) (nl j : Nat) (l : Ln) (h : l.length < (if j = 0 then 1 else 2) ∨ 8 < l.length) : goodL nf ar nl j l = false := by
  unfold goodL
  rcases h with h | h
  · by_cases hj : j = 0
    · rw [if_pos hj] at h; simp [show ¬ 1 ≤ l.length by omega]
    · rw [if_neg hj] at h; simp [show 0 < j by omega, show l.length < 2 by omega]
  · simp [show ¬ l.length ≤ 8 by omega]

set_option maxRecDepth 100000 in
set_option maxHeartbeats 4000000 in
theorem pHoldsLine (nf : Nat) (ar : Int) (nl j : Nat) (l : Ln) (v : Value) (T : Nat) (w : World) (hT : T ≤ w.heap.size) (hv : AtomsRd w T v l) :
    Calls Tryd.prog 74 #[.agg #[.int .i64 nf, .int .i64 ar, .int .i64 ((nl : Int) - 1)], .int .i64 j, v] w fun e w' => e = .returned (.bool (goodL nf ar nl j l)) ∧ Below w.heap.size w w' := by
  obtain ⟨ad, cap, rfl, hc1, hc2, hcs⟩ := hv
  unfold maxLen at hc2
  generalize hR : goodL nf ar nl j l = R
  have HR : Hid (goodL nf ar nl j l = R) := hR
  clear hR
  generalize hI : (nl : Int) - 1 = inn
  have HI : Hid ((nl : Int) - 1 = inn) := hI
  clear hI
  have hj : j = 0 ∨ 0 < j := by omega
  have key : ∀ (least : Nat), least = (if j = 0 then 1 else 2) → least ≤ l.length → l.length ≤ 8 → Hid (restL nf ar nl j l 0 = R) := fun least h1 h2 h3 => (goodL_rest nf ar nl j l (h1 ▸ h2) h3).symm.trans HR.out
  have bad : ∀ (least : Nat), least = (if j = 0 then 1 else 2) → l.length < least ∨ 8 < l.length → Hid (false = R) := fun least h1 h2 => (goodL_bad nf ar nl j l (h1 ▸ h2)).symm.trans HR.out
  clear HR
  rcases hj with hj | hj
  · have hj0 : (if j = 0 then 1 else 2) = 1 := if_pos hj
    have key1 := key 1 hj0.symm
    have bad1 := bad 1 hj0.symm
    clear hj0 key bad
    have hjj : ((j : Int) == 0) = true := by simp [hj]
    have HJ : Hid (j = 0) := hj
    clear hj
    by_cases q1 : l.length < 1
    · have HF := bad1 (.inl q1)
      go_enter Tryd.func74, Tryd.ntmps74
      go_wp2_with fail
      go_ret
      exact ⟨ret_bool HF.out, (Below.refl _ _).alloc (Nat.le_refl _) _⟩
    have q1' : ¬ (l.length : Int) < 1 := by omega
    by_cases q2 : 8 < l.length
    · have HF := bad1 (.inr q2)
      go_enter Tryd.func74, Tryd.ntmps74
      go_wp2_with fail
      go_ret
      exact ⟨ret_bool HF.out, (Below.refl _ _).alloc (Nat.le_refl _) _⟩
    have HK := key1 (by omega) (by omega)
    clear key1 bad1
    rcases hcs with h0 | ⟨b, off, rfl, hbl, hcell⟩
    · omega
    go_enter Tryd.func74, Tryd.ntmps74
    go_wp2_with fail
    go_loopw [23] (fun x wr => ∃ (i : Nat), i ≤ l.length ∧ x = .int .i64 i ∧ Hid (restL nf ar nl j l i = R) ∧ Below w.heap.size w wr ∧ wr.heap[w.heap.size]? = some (.cells #[.int .i64 nf, .int .i64 ar, .int .i64 inn] 108 (0, 0))) (fun x _ => l.length - (intOf x).toNat)
    case atStart => exact ⟨0, Nat.zero_le _, rfl, HK, (Below.refl _ _).alloc (Nat.le_refl _) _, heap_alloc_new w _⟩
    case round =>
      obtain ⟨i, hi, rfl, HG, hb, hbS⟩ := hrel
      have hbsz := hb.size
      have hwlt : w.heap.size < wr.heap.size := (Array.getElem?_eq_some_iff.1 hbS).1
      by_cases hlt : i < l.length
      · have S0 := cell_of_row wr w.heap.size 0 _ _ _ hbS
        have S1 := cell_of_row wr w.heap.size 1 _ _ _ hbS
        have S2 := cell_of_row wr w.heap.size 2 _ _ _ hbS
        simp only [List.getElem?_toArray, List.getElem?_cons_succ, List.getElem?_cons_zero] at S0 S1 S2
        obtain ⟨c0, c1⟩ := hcell i hlt
        rw [← hb.cell (p := ⟨b, off + i * 2, none⟩) (show b < _ by omega)] at c0
        rw [← hb.cell (p := ⟨b, off + i * 2 + 1, none⟩) (show b < _ by omega)] at c1
        have HN : Hid (i = 0 → l[i].1 = 5 → false = R) := fun h0 h5 => by subst h0; rw [← HG.out]; exact (restL_node nf ar nl j l hlt h5).symm
        have HS : Hid ((i = 0 → l[i].1 ≠ 5) → (goodA nf ar nl j l[i] && restL nf ar nl j l (i + 1)) = R) := fun h => (restL_step nf ar nl j l i hlt h).symm.trans HG.out
        have HP : Hid (pA nf ar inn j l[i] = goodA nf ar nl j l[i]) := by rw [← HI.out]; exact pA_goodA nf ar nl j l[i]
        have HC : Hid _ := fun w => pHoldsAtom nf ar inn j l[i].1 l[i].2 w
        rw [HP.out] at HC
        clear HG
        generalize hg : goodA nf ar nl j l[i] = g at *
        clear hg
        generalize l[i].1 = ak at *
        generalize l[i].2 = av at *
        by_cases hi0 : i = 0
        · have hi1 : ((i : Int) == 0) = true := by simp [hi0]
          have HI0 : Hid (i = 0) := hi0
          clear hi0
          by_cases h5 : ak = 5
          · have HF : Hid (false = R) := HN.out HI0.out h5
            subst h5
            go_wp2_with fail
            go_ret
            exact ⟨ret_bool HF.out, hb.alloc hb.size _⟩
          · have h5' : (ak == 5) = false := by simpa using h5
            have HS2 : Hid _ := HS.out (fun _ => h5)
            clear HN HS
            cases g
            · have HF : Hid (false = R) := by rw [← HS2.out]; rfl
              go_wp2_with fail
              refine (show Calls _ _ _ _ _ from HC.out _).mono ?_
              rintro e w1 ⟨rfl, hb1⟩
              go_wp2_with fail
              go_ret
              exact ⟨ret_bool HF.out, (hb.alloc hb.size _).trans (hb1.mono (by simp; omega))⟩
            · have HS3 : Hid (restL nf ar nl j l (i + 1) = R) := by rw [← HS2.out]; simp [Hid]
              go_wp2_with fail
              refine (show Calls _ _ _ _ _ from HC.out _).mono ?_
              rintro e w1 ⟨rfl, hb1⟩
              go_wp2_with fail
              go_roundw
              case rel => exact ⟨i + 1, hlt, by go_num, HS3, (hb.alloc hb.size _).trans (hb1.mono (by simp; omega)), (hb1.block _ (by simp; omega)).trans ((Below.heap_alloc wr _ _ hwlt).trans hbS)⟩
              case measure => simp [intOf]; omega
        · have hi1 : ((i : Int) == 0) = false := by simp; omega
          have HS2 : Hid _ := HS.out (fun h => absurd h hi0)
          clear HN HS hi0
          cases g
          · have HF : Hid (false = R) := by rw [← HS2.out]; rfl
            go_wp2_with fail
            refine (show Calls _ _ _ _ _ from HC.out _).mono ?_
            rintro e w1 ⟨rfl, hb1⟩
            go_wp2_with fail
            go_ret
            exact ⟨ret_bool HF.out, (hb.alloc hb.size _).trans (hb1.mono (by simp; omega))⟩
          · have HS3 : Hid (restL nf ar nl j l (i + 1) = R) := by rw [← HS2.out]; simp [Hid]
            go_wp2_with fail
            refine (show Calls _ _ _ _ _ from HC.out _).mono ?_
            rintro e w1 ⟨rfl, hb1⟩
            go_wp2_with fail
            go_roundw
            case rel => exact ⟨i + 1, hlt, by go_num, HS3, (hb.alloc hb.size _).trans (hb1.mono (by simp; omega)), (hb1.block _ (by simp; omega)).trans ((Below.heap_alloc wr _ _ hwlt).trans hbS)⟩
            case measure => simp [intOf]; omega
      · have HE : Hid (true = R) := by rw [← HG.out, show i = l.length by omega]; simp [Hid, restL]; omega
        go_wp2_with fail
        go_ret
        exact ⟨ret_bool HE.out, hb⟩
  · have hj0 : (if j = 0 then 1 else 2) = 2 := if_neg (by omega)
    have key1 := key 2 hj0.symm
    have bad1 := bad 2 hj0.symm
    clear hj0 key bad
    have hjj : ((j : Int) == 0) = false := by simp; omega
    by_cases q1 : l.length < 2
    · have HF := bad1 (.inl q1)
      go_enter Tryd.func74, Tryd.ntmps74
      go_wp2_with fail
      go_ret
      exact ⟨ret_bool HF.out, (Below.refl _ _).alloc (Nat.le_refl _) _⟩
    have q1' : ¬ (l.length : Int) < 2 := by omega
    by_cases q2 : 8 < l.length
    · have HF := bad1 (.inr q2)
      go_enter Tryd.func74, Tryd.ntmps74
      go_wp2_with fail
      go_ret
      exact ⟨ret_bool HF.out, (Below.refl _ _).alloc (Nat.le_refl _) _⟩
    have HK := key1 (by omega) (by omega)
    clear key1 bad1
    rcases hcs with h0 | ⟨b, off, rfl, hbl, hcell⟩
    · omega
    go_enter Tryd.func74, Tryd.ntmps74
    go_wp2_with fail
    go_loopw [23] (fun x wr => ∃ (i : Nat), i ≤ l.length ∧ x = .int .i64 i ∧ Hid (restL nf ar nl j l i = R) ∧ Below w.heap.size w wr ∧ wr.heap[w.heap.size]? = some (.cells #[.int .i64 nf, .int .i64 ar, .int .i64 inn] 108 (0, 0))) (fun x _ => l.length - (intOf x).toNat)
    case atStart => exact ⟨0, Nat.zero_le _, rfl, HK, (Below.refl _ _).alloc (Nat.le_refl _) _, heap_alloc_new w _⟩
    case round =>
      obtain ⟨i, hi, rfl, HG, hb, hbS⟩ := hrel
      have hbsz := hb.size
      have hwlt : w.heap.size < wr.heap.size := (Array.getElem?_eq_some_iff.1 hbS).1
      by_cases hlt : i < l.length
      · have S0 := cell_of_row wr w.heap.size 0 _ _ _ hbS
        have S1 := cell_of_row wr w.heap.size 1 _ _ _ hbS
        have S2 := cell_of_row wr w.heap.size 2 _ _ _ hbS
        simp only [List.getElem?_toArray, List.getElem?_cons_succ, List.getElem?_cons_zero] at S0 S1 S2
        obtain ⟨c0, c1⟩ := hcell i hlt
        rw [← hb.cell (p := ⟨b, off + i * 2, none⟩) (show b < _ by omega)] at c0
        rw [← hb.cell (p := ⟨b, off + i * 2 + 1, none⟩) (show b < _ by omega)] at c1
        have HN : Hid (i = 0 → l[i].1 = 5 → false = R) := fun h0 h5 => by subst h0; rw [← HG.out]; exact (restL_node nf ar nl j l hlt h5).symm
        have HS : Hid ((i = 0 → l[i].1 ≠ 5) → (goodA nf ar nl j l[i] && restL nf ar nl j l (i + 1)) = R) := fun h => (restL_step nf ar nl j l i hlt h).symm.trans HG.out
        have HP : Hid (pA nf ar inn j l[i] = goodA nf ar nl j l[i]) := by rw [← HI.out]; exact pA_goodA nf ar nl j l[i]
        have HC : Hid _ := fun w => pHoldsAtom nf ar inn j l[i].1 l[i].2 w
        rw [HP.out] at HC
        clear HG
        generalize hg : goodA nf ar nl j l[i] = g at *
        clear hg
        generalize l[i].1 = ak at *
        generalize l[i].2 = av at *
        by_cases hi0 : i = 0
        · have hi1 : ((i : Int) == 0) = true := by simp [hi0]
          have HI0 : Hid (i = 0) := hi0
          clear hi0
          by_cases h5 : ak = 5
          · have HF : Hid (false = R) := HN.out HI0.out h5
            subst h5
            go_wp2_with fail
            go_ret
            exact ⟨ret_bool HF.out, hb.alloc hb.size _⟩
          · have h5' : (ak == 5) = false := by simpa using h5
            have HS2 : Hid _ := HS.out (fun _ => h5)
            clear HN HS
            cases g
            · have HF : Hid (false = R) := by rw [← HS2.out]; rfl
              go_wp2_with fail
              refine (show Calls _ _ _ _ _ from HC.out _).mono ?_
              rintro e w1 ⟨rfl, hb1⟩
              go_wp2_with fail
              go_ret
              exact ⟨ret_bool HF.out, (hb.alloc hb.size _).trans (hb1.mono (by simp; omega))⟩
            · have HS3 : Hid (restL nf ar nl j l (i + 1) = R) := by rw [← HS2.out]; simp [Hid]
              go_wp2_with fail
              refine (show Calls _ _ _ _ _ from HC.out _).mono ?_
              rintro e w1 ⟨rfl, hb1⟩
              go_wp2_with fail
              go_roundw
              case rel => exact ⟨i + 1, hlt, by go_num, HS3, (hb.alloc hb.size _).trans (hb1.mono (by simp; omega)), (hb1.block _ (by simp; omega)).trans ((Below.heap_alloc wr _ _ hwlt).trans hbS)⟩
              case measure => simp [intOf]; omega
        · have hi1 : ((i : Int) == 0) = false := by simp; omega
          have HS2 : Hid _ := HS.out (fun h => absurd h hi0)
          clear HN HS hi0
          cases g
          · have HF : Hid (false = R) := by rw [← HS2.out]; rfl
            go_wp2_with fail
            refine (show Calls _ _ _ _ _ from HC.out _).mono ?_
            rintro e w1 ⟨rfl, hb1⟩
            go_wp2_with fail
            go_ret
            exact ⟨ret_bool HF.out, (hb.alloc hb.size _).trans (hb1.mono (by simp; omega))⟩
          · have HS3 : Hid (restL nf ar nl j l (i + 1) = R) := by rw [← HS2.out]; simp [Hid]
            go_wp2_with fail
            refine (show Calls _ _ _ _ _ from HC.out _).mono ?_
            rintro e w1 ⟨rfl, hb1⟩
            go_wp2_with fail
            go_roundw
            case rel => exact ⟨i + 1, hlt, by go_num, HS3, (hb.alloc hb.size _).trans (hb1.mono (by simp; omega)), (hb1.block _ (by simp; omega)).trans ((Below.heap_alloc wr _ _ hwlt).trans hbS)⟩
            case measure => simp [intOf]; omega
      · have HE : Hid (true = R) := by rw [← HG.out, show i = l.length by omega]; simp [Hid, restL]; omega
        go_wp2_with fail
        go_ret
        exact ⟨ret_bool HE.out, hb⟩
end Go.Proofs.YtnndoagpbcacdaaDoor
