import Derived.Test.YtnndoagpbcacdaaGreatDoorR9
namespace Go.Proofs.YtnndoagpbcacdaaGreatDoor
open Go.RowKit

theorem once_from (ds : List Df) : ∀ (n k : Nat), ds.length - k = n → twiceF ds k (ds.drop k) = none → ∀ j (h : j < ds.length), k ≤ j → hasF (ds.take j) ds[j].name.txt = false := by
  intro n
  induction n with
  | zero => intro k hk _ j h hj; omega
  | succ n ih =>
    intro k hk ht j h hj
    have hkl : k < ds.length := by omega
    rw [List.drop_eq_getElem_cons hkl, twiceF] at ht
    cases hf : hasF (ds.take k) ds[k].name.txt
    · rw [hf] at ht
      simp only [Bool.false_eq_true, if_false] at ht
      by_cases hjk : j = k
      · subst hjk; exact hf
      · cases hp : twiceP ds[k].ps 0 ds[k].ps with
        | some p => rw [hp] at ht; simp at ht
        | none => rw [hp] at ht; exact ih (k + 1) (by omega) ht j h (by omega)
    · rw [hf] at ht; simp at ht
theorem main_eq (ds : List Df) : mainE ds = mainR ds := rfl

theorem nR_chk (ds : List Df) : nR ds = (if (orErr (twiceF ds 0 ds) 4).2 ≠ 0 then orErr (twiceF ds 0 ds) 4 else if (orErr (unkF ds ds) 5).2 ≠ 0 then orErr (unkF ds ds) 5 else (0, mainE ds)) := by
  unfold nR
  cases ht : twiceF ds 0 ds with
  | some p => simp [contT, orErr]
  | none =>
    cases hu : unkF ds ds with
    | some p => simp [contT, orErr]
    | none => simp [contT, orErr, main_eq ds]

set_option maxHeartbeats 1000000 in
theorem rCheck (s : ByteArray) (w : World) (hs : s.size ≤ maxLen) :
    Calls Tryz.prog 47 #[.string s] w fun e w' => e = .returned (.tuple #[.int .i64 (chk s).1, .int .i64 (chk s).2]) ∧ Below w.heap.size w w' := by
  unfold maxLen at hs
  generalize hR : chk s = R
  have HR : Hid (chk s = R) := hR
  clear hR
  by_cases hbig : 1000 < s.size
  · have HE : Hid (((0 : Int), (1 : Int)) = R) := by rw [← HR.out]; simp [Hid, chk, hbig]
    go_enter Tryz.func47, Tryz.ntmps47
    go_wp2_with fail
    go_ret2
    exact ⟨ret_two HE.out, Below.refl _ _⟩
  · have hs2 : s.size ≤ 1000 := by omega
    have htl : (toksF s 0).length ≤ 1000 := Nat.le_trans (toksF_len s 0) (by omega)
    have hwt := toksF_wt s hs2 0
    have HR2 := HR.out
    unfold chk at HR2
    rw [if_neg hbig] at HR2
    clear HR
    generalize hts : toksF s 0 = ts at *
    have HTS : Hid (toksF s 0 = ts) := hts
    clear hts
    have HR3 : Hid _ := HR2
    clear HR2
    go_enter Tryz.func47, Tryz.ntmps47
    go_wp2_with fail
    refine (rTokens s _ hs2).mono ?_
    rintro e w1 ⟨v1, rfl, ho1, hb1⟩
    rw [HTS.out] at ho1
    have ho1' := ownsRow_base ho1 (Nat.zero_le _)
    clear ho1
    go_wp2_with fail
    refine (rShape s v1 ts _ hs2 htl hwt ho1').mono ?_
    rintro e w2 ⟨rfl, hb2⟩
    have ho2 := ownsRow_old ho1' hb2
    have hb2' := hb1.trans (hb2.mono hb1.size)
    clear hb1 hb2 ho1'
    by_cases hg : (gAll s.size g0 ts).2 = 0
    · obtain ⟨ds, hshp, hds⟩ := shp_of_all s.size ts hg
      have HR4 := (if_neg (by simpa using hg)).symm.trans HR3.out
      rw [hds, ← nR_chk] at HR4
      have HR5 : Hid (nR ds = R) := HR4
      have hci := cAll_inv ts
      have ok1 : ds.length ≤ 1000000 := by have := hci.i1; rw [hds] at this; omega
      have ok2 : ∀ d ∈ ds, d.ps.length ≤ 1000000 := fun d hd => by have := (hci.i4 d (by rw [hds]; exact hd)).1; omega
      clear HR3 HR4 hci hds
      go_wp2_with fail
      clear hg
      refine (rDefs s v1 ts ds _ htl hwt hshp ho2).mono ?_
      rintro e w3 ⟨lv, rfl, hb3, xs, hr3, hd3⟩
      have ho3 := ownsRow_old ho2 hb3
      have hb3' := hb2'.trans (hb3.mono hb2'.size)
      clear hb3 hb2' ho2
      obtain ⟨q, cap, rfl, _, _⟩ := ho3.form (by omega)
      go_wp2_with fail
      refine (rNames1 s q cap ts lv ds xs _ _ htl ok1 ok2 hwt ho3 hr3 hd3 (Nat.le_refl _)).mono ?_
      rintro e w4 ⟨rfl, hb4⟩
      have hb4' := hb3'.trans (hb4.mono hb3'.size)
      go_wp2_with fail
      go_ret2
      exact ⟨ret_two HR5.out, hb4'⟩
    · have HR6 : Hid _ := (if_pos (by simpa using hg)).symm.trans HR3.out
      have hg' : ((gAll s.size g0 ts).2 == 0) = false := by simpa using hg
      clear HR3
      go_wp2_with fail
      go_ret2
      exact ⟨ret_two HR6.out, hb2'⟩

theorem chk_head : chk ⟨#[109, 97, 105, 110, 32, 61, 32, 120, 59]⟩ = (7, 5) := by decide +kernel

end Go.Proofs.YtnndoagpbcacdaaGreatDoor
