import Derived.Test.YtnndoagpbcacdaaGreatDoorA10
namespace Go.Proofs.YtnndoagpbcacdaaGreatDoor
open Go.RowKit

theorem toksF_len (s : ByteArray) (i : Nat) : (toksF s i).length ≤ s.size - i := by
  fun_induction toksF s i with
  | case1 i h ih =>
    have := endF_ge s i (i + 1)
    have h2 := endF_le s i (i + 1) (by omega)
    rw [List.length_append]
    split <;> simp <;> omega
  | case2 i h => simp

structure CInv (n : Nat) (c : Cs) : Prop where
  i1 : c.ds.length ≤ n
  i2 : c.d.ps.length ≤ n
  i3 : c.d.body.length ≤ n
  i4 : ∀ d ∈ c.ds, d.ps.length ≤ n ∧ d.body.length ≤ n
theorem CInv.step {n : Nat} {c : Cs} (h : CInv n c) (t : Tk) : CInv (n + 1) (cStep c t) := by
  obtain ⟨h1, h2, h3, h4⟩ := h
  have h4' : ∀ d ∈ c.ds, d.ps.length ≤ n + 1 ∧ d.body.length ≤ n + 1 := fun d hd => ⟨Nat.le_succ_of_le (h4 d hd).1, Nat.le_succ_of_le (h4 d hd).2⟩
  unfold cStep
  split
  · refine ⟨by simp; omega, by simp [df0], by simp [df0], ?_⟩
    intro d hd
    simp only [List.mem_append, List.mem_cons, List.not_mem_nil, or_false] at hd
    rcases hd with hd | rfl
    · exact h4' d hd
    · exact ⟨Nat.le_succ_of_le h2, Nat.le_succ_of_le h3⟩
  · split
    · exact ⟨Nat.le_succ_of_le h1, Nat.le_succ_of_le h2, Nat.le_succ_of_le h3, h4'⟩
    · split
      · exact ⟨Nat.le_succ_of_le h1, Nat.le_succ_of_le h2, Nat.le_succ_of_le h3, h4'⟩
      · split
        · exact ⟨Nat.le_succ_of_le h1, by simp; omega, Nat.le_succ_of_le h3, h4'⟩
        · exact ⟨Nat.le_succ_of_le h1, Nat.le_succ_of_le h2, by simp; omega, h4'⟩
theorem CInv.all (ts : List Tk) : ∀ (n : Nat) (c : Cs), CInv n c → CInv (n + ts.length) (ts.foldl cStep c) := by
  induction ts with
  | nil => intro n c h; exact h
  | cons t r ih => intro n c h; have := ih (n + 1) _ (h.step t); simp only [List.foldl_cons, List.length_cons]; rw [show n + (r.length + 1) = n + 1 + r.length by omega]; exact this
theorem cAll_inv (ts : List Tk) : CInv ts.length (cAll ts) := by
  have := CInv.all ts 0 ⟨[], df0, 0⟩ ⟨by simp, by simp [df0], by simp [df0], by simp⟩
  rw [Nat.zero_add] at this
  exact this

/-- The place and the error of a text's first fault; (0, 0): it is a program. -/
def chk (s : ByteArray) : Int × Int :=
  if 1000 < s.size then (0, 1)
  else if (gAll s.size g0 (toksF s 0)).2 ≠ 0 then gAll s.size g0 (toksF s 0)
  else if (orErr (twiceF (cAll (toksF s 0)).ds 0 (cAll (toksF s 0)).ds) 4).2 ≠ 0 then orErr (twiceF (cAll (toksF s 0)).ds 0 (cAll (toksF s 0)).ds) 4
  else if (orErr (unkF (cAll (toksF s 0)).ds (cAll (toksF s 0)).ds) 5).2 ≠ 0 then orErr (unkF (cAll (toksF s 0)).ds (cAll (toksF s 0)).ds) 5
  else (0, mainE (cAll (toksF s 0)).ds)

theorem ret_three {v : Value} {a b : Int × Int} (h : a = b) : Ending.returned (.tuple #[v, .int .i64 a.1, .int .i64 a.2]) = .returned (.tuple #[v, .int .i64 b.1, .int .i64 b.2]) := by rw [h]

set_option maxHeartbeats 1000000 in
theorem sParse (s : ByteArray) (w : World) (hs : s.size ≤ maxLen) :
    Calls Tryz.prog 37 #[.string s] w fun e w' => ∃ lv, e = .returned (.tuple #[lv, .int .i64 (chk s).1, .int .i64 (chk s).2]) ∧ Below w.heap.size w w' ∧ (((chk s).2 ≠ 0 ∧ lv = .slice none 0 0) ∨ ((chk s).2 = 0 ∧ s.size ≤ 1000 ∧ ∃ xs, DR w' lv (cAll (toksF s 0)).ds xs w'.heap.size)) := by
  unfold maxLen at hs
  generalize hR : chk s = R
  have HR : Hid (chk s = R) := hR
  clear hR
  by_cases hbig : 1000 < s.size
  · have HE : Hid (((0 : Int), (1 : Int)) = R) := by rw [← HR.out]; simp [Hid, chk, hbig]
    go_enter Tryz.func37, Tryz.ntmps37
    go_wp2_with fail
    go_ret3
    exact ⟨_, ret_three HE.out, Below.refl _ _, .inl ⟨by rw [← HE.out]; simp, rfl⟩⟩
  · have hs2 : s.size ≤ 1000 := by omega
    have htl : (toksF s 0).length ≤ 1000 := Nat.le_trans (toksF_len s 0) (by omega)
    have hci := cAll_inv (toksF s 0)
    have HR2 := HR.out
    unfold chk at HR2
    rw [if_neg hbig] at HR2
    clear HR
    generalize hts : toksF s 0 = ts at *
    have HTS : Hid (toksF s 0 = ts) := hts
    clear hts
    have ok1 : (cAll ts).ds.length ≤ 1000000 := by have := hci.i1; omega
    have ok2 : ∀ d ∈ (cAll ts).ds, d.ps.length ≤ 1000000 := fun d hd => by have := (hci.i4 d hd).1; omega
    have ok3 : ∀ d ∈ (cAll ts).ds, d.body.length ≤ 1000000 := fun d hd => by have := (hci.i4 d hd).2; omega
    clear hci
    have HR3 : Hid _ := HR2
    clear HR2
    go_enter Tryz.func37, Tryz.ntmps37
    go_wp2_with fail
    refine (sCutTokens s _ hs2).mono ?_
    rintro e w1 ⟨v1, rfl, ho1, hb1⟩
    rw [HTS.out] at ho1
    have ho1' := ownsRow_base ho1 (Nat.zero_le _)
    clear ho1
    go_wp2_with fail
    refine (sCheckGrammar s v1 ts _ hs2 htl ho1').mono ?_
    rintro e w2 ⟨rfl, hb2⟩
    have ho2 := ownsRow_old ho1' hb2
    have hb2' := hb1.trans (hb2.mono hb1.size)
    clear hb1 hb2 ho1'
    by_cases hg : (gAll s.size g0 ts).2 = 0
    · have HR4 : Hid _ := (if_neg (by simpa using hg)).symm.trans HR3.out
      clear HR3
      go_wp2_with fail
      clear hg
      refine (sCutDefinitions v1 ts _ htl ho2).mono ?_
      rintro e w3 ⟨v3, rfl, hb3, xs, hr3, hd3⟩
      have hdr : DR w3 v3 (cAll ts).ds xs w3.heap.size := ⟨hr3, hd3⟩
      have hb3' := hb2'.trans (hb3.mono hb2'.size)
      clear hb3 hb2' hr3 hd3 ho2
      go_wp2_with fail
      refine (sCheckTwice v3 _ xs _ _ ok1 ok2 hdr (Nat.le_refl _)).mono ?_
      rintro e w4 ⟨rfl, hb4⟩
      have hdr4 := hdr.old (Nat.le_refl _) hb4
      have hT4 := hb4.size
      have hb4' := hb3'.trans (hb4.mono hb3'.size)
      clear hb4 hb3' hdr
      by_cases h4 : (orErr (twiceF (cAll ts).ds 0 (cAll ts).ds) 4).2 = 0
      · have HR5 : Hid _ := (if_neg (by simpa using h4)).symm.trans HR4.out
        clear HR4
        go_wp2_with fail
        clear h4
        refine (sCheckNames v3 _ xs _ _ ok1 ok2 ok3 hdr4 hT4).mono ?_
        rintro e w5 ⟨rfl, hb5⟩
        have hdr5 := hdr4.old hT4 hb5
        have hT5 := Nat.le_trans hT4 hb5.size
        have hb5' := hb4'.trans (hb5.mono hb4'.size)
        clear hb5 hb4' hdr4 hT4
        by_cases h5 : (orErr (unkF (cAll ts).ds (cAll ts).ds) 5).2 = 0
        · have HR6 : Hid ((0, mainE (cAll ts).ds) = R) := (if_neg (by simpa using h5)).symm.trans HR5.out
          clear HR5
          go_wp2_with fail
          clear h5
          refine (sCheckMain v3 _ xs _ _ ok1 ok2 hdr5 hT5).mono ?_
          rintro e w6 ⟨rfl, hb6⟩
          have hdr6 := hdr5.old hT5 hb6
          have hT6 := Nat.le_trans hT5 hb6.size
          have hb6' := hb5'.trans (hb6.mono hb5'.size)
          clear hb6 hb5' hdr5 hT5
          by_cases h6 : mainE (cAll ts).ds = 0
          · go_wp2_with fail
            go_ret3
            refine ⟨_, ret_three (a := (0, 0)) (Eq.trans (by rw [h6]) HR6.out), hb6', .inr ⟨(congrArg Prod.snd HR6.out).symm.trans h6, hs2, xs, ?_⟩⟩
            exact ⟨hdr6.row, hdr6.all.up hT6⟩
          · have h6' : (mainE (cAll ts).ds == 0) = false := by simpa using h6
            go_wp2_with fail
            go_ret3
            exact ⟨_, ret_three HR6.out, hb6', .inl ⟨by rw [← HR6.out]; exact h6, rfl⟩⟩
        · have HR6 : Hid _ := (if_pos (by simpa using h5)).symm.trans HR5.out
          have h5' : ((orErr (unkF (cAll ts).ds (cAll ts).ds) 5).2 == 0) = false := by simpa using h5
          clear HR5
          go_wp2_with fail
          go_ret3
          exact ⟨_, ret_three HR6.out, hb5', .inl ⟨by rw [← HR6.out]; exact h5, rfl⟩⟩
      · have HR6 : Hid _ := (if_pos (by simpa using h4)).symm.trans HR4.out
        have h4' : ((orErr (twiceF (cAll ts).ds 0 (cAll ts).ds) 4).2 == 0) = false := by simpa using h4
        clear HR4
        go_wp2_with fail
        go_ret3
        exact ⟨_, ret_three HR6.out, hb4', .inl ⟨by rw [← HR6.out]; exact h4, rfl⟩⟩
    · have HR6 : Hid _ := (if_pos (by simpa using hg)).symm.trans HR3.out
      have hg' : ((gAll s.size g0 ts).2 == 0) = false := by simpa using hg
      clear HR3
      go_wp2_with fail
      go_ret3
      exact ⟨_, ret_three HR6.out, hb2', .inl ⟨by rw [← HR6.out]; exact hg, rfl⟩⟩

set_option maxHeartbeats 400000 in
theorem sCheck (s : ByteArray) (w : World) (hs : s.size ≤ maxLen) :
    Calls Tryz.prog 45 #[.string s] w fun e w' => e = .returned (.tuple #[.int .i64 (chk s).1, .int .i64 (chk s).2]) ∧ Below w.heap.size w w' := by
  go_enter Tryz.func45, Tryz.ntmps45
  go_wp2_with fail
  refine (sParse s _ hs).mono ?_
  rintro e w1 ⟨lv, rfl, hb1, _⟩
  go_wp2_with fail
  go_ret2
  exact ⟨rfl, hb1⟩

set_option maxHeartbeats 400000 in
theorem xCheck (s : ByteArray) (w : World) (hs : s.size ≤ maxLen) :
    Calls Tryz.prog 30 #[.string s] w fun e w' => e = .returned (.tuple #[.int .i64 (chk s).1, .int .i64 (chk s).2]) ∧ Below w.heap.size w w' := by
  go_enter Tryz.func30, Tryz.ntmps30
  go_wp2_with fail
  refine (sCheck s _ hs).mono ?_
  rintro e w1 ⟨rfl, hb1⟩
  go_wp2_with fail
  go_ret2
  exact ⟨rfl, hb1⟩

end Go.Proofs.YtnndoagpbcacdaaGreatDoor
