import Derived.Test.YtnndoagpbcacdaaDoorW3
namespace Go.Proofs.YtnndoagpbcacdaaDoor
open Go.RowKit

def goodPs (nf : Nat) (mn : Int) : Nat → List Tp → Bool
  | _, [] => true
  | j, t :: r => stand t.ar ((t.ls.length : Int) - 1) ((j : Int) == mn) && (goodLs nf t.ar t.ls.length 0 t.ls && goodPs nf mn (j + 1) r)
theorem goodPs_iff (nf : Nat) (mn : Int) : ∀ (r : List Tp) (j : Nat), goodPs nf mn j r = true ↔ (∀ t ∈ r, goodT nf t = true) ∧ (∀ i (h : i < r.length), ((j + i : Nat) : Int) = mn → r[i].ar = 0)
  | [], j => by simp [goodPs]
  | t :: r, j => by
    have ih := goodPs_iff nf mn r (j + 1)
    rw [goodPs, Bool.and_eq_true, Bool.and_eq_true, ih]
    constructor
    · rintro ⟨h1, h2, h3, h4⟩
      simp only [stand, Bool.and_eq_true, decide_eq_true_eq, Bool.not_eq_true', Bool.and_eq_false_iff] at h1
      refine ⟨?_, ?_⟩
      · intro x hx
        rcases List.mem_cons.1 hx with rfl | hx
        · simp only [goodT, Bool.and_eq_true, decide_eq_true_eq]
          exact ⟨h1.1, h1.2.1, by omega, by omega, h2⟩
        · exact h3 x hx
      · intro i hi he
        cases i with
        | zero =>
          simp only [List.getElem_cons_zero]
          rcases h1.2.2.1 with h | h
          · simp at h; exact absurd (by simpa using he) h
          · simp at h; omega
        | succ i =>
          simp only [List.getElem_cons_succ]
          exact h4 i (by simpa using hi) (by rw [← he]; congr 1; omega)
    · rintro ⟨h1, h2⟩
      have ht := h1 t (by simp)
      simp only [goodT, Bool.and_eq_true, decide_eq_true_eq] at ht
      refine ⟨?_, ht.2.2.2.2, fun x hx => h1 x (by simp [hx]), fun i hi he => ?_⟩
      · simp only [stand, Bool.and_eq_true, decide_eq_true_eq, Bool.not_eq_true', Bool.and_eq_false_iff]
        refine ⟨ht.1, ht.2.1, ?_, by omega, by omega⟩
        by_cases hm : (j : Int) = mn
        · right
          have := h2 0 (by simp) (by simpa using hm)
          simp only [List.getElem_cons_zero] at this
          simp; omega
        · left; simpa using hm
      · have := h2 (i + 1) (by simpa using hi) (by rw [← he]; congr 1; omega)
        simpa using this
theorem goodC_eq (c : Cd) : goodC c = (begins c.mn c.fs.length && goodPs c.fs.length c.mn 0 c.fs) := by
  rw [Bool.eq_iff_iff, Bool.and_eq_true, goodPs_iff]
  simp only [goodC, begins, Bool.and_eq_true, decide_eq_true_eq, List.all_eq_true]
  constructor
  · rintro ⟨h1, h2, h3, h4, h5, h6⟩
    refine ⟨⟨by omega, by omega, h3, h4⟩, h5, ?_⟩
    intro i hi he
    have : c.mn.toNat = i := by omega
    rw [this, List.getElem?_eq_getElem hi] at h6
    exact h6
  · rintro ⟨⟨h1, h2, h3, h4⟩, h5, h6⟩
    refine ⟨by omega, by omega, h3, h4, h5, ?_⟩
    have hi : c.mn.toNat < c.fs.length := by omega
    rw [List.getElem?_eq_getElem hi]
    exact h6 _ hi (by omega)
theorem goodPs_in (nf : Nat) (mn : Int) (F : List Tp) (j : Nat) (h : j < F.length) : goodPs nf mn j (F.drop j) = (stand F[j].ar ((F[j].ls.length : Int) - 1) ((j : Int) == mn) && (goodLs nf F[j].ar F[j].ls.length 0 F[j].ls && goodPs nf mn (j + 1) (F.drop (j + 1)))) := by
  rw [List.drop_eq_getElem_cons h, goodPs]

theorem two_later {w w1 : World} {o o2 : Obj} (hb : Below ((w.alloc o).alloc o2).heap.size ((w.alloc o).alloc o2) w1) : w1.heap[w.heap.size]? = some o ∧ w1.heap[w.heap.size + 1]? = some o2 := by
  refine ⟨(hb.block w.heap.size (by simp; omega)).trans ((Below.heap_alloc _ _ _ (by simp)).trans (heap_alloc_new w o)), ?_⟩
  have := heap_alloc_new (w.alloc o) o2
  simp only [World.size_alloc] at this
  exact (hb.block (w.heap.size + 1) (by simp)).trans this

set_option maxRecDepth 100000 in
set_option maxHeartbeats 4000000 in
theorem pIsGood (c : Cd) (fv : Value) (T : Nat) (w : World) (hT : T ≤ w.heap.size) (hf : FunsRd w T fv c.fs) :
    Calls Tryd.prog 40 #[.agg #[.int .i64 c.mn, fv]] w fun e w' => e = .returned (.bool (goodC c)) ∧ Below w.heap.size w w' := by
  rw [goodC_eq]
  obtain ⟨mn, fs⟩ := c
  obtain ⟨fo, fcap, hfv, hc1, hc2, hcs⟩ := hf
  simp only at *
  subst hfv
  have hc3 := hc2
  unfold maxLen at hc3
  cases hbg : begins mn fs.length
  · have HB : Hid _ := pMayBegin mn fs.length (w.alloc (Obj.cells #[.int .i64 mn, .slice fo fs.length fcap] 36))
    rw [hbg] at HB
    clear hbg
    go_enter Tryd.func40, Tryd.ntmps40
    go_wp2_with fail
    refine (show Calls _ _ _ _ _ from HB.out).mono ?_
    rintro e w1 ⟨rfl, rfl⟩
    go_wp2_with fail
    go_ret
    exact ⟨rfl, (Below.refl _ _).alloc (Nat.le_refl _) _⟩
  have HB : Hid _ := pMayBegin mn fs.length (w.alloc (Obj.cells #[.int .i64 mn, .slice fo fs.length fcap] 36))
  rw [hbg] at HB
  simp only [begins, Bool.and_eq_true, decide_eq_true_eq] at hbg
  have hf1 : 1 ≤ fs.length := by omega
  have hf16 : fs.length ≤ 16 := by omega
  clear hbg
  rw [Bool.true_and]
  generalize hR : goodPs fs.length mn 0 fs = R
  have HR : Hid (goodPs fs.length mn 0 (fs.drop 0) = R) := hR
  clear hR
  rcases hcs with h0 | ⟨b, off, rfl, hbl, hcell⟩
  · omega
  go_enter Tryd.func40, Tryd.ntmps40
  go_wp2_with fail
  refine (show Calls _ _ _ _ _ from HB.out).mono ?_
  rintro e w1 ⟨rfl, rfl⟩
  clear HB
  go_wp2_with fail
  go_loopw [18] (fun x wr => ∃ (j : Nat), j ≤ fs.length ∧ x = .int .i64 j ∧ Hid (goodPs fs.length mn j (fs.drop j) = R) ∧ Below w.heap.size w wr ∧ wr.heap[w.heap.size]? = some (.cells #[.int .i64 mn, .slice (some ⟨b, off, none⟩) fs.length fcap] 36 (0, 0))) (fun x _ => fs.length - (intOf x).toNat)
  case atStart => exact ⟨0, Nat.zero_le _, rfl, HR, (Below.refl _ _).alloc (Nat.le_refl _) _, heap_alloc_new w _⟩
  case round =>
    obtain ⟨j, hj, rfl, HG, hb, hbC⟩ := hrel
    have hbsz := hb.size
    have hwlt : w.heap.size < wr.heap.size := (Array.getElem?_eq_some_iff.1 hbC).1
    by_cases hlt : j < fs.length
    · have C0 := cell_of_row wr w.heap.size 0 _ _ _ hbC
      have C1 := cell_of_row wr w.heap.size 1 _ _ _ hbC
      simp only [List.getElem?_toArray, List.getElem?_cons_succ, List.getElem?_cons_zero] at C0 C1
      obtain ⟨lv, e0, e1, hls⟩ := hcell j hlt
      rw [← hb.cell (p := ⟨b, off + j * 2, none⟩) (show b < _ by omega)] at e0
      rw [← hb.cell (p := ⟨b, off + j * 2 + 1, none⟩) (show b < _ by omega)] at e1
      have HS : Hid _ := (goodPs_in fs.length mn fs j hlt).symm.trans HG.out
      have HL : Hid (LinesRd wr T lv fs[j].ls) := hls.keep (hb.mono hT)
      have hls' := hls
      obtain ⟨la, lc, rfl, hl1, hl2, _⟩ := hls'
      unfold maxLen at hl2
      have HCS : Hid _ := fun w' => pMayStand fs.length fs[j].ar ((fs[j].ls.length : Int) - 1) ((j : Int) == mn) w'
      have HCL : Hid _ := fun w' (h : Below T wr w') (h2 : T ≤ w'.heap.size) => pHoldsLines fs.length fs[j].ar fs[j].ls.length fs[j].ls _ T w' h2 (HL.out.keep h)
      clear HG hcell hls HL
      generalize hP : fs[j] = P at *
      clear hP
      obtain ⟨ar, ls⟩ := P
      simp only at *
      cases hst : stand ar ((ls.length : Int) - 1) ((j : Int) == mn)
      · have HF : Hid (false = R) := by rw [← HS.out, hst]; rfl
        rw [hst] at HCS
        clear hst HCL
        cases hjm : ((j : Int) == mn)
        · rw [hjm] at HCS
          have hjn : ¬ (j : Int) = mn := by simpa using hjm
          go_wp2_with fail
          refine (show Calls _ _ _ _ _ from HCS.out _).mono ?_
          rintro e w1 ⟨rfl, hb1⟩
          go_wp2_with fail
          go_ret
          exact ⟨ret_bool HF.out, ((hb.alloc hb.size _).alloc (by simp; omega) _).trans (hb1.mono (by simp; omega))⟩
        · rw [hjm] at HCS
          have hjn : (j : Int) = mn := by simpa using hjm
          have HJ : Hid ((j : Int) = mn) := hjn
          clear hjn
          go_wp2_with fail
          refine (show Calls _ _ _ _ _ from HCS.out _).mono ?_
          rintro e w1 ⟨rfl, hb1⟩
          go_wp2_with fail
          go_ret
          exact ⟨ret_bool HF.out, ((hb.alloc hb.size _).alloc (by simp; omega) _).trans (hb1.mono (by simp; omega))⟩
      · rw [hst] at HCS
        cases hjm : ((j : Int) == mn)
        · rw [hjm] at HCS
          have hjn : ¬ (j : Int) = mn := by simpa using hjm
          go_wp2_with fail
          refine (show Calls _ _ _ _ _ from HCS.out _).mono ?_
          rintro e w1 ⟨rfl, hb1⟩
          obtain ⟨x1, x2⟩ := two_later hb1
          have hbc : Below w.heap.size w w1 := ((hb.alloc hb.size _).alloc (by simp; omega) _).trans (hb1.mono (by simp; omega))
          have hbC1 := (hb1.block w.heap.size (by simp; omega)).trans ((Below.heap_alloc _ _ _ (by simp; omega)).trans ((Below.heap_alloc wr _ _ hwlt).trans hbC))
          have HC3 : Hid _ := HCL.out w1 ((((Below.refl T wr).alloc (by omega) _).alloc (by simp; omega) _).trans (hb1.mono (by simp; omega))) (by have := hbc.size; omega)
          have y1 := cell_of_row w1 wr.heap.size 1 _ _ _ x1
          have z0 := cell_of_row w1 (wr.heap.size + 1) 0 _ _ _ x2
          have z1 := cell_of_row w1 (wr.heap.size + 1) 1 _ _ _ x2
          have z2 := cell_of_row w1 (wr.heap.size + 1) 2 _ _ _ x2
          simp only [List.getElem?_toArray, List.getElem?_cons_succ, List.getElem?_cons_zero] at y1 z0 z1 z2
          clear HCL HCS C0 C1 e0 e1
          cases hg : goodLs fs.length ar ls.length 0 ls
          · have HF : Hid (false = R) := by rw [← HS.out, hst, hg]; rfl
            rw [hg] at HC3
            clear hg hst HS
            go_wp2_with fail
            refine (show Calls _ _ _ _ _ from HC3.out).mono ?_
            rintro e w2 ⟨rfl, hb2⟩
            go_wp2_with fail
            go_ret
            exact ⟨ret_bool HF.out, hbc.trans (hb2.mono hbc.size)⟩
          · have HS3 : Hid (goodPs fs.length mn (j + 1) (fs.drop (j + 1)) = R) := by rw [← HS.out, hst, hg]; simp [Hid]
            rw [hg] at HC3
            clear hg hst HS
            go_wp2_with fail
            refine (show Calls _ _ _ _ _ from HC3.out).mono ?_
            rintro e w2 ⟨rfl, hb2⟩
            go_wp2_with fail
            go_roundw
            case rel => exact ⟨j + 1, hlt, by go_num, HS3, hbc.trans (hb2.mono hbc.size), (hb2.block _ (by have := hb1.size; simp at this; omega)).trans hbC1⟩
            case measure => simp [intOf]; omega
        · rw [hjm] at HCS
          go_wp2_with fail
          refine (show Calls _ _ _ _ _ from HCS.out _).mono ?_
          rintro e w1 ⟨rfl, hb1⟩
          obtain ⟨x1, x2⟩ := two_later hb1
          have hbc : Below w.heap.size w w1 := ((hb.alloc hb.size _).alloc (by simp; omega) _).trans (hb1.mono (by simp; omega))
          have hbC1 := (hb1.block w.heap.size (by simp; omega)).trans ((Below.heap_alloc _ _ _ (by simp; omega)).trans ((Below.heap_alloc wr _ _ hwlt).trans hbC))
          have HC3 : Hid _ := HCL.out w1 ((((Below.refl T wr).alloc (by omega) _).alloc (by simp; omega) _).trans (hb1.mono (by simp; omega))) (by have := hbc.size; omega)
          have y1 := cell_of_row w1 wr.heap.size 1 _ _ _ x1
          have z0 := cell_of_row w1 (wr.heap.size + 1) 0 _ _ _ x2
          have z1 := cell_of_row w1 (wr.heap.size + 1) 1 _ _ _ x2
          have z2 := cell_of_row w1 (wr.heap.size + 1) 2 _ _ _ x2
          simp only [List.getElem?_toArray, List.getElem?_cons_succ, List.getElem?_cons_zero] at y1 z0 z1 z2
          clear HCL HCS C0 C1 e0 e1
          cases hg : goodLs fs.length ar ls.length 0 ls
          · have HF : Hid (false = R) := by rw [← HS.out, hst, hg]; rfl
            rw [hg] at HC3
            clear hg hst HS
            go_wp2_with fail
            refine (show Calls _ _ _ _ _ from HC3.out).mono ?_
            rintro e w2 ⟨rfl, hb2⟩
            go_wp2_with fail
            go_ret
            exact ⟨ret_bool HF.out, hbc.trans (hb2.mono hbc.size)⟩
          · have HS3 : Hid (goodPs fs.length mn (j + 1) (fs.drop (j + 1)) = R) := by rw [← HS.out, hst, hg]; simp [Hid]
            rw [hg] at HC3
            clear hg hst HS
            go_wp2_with fail
            refine (show Calls _ _ _ _ _ from HC3.out).mono ?_
            rintro e w2 ⟨rfl, hb2⟩
            go_wp2_with fail
            go_roundw
            case rel => exact ⟨j + 1, hlt, by go_num, HS3, hbc.trans (hb2.mono hbc.size), (hb2.block _ (by have := hb1.size; simp at this; omega)).trans hbC1⟩
            case measure => simp [intOf]; omega
    · have HE : Hid (true = R) := by rw [← HG.out, List.drop_eq_nil_of_le (by omega)]; rfl
      go_wp2_with fail
      go_ret
      exact ⟨ret_bool HE.out, hb⟩

end Go.Proofs.YtnndoagpbcacdaaDoor
