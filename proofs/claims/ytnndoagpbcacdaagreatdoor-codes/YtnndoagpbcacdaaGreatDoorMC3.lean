import Derived.Test.YtnndoagpbcacdaaGreatDoorMC1
import Derived.Test.YtnndoagpbcacdaaGreatDoorMW5
namespace Go.Proofs.YtnndoagpbcacdaaGreatDoor
open Go.RowKit

set_option maxRecDepth 100000 in
set_option maxHeartbeats 4000000 in
theorem rGood (c : Cd) (fv : Value) (T : Nat) (w : World) (hT : T ≤ w.heap.size) (hf : FunsRd w T fv c.fs) :
    Calls Tryz.prog 91 #[.agg #[.int .i64 c.mn, fv]] w fun e w' => e = .returned (.bool (goodC c)) ∧ Below w.heap.size w w' := by
  obtain ⟨mn, fs⟩ := c
  obtain ⟨fo, fcap, hfv, hc1, hc2, hcs⟩ := hf
  simp only at *
  subst hfv
  have hc3 := hc2
  unfold maxLen at hc3
  generalize hR : goodC ⟨mn, fs⟩ = R
  have HR : Hid ((decide (1 ≤ fs.length) && (decide (fs.length ≤ 16) && (decide (0 ≤ mn) && (decide (mn < fs.length) && (fs.all (goodT fs.length) && decide ((fs[mn.toNat]?.getD ⟨0, []⟩).ar = 0)))))) = R) := hR
  clear hR
  by_cases g1 : fs.length < 1
  · have HF : Hid (false = R) := by rw [← HR.out]; simp [Hid]; omega
    go_enter Tryz.func91, Tryz.ntmps91
    go_wp2_with fail
    go_ret
    exact ⟨ret_bool HF.out, (Below.refl _ _).alloc (Nat.le_refl _) _⟩
  by_cases g2 : 16 < fs.length
  · have HF : Hid (false = R) := by rw [← HR.out]; simp [Hid]; omega
    go_enter Tryz.func91, Tryz.ntmps91
    go_wp2_with fail
    go_ret
    exact ⟨ret_bool HF.out, (Below.refl _ _).alloc (Nat.le_refl _) _⟩
  by_cases g3 : mn < 0
  · have HF : Hid (false = R) := by rw [← HR.out]; simp [Hid]; omega
    go_enter Tryz.func91, Tryz.ntmps91
    go_wp2_with fail
    go_ret
    exact ⟨ret_bool HF.out, (Below.refl _ _).alloc (Nat.le_refl _) _⟩
  have g3' : decide (mn < 0) = false := by simpa using g3
  by_cases g4 : (fs.length : Int) ≤ mn
  · have HF : Hid (false = R) := by rw [← HR.out]; simp [Hid]; omega
    go_enter Tryz.func91, Tryz.ntmps91
    go_wp2_with fail
    go_ret
    exact ⟨ret_bool HF.out, (Below.refl _ _).alloc (Nat.le_refl _) _⟩
  obtain ⟨m, rfl⟩ := Int.eq_ofNat_of_zero_le (show 0 ≤ mn by omega)
  have hm : m < fs.length := by omega
  have HR2 : Hid (((fs.drop 0).all (goodT fs.length) && decide (fs[m].ar = 0)) = R) := by
    rw [← HR.out]
    show _ = _
    rw [Int.toNat_natCast, List.getElem?_eq_getElem hm, Option.getD_some]
    simp [show 1 ≤ fs.length by omega, show fs.length ≤ 16 by omega, hm]
  clear HR
  rcases hcs with h0 | ⟨b, off, rfl, hbl, hcell⟩
  · omega
  go_enter Tryz.func91, Tryz.ntmps91
  go_wp2_with fail
  go_loopw [3] (fun x wr => ∃ (j : Nat), j ≤ fs.length ∧ x = .int .i64 j ∧ Hid (((fs.drop j).all (goodT fs.length) && decide (fs[m].ar = 0)) = R) ∧ Below w.heap.size w wr ∧ wr.heap[w.heap.size]? = some (.cells #[.int .i64 m, .slice (some ⟨b, off, none⟩) fs.length fcap] 57 (0, 0))) (fun x _ => fs.length - (intOf x).toNat)
  case atStart => exact ⟨0, Nat.zero_le _, rfl, HR2, (Below.refl _ _).alloc (Nat.le_refl _) _, heap_alloc_new w _⟩
  case round =>
    obtain ⟨j, hj, rfl, HG, hb, hbC⟩ := hrel
    have hbsz := hb.size
    have hwlt : w.heap.size < wr.heap.size := (Array.getElem?_eq_some_iff.1 hbC).1
    have C0 := cell_of_row wr w.heap.size 0 _ _ _ hbC
    have C1 := cell_of_row wr w.heap.size 1 _ _ _ hbC
    simp only [List.getElem?_toArray, List.getElem?_cons_succ, List.getElem?_cons_zero] at C0 C1
    by_cases hlt : j < fs.length
    · obtain ⟨lv, e0, e1, hls⟩ := hcell j hlt
      rw [← hb.cell (p := ⟨b, off + j * 2, none⟩) (show b < _ by omega)] at e0
      rw [← hb.cell (p := ⟨b, off + j * 2 + 1, none⟩) (show b < _ by omega)] at e1
      have HC : Hid _ := rTemplate fs[j] m (some ⟨b, off, none⟩) fs.length fcap lv T wr.drew (by simp [heap_drew]; omega) (by unfold maxLen; omega) ((hls.keep (hb.mono hT)).keep (Below.drew (Below.refl _ _)))
      have HS : Hid ((goodT fs.length fs[j] && ((fs.drop (j + 1)).all (goodT fs.length) && decide (fs[m].ar = 0))) = R) := by rw [← HG.out, all_in _ fs j hlt, Bool.and_assoc]; exact rfl
      obtain ⟨la, lc, rfl, hl1, hl2, _⟩ := hls
      unfold maxLen at hl2
      clear HG hcell
      generalize hg : goodT fs.length fs[j] = g at *
      clear hg
      go_wp2_with fail
      go_cut [4] (fun vx wc => vx = .bool g ∧ Below wr.heap.size wr wc)
      case first =>
        go_region_with (go_at_call 138; go_must (refine (show Calls _ _ _ _ _ from HC.out).mono ?_); rintro e w1 ⟨rfl, hb1⟩)
        all_goals
          go_wp2_with fail
          go_meet
          case rel => exact ⟨rfl, (Below.drew (Below.refl _ _)).trans (hb1.mono (by simp [heap_drew]))⟩
      case rest =>
        obtain ⟨hx, hbc⟩ := hcut
        subst hx
        clear HC C0 C1 e0 e1
        cases g
        · have HF : Hid (false = R) := by rw [← HS.out]; rfl
          go_wp2_with fail
          go_ret
          exact ⟨ret_bool HF.out, hb.trans (hbc.mono hbsz)⟩
        · have HS2 : Hid (((fs.drop (j + 1)).all (goodT fs.length) && decide (fs[m].ar = 0)) = R) := by rw [← HS.out]; simp [Hid]
          go_wp2_with fail
          go_roundw
          case rel => exact ⟨j + 1, hlt, by go_num, HS2, hb.trans (hbc.mono hbsz), (hbc.block _ hwlt).trans hbC⟩
          case measure => simp [intOf]; omega
    · obtain ⟨lv, e0, e1, hls⟩ := hcell m hm
      rw [← hb.cell (p := ⟨b, off + m * 2, none⟩) (show b < _ by omega)] at e0
      have HF : Hid (decide (fs[m].ar = 0) = R) := by rw [← HG.out, List.drop_eq_nil_of_le (by omega)]; rfl
      clear hcell e1 hls HG
      generalize fs[m].ar = am at *
      by_cases h0 : am = 0
      · have HF2 : Hid (true = R) := by rw [← HF.out]; simp [Hid, h0]
        subst h0
        go_wp2_with fail
        go_ret
        exact ⟨ret_bool HF2.out, hb⟩
      · have HF2 : Hid (false = R) := by rw [← HF.out]; simp [Hid, h0]
        have h0' : (am == 0) = false := by simpa using h0
        go_wp2_with fail
        go_ret
        exact ⟨ret_bool HF2.out, hb⟩

end Go.Proofs.YtnndoagpbcacdaaGreatDoor
namespace Go.Proofs.YtnndoagpbcacdaaGreatDoor
open Go.RowKit

theorem str_ten : (strOfNums [10]).data.toList = [10] := by rfl
theorem str_ten_size : (strOfNums [10]).size = 1 := by rfl

set_option maxRecDepth 100000 in
set_option maxHeartbeats 8000000 in
theorem rWrite (c : Cd) (fv : Value) (T : Nat) (w : World) (hT : T ≤ w.heap.size) (hf : FunsRd w T fv c.fs) :
    Calls Tryz.prog 56 #[.agg #[.int .i64 c.mn, fv]] w fun e w' => ∃ x : ByteArray, e = .returned (.tuple #[.string x, .int .i64 (wrE c)]) ∧ x.data.toList = wrL c ∧ x.size ≤ 20000 ∧ Below w.heap.size w w' := by
  have HG : Hid _ := rGood c fv T (w.alloc (Obj.cells #[.int .i64 c.mn, fv] 57)) (by simp; omega) (hf.keep ((Below.refl _ _).alloc hT _))
  cases hg : goodC c
  · have HR1 : Hid (wrE c = 7) := by simp [Hid, wrE, hg]
    have HR2 : Hid (wrL c = []) := by simp [Hid, wrL, hg]
    rw [HR1.out]
    rw [hg] at HG
    clear hg HR1
    obtain ⟨fo, fcap, hfv, hc1, hc2, hcs⟩ := hf
    subst hfv
    unfold maxLen at hc2
    go_enter Tryz.func56, Tryz.ntmps56
    go_wp2_with fail
    refine (show Calls _ _ _ _ _ from HG.out).mono ?_
    rintro e w1 ⟨rfl, hb1⟩
    go_wp2_with fail
    go_ret2
    exact ⟨_, rfl, HR2.out.symm, by decide, ((Below.refl _ _).alloc (Nat.le_refl _) _).trans (hb1.mono (by simp))⟩
  have HR1 : Hid (wrE c = 0) := by simp [Hid, wrE, hg]
  have HR2 : Hid (wrL c = cdL c) := by simp [Hid, wrL, hg]
  rw [HR1.out]
  rw [hg] at HG
  obtain ⟨k1, k2, k3, k4, k5⟩ := goodC_ok hg
  clear hg HR1
  obtain ⟨mn, fs⟩ := c
  obtain ⟨fo, fcap, hfv, hc1, hc2, hcs⟩ := hf
  simp only at *
  subst hfv
  unfold maxLen at hc2
  have HK : Hid _ := k5
  clear k5
  obtain ⟨m, rfl⟩ := Int.eq_ofNat_of_zero_le k3
  have hm : m < fs.length := by omega
  rcases hcs with h0 | ⟨b, off, rfl, hbl, hcell⟩
  · omega
  have HDM : Hid _ := fun w => rDecimal m m w (Nat.le_refl _) (by omega)
  have HDN : Hid _ := fun w => rDecimal fs.length fs.length w (Nat.le_refl _) (by omega)
  have HLM : Hid _ := decL_len6 m (by omega)
  have HLN : Hid _ := decL_len6 fs.length (by omega)
  have kc := conv_byte
  have ks := str_ten_size
  clear k3 k4
  go_enter Tryz.func56, Tryz.ntmps56
  go_wp2_with fail
  refine (show Calls _ _ _ _ _ from HG.out).mono ?_
  rintro e w1 ⟨rfl, hb1⟩
  clear HG
  have hbx := box_later' hb1
  have hbw : Below w.heap.size w w1 := ((Below.refl _ _).alloc (Nat.le_refl _) _).trans (hb1.mono (by simp))
  have hwlt : w.heap.size < w1.heap.size := (Array.getElem?_eq_some_iff.1 hbx).1
  have B0 := cell_of_row w1 w.heap.size 0 _ _ _ hbx
  simp only [List.getElem?_toArray, List.getElem?_cons_zero] at B0
  go_wp2_with fail
  refine (show Calls _ _ _ _ _ from HDM.out _).mono ?_
  rintro e w2 ⟨x, rfl, hx, hb2⟩
  clear HDM B0
  have hxs : x.size ≤ 6 := by rw [size_len, hx]; exact HLM.out
  have HX : Hid _ := hx
  clear hx HLM
  have hbx2 := (hb2.block w.heap.size hwlt).trans hbx
  have hbw2 : Below w.heap.size w w2 := hbw.trans (hb2.mono hbw.size)
  have hwlt2 : w.heap.size < w2.heap.size := (Array.getElem?_eq_some_iff.1 hbx2).1
  have B1 := cell_of_row w2 w.heap.size 1 _ _ _ hbx2
  simp only [List.getElem?_toArray, List.getElem?_cons_succ, List.getElem?_cons_zero] at B1
  clear hbx hbw hb1 hwlt hb2
  go_wp2_with fail
  refine (show Calls _ _ _ _ _ from HDN.out _).mono ?_
  rintro e w3 ⟨y, rfl, hy, hb3⟩
  clear HDN B1
  have hys : y.size ≤ 6 := by rw [size_len, hy]; exact HLN.out
  have HY : Hid _ := hy
  clear hy HLN
  have hbx3 := (hb3.block w.heap.size hwlt2).trans hbx2
  have hbw3 : Below w.heap.size w w3 := hbw2.trans (hb3.mono hbw2.size)
  have hwlt3 : w.heap.size < w3.heap.size := (Array.getElem?_eq_some_iff.1 hbx3).1
  clear hbx2 hbw2 hwlt2 hb3
  go_wp2_with fail
  go_loopw [8, 9] (fun x y wr => ∃ (k : Nat) (sx : ByteArray), k ≤ fs.length ∧ y = .int .i64 k ∧ x = .string sx ∧ Hid (sx.data.toList = hdL 77 m fs.length ++ (fs.take k).flatMap tpL) ∧ sx.size ≤ 16 + 861 * k ∧ Below w.heap.size w wr ∧ wr.heap[w.heap.size]? = some (.cells #[.int .i64 m, .slice (some ⟨b, off, none⟩) fs.length fcap] 57 (0, 0))) (fun _ y _ => fs.length - (intOf y).toNat)
  case atStart =>
    refine ⟨0, _, Nat.zero_le _, rfl, rfl, ?_, ?_, hbw3.alloc hbw3.size _, (Below.heap_alloc w3 _ _ hwlt3).trans hbx3⟩
    · show _ = _
      simp only [toL_append]
      rw [HX.out, HY.out]
      simp [hdL, str_ten]
    · simp only [ByteArray.size_append, str_ten_size]
      simp only [ByteArray.size]
      simp
      have : x.data.size = x.size := rfl
      have : y.data.size = y.size := rfl
      omega
  case round =>
    clear hbx3 hbw3 hwlt3 HX HY hxs hys
    obtain ⟨k, sx, hk, rfl, rfl, HSX, hsx, hb, hbC⟩ := hrel
    have hbsz := hb.size
    have hwlt : w.heap.size < wr.heap.size := (Array.getElem?_eq_some_iff.1 hbC).1
    have C1 := cell_of_row wr w.heap.size 1 _ _ _ hbC
    simp only [List.getElem?_toArray, List.getElem?_cons_succ, List.getElem?_cons_zero] at C1
    by_cases hlt : k < fs.length
    · obtain ⟨lv, c0, c1, hat⟩ := hcell k hlt
      have HC1 : Hid _ := c1
      rw [← hb.cell (p := ⟨b, off + k * 2, none⟩) (show b < _ by omega)] at c0
      obtain ⟨o1, o2, o3, o4, o5⟩ := HK.out fs[k] (List.getElem_mem hlt)
      have HA : Hid _ := flat_snoc tpL fs k hlt
      have HTP : Hid (tpL fs[k] = hdL 70 fs[k].ar.toNat (fs[k].ls.length - 1) ++ fs[k].ls.flatMap lnT) := rfl
      obtain ⟨la, lc, rfl, hl1, hl2, hls⟩ := hat
      unfold maxLen at hl2
      have HO5 : Hid _ := o5
      clear hcell o5
      generalize hF : fs[k] = F at *
      clear hF
      obtain ⟨ar, ls⟩ := F
      simp only at *
      obtain ⟨an, rfl⟩ := Int.eq_ofNat_of_zero_le o1
      have HDA : Hid _ := fun w => rDecimal an an w (Nat.le_refl _) (by omega)
      have HDK : Hid _ := fun w => rDecimal (ls.length - 1) (ls.length - 1) w (Nat.le_refl _) (by omega)
      have HEK : Hid (((ls.length - 1 : Nat) : Int) = (ls.length : Int) - 1) := by show _ = _; omega
      rw [HEK.out] at HDK
      have HLA : Hid _ := decL_len6 an (by omega)
      have HLK : Hid _ := decL_len6 (ls.length - 1) (by omega)
      clear o1
      go_wp2_with fail
      refine (show Calls _ _ _ _ _ from HDA.out _).mono ?_
      rintro e w2 ⟨x, rfl, hx, hb2⟩
      clear HDA c0 C1 c1
      have hxs : x.size ≤ 6 := by rw [size_len, hx]; exact HLA.out
      have HX : Hid _ := hx
      clear hx HLA
      have hbC2 := (hb2.block w.heap.size hwlt).trans hbC
      have hbw2 : Below w.heap.size w w2 := hb.trans (hb2.mono hbsz)
      have hwlt2 : w.heap.size < w2.heap.size := (Array.getElem?_eq_some_iff.1 hbC2).1
      have C1 := cell_of_row w2 w.heap.size 1 _ _ _ hbC2
      simp only [List.getElem?_toArray, List.getElem?_cons_succ, List.getElem?_cons_zero] at C1
      have c1 := HC1.out
      rw [← hbw2.cell (p := ⟨b, off + k * 2 + 1, none⟩) (show b < _ by omega)] at c1
      go_wp2_with fail
      refine (show Calls _ _ _ _ _ from HDK.out _).mono ?_
      rintro e w3 ⟨y, rfl, hy, hb3⟩
      clear HDK C1 c1
      have hys : y.size ≤ 6 := by rw [size_len, hy]; exact HLK.out
      have HY : Hid _ := hy
      clear hy HLK
      have hbC3 := (hb3.block w.heap.size hwlt2).trans hbC2
      have hbw3 : Below w.heap.size w w3 := hbw2.trans (hb3.mono hbw2.size)
      clear hbC2 hbw2 hwlt2 hb3 hb2 hbC hb hwlt hbsz
      go_wp2_with fail
      go_loopw [8, 12] (fun u v wx => ∃ (j : Nat) (sy : ByteArray), j ≤ ls.length ∧ v = .int .i64 j ∧ u = .string sy ∧ Hid (sy.data.toList = hdL 77 m fs.length ++ ((fs.take k).flatMap tpL ++ (hdL 70 an (ls.length - 1) ++ (ls.take j).flatMap lnT))) ∧ sy.size ≤ 16 + 861 * k + 16 + 65 * j ∧ Below w.heap.size w wx ∧ wx.heap[w.heap.size]? = some (.cells #[.int .i64 m, .slice (some ⟨b, off, none⟩) fs.length fcap] 57 (0, 0))) (fun _ v _ => ls.length - (intOf v).toNat)
      case atStart =>
        refine ⟨0, _, Nat.zero_le _, rfl, rfl, ?_, ?_, hbw3, hbC3⟩
        · show _ = _
          simp only [toL_append]
          rw [HX.out, HY.out, HSX.out]
          simp [hdL, str_ten]
        · simp only [ByteArray.size_append, str_ten_size]
          simp only [ByteArray.size]
          simp
          have : x.data.size = x.size := rfl
          have : y.data.size = y.size := rfl
          have : sx.data.size = sx.size := rfl
          omega
      case round =>
        clear hbC3 hbw3 HX HY hxs hys HSX hsx
        obtain ⟨j, sy, hj, rfl, rfl, HSY, hsy, hb, hbC⟩ := hrel
        have hbsz := hb.size
        have hwlt : w.heap.size < wr.heap.size := (Array.getElem?_eq_some_iff.1 hbC).1
        have C1 := cell_of_row wr w.heap.size 1 _ _ _ hbC
        simp only [List.getElem?_toArray, List.getElem?_cons_succ, List.getElem?_cons_zero] at C1
        have c1 := HC1.out
        rw [← hb.cell (p := ⟨b, off + k * 2 + 1, none⟩) (show b < _ by omega)] at c1
        by_cases hjl : j < ls.length
        · rcases hls with h0 | ⟨bl, lf, rfl, hbll, hlcell⟩
          · omega
          obtain ⟨av, a0, hav⟩ := hlcell j hjl
          rw [← hb.cell (p := ⟨bl, lf + j, none⟩) (show bl < _ by omega)] at a0
          have hlk := HO5.out ls[j] (List.getElem_mem hjl)
          have HAJ : Hid _ := flat_snoc lnT ls j hjl
          have HN : Hid _ := lnT_len hlk
          have HLN : Hid (lnT ls[j] = lnL ls[j] ++ [10]) := rfl
          have HC : Hid _ := rSpelt ls[j] av T wr (by have := hlk.1; omega) hlk.2 (by omega) (hav.keep (hb.mono hT))
          obtain ⟨aa, ac, rfl, ha1, ha2, _⟩ := hav
          unfold maxLen at ha2
          clear hlcell hlk
          go_wp2_with fail
          refine (show Calls _ _ _ _ _ from HC.out).mono ?_
          rintro e w2 ⟨z, rfl, hz, hb2⟩
          clear HC C1 c1 a0
          have hzs : z.size + 1 ≤ 65 := by have := HN.out; rw [HLN.out, List.length_append] at this; rw [size_len, hz]; simpa using this
          have HZ : Hid _ := hz
          clear hz
          go_wp2_with fail
          go_roundw
          case rel =>
            refine ⟨j + 1, _, hjl, by go_num, rfl, ?_, ?_, hb.trans (hb2.mono hbsz), (hb2.block _ hwlt).trans hbC⟩
            · show _ = _
              simp only [toL_append]
              rw [HSY.out, HZ.out, HAJ.out, HLN.out]
              simp [str_ten]
            · simp only [ByteArray.size_append, str_ten_size]
              omega
          case measure => simp [intOf]; omega
        · have hj2 : j = ls.length := by omega
          subst hj2
          rw [List.take_length] at HSY
          go_wp2_with fail
          go_roundw
          case rel =>
            refine ⟨k + 1, sy, hlt, by go_num, rfl, ?_, by omega, hb, hbC⟩
            show _ = _
            rw [HSY.out, HA.out, HTP.out, Int.toNat_natCast]
          case measure => simp [intOf]; omega
    · have hk2 : k = fs.length := by omega
      subst hk2
      rw [List.take_length] at HSX
      go_wp2_with fail
      go_ret2
      exact ⟨sx, rfl, HSX.out.trans HR2.out.symm, by omega, hb⟩

end Go.Proofs.YtnndoagpbcacdaaGreatDoor
