import Derived.Test.YtnndoagpbcacdaaGreatDoorMB0
import Derived.Test.YtnndoagpbcacdaaGreatDoorMR10
import Derived.Test.YtnndoagpbcacdaaGreatDoorMS2
import Derived.Deep.DeepCutAuto
namespace Go.Proofs.YtnndoagpbcacdaaGreatDoor
open Go.RowKit

set_option maxRecDepth 100000 in
set_option maxHeartbeats 4000000 in
theorem rSpelt (l : Ln) (v : Value) (T : Nat) (w : World) (hl : l.length ≤ 1000) (hok : ∀ a ∈ l, atOk a) (hT : T ≤ w.heap.size) (hv : AtomsRd w T v l) :
    Calls Tryz.prog 93 #[v] w fun e w' => ∃ x : ByteArray, e = .returned (.string x) ∧ x.data.toList = lnL l ∧ Below w.heap.size w w' := by
  obtain ⟨ad, cap, rfl, hc1, hc2, hcs⟩ := hv
  have HOK : Hid _ := hok
  clear hok
  go_enter Tryz.func93, Tryz.ntmps93
  go_wp2_with fail
  go_loopw [3, 4] (fun x y wr => ∃ (k : Nat) (sx : ByteArray), k ≤ l.length ∧ y = .int .i64 k ∧ x = .string sx ∧ Hid (sx.data.toList = ((l.take k).flatMap atL).drop 1) ∧ sx.size ≤ 8 * k ∧ Below w.heap.size w wr) (fun _ y _ => l.length - (intOf y).toNat)
  case atStart => exact ⟨0, _, Nat.zero_le _, rfl, rfl, by simp [Hid], Nat.le_refl _, Below.refl _ _⟩
  case round =>
    obtain ⟨k, sx, hk, rfl, rfl, HSX, hsx, hb⟩ := hrel
    have hbsz := hb.size
    by_cases hlt : k < l.length
    · rcases hcs with h0 | ⟨b, off, rfl, hbl, hcell⟩
      · omega
      obtain ⟨c0, c1⟩ := hcell k hlt
      rw [← hb.cell (p := ⟨b, off + k * 2, none⟩) (show b < _ by omega)] at c0
      rw [← hb.cell (p := ⟨b, off + k * 2 + 1, none⟩) (show b < _ by omega)] at c1
      obtain ⟨o1, o2, o3, o4⟩ := HOK.out l[k] (List.getElem_mem hlt)
      have HA : Hid (((l.take (k + 1)).flatMap atL) = (l.take k).flatMap atL ++ (32 :: letK l[k].1 :: decL l[k].2.toNat)) := ln_snoc l k hlt
      generalize hp : l[k] = p at *
      clear hp
      obtain ⟨pk, pn⟩ := p
      simp only at o1 o2 o3 o4 c0 c1
      obtain ⟨kn, rfl⟩ := Int.eq_ofNat_of_zero_le (show 0 ≤ pk by omega)
      obtain ⟨nn, rfl⟩ := Int.eq_ofNat_of_zero_le o3
      have hk1 : 1 ≤ kn := by omega
      have hk5 : kn ≤ 5 := by omega
      have hn6 : nn ≤ 999999 := by omega
      have hd6 := decL_len6 nn hn6
      have HEK : Hid _ := ext_kind kn hk1 hk5
      have hes : ((⟨#[110, 97, 102, 112, 120]⟩ : ByteArray).extract (kn - 1) kn).size = 1 := by rw [size_len, HEK.out]; rfl
      have HC : Hid _ := fun w => rDecimal nn nn w (Nat.le_refl _) (by omega)
      clear hcell o1 o2 o3 o4
      by_cases hm0 : (0 : Int) < (k : Int)
      · go_wp2_with fail
        refine (show Calls _ _ _ _ _ from HC.out _).mono ?_
        clear HC
        rintro e w1 ⟨y, rfl, hy, hb1⟩
        have hys : y.size ≤ 6 := by rw [size_len, hy]; exact hd6
        have hb1' := hb.trans (hb1.mono hbsz)
        have HY : Hid _ := hy
        rw [← hb1.cell (p := ⟨b, off + k * 2, none⟩) (show b < _ by omega)] at c0
        clear hy c1
        have hs1 : (sx ++ ⟨#[32]⟩ : ByteArray).size = sx.size + 1 := by rw [ByteArray.size_append]; rfl
        go_wp2_with fail
        go_region
        all_goals
          go_wp2_with fail
          go_roundw
          case rel =>
            refine ⟨k + 1, _, hlt, by go_num, rfl, ?_, ?_, Below.drew hb1'⟩
            · show _ = _
              simp only [toL_append]
              rw [HEK.out, HY.out, HSX.out, HA.out, sp_drop _ _ (ln_ne l k (by omega) (by omega))]
              simp
            · simp only [ByteArray.size_append, hes]
              simp only [ByteArray.size]
              simp
              have : sx.data.size = sx.size := rfl
              have : y.data.size = y.size := rfl
              omega
          case measure => simp [intOf]; omega
      · go_wp2_with fail
        refine (show Calls _ _ _ _ _ from HC.out _).mono ?_
        clear HC
        rintro e w1 ⟨y, rfl, hy, hb1⟩
        have hys : y.size ≤ 6 := by rw [size_len, hy]; exact hd6
        have hb1' := hb.trans (hb1.mono hbsz)
        have HY : Hid _ := hy
        rw [← hb1.cell (p := ⟨b, off + k * 2, none⟩) (show b < _ by omega)] at c0
        clear hy c1
        go_wp2_with fail
        go_region
        all_goals
          go_wp2_with fail
          go_roundw
          case rel =>
            refine ⟨k + 1, _, hlt, by go_num, rfl, ?_, ?_, Below.drew hb1'⟩
            · show _ = _
              simp only [toL_append]
              have hk0 : k = 0 := by omega
              rw [HEK.out, HY.out, HSX.out, HA.out, hk0]
              simp
            · simp only [ByteArray.size_append, hes]
              omega
          case measure => simp [intOf]; omega
    · have hk2 : k = l.length := by omega
      subst hk2
      rw [List.take_length] at HSX
      go_wp2_with fail
      go_ret
      exact ⟨sx, rfl, HSX.out, hb⟩

end Go.Proofs.YtnndoagpbcacdaaGreatDoor
namespace Go.Proofs.YtnndoagpbcacdaaGreatDoor
open Go.RowKit

set_option maxHeartbeats 1000000 in
theorem rBound (k mn ar : Int) (fo lo : Option Addr) (nf fcap nl lcap : Nat) (w : World) (hnl : nl ≤ 1000000) :
    Calls Tryz.prog 176 #[.int .i64 k, .agg #[.int .i64 mn, .slice fo nf fcap], .agg #[.int .i64 ar, .slice lo nl lcap]] w fun e w' => e = .returned (.int .i64 (boundF k nf ar nl)) ∧ Below w.heap.size w w' := by
  by_cases h1 : k = 1
  · subst h1
    go_enter Tryz.func176, Tryz.ntmps176
    go_wp2_with fail
    go_ret
    exact ⟨rfl, ((Below.refl _ _).alloc (Nat.le_refl _) _).alloc (by simp) _⟩
  by_cases h2 : k = 2
  · subst h2
    go_enter Tryz.func176, Tryz.ntmps176
    go_wp2_with fail
    go_ret
    exact ⟨rfl, ((Below.refl _ _).alloc (Nat.le_refl _) _).alloc (by simp) _⟩
  by_cases h3 : k = 3
  · subst h3
    go_enter Tryz.func176, Tryz.ntmps176
    go_wp2_with fail
    go_ret
    exact ⟨rfl, ((Below.refl _ _).alloc (Nat.le_refl _) _).alloc (by simp) _⟩
  by_cases h4 : k = 4
  · subst h4
    go_enter Tryz.func176, Tryz.ntmps176
    go_wp2_with fail
    go_ret
    exact ⟨rfl, ((Below.refl _ _).alloc (Nat.le_refl _) _).alloc (by simp) _⟩
  by_cases h5 : k = 5
  · subst h5
    go_enter Tryz.func176, Tryz.ntmps176
    go_wp2_with fail
    go_ret
    exact ⟨rfl, ((Below.refl _ _).alloc (Nat.le_refl _) _).alloc (by simp) _⟩
  have HB : Hid (boundF k nf ar nl = 0) := by show _ = _; unfold boundF; rw [if_neg h1, if_neg h2, if_neg h3, if_neg h4, if_neg h5]
  rw [HB.out]
  have g1 : (k == 1) = false := by simpa using h1
  have g2 : (k == 2) = false := by simpa using h2
  have g3 : (k == 3) = false := by simpa using h3
  have g4 : (k == 4) = false := by simpa using h4
  have g5 : (k == 5) = false := by simpa using h5
  go_enter Tryz.func176, Tryz.ntmps176
  go_wp2_with fail
  go_ret
  exact ⟨rfl, ((Below.refl _ _).alloc (Nat.le_refl _) _).alloc (by simp) _⟩

set_option maxRecDepth 100000 in
set_option maxHeartbeats 4000000 in
theorem rTemplate (t : Tp) (mn : Int) (fo : Option Addr) (nf fcap : Nat) (lv : Value) (T : Nat) (w : World) (hT : T ≤ w.heap.size) (_hnf : nf ≤ maxLen) (hl : LinesRd w T lv t.ls) :
    Calls Tryz.prog 138 #[.agg #[.int .i64 mn, .slice fo nf fcap], .agg #[.int .i64 t.ar, lv]] w fun e w' => e = .returned (.bool (goodT nf t)) ∧ Below w.heap.size w w' := by
  obtain ⟨ar, ls⟩ := t
  obtain ⟨lo, lcap, hlv, hc1, hc2, hcs⟩ := hl
  simp only at *
  subst hlv
  unfold maxLen at hc2 _hnf
  generalize hR : goodT nf ⟨ar, ls⟩ = R
  have HR : Hid ((decide (0 ≤ ar) && (decide (ar ≤ 6) && (decide (1 ≤ ls.length) && (decide (ls.length ≤ 13) && goodLs nf ar ls.length 0 ls)))) = R) := hR
  clear hR
  by_cases g1 : ar < 0
  · have HF : Hid (false = R) := by rw [← HR.out]; simp [Hid]; omega
    go_enter Tryz.func138, Tryz.ntmps138
    go_wp2_with fail
    go_ret
    exact ⟨ret_bool HF.out, ((Below.refl _ _).alloc (Nat.le_refl _) _).alloc (by simp) _⟩
  by_cases g2 : 6 < ar
  · have HF : Hid (false = R) := by rw [← HR.out]; simp [Hid]; omega
    have g1' : decide (ar < 0) = false := by simpa using g1
    go_enter Tryz.func138, Tryz.ntmps138
    go_wp2_with fail
    go_ret
    exact ⟨ret_bool HF.out, ((Below.refl _ _).alloc (Nat.le_refl _) _).alloc (by simp) _⟩
  by_cases g3 : ls.length < 1
  · have HF : Hid (false = R) := by rw [← HR.out]; simp [Hid]; omega
    have g1' : decide (ar < 0) = false := by simpa using g1
    have g2' : decide (6 < ar) = false := by simpa using g2
    go_enter Tryz.func138, Tryz.ntmps138
    go_wp2_with fail
    go_ret
    exact ⟨ret_bool HF.out, ((Below.refl _ _).alloc (Nat.le_refl _) _).alloc (by simp) _⟩
  by_cases g4 : 13 < ls.length
  · have HF : Hid (false = R) := by rw [← HR.out]; simp [Hid]; omega
    go_enter Tryz.func138, Tryz.ntmps138
    go_wp2_with fail
    go_ret
    exact ⟨ret_bool HF.out, ((Below.refl _ _).alloc (Nat.le_refl _) _).alloc (by simp) _⟩
  have HR2 : Hid (goodLs nf ar ls.length 0 (ls.drop 0) = R) := by rw [← HR.out]; simp [Hid, show 0 ≤ ar by omega, show ar ≤ 6 by omega, show 1 ≤ ls.length by omega, show ls.length ≤ 13 by omega]
  clear HR
  go_enter Tryz.func138, Tryz.ntmps138
  go_wp2_with fail
  have hboxC : ∀ wx : World, wx = (w.alloc (Obj.cells #[.int .i64 mn, .slice fo nf fcap] 57)).alloc (Obj.cells #[.int .i64 ar, .slice lo ls.length lcap] 78) → wx.heap[w.heap.size]? = some (.cells #[.int .i64 mn, .slice fo nf fcap] 57 (0, 0)) ∧ wx.heap[w.heap.size + 1]? = some (.cells #[.int .i64 ar, .slice lo ls.length lcap] 78 (0, 0)) := by
    rintro wx rfl
    refine ⟨(Below.heap_alloc _ _ _ (by simp)).trans (heap_alloc_new w _), ?_⟩
    have := heap_alloc_new (w.alloc (Obj.cells #[.int .i64 mn, .slice fo nf fcap] 57)) (Obj.cells #[.int .i64 ar, .slice lo ls.length lcap] 78)
    simpa using this
  go_loopw [5] (fun x wr => ∃ (j : Nat), j ≤ ls.length ∧ x = .int .i64 j ∧ Hid (goodLs nf ar ls.length j (ls.drop j) = R) ∧ Below w.heap.size w wr ∧ wr.heap[w.heap.size]? = some (.cells #[.int .i64 mn, .slice fo nf fcap] 57 (0, 0)) ∧ wr.heap[w.heap.size + 1]? = some (.cells #[.int .i64 ar, .slice lo ls.length lcap] 78 (0, 0))) (fun x _ => ls.length - (intOf x).toNat)
  case atStart => exact ⟨0, Nat.zero_le _, rfl, HR2, ((Below.refl _ _).alloc (Nat.le_refl _) _).alloc (by simp) _, (hboxC _ rfl).1, (hboxC _ rfl).2⟩
  case round =>
    clear hboxC
    obtain ⟨j, hj, rfl, HG, hb, hbC, hbT⟩ := hrel
    have hbsz := hb.size
    have hwlt : w.heap.size + 1 < wr.heap.size := (Array.getElem?_eq_some_iff.1 hbT).1
    have C0 := cell_of_row wr w.heap.size 0 _ _ _ hbC
    have C1 := cell_of_row wr w.heap.size 1 _ _ _ hbC
    have T0 := cell_of_row wr (w.heap.size + 1) 0 _ _ _ hbT
    have T1 := cell_of_row wr (w.heap.size + 1) 1 _ _ _ hbT
    simp only [List.getElem?_toArray, List.getElem?_cons_succ, List.getElem?_cons_zero] at C0 C1 T0 T1
    by_cases hlt : j < ls.length
    · rcases hcs with h0 | ⟨bl, lf, rfl, hbl, hcell⟩
      · omega
      obtain ⟨lv, e0, hat⟩ := hcell j hlt
      rw [← hb.cell (p := ⟨bl, lf + j, none⟩) (show bl < _ by omega)] at e0
      have HG2 : Hid ((goodL nf ar ls.length j ls[j] && goodLs nf ar ls.length (j + 1) (ls.drop (j + 1))) = R) := by rw [← goodLs_in nf ar ls.length ls j hlt]; exact HG
      clear HG hcell
      generalize hlj : ls[j] = l at *
      clear hlj
      obtain ⟨la, lc, rfl, hl1, hl2, hls⟩ := hat
      unfold maxLen at hl2
      have HG3 : Hid _ := HG2.out
      unfold goodL at HG3
      clear HG2
      by_cases q1 : 8 < l.length
      · have HF : Hid (false = R) := by rw [← HG3.out]; simp [Hid, show ¬ l.length ≤ 8 by omega]
        go_wp2_with fail
        go_ret
        exact ⟨ret_bool HF.out, hb⟩
      by_cases q2 : l.length < 1
      · have HF : Hid (false = R) := by rw [← HG3.out]; simp [Hid, show ¬ 1 ≤ l.length by omega]
        have q1' : decide (8 < l.length) = false := by simpa using q1
        go_wp2_with fail
        go_ret
        exact ⟨ret_bool HF.out, hb⟩
      rcases hls with h0 | ⟨ba, af, rfl, hba, hacell⟩
      · omega
      have hac : ∀ i (h : i < l.length), wr.cell? ⟨ba, af + i * 2, none⟩ = some (.int .i64 l[i].1) ∧ wr.cell? ⟨ba, af + i * 2 + 1, none⟩ = some (.int .i64 l[i].2) := by
        intro i hi
        rw [hb.cell (p := ⟨ba, af + i * 2, none⟩) (show ba < _ by omega), hb.cell (p := ⟨ba, af + i * 2 + 1, none⟩) (show ba < _ by omega)]
        exact hacell i hi
      obtain ⟨z0, z1⟩ := hac 0 (by omega)
      simp only [Nat.zero_mul, Nat.add_zero] at z0 z1
      have HG4 : Hid ((!(decide (0 < j) && decide (l.length < 2)) && (decide (l[0].1 ≠ 5) && l.all (goodA nf ar ls.length j)) && goodLs nf ar ls.length (j + 1) (ls.drop (j + 1))) = R) := by
        rw [← HG3.out]
        show _ = _
        rw [show decide (l.length ≤ 8) = true by simpa using q1, show decide (1 ≤ l.length) = true by simp; omega, List.getElem?_eq_getElem (show 0 < l.length by omega), Option.getD_some]
        simp
      clear HG3 hac
      by_cases q3 : 0 < j ∧ l.length < 2
      · have HF : Hid (false = R) := by rw [← HG4.out]; simp [Hid, q3.1, q3.2]
        obtain ⟨q3a, q3b⟩ := q3
        go_wp2_with fail
        go_ret
        exact ⟨ret_bool HF.out, hb⟩
      by_cases q4 : l[0].1 = 5
      · have HF : Hid (false = R) := by rw [← HG4.out]; simp [Hid, q4]
        rw [q4] at z0
        clear q4
        by_cases q5 : 0 < j
        · have q6 : ¬ l.length < 2 := fun h => q3 ⟨q5, h⟩
          go_wp2_with fail
          go_ret
          exact ⟨ret_bool HF.out, hb⟩
        · go_wp2_with fail
          go_ret
          exact ⟨ret_bool HF.out, hb⟩
      have HG5 : Hid (((l.drop 0).all (goodA nf ar ls.length j) && goodLs nf ar ls.length (j + 1) (ls.drop (j + 1))) = R) := by
        rw [← HG4.out]
        show _ = _
        have : (!(decide (0 < j) && decide (l.length < 2))) = true := by
          rw [Bool.not_eq_true', Bool.and_eq_false_iff]
          by_cases q5 : 0 < j
          · right; simp; have : ¬ l.length < 2 := fun h => q3 ⟨q5, h⟩; omega
          · left; simpa using q5
        rw [this]
        simp [q4]
      clear HG4
      have q4' : (l[0].1 == 5) = false := by simpa using q4
      have hq : ∀ (P : Prop), (0 < j → ¬ l.length < 2 → P) → (¬ 0 < j → P) → P := fun P h1 h2 => by
        by_cases q5 : 0 < j
        · exact h1 q5 (fun h => q3 ⟨q5, h⟩)
        · exact h2 q5
      clear q3
      refine hq _ (fun q5 q6 => ?_) (fun q5 => ?_)
      all_goals
        clear hq
        go_wp2_with fail
        go_loopw [7] (fun x wx => ∃ (i : Nat), i ≤ l.length ∧ x = .int .i64 i ∧ Hid (((l.drop i).all (goodA nf ar ls.length j) && goodLs nf ar ls.length (j + 1) (ls.drop (j + 1))) = R) ∧ Below w.heap.size w wx ∧ wx.heap[w.heap.size]? = some (.cells #[.int .i64 mn, .slice fo nf fcap] 57 (0, 0)) ∧ wx.heap[w.heap.size + 1]? = some (.cells #[.int .i64 ar, .slice (some ⟨bl, lf, none⟩) ls.length lcap] 78 (0, 0))) (fun x _ => l.length - (intOf x).toNat)
        case atStart => exact ⟨0, Nat.zero_le _, rfl, HG5, hb, hbC, hbT⟩
        case round =>
          clear HG5 hb hbC hbT hbsz hwlt C0 C1 T0 T1 z0 z1 e0
          obtain ⟨i, hi, rfl, HG, hb, hbC, hbT⟩ := hrel
          have hbsz := hb.size
          have hwlt : w.heap.size + 1 < wr.heap.size := (Array.getElem?_eq_some_iff.1 hbT).1
          by_cases hil : i < l.length
          · have C0 := cell_of_row wr w.heap.size 0 _ _ _ hbC
            have C1 := cell_of_row wr w.heap.size 1 _ _ _ hbC
            have T0 := cell_of_row wr (w.heap.size + 1) 0 _ _ _ hbT
            have T1 := cell_of_row wr (w.heap.size + 1) 1 _ _ _ hbT
            simp only [List.getElem?_toArray, List.getElem?_cons_succ, List.getElem?_cons_zero] at C0 C1 T0 T1
            obtain ⟨z0, z1⟩ := hacell i hil
            have HZ0 : Hid _ := z0
            have HZ1 : Hid _ := z1
            rw [← hb.cell (p := ⟨ba, af + i * 2, none⟩) (show ba < _ by omega)] at z0
            rw [← hb.cell (p := ⟨ba, af + i * 2 + 1, none⟩) (show ba < _ by omega)] at z1
            have HG2 : Hid (((decide (0 ≤ l[i].2) && (decide (l[i].2 < boundF l[i].1 nf ar ls.length) && !(decide (l[i].1 = 5) && decide (l[i].2 < (j : Int))))) && ((l.drop (i + 1)).all (goodA nf ar ls.length j) && goodLs nf ar ls.length (j + 1) (ls.drop (j + 1)))) = R) := by rw [← all_step nf ar ls.length j l i hil]; exact HG
            clear HG
            have HC : Hid _ := fun w => rBound l[i].1 mn ar fo (some ⟨bl, lf, none⟩) nf fcap ls.length lcap w (by omega)
            generalize hB : boundF l[i].1 nf ar ls.length = B at *
            generalize l[i].1 = ak at *
            generalize l[i].2 = av at *
            clear hB
            go_wp2_with fail
            go_cut [8] (fun vx wc => vx = .int .i64 B ∧ Below w.heap.size w wc ∧ wc.heap[w.heap.size]? = some (.cells #[.int .i64 mn, .slice fo nf fcap] 57 (0, 0)) ∧ wc.heap[w.heap.size + 1]? = some (.cells #[.int .i64 ar, .slice (some ⟨bl, lf, none⟩) ls.length lcap] 78 (0, 0)))
            case first =>
              go_region_with (go_at_call 176; go_must (refine (show Calls _ _ _ _ _ from HC.out _).mono ?_); rintro e w1 ⟨rfl, hb1⟩)
              all_goals
                go_wp2_with fail
                go_meet
                case rel => exact ⟨rfl, hb.trans ((Below.drew (Below.refl _ _)).trans (hb1.mono (by simp [heap_drew]; omega))), (hb1.block _ (by rw [heap_drew]; omega)).trans hbC, (hb1.block _ (by rw [heap_drew]; omega)).trans hbT⟩
            case rest =>
              obtain ⟨hx, hbc, hbC2, hbT2⟩ := hcut
              rw [hx]
              clear hx hbC hbT HC C0 C1 T0 T1 z0 z1
              have z0 := HZ0.out
              have z1 := HZ1.out
              have hbcs := hbc.size
              rw [← hbc.cell (p := ⟨ba, af + i * 2, none⟩) (show ba < _ by omega)] at z0
              rw [← hbc.cell (p := ⟨ba, af + i * 2 + 1, none⟩) (show ba < _ by omega)] at z1
              by_cases p1 : av < 0
              · have HF : Hid (false = R) := by rw [← HG2.out]; simp [Hid, show ¬ 0 ≤ av by omega]
                go_wp2_with fail
                go_ret
                exact ⟨ret_bool HF.out, hbc⟩
              by_cases p2 : B ≤ av
              · have HF : Hid (false = R) := by rw [← HG2.out]; simp [Hid, show ¬ av < B by omega]
                have p1' : decide (av < 0) = false := by simpa using p1
                go_wp2_with fail
                go_ret
                exact ⟨ret_bool HF.out, hbc⟩
              have p1' : decide (av < 0) = false := by simpa using p1
              have p2' : decide (B ≤ av) = false := by simpa using p2
              by_cases p3 : ak = 5
              · subst p3
                by_cases p4 : av < (j : Int)
                · have HF : Hid (false = R) := by rw [← HG2.out]; simp [Hid, p4]
                  first
                  | (exfalso; omega)
                  | (go_wp2_with fail
                     go_ret
                     exact ⟨ret_bool HF.out, hbc⟩)
                · have HG3 : Hid (((l.drop (i + 1)).all (goodA nf ar ls.length j) && goodLs nf ar ls.length (j + 1) (ls.drop (j + 1))) = R) := by
                    rw [← HG2.out]; simp [Hid, show 0 ≤ av by omega, show av < B by omega, p4]
                  go_wp2_with fail
                  go_roundw
                  case rel => exact ⟨i + 1, hil, by go_num, HG3, hbc, hbC2, hbT2⟩
                  case measure => simp [intOf]; omega
              · have p3' : (ak == 5) = false := by simpa using p3
                have HG3 : Hid (((l.drop (i + 1)).all (goodA nf ar ls.length j) && goodLs nf ar ls.length (j + 1) (ls.drop (j + 1))) = R) := by
                  rw [← HG2.out]; simp [Hid, show 0 ≤ av by omega, show av < B by omega, p3]
                go_wp2_with fail
                go_roundw
                case rel => exact ⟨i + 1, hil, by go_num, HG3, hbc, hbC2, hbT2⟩
                case measure => simp [intOf]; omega
          · have HG3 : Hid (goodLs nf ar ls.length (j + 1) (ls.drop (j + 1)) = R) := by
              have := HG.out
              rw [List.drop_eq_nil_of_le (by omega)] at this
              simpa [Hid] using this
            clear HG
            go_wp2_with fail
            go_roundw
            case rel => exact ⟨j + 1, hlt, by go_num, HG3, hb, hbC, hbT⟩
            case measure => simp [intOf]; omega
    · have hj2 : j = ls.length := by omega
      have HF : Hid (true = R) := by rw [← HG.out, hj2, List.drop_length]; rfl
      clear HG
      go_wp2_with fail
      go_ret
      exact ⟨ret_bool HF.out, hb⟩

end Go.Proofs.YtnndoagpbcacdaaGreatDoor
