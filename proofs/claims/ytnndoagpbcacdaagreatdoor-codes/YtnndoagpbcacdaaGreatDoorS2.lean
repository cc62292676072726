import Derived.Test.YtnndoagpbcacdaaGreatDoorS1
import Derived.Test.YtnndoagpbcacdaaGreatDoorMB0
namespace Go.Proofs.YtnndoagpbcacdaaGreatDoor
open Go.RowKit

theorem tkL_le (t : Tk) : (tkL t).length ≤ t.txt.size := by
  rw [size_len]; unfold tkL; split
  · exact dropZ_le _
  · exact Nat.le_refl _

set_option maxHeartbeats 1000000 in
theorem sShowToken (t : Tk) (w : World) (hs : t.txt.size ≤ 1000) (h0 : 0 < t.txt.size) :
    Calls Tryz.prog 167 #[.agg #[.int .i64 (kindOf t.txt), .int .i64 t.pos, .string t.txt]] w fun e w' => ∃ x : ByteArray, e = .returned (.string x) ∧ x.data.toList = tkL t ∧ Below w.heap.size w w' := by
  by_cases h2 : kindOf t.txt = 2
  · have HT : Hid (tkL t = dropZ t.txt.data.toList) := by show tkL t = _; unfold tkL; rw [if_pos h2]
    go_enter Tryz.func167, Tryz.ntmps167
    go_wp2_with fail
    refine (sWithoutNoughts _ _ hs h0).mono ?_
    rintro e w1 ⟨x, rfl, hx, rfl⟩
    have HX : Hid _ := hx
    clear hx
    go_wp2_with fail
    go_ret
    exact ⟨x, rfl, HX.out.trans HT.out.symm, (Below.refl _ _).alloc (Nat.le_refl _) _⟩
  · have h2' : (kindOf t.txt == 2) = false := by simpa using h2
    have HT : Hid (tkL t = t.txt.data.toList) := by show tkL t = _; unfold tkL; rw [if_neg h2]
    clear h2
    go_enter Tryz.func167, Tryz.ntmps167
    go_wp2_with fail
    go_ret
    exact ⟨_, rfl, HT.out.symm, (Below.refl _ _).alloc (Nat.le_refl _) _⟩

theorem sShowTokenK (t : Tk) (k : Int) (hk : kindOf t.txt = k) (w : World) (hs : t.txt.size ≤ 1000) (h0 : 0 < t.txt.size) :
    Calls Tryz.prog 167 #[.agg #[.int .i64 k, .int .i64 t.pos, .string t.txt]] w fun e w' => ∃ x : ByteArray, e = .returned (.string x) ∧ x.data.toList = tkL t ∧ Below w.heap.size w w' := by
  subst hk; exact sShowToken t w hs h0

theorem showI_end (ts : List Tk) (bo : Bool) (i : Nat) (h : ¬ i < ts.length) : showI ts bo i = [] := by rw [showI, dif_neg h]
theorem showI_skip (ts : List Tk) (bo : Bool) (i : Nat) (h : i < ts.length) (hn : needB ts i = true) : showI ts bo i = showI ts bo (i + 1) := by rw [showI, dif_pos h, if_pos hn]
theorem showI_tok (ts : List Tk) (bo : Bool) (i : Nat) (h : i < ts.length) (hn : needB ts i = false) : showI ts bo i = (if kindOf ts[i].txt ≠ 7 ∧ bo = false then [32] else []) ++ (tkL ts[i] ++ showI ts (decide (kindOf ts[i].txt = 6)) (i + 1)) := by
  rw [showI, dif_pos h, hn]; rfl

set_option maxHeartbeats 4000000 in
theorem sShowBody (v : Value) (ts : List Tk) (w : World) (hl : ts.length ≤ 1000) (hwt : ∀ t ∈ ts, WT t.txt) (hv : w.ownsRow 0 84 3 v ts.length (tcs ts)) :
    Calls Tryz.prog 126 #[v] w fun e w' => ∃ x : ByteArray, e = .returned (.string x) ∧ x.data.toList = showI ts false 0 ∧ x.size ≤ ts.length * 1001 ∧ Below w.heap.size w w' := by
  obtain ⟨ao, cap, rfl⟩ := own_form hv
  generalize hR : showI ts false 0 = R
  have HR : Hid (showI ts false 0 = R) := hR
  clear hR
  go_enter Tryz.func126, Tryz.ntmps126
  go_wp2_with fail
  go_loopw [3, 4, 10] (fun a b c wr => ∃ (i : Nat) (x : ByteArray) (bo : Bool), i ≤ ts.length ∧ c = .int .i64 i ∧ a = .string x ∧ b = .bool bo ∧ Hid (x.data.toList ++ showI ts bo i = R) ∧ x.size ≤ i * 1001 ∧ Below w.heap.size w wr) (fun _ _ c _ => ts.length - (intOf c).toNat)
  case atStart => exact ⟨0, ⟨#[]⟩, false, Nat.zero_le _, rfl, rfl, rfl, HR, Nat.le_refl _, Below.refl _ _⟩
  case round =>
    obtain ⟨i, x, bo, hi, rfl, rfl, rfl, HX, hxs, hb⟩ := hrel
    have hbsz := hb.size
    by_cases hlt : i < ts.length
    · obtain ⟨q, cap', hq, _, hqlt⟩ := hv.form (by omega)
      cases hq
      have hvr := ownsRow_old hv hb
      have ⟨t0, t1, t2⟩ := tcs_at ts i hlt
      have d0 := row_cell hvr _ _ t0
      have d1 := row_cell hvr _ _ t1
      have d2 := row_cell hvr _ _ t2
      clear t0 t1 t2
      have hw := hwt ts[i] (List.getElem_mem hlt)
      have hvn : ∀ o, (wr.alloc o).ownsRow 0 84 3 (.slice (some ⟨q, 0, none⟩) ts.length cap) ts.length (tcs ts) := fun o => hvr.alloc o
      cases hn : needB ts i
      · have HS := showI_tok ts bo i hlt hn
        rw [HS] at HX
        clear HS
        have hx6 : x.size ≤ 2000000 := Nat.le_trans hxs (Nat.le_trans (Nat.mul_le_mul_right _ (Nat.le_trans (Nat.le_of_lt hlt) hl)) (by decide))
        have hstep : ∀ z y : Nat, z ≤ i * 1001 → y ≤ 1001 → z + y ≤ (i + 1) * 1001 := fun z y h1 h2 => by rw [Nat.add_mul, Nat.one_mul]; exact Nat.add_le_add h1 h2
        have HST : Hid _ := hstep
        clear hstep
        by_cases hc : kindOf ts[i].txt ≠ 7 ∧ bo = false
        · obtain ⟨h7, rfl⟩ := hc
          rw [if_pos ⟨h7, rfl⟩] at HX
          go_wp2_with fail
          refine (sIsNeedless _ ts i _ (by omega) hlt (hvn _)).mono ?_
          rintro e w1 ⟨rfl, rfl⟩
          go_wp2_with fail
          refine (sShowToken ts[i] _ hw.2.1 hw.1).mono ?_
          rintro e w2 ⟨y, rfl, hy, hb2⟩
          have hbx := box_later' hb2
          have g0 := cell_of_row w2 wr.heap.size 0 _ _ _ hbx
          simp only [List.getElem?_toArray, List.getElem?_cons_zero] at g0
          have hb3 : Below w.heap.size w w2 := (hb.alloc hbsz _).trans (hb2.mono (by simp; omega))
          have hys : y.size ≤ 1000 := by rw [size_len, hy]; exact Nat.le_trans (tkL_le _) hw.2.1
          have HY : Hid (y.data.toList = tkL ts[i]) := hy
          clear hy hbx hb2
          go_wp2_with fail
          go_roundw
          case rel =>
            refine ⟨i + 1, (x ++ ⟨#[32]⟩) ++ y, _, hlt, by go_num, rfl, rfl, ?_, ?_, hb3⟩
            · show _ = _
              rw [toL_append, toL_append, HY.out, ← HX.out]
              simp
              rfl
            · rw [ByteArray.size_append, ByteArray.size_append, Nat.add_assoc]
              exact HST.out _ _ hxs (by show 1 + y.size ≤ 1001; omega)
          case measure => simp [intOf]; omega
        · rw [if_neg hc, List.nil_append] at HX
          have hor : kindOf ts[i].txt = 7 ∨ bo = true := by
            by_cases h7 : kindOf ts[i].txt = 7
            · exact .inl h7
            · right; cases bo with
              | true => rfl
              | false => exact absurd ⟨h7, rfl⟩ hc
          clear hc
          have HX2 : Hid _ := HX.out
          clear HX
          by_cases h7 : kindOf ts[i].txt = 7
          · clear hor
            have HK : Hid (kindOf ts[i].txt = 7) := h7
            go_wp2_with fail
            refine (sIsNeedless _ ts i _ (by omega) hlt (hvn _)).mono ?_
            rintro e w1 ⟨rfl, rfl⟩
            go_wp2_with fail
            refine (sShowTokenK ts[i] 7 HK.out _ hw.2.1 hw.1).mono ?_
            rintro e w2 ⟨y, rfl, hy, hb2⟩
            have hbx := box_later' hb2
            have g0 := cell_of_row w2 wr.heap.size 0 _ _ _ hbx
            simp only [List.getElem?_toArray, List.getElem?_cons_zero] at g0
            have hb3 : Below w.heap.size w w2 := (hb.alloc hbsz _).trans (hb2.mono (by simp; omega))
            have hys : y.size ≤ 1000 := by rw [size_len, hy]; exact Nat.le_trans (tkL_le _) hw.2.1
            have HY : Hid (y.data.toList = tkL ts[i]) := hy
            clear hy hbx hb2
            go_wp2_with fail
            go_roundw
            case rel =>
              refine ⟨i + 1, x ++ y, _, hlt, by go_num, rfl, rfl, ?_, ?_, hb3⟩
              · show _ = _
                rw [toL_append, HY.out, ← HX2.out]
                simp [HK.out]
                try rfl
              · rw [ByteArray.size_append]
                exact HST.out _ _ hxs (by omega)
            case measure => simp [intOf]; omega
          · obtain rfl : bo = true := by rcases hor with h | h; exact absurd h h7; exact h
            clear hor
            go_wp2_with fail
            refine (sIsNeedless _ ts i _ (by omega) hlt (hvn _)).mono ?_
            rintro e w1 ⟨rfl, rfl⟩
            go_wp2_with fail
            refine (sShowToken ts[i] _ hw.2.1 hw.1).mono ?_
            rintro e w2 ⟨y, rfl, hy, hb2⟩
            have hbx := box_later' hb2
            have g0 := cell_of_row w2 wr.heap.size 0 _ _ _ hbx
            simp only [List.getElem?_toArray, List.getElem?_cons_zero] at g0
            have hb3 : Below w.heap.size w w2 := (hb.alloc hbsz _).trans (hb2.mono (by simp; omega))
            have hys : y.size ≤ 1000 := by rw [size_len, hy]; exact Nat.le_trans (tkL_le _) hw.2.1
            have HY : Hid (y.data.toList = tkL ts[i]) := hy
            clear hy hbx hb2
            go_wp2_with fail
            go_roundw
            case rel =>
              refine ⟨i + 1, x ++ y, _, hlt, by go_num, rfl, rfl, ?_, ?_, hb3⟩
              · show _ = _
                rw [toL_append, HY.out, ← HX2.out]
                simp
                try rfl
              · rw [ByteArray.size_append]
                exact HST.out _ _ hxs (by omega)
            case measure => simp [intOf]; omega
      · have HS : Hid (x.data.toList ++ showI ts bo (i + 1) = R) := by have := HX.out; rw [showI_skip ts bo i hlt hn] at this; exact this
        clear HX
        go_wp2_with fail
        refine (sIsNeedless _ ts i _ (by omega) hlt (hvn _)).mono ?_
        rintro e w1 ⟨rfl, rfl⟩
        go_wp2_with fail
        go_roundw
        case rel => exact ⟨i + 1, x, bo, hlt, by go_num, rfl, rfl, HS, Nat.le_trans hxs (Nat.mul_le_mul_right _ (Nat.le_succ _)), hb.alloc hbsz _⟩
        case measure => simp [intOf]; omega
    · have hx : x.data.toList = R := by have := HX.out; rw [showI_end ts bo i hlt, List.append_nil] at this; exact this
      have HX2 : Hid _ := hx
      clear hx HX
      have hi2 : i = ts.length := by omega
      subst hi2
      go_wp2_with fail
      go_ret
      exact ⟨x, rfl, HX2.out, hxs, hb⟩

end Go.Proofs.YtnndoagpbcacdaaGreatDoor
