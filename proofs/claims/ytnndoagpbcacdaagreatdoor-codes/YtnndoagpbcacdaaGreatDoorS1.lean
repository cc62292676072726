import Derived.Test.YtnndoagpbcacdaaGreatDoorT1
import Derived.Lib.Strings
namespace Go.Proofs.YtnndoagpbcacdaaGreatDoor
open Go.RowKit

/-! How programs are written: plain. -/
def dropZ : List UInt8 → List UInt8
  | [] => []
  | [a] => [a]
  | a :: b :: r => if a = 48 then dropZ (b :: r) else a :: b :: r
def tkL (t : Tk) : List UInt8 := if kindOf t.txt = 2 then dropZ t.txt.data.toList else t.txt.data.toList
def kAt (ts : List Tk) (i : Int) : Int := if 0 ≤ i then (match ts[i.toNat]? with | some t => kindOf t.txt | none => 0) else 0
def needB (ts : List Tk) (i : Nat) : Bool := (decide (kAt ts i = 6) && decide (kAt ts (i + 2) = 7)) || (decide (kAt ts i = 7) && decide (kAt ts ((i : Int) - 2) = 6))
def showI (ts : List Tk) (bo : Bool) (i : Nat) : List UInt8 :=
  if h : i < ts.length then
    (if needB ts i then showI ts bo (i + 1)
     else (if kindOf ts[i].txt ≠ 7 ∧ bo = false then [32] else []) ++ (tkL ts[i] ++ showI ts (decide (kindOf ts[i].txt = 6)) (i + 1)))
  else []
termination_by ts.length - i

theorem kAt_in (ts : List Tk) (i : Nat) (h : i < ts.length) : kAt ts (i : Int) = kindOf ts[i].txt := by
  unfold kAt; rw [if_pos (by omega), Int.toNat_natCast, List.getElem?_eq_getElem h]
theorem kAt_neg (ts : List Tk) (i : Int) (h : i < 0) : kAt ts i = 0 := by unfold kAt; rw [if_neg (by omega)]
theorem kAt_out (ts : List Tk) (i : Int) (h : (ts.length : Int) ≤ i) : kAt ts i = 0 := by
  unfold kAt; rw [if_pos (by omega), List.getElem?_eq_none (by omega)]
theorem dropZ_le (l : List UInt8) : (dropZ l).length ≤ l.length := by
  fun_induction dropZ l <;> simp_all <;> omega

set_option maxHeartbeats 400000 in
theorem sKindAt (v : Value) (ts : List Tk) (i : Int) (w : World) (hl : ts.length ≤ 1000000) (hv : w.ownsRow 0 84 3 v ts.length (tcs ts)) :
    Calls Tryz.prog 102 #[v, .int .i64 i] w fun e w' => e = .returned (.int .i64 (kAt ts i)) ∧ w' = w := by
  obtain ⟨ao, cap, rfl⟩ := own_form hv
  by_cases h0 : i < 0
  · rw [kAt_neg ts i h0]
    go_enter Tryz.func102, Tryz.ntmps102
    go_wp2_with fail
    go_ret
    exact ⟨rfl, rfl⟩
  · have hd : decide (i < 0) = false := by simpa using h0
    by_cases h1 : (ts.length : Int) ≤ i
    · rw [kAt_out ts i h1]
      go_enter Tryz.func102, Tryz.ntmps102
      go_wp2_with fail
      go_ret
      exact ⟨rfl, rfl⟩
    · obtain ⟨k, rfl⟩ := Int.eq_ofNat_of_zero_le (show 0 ≤ i by omega)
      have hk : k < ts.length := by omega
      rw [kAt_in ts k hk]
      obtain ⟨q, cap', hq, _, hqlt⟩ := hv.form (by omega)
      cases hq
      have ⟨t0, t1, t2⟩ := tcs_at ts k hk
      have d0 := row_cell hv _ _ t0
      clear t0 t1 t2
      have hki : ¬ (ts.length : Int) ≤ (k : Int) := by omega
      go_enter Tryz.func102, Tryz.ntmps102
      go_wp2_with fail
      go_ret
      exact ⟨rfl, rfl⟩

set_option maxHeartbeats 1000000 in
theorem sIsNeedless (v : Value) (ts : List Tk) (i : Nat) (w : World) (hl : ts.length ≤ 1000000) (hi : i < ts.length) (hv : w.ownsRow 0 84 3 v ts.length (tcs ts)) :
    Calls Tryz.prog 66 #[v, .int .i64 i] w fun e w' => e = .returned (.bool (needB ts i)) ∧ w' = w := by
  have hx : needB ts i = ((decide (kAt ts i = 6) && decide (kAt ts ((i : Int) + 2) = 7)) || (decide (kAt ts i = 7) && decide (kAt ts ((i : Int) - 2) = 6))) := rfl
  rw [hx]
  clear hx
  by_cases h6 : kAt ts i = 6
  · rw [show ((decide (kAt ts i = 6) && decide (kAt ts ((i : Int) + 2) = 7)) || (decide (kAt ts i = 7) && decide (kAt ts ((i : Int) - 2) = 6))) = (kAt ts ((i : Int) + 2) == 7) by rw [h6]; rw [Bool.eq_iff_iff]; simp]
    go_enter Tryz.func66, Tryz.ntmps66
    go_wp2_with fail
    refine (sKindAt v ts _ _ hl hv).mono ?_
    rintro e w1 ⟨rfl, rfl⟩
    go_wp2_with fail
    refine (sKindAt v ts _ _ hl hv).mono ?_
    rintro e w1 ⟨rfl, rfl⟩
    go_wp2_with fail
    go_ret
    exact ⟨rfl, rfl⟩
  · have h6' : (kAt ts i == 6) = false := by simpa using h6
    by_cases h7 : kAt ts i = 7
    · rw [show ((decide (kAt ts i = 6) && decide (kAt ts ((i : Int) + 2) = 7)) || (decide (kAt ts i = 7) && decide (kAt ts ((i : Int) - 2) = 6))) = (kAt ts ((i : Int) - 2) == 6) by rw [h7]; rw [Bool.eq_iff_iff]; simp]
      clear h6 h6'
      go_enter Tryz.func66, Tryz.ntmps66
      go_wp2_with fail
      refine (sKindAt v ts _ _ hl hv).mono ?_
      rintro e w1 ⟨rfl, rfl⟩
      go_wp2_with fail
      refine (sKindAt v ts _ _ hl hv).mono ?_
      rintro e w1 ⟨rfl, rfl⟩
      go_wp2_with fail
      go_ret
      exact ⟨rfl, rfl⟩
    · have h7' : (kAt ts i == 7) = false := by simpa using h7
      rw [show ((decide (kAt ts i = 6) && decide (kAt ts ((i : Int) + 2) = 7)) || (decide (kAt ts i = 7) && decide (kAt ts ((i : Int) - 2) = 6))) = false by simp [h6, h7]]
      clear h6 h7
      go_enter Tryz.func66, Tryz.ntmps66
      go_wp2_with fail
      refine (sKindAt v ts _ _ hl hv).mono ?_
      rintro e w1 ⟨rfl, rfl⟩
      go_wp2_with fail
      go_ret
      exact ⟨rfl, rfl⟩

theorem dropZ_zero {l : List UInt8} (k : Nat) (h : k + 1 < l.length) (hz : l[k]'(by omega) = 48) : dropZ (l.drop k) = dropZ (l.drop (k + 1)) := by
  rw [List.drop_eq_getElem_cons (by omega), hz, List.drop_eq_getElem_cons h, dropZ, if_pos rfl]
theorem dropZ_stop {l : List UInt8} (k : Nat) (h : k + 1 < l.length) (hz : l[k]'(by omega) ≠ 48) : dropZ (l.drop k) = l.drop k := by
  rw [List.drop_eq_getElem_cons (by omega), List.drop_eq_getElem_cons h, dropZ, if_neg hz]
theorem dropZ_last {l : List UInt8} (k : Nat) (h : k < l.length) (hz : ¬ k + 1 < l.length) : dropZ (l.drop k) = l.drop k := by
  rw [List.drop_eq_getElem_cons h, List.drop_eq_nil_of_le (by omega), dropZ]
theorem bt_48 (s : ByteArray) (k : Nat) (h : k < s.data.toList.length) : (s.data.toList[k] = 48) ↔ bt s k = 48 := by
  unfold bt
  have : s.data[k]? = some s.data.toList[k] := by rw [← Array.getElem?_toList]; exact List.getElem?_eq_getElem h
  rw [this, Option.getD_some]
  constructor
  · intro e; rw [e]; rfl
  · intro e; exact UInt8.toNat_inj.1 (by have h2 : (s.data.toList[k].toNat : Int) = 48 := e; have h3 : (48 : UInt8).toNat = 48 := rfl; omega)

set_option maxHeartbeats 1000000 in
theorem sWithoutNoughts (s : ByteArray) (w : World) (hs : s.size ≤ 1000) (h0 : 0 < s.size) :
    Calls Tryz.prog 194 #[.string s] w fun e w' => ∃ x : ByteArray, e = .returned (.string x) ∧ x.data.toList = dropZ s.data.toList ∧ w' = w := by
  have hsl := size_len s
  have HSL : Hid (s.size = s.data.toList.length) := hsl
  clear hsl
  go_enter Tryz.func194, Tryz.ntmps194
  go_wp2_with fail
  go_loop [3] (fun a => ∃ k : Nat, k < s.size ∧ a = .int .i64 k ∧ Hid (dropZ (s.data.toList.drop k) = dropZ s.data.toList)) (fun a => s.size - (intOf a).toNat)
  case atStart => exact ⟨0, h0, rfl, rfl⟩
  case round =>
    obtain ⟨k, hk, rfl, HD⟩ := hrel
    have hfin : dropZ (s.data.toList.drop k) = s.data.toList.drop k → (s.extract k s.size).data.toList = dropZ s.data.toList := fun h => by
      rw [Lib.extract_data, ← HD.out, h]
      exact List.take_of_length_le (by rw [List.length_drop, ← HSL.out]; exact Nat.le_refl _)
    have HF : Hid _ := hfin
    clear hfin
    by_cases hlt : k + 1 < s.size
    · have hbk := bt_eq s k hk
      by_cases h48 : bt s k = 48
      · have HN : Hid (dropZ (s.data.toList.drop (k + 1)) = dropZ s.data.toList) := by
          rw [← HD.out]
          exact (dropZ_zero k (by rw [← HSL.out]; exact hlt) ((bt_48 s k (by rw [← HSL.out]; exact hk)).2 h48)).symm
        go_wp2_with fail
        go_round
        case rel => exact ⟨k + 1, by omega, by go_num, HN⟩
        case measure => simp [intOf]; omega
      · have h48' : (bt s k == 48) = false := by simpa using h48
        have HN : Hid ((s.extract k s.size).data.toList = dropZ s.data.toList) := HF.out (dropZ_stop k (by rw [← HSL.out]; exact hlt) (fun e => h48 ((bt_48 s k (by rw [← HSL.out]; exact hk)).1 e)))
        clear h48
        go_wp2_with fail
        go_ret
        exact ⟨_, rfl, HN.out, rfl⟩
    · have HN : Hid ((s.extract k s.size).data.toList = dropZ s.data.toList) := HF.out (dropZ_last k (by rw [← HSL.out]; exact hk) (by rw [← HSL.out]; exact hlt))
      have hd : decide ((k : Int) + 1 < (s.size : Int)) = false := by simp; omega
      go_wp2_with fail
      go_ret
      exact ⟨_, rfl, HN.out, rfl⟩

end Go.Proofs.YtnndoagpbcacdaaGreatDoor
