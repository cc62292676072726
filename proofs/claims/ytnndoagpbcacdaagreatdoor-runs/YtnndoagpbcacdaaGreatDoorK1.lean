import Derived.Test.YtnndoagpbcacdaaGreatDoorMW5
import Derived.Test.YtnndoagpbcacdaaGreatDoorP2a
namespace Go.Proofs.YtnndoagpbcacdaaGreatDoor
open Go.RowKit

/-! Package source: compile.go: atoms. -/
set_option maxHeartbeats 1000000 in
theorem sNumberOf (s : ByteArray) (w : World) (hs : s.size ≤ 6) (hd : digL s.data.toList) :
    Calls Tryz.prog 103 #[.string s] w fun e w' => e = .returned (.int .i64 (valL s.data.toList)) ∧ w' = w := by
  have HSL : Hid (s.size = s.data.toList.length) := size_len s
  go_enter Tryz.func103, Tryz.ntmps103
  go_wp2_with fail
  go_loop [3, 4] (fun a b => ∃ k : Nat, k ≤ s.size ∧ b = .int .i64 k ∧ a = .int .i64 (valL (s.data.toList.take k))) (fun _ b => s.size - (intOf b).toNat)
  case atStart => exact ⟨0, Nat.zero_le _, rfl, rfl⟩
  case round =>
    obtain ⟨k, hk, rfl, rfl⟩ := hrel
    by_cases hlt : k < s.size
    · have hkl : k < s.data.toList.length := by rw [← HSL.out]; exact hlt
      have hbk := bt_eq s k hlt
      have hbg := bt_get s k hkl
      have hdk := hd _ (List.getElem_mem hkl)
      have hb1 : 48 ≤ bt s k := by rw [hbg]; omega
      have hb2 : bt s k ≤ 57 := by rw [hbg]; omega
      have hv := valL_le (s.data.toList.take k) (fun c hc => hd c (List.mem_of_mem_take hc))
      have hv0 := hv.1
      have hv1 : valL (s.data.toList.take k) ≤ 99999 := by
        have h1 := hv.2
        have h2 : (s.data.toList.take k).length ≤ 5 := by rw [List.length_take]; omega
        have h3 : (10 : Int) ^ (s.data.toList.take k).length ≤ 10 ^ 5 := by exact_mod_cast Nat.pow_le_pow_right (by decide) h2
        have h4 : (10 : Int) ^ 5 = 100000 := by decide
        omega
      have HN : Hid (valL (s.data.toList.take (k + 1)) = 10 * valL (s.data.toList.take k) + (bt s k - 48)) := by
        show _ = _
        rw [List.take_succ_eq_append_getElem hkl, valL_snoc, hbg]
      clear hv hbg hdk
      go_wp2_with fail
      go_round
      case rel => exact ⟨k + 1, hlt, by go_num, by rw [HN.out]⟩
      case measure => simp [intOf]; omega
    · have hk2 : k = s.size := by omega
      have HE : Hid (s.data.toList.take k = s.data.toList) := List.take_of_length_le (by rw [← HSL.out]; omega)
      rw [HE.out]
      go_wp2_with fail
      go_ret
      exact ⟨rfl, rfl⟩

def primP (l : List UInt8) : Int := if l == [43] then 0 else if l == [45] then 1 else if l == [42] then 2 else if l == [60] then 3 else 4
set_option maxHeartbeats 1000000 in
theorem sPrimOf (s : ByteArray) (w : World) :
    Calls Tryz.prog 104 #[.string s] w fun e w' => e = .returned (.int .i64 (primP s.toList)) ∧ w' = w := by
  cases h1 : (s.toList == [43])
  · cases h2 : (s.toList == [45])
    · cases h3 : (s.toList == [42])
      · cases h4 : (s.toList == [60])
        · have HE : Hid ((4 : Int) = primP s.toList) := by simp [Hid, primP, h1, h2, h3, h4]
          go_enter Tryz.func104, Tryz.ntmps104
          go_wp2_with fail
          go_ret
          exact ⟨ret_int HE.out, rfl⟩
        · have HE : Hid ((3 : Int) = primP s.toList) := by simp [Hid, primP, h1, h2, h3, h4]
          go_enter Tryz.func104, Tryz.ntmps104
          go_wp2_with fail
          go_ret
          exact ⟨ret_int HE.out, rfl⟩
      · have HE : Hid ((2 : Int) = primP s.toList) := by simp [Hid, primP, h1, h2, h3]
        go_enter Tryz.func104, Tryz.ntmps104
        go_wp2_with fail
        go_ret
        exact ⟨ret_int HE.out, rfl⟩
    · have HE : Hid ((1 : Int) = primP s.toList) := by simp [Hid, primP, h1, h2]
      go_enter Tryz.func104, Tryz.ntmps104
      go_wp2_with fail
      go_ret
      exact ⟨ret_int HE.out, rfl⟩
  · have HE : Hid ((0 : Int) = primP s.toList) := by simp [Hid, primP, h1]
    go_enter Tryz.func104, Tryz.ntmps104
    go_wp2_with fail
    go_ret
    exact ⟨ret_int HE.out, rfl⟩

def atomF (ps : List Tk) (ds : List Df) (t : Tk) : Int × Int :=
  if kindOf t.txt = 2 then (1, valL t.txt.data.toList) else if kindOf t.txt = 3 then (4, primP t.txt.toList) else if 0 ≤ whr ps t.txt then (2, whr ps t.txt) else (3, fnd ds t.txt)

theorem three_later {w w1 : World} {o o2 o3 : Obj} (hb : Below (((w.alloc o).alloc o2).alloc o3).heap.size (((w.alloc o).alloc o2).alloc o3) w1) : w1.heap[w.heap.size]? = some o ∧ w1.heap[w.heap.size + 1]? = some o2 ∧ w1.heap[w.heap.size + 2]? = some o3 := by
  have h := two_later (w := w) (o := o) (o2 := o2) (w1 := (w.alloc o).alloc o2) (Below.refl _ _)
  refine ⟨(hb.block w.heap.size (by simp; omega)).trans ((Below.heap_alloc _ _ _ (by simp; omega)).trans h.1), (hb.block (w.heap.size + 1) (by simp)).trans ((Below.heap_alloc _ _ _ (by simp)).trans h.2), ?_⟩
  have := heap_alloc_new ((w.alloc o).alloc o2) o3
  simp only [World.size_alloc] at this
  exact (hb.block (w.heap.size + 2) (by simp)).trans this

set_option maxHeartbeats 4000000 in
theorem sSimpleAtom (ds : List Df) (xs : List Value) (lv : Value) (T : Nat) (d : Df) (pv bv : Value) (t : Tk) (w : World) (hl : ds.length ≤ 1000) (hlp : d.ps.length ≤ 1000) (hv : DR w lv ds xs T) (hT : T ≤ w.heap.size) (hok : DOk w T d pv bv)
    (hnum : kindOf t.txt = 2 → t.txt.size ≤ 6 ∧ digL t.txt.data.toList) :
    Calls Tryz.prog 69 #[lv, .agg #[.int .i64 (kindOf d.name.txt), .int .i64 d.name.pos, .string d.name.txt, pv, bv], .agg #[.int .i64 (kindOf t.txt), .int .i64 t.pos, .string t.txt]] w fun e w' => e = .returned (.agg #[.int .i64 (atomF d.ps ds t).1, .int .i64 (atomF d.ps ds t).2]) ∧ Below w.heap.size w w' := by
  obtain ⟨lo, lcap, rfl⟩ := own_form hv.row
  obtain ⟨po, pcap, rfl⟩ := own_form hok.1
  obtain ⟨bo, bcap, rfl⟩ := own_form hok.2.1
  have hb3 : Below w.heap.size w (((w.alloc (Obj.cells #[.int .i64 (kindOf d.name.txt), .int .i64 d.name.pos, .string d.name.txt, .slice po d.ps.length pcap, .slice bo d.body.length bcap] 87)).alloc (Obj.cells #[.int .i64 (kindOf t.txt), .int .i64 t.pos, .string t.txt] 84)).alloc (Obj.cells #[.int .i64 0, .int .i64 0] 75)) := (((Below.refl _ _).alloc (Nat.le_refl _) _).alloc (by simp) _).alloc (by simp; omega) _
  by_cases h2 : kindOf t.txt = 2
  · have HK : Hid (atomF d.ps ds t = (1, valL t.txt.data.toList)) := by simp [Hid, atomF, h2]
    rw [HK.out]
    obtain ⟨h6, hdg⟩ := hnum h2
    have HC : Hid _ := fun w => sNumberOf t.txt w h6 hdg
    rw [h2]
    clear hnum
    go_enter Tryz.func69, Tryz.ntmps69
    go_wp2_with fail
    refine (show Calls _ _ _ _ _ from HC.out _).mono ?_
    rintro e w1 ⟨rfl, rfl⟩
    go_wp2_with fail
    exact bodyPost_ret (v := .agg #[.int .i64 1, .int .i64 (valL t.txt.data.toList)]) (by simp [results, Tryz.results69, go_sem]) rfl ⟨rfl, (((Below.refl _ _).alloc (Nat.le_refl _) _).alloc (by simp) _).alloc (by simp; omega) _⟩
  by_cases h3 : kindOf t.txt = 3
  · have HK : Hid (atomF d.ps ds t = (4, primP t.txt.toList)) := by simp [Hid, atomF, h3]
    rw [HK.out]
    have HC : Hid _ := fun w => sPrimOf t.txt w
    rw [h3]
    clear hnum
    go_enter Tryz.func69, Tryz.ntmps69
    go_wp2_with fail
    refine (show Calls _ _ _ _ _ from HC.out _).mono ?_
    rintro e w1 ⟨rfl, rfl⟩
    go_wp2_with fail
    exact bodyPost_ret (v := .agg #[.int .i64 4, .int .i64 (primP t.txt.toList)]) (by simp [results, Tryz.results69, go_sem]) rfl ⟨rfl, (((Below.refl _ _).alloc (Nat.le_refl _) _).alloc (by simp) _).alloc (by simp; omega) _⟩
  have h2' : (kindOf t.txt == 2) = false := by simpa using h2
  have h3' : (kindOf t.txt == 3) = false := by simpa using h3
  have HP : Hid _ := sFindParameter _ d.ps t.txt _ (by omega) (ownsRow_old hok.1 hb3)
  by_cases h4 : 0 ≤ whr d.ps t.txt
  · have HK : Hid (atomF d.ps ds t = (2, whr d.ps t.txt)) := by simp [Hid, atomF, h2, h3, h4]
    rw [HK.out]
    go_enter Tryz.func69, Tryz.ntmps69
    go_wp2_with fail
    refine (show Calls _ _ _ _ _ from HP.out).mono ?_
    rintro e w1 ⟨rfl, hb1⟩
    obtain ⟨x1, x2, x3⟩ := three_later hb1
    have y0 := cell_of_row w1 (w.heap.size + 2) 0 _ _ _ x3
    have y1 := cell_of_row w1 (w.heap.size + 2) 1 _ _ _ x3
    simp only [List.getElem?_toArray, List.getElem?_cons_succ, List.getElem?_cons_zero] at y0 y1
    have q0 : (w1.setCell ⟨w.heap.size + 1 + 1, 0, none⟩ (.int .i64 2)).cell? ⟨w.heap.size + 1 + 1, 0, none⟩ = some (.int .i64 2) := by rw [cell_of_row _ _ _ _ _ _ (blk_set _ x3)]; rfl
    have q1 : ((w1.setCell ⟨w.heap.size + 1 + 1, 0, none⟩ (.int .i64 2)).setCell ⟨w.heap.size + 1 + 1, 1, none⟩ (.int .i64 (whr d.ps t.txt))).cell? ⟨w.heap.size + 1 + 1, 1, none⟩ = some (.int .i64 (whr d.ps t.txt)) := by rw [cell_of_row _ _ _ _ _ _ (blk_set _ (blk_set _ x3))]; rfl
    have f0 := frozen_of_row w1 (w.heap.size + 2) 0 _ _ x3
    have f1 := frozen_of_row w1 (w.heap.size + 2) 1 _ _ x3
    go_wp2_with fail
    exact bodyPost_ret (v := .agg #[.int .i64 2, .int .i64 (whr d.ps t.txt)]) (by simp [results, Tryz.results69, go_sem, q0, q1]) rfl ⟨rfl, ((hb3.trans (hb1.mono hb3.size)).setCell (by show _ ≤ w.heap.size + 1 + 1; omega) _).setCell (by show _ ≤ w.heap.size + 1 + 1; omega) _⟩
  · have HK : Hid (atomF d.ps ds t = (3, fnd ds t.txt)) := by simp [Hid, atomF, h2, h3, h4]
    rw [HK.out]
    have h4' : decide (0 ≤ whr d.ps t.txt) = false := by simpa using h4
    go_enter Tryz.func69, Tryz.ntmps69
    go_wp2_with fail
    refine (show Calls _ _ _ _ _ from HP.out).mono ?_
    rintro e w1 ⟨rfl, hb1⟩
    obtain ⟨x1, x2, x3⟩ := three_later hb1
    have hbw := hb3.trans (hb1.mono hb3.size)
    have z2 := cell_of_row w1 (w.heap.size + 1) 2 _ _ _ x2
    simp only [List.getElem?_toArray, List.getElem?_cons_succ, List.getElem?_cons_zero] at z2
    have HF : Hid _ := sFindFunction _ ds xs T t.txt w1 (by omega) (hv.old hT hbw) (Nat.le_trans hT hbw.size)
    have hsz := (Array.getElem?_eq_some_iff.1 x3).1
    go_wp2_with fail
    refine (show Calls _ _ _ _ _ from HF.out).mono ?_
    rintro e w2 ⟨rfl, hb2⟩
    have x4 := (hb2.block (w.heap.size + 2) hsz).trans x3
    have y0 := cell_of_row w2 (w.heap.size + 2) 0 _ _ _ x4
    have y1 := cell_of_row w2 (w.heap.size + 2) 1 _ _ _ x4
    simp only [List.getElem?_toArray, List.getElem?_cons_succ, List.getElem?_cons_zero] at y0 y1
    have q0 : (w2.setCell ⟨w.heap.size + 1 + 1, 0, none⟩ (.int .i64 3)).cell? ⟨w.heap.size + 1 + 1, 0, none⟩ = some (.int .i64 3) := by rw [cell_of_row _ _ _ _ _ _ (blk_set _ x4)]; rfl
    have q1 : ((w2.setCell ⟨w.heap.size + 1 + 1, 0, none⟩ (.int .i64 3)).setCell ⟨w.heap.size + 1 + 1, 1, none⟩ (.int .i64 (fnd ds t.txt))).cell? ⟨w.heap.size + 1 + 1, 1, none⟩ = some (.int .i64 (fnd ds t.txt)) := by rw [cell_of_row _ _ _ _ _ _ (blk_set _ (blk_set _ x4))]; rfl
    have f0 := frozen_of_row w2 (w.heap.size + 2) 0 _ _ x4
    have f1 := frozen_of_row w2 (w.heap.size + 2) 1 _ _ x4
    clear z2
    go_wp2_with fail
    exact bodyPost_ret (v := .agg #[.int .i64 3, .int .i64 (fnd ds t.txt)]) (by simp [results, Tryz.results69, go_sem, q0, q1]) rfl ⟨rfl, ((hbw.trans (hb2.mono hbw.size)).setCell (by show _ ≤ w.heap.size + 1 + 1; omega) _).setCell (by show _ ≤ w.heap.size + 1 + 1; omega) _⟩

end Go.Proofs.YtnndoagpbcacdaaGreatDoor
