import Derived.Test.YtnndoagpbcacdaaGreatDoorMV1
import Derived.Test.YtnndoagpbcacdaaGreatDoorF9
import Derived.Test.YtnndoagpbcacdaaGreatDoorMLiftBase
namespace Go.Proofs.YtnndoagpbcacdaaGreatDoor
open Go.RowKit

/-! Evals: the law. -/
set_option maxHeartbeats 1000000 in
theorem xEvalOf (s : ByteArray) (bud a b c er : Int) (w : World) (hs : s.size ≤ maxLen) (ht : Tab w) (hce : cmpE s = 0)
    (hrun : ∀ (x : ByteArray) (w' : World), x.data.toList = cmpL s → x.size ≤ 20000 → Calls Tryz.prog 26 #[.string x, .int .i64 bud, .int .i64 24000] w' fun e w'' => e = .returned (.tuple #[.agg #[.int .i64 a, .int .i64 b, .int .i64 c], .int .i64 er]) ∧ Below w'.heap.size w' w'') :
    Calls Tryz.prog 18 #[.string s, .int .i64 bud] w fun e w' => e = .returned (.tuple #[.agg #[.int .i64 a, .int .i64 b, .int .i64 c], .int .i64 er]) ∧ Below w.heap.size w w' := by
  have hal : Below w.heap.size w (w.alloc (Obj.cells #[.int .i64 0, .int .i64 0, .int .i64 0] 31)) := (Below.refl _ w).alloc (Nat.le_refl _) _
  have HC : Hid _ := sCompile s (w.alloc (Obj.cells #[.int .i64 0, .int .i64 0, .int .i64 0] 31)) hs (ht.below hal) (fun h => ⟨(prog_base s h).2.2.2, (prog_base s h).2.2.1⟩)
  rw [hce] at HC
  have HRUN : Hid _ := hrun
  clear hrun ht hce
  go_enter Tryz.func18, Tryz.ntmps18
  go_wp2_with fail
  refine (show Calls _ _ _ _ _ from HC.out).mono ?_
  rintro e w1 ⟨x, rfl, hx, hxs, hb1'⟩
  clear HC
  have HC2 : Hid _ := HRUN.out x w1 hx hxs
  have HX1 : Hid (w1.heap[w.heap.size]? = some (Obj.cells #[.int .i64 0, .int .i64 0, .int .i64 0] 31)) := (hb1'.block w.heap.size (by simp)).trans (heap_alloc_new w _)
  have HB1 : Hid (Below w.heap.size w w1) := hal.trans (hb1'.mono (by simp))
  clear hx hb1' hal HRUN
  go_wp2_with fail
  refine (show Calls _ _ _ _ _ from HC2.out).mono ?_
  rintro e w2 ⟨rfl, hb2⟩
  clear HC2
  have hw1 : w.heap.size < w1.heap.size := (Array.getElem?_eq_some_iff.1 HX1.out).1
  have hX := (hb2.block w.heap.size hw1).trans HX1.out
  obtain ⟨r0, r1, r2, z0, z1, z2, hwl⟩ := res_facts hX
  have HXX : Hid _ := hX
  have HB2 : Hid (Below w.heap.size w w2) := HB1.out.trans (hb2.mono (by omega))
  clear hX hb2
  go_wp2_with fail
  obtain ⟨q0, q1, q2⟩ := cells_three w2 w.heap.size _ _ _ _ (.int .i64 a) (.int .i64 b) (.int .i64 c) HXX.out
  refine bodyPost_ret (v := .tuple #[.agg #[.int .i64 a, .int .i64 b, .int .i64 c], .int .i64 er]) (by simp [results, Tryz.results18, go_sem, q0, q1, q2]) rfl ⟨rfl, ?_⟩
  exact ((HB2.out.setCell (by exact Nat.le_refl _) _).setCell (by exact Nat.le_refl _) _).setCell (by exact Nat.le_refl _) _
set_option maxHeartbeats 1000000 in
theorem xEvalE (s : ByteArray) (bud : Int) (w : World) (hs : s.size ≤ maxLen) (ht : Tab w) (hc : (chk s).2 ≠ 0) :
    Calls Tryz.prog 18 #[.string s, .int .i64 bud] w fun e w' => e = .returned (.tuple #[.agg #[.int .i64 0, .int .i64 0, .int .i64 0], .int .i64 (chk s).2]) ∧ Below w.heap.size w w' := by
  have hal : Below w.heap.size w (w.alloc (Obj.cells #[.int .i64 0, .int .i64 0, .int .i64 0] 31)) := (Below.refl _ w).alloc (Nat.le_refl _) _
  have HC : Hid _ := sCompile s (w.alloc (Obj.cells #[.int .i64 0, .int .i64 0, .int .i64 0] 31)) hs (ht.below hal) (fun h => ⟨(prog_base s h).2.2.2, (prog_base s h).2.2.1⟩)
  have hce : cmpE s = (chk s).2 := by unfold cmpE; rw [if_neg hc]
  rw [hce] at HC
  clear hce ht
  generalize (chk s).2 = er at *
  have hne2 : (er == 0) = false := by simpa using hc
  go_enter Tryz.func18, Tryz.ntmps18
  go_wp2_with fail
  refine (show Calls _ _ _ _ _ from HC.out).mono ?_
  rintro e w1 ⟨x, rfl, hx, hxs, hb1'⟩
  clear HC
  have hX : w1.heap[w.heap.size]? = some (Obj.cells #[.int .i64 0, .int .i64 0, .int .i64 0] 31) := (hb1'.block w.heap.size (by simp)).trans (heap_alloc_new w _)
  have HB1 : Hid (Below w.heap.size w w1) := hal.trans (hb1'.mono (by simp))
  obtain ⟨r0, r1, r2, z0, z1, z2, hwl⟩ := res_facts hX
  have HXX : Hid _ := hX
  clear hX hx hb1' hal
  go_wp2_with fail
  obtain ⟨q0, q1, q2⟩ := cells_three w1 w.heap.size _ _ _ _ (.int .i64 0) (.int .i64 0) (.int .i64 0) HXX.out
  refine bodyPost_ret (v := .tuple #[.agg #[.int .i64 0, .int .i64 0, .int .i64 0], .int .i64 er]) (by simp [results, Tryz.results18, go_sem, q0, q1, q2]) rfl ⟨rfl, ?_⟩
  exact ((HB1.out.setCell (by exact Nat.le_refl _) _).setCell (by exact Nat.le_refl _) _).setCell (by exact Nat.le_refl _) _
/-- The program and the reference answer alike. -/
theorem eval_both (s : ByteArray) (bud : Int) (hs : s.size ≤ maxLen) : ∃ a b c er : Int,
    (∀ w, Tab w → Calls Tryz.prog 18 #[.string s, .int .i64 bud] w fun e w' => e = .returned (.tuple #[.agg #[.int .i64 a, .int .i64 b, .int .i64 c], .int .i64 er]) ∧ Below w.heap.size w w') ∧
    (∀ w, Calls Tryz.prog 58 #[.string s, .int .i64 bud] w fun e w' => e = .returned (.tuple #[.agg #[.int .i64 a, .int .i64 b, .int .i64 c], .int .i64 er]) ∧ Below w.heap.size w w') := by
  by_cases hc : (chk s).2 = 0
  · have hg := chk_good s hc
    by_cases hb : bud < 0 ∨ 2000 < bud
    · exact ⟨0, 0, 0, 8, fun w ht => xEvalOf s bud 0 0 0 8 w hs ht (cmp_ok hc rfl hg) (fun x w' hx hxs => mRunA x bud 24000 _ w' (by unfold maxLen; omega) (cmp_read hc rfl hg hx hxs).1 (by unfold rnBad; omega)), fun w => rMeanA s bud w hs hc hb⟩
    · exact ⟨_, _, _, 0, fun w ht => xEvalI s bud _ w hs ht hc rfl hg (by omega) (by omega), fun w => rMeanOk s bud w hs hc (by omega) (by omega)⟩
  · exact ⟨0, 0, 0, _, fun w ht => xEvalE s bud w hs ht hc, fun w => rMeanE s bud w hs hc⟩
set_option maxHeartbeats 2000000 in
theorem lRuns7 (n m : Int) (s : ByteArray) (c : Int) (fo : Option Addr) (fl fc : Nat) (w : World) (hs : s.size ≤ maxLen) (ht : Tab w) :
    Calls Tryz.prog 36 #[opV 7 n m s c fo fl fc] w fun e w' => e = .returned (.bool true) ∧ Below w.heap.size w w' := by
  unfold opV
  obtain ⟨ra, rb, rc, er, h1, h2⟩ := eval_both s n hs
  have HC : Hid _ := h1 (w.alloc (Obj.cells #[.int .i64 7, .int .i64 n, .int .i64 m, .string s, .int .i64 c, .slice fo fl fc] 59)) (ht.alloc _)
  have HR : Hid _ := h2
  clear h1 h2 ht
  go_enter Tryz.func36, Tryz.ntmps36
  go_wp2_with fail
  refine (show Calls _ _ _ _ _ from HC.out).mono ?_
  rintro e w1 ⟨rfl, hb1⟩
  clear HC
  have hbx := box_later' hb1
  have g1 := cell_of_row w1 w.heap.size 1 _ _ _ hbx
  have g3 := cell_of_row w1 w.heap.size 3 _ _ _ hbx
  simp only [List.getElem?_toArray, List.getElem?_cons_succ, List.getElem?_cons_zero] at g1 g3
  have hwl : w.heap.size < w1.heap.size := (Array.getElem?_eq_some_iff.1 hbx).1
  have HB1 : Hid (Below w.heap.size w w1) := (below_al w _).trans (hb1.mono (by simp))
  clear hb1 hbx
  go_wp2_with fail
  refine (show Calls _ _ _ _ _ from HR.out (w1.alloc (Obj.cells #[.int .i64 ra, .int .i64 rb, .int .i64 rc] 31))).mono ?_
  rintro e w2 ⟨rfl, hb2⟩
  clear HR
  have HX2 : Hid (w2.heap[w1.heap.size]? = some (Obj.cells #[.int .i64 ra, .int .i64 rb, .int .i64 rc] 31)) := box_later' hb2
  have HB2 : Hid (Below w.heap.size w w2) := (HB1.out.alloc (by omega) _).trans (hb2.mono (by simp; omega))
  obtain ⟨r0, r1, r2, _, _, _, hl2⟩ := res_facts HX2.out
  clear hb2 g1 g3
  have p1 : (ra == ra) = true := by simp
  have p2 : (rb == rb) = true := by simp
  have p3 : (rc == rc) = true := by simp
  have p4 : (er == er) = true := by simp
  go_wp2_with (go_at_call 48; refine (lNum _ _).mono ?_; rintro e w3 ⟨rfl, rfl⟩)
  go_ret
  exact ⟨rfl, HB2.out.alloc (by have := HB2.out.size; omega) _⟩
set_option maxHeartbeats 1000000 in
theorem lPlays7 (h : Value) (n m : Int) (s : ByteArray) (c : Int) (fo : Option Addr) (fl fc : Nat) (w : World) (hs : s.size ≤ maxLen) (ht : Tab w) :
    Calls Tryz.prog 23 #[h, opV 7 n m s c fo fl fc] w fun e w' => e = .returned (.bool true) ∧ Below w.heap.size w w' := by
  unfold opV
  go_enter Tryz.func23, Tryz.ntmps23
  go_wp2_with fail
  refine (lRuns7 n m s c fo fl fc _ hs (ht.alloc _)).mono ?_
  rintro e w1 ⟨rfl, hb1⟩
  have hb1' : Below w.heap.size w w1 := ((Below.refl _ _).alloc (Nat.le_refl _) _).trans (hb1.mono (by simp))
  clear hb1
  go_wp2_with fail
  go_ret
  exact ⟨rfl, hb1'⟩
def head7 : ByteArray := ⟨#[109, 97, 105, 110, 32, 61, 32, 100, 32, 40, 43, 32, 49, 32, 50, 41, 59, 32, 100, 32, 120, 32, 61, 32, 42, 32, 120, 32, 120, 59]⟩
theorem chk_head7 : (chk head7).2 = 0 := by decide +kernel
theorem run_head7 : (runI ⟨(codeOf (cAll (toksF head7 0)).ds).fs, 2000, 24000⟩ (codeOf (cAll (toksF head7 0)).ds).mn).out = 1 ∧ (runI ⟨(codeOf (cAll (toksF head7 0)).ds).fs, 2000, 24000⟩ (codeOf (cAll (toksF head7 0)).ds).mn).val = 9 ∧ (runI ⟨(codeOf (cAll (toksF head7 0)).ds).fs, 2000, 24000⟩ (codeOf (cAll (toksF head7 0)).ds).mn).stp = 4 := by decide +kernel
set_option maxHeartbeats 1000000 in
theorem lHeads7 (w : World) (ht : Tab w) :
    Calls Tryz.prog 22 #[.int .i64 7] w fun e w' => e = .returned (.bool true) ∧ Below w.heap.size w w' := by
  have HC : Hid _ := xEvalI head7 2000 _ w (by decide) ht chk_head7 rfl (chk_good _ chk_head7) (by omega) (by omega)
  rw [run_head7.1, run_head7.2.1, run_head7.2.2] at HC
  unfold head7 at HC
  clear ht
  go_enter Tryz.func22, Tryz.ntmps22
  go_wp2_with fail
  refine (show Calls _ _ _ _ _ from HC.out).mono ?_
  clear HC
  rintro e w1 ⟨rfl, hb1⟩
  have HB1 : Hid _ := hb1
  have hs1 := hb1.size
  clear hb1
  go_wp2_with fail
  go_ret
  exact ⟨rfl, HB1.out.alloc hs1 _⟩

end Go.Proofs.YtnndoagpbcacdaaGreatDoor
namespace Go.Proofs.YtnndoagpbcacdaaGreatDoor
open Go.RowKit

/-! Evals, walked. -/
set_option maxHeartbeats 1000000 in
theorem lEvalsAll (a : Option Addr) (len cap : Nat) (w : World) (hops : IsOps w a len cap) (ht : Tab w) :
    Calls Tryz.prog 9 #[.slice a len cap] w fun e w' => e = .returned (.bool true) ∧ Below w.heap.size w w' := by
  go_enter Tryz.func9, Tryz.ntmps9
  go_wp2_with fail
  refine (lUpToP Tab (fun _ _ h hb => h.below hb) 7 (by decide) (by decide) lHeads7 lPlays7 a len cap _ hops ht).mono ?_
  rintro e w1 ⟨rfl, hb1⟩
  go_wp2_with fail
  go_ret
  exact ⟨rfl, hb1⟩

end Go.Proofs.YtnndoagpbcacdaaGreatDoor
