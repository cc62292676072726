import Derived.Test.YtnndoagpbcacdaaGreatDoorMV1
import Derived.Test.YtnndoagpbcacdaaGreatDoorMN19
import Derived.Test.YtnndoagpbcacdaaGreatDoorMLiftBase
namespace Go.Proofs.YtnndoagpbcacdaaGreatDoor
open Go.RowKit

/-! Runs: the law. -/
set_option maxHeartbeats 400000 in
theorem xRunOf (s : ByteArray) (bud hp a b c er : Int) (h : ∀ w, Calls Tryz.prog 26 #[.string s, .int .i64 bud, .int .i64 hp] w fun e w' => e = .returned (.tuple #[.agg #[.int .i64 a, .int .i64 b, .int .i64 c], .int .i64 er]) ∧ Below w.heap.size w w') (w : World) :
    Calls Tryz.prog 16 #[.string s, .int .i64 bud, .int .i64 hp] w fun e w' => e = .returned (.tuple #[.agg #[.int .i64 a, .int .i64 b, .int .i64 c], .int .i64 er]) ∧ Below w.heap.size w w' := by
  have HC : Hid _ := h (w.alloc (Obj.cells #[.int .i64 0, .int .i64 0, .int .i64 0] 31))
  clear h
  go_enter Tryz.func16, Tryz.ntmps16
  go_wp2_with fail
  refine (show Calls _ _ _ _ _ from HC.out).mono ?_
  rintro e w1 ⟨rfl, hb1⟩
  clear HC
  have hX := (hb1.block w.heap.size (by simp)).trans (heap_alloc_new w _)
  obtain ⟨r0, r1, r2, z0, z1, z2, hwl⟩ := res_facts hX
  have HXX : Hid _ := hX
  have HB1 : Hid (Below w.heap.size w w1) := (below_al w _).trans (hb1.mono (by simp))
  clear hX hb1
  go_wp2_with fail
  obtain ⟨q0, q1, q2⟩ := cells_three w1 w.heap.size _ _ _ _ (.int .i64 a) (.int .i64 b) (.int .i64 c) HXX.out
  refine bodyPost_ret (v := .tuple #[.agg #[.int .i64 a, .int .i64 b, .int .i64 c], .int .i64 er]) (by simp [results, Tryz.results16, go_sem, q0, q1, q2]) rfl ⟨rfl, ?_⟩
  exact ((HB1.out.setCell (by exact Nat.le_refl _) _).setCell (by exact Nat.le_refl _) _).setCell (by exact Nat.le_refl _) _
/-- The program and the reference answer alike. -/
theorem run_both (s : ByteArray) (bud hp : Int) (hs : s.size ≤ maxLen) : ∃ a b c er : Int,
    (∀ w, Calls Tryz.prog 16 #[.string s, .int .i64 bud, .int .i64 hp] w fun e w' => e = .returned (.tuple #[.agg #[.int .i64 a, .int .i64 b, .int .i64 c], .int .i64 er]) ∧ Below w.heap.size w w') ∧
    (∀ w, Calls Tryz.prog 57 #[.string s, .int .i64 bud, .int .i64 hp] w fun e w' => e = .returned (.tuple #[.agg #[.int .i64 a, .int .i64 b, .int .i64 c], .int .i64 er]) ∧ Below w.heap.size w w') := by
  cases hrd : rdC s with
  | none => exact ⟨0, 0, 0, rdE s, xRunOf s bud hp 0 0 0 _ (fun w => mRunE s bud hp w hs hrd), fun w => rRunE s bud hp w hs hrd⟩
  | some cd =>
    by_cases hb : rnBad bud hp
    · exact ⟨0, 0, 0, 8, xRunOf s bud hp 0 0 0 _ (fun w => mRunA s bud hp cd w hs hrd hb), fun w => rRunA s bud hp cd w hs hrd hb⟩
    · unfold rnBad at hb
      exact ⟨_, _, _, 0, fun w => xRunI s bud hp cd w hs hrd (rdE_some hrd) (by omega) (by omega) (by omega) (by omega) (rdC_good hrd), fun w => rRunOk s bud hp cd w hs hrd (by omega) (by omega) (by omega) (by omega)⟩
set_option maxHeartbeats 2000000 in
theorem lRuns6 (n m : Int) (s : ByteArray) (c : Int) (fo : Option Addr) (fl fc : Nat) (w : World) (hs : s.size ≤ maxLen) :
    Calls Tryz.prog 36 #[opV 6 n m s c fo fl fc] w fun e w' => e = .returned (.bool true) ∧ Below w.heap.size w w' := by
  unfold opV
  obtain ⟨ra, rb, rc, er, h1, h2⟩ := run_both s n m hs
  have HC : Hid _ := h1 (w.alloc (Obj.cells #[.int .i64 6, .int .i64 n, .int .i64 m, .string s, .int .i64 c, .slice fo fl fc] 59))
  have HR : Hid _ := h2
  clear h1 h2
  go_enter Tryz.func36, Tryz.ntmps36
  go_wp2_with fail
  refine (show Calls _ _ _ _ _ from HC.out).mono ?_
  rintro e w1 ⟨rfl, hb1⟩
  clear HC
  have hbx := box_later' hb1
  have g1 := cell_of_row w1 w.heap.size 1 _ _ _ hbx
  have g2 := cell_of_row w1 w.heap.size 2 _ _ _ hbx
  have g3 := cell_of_row w1 w.heap.size 3 _ _ _ hbx
  simp only [List.getElem?_toArray, List.getElem?_cons_succ, List.getElem?_cons_zero] at g1 g2 g3
  have hwl : w.heap.size < w1.heap.size := (Array.getElem?_eq_some_iff.1 hbx).1
  have HB1 : Hid (Below w.heap.size w w1) := (below_al w _).trans (hb1.mono (by simp))
  clear hb1 hbx
  go_wp2_with fail
  refine (show Calls _ _ _ _ _ from HR.out (w1.alloc (Obj.cells #[.int .i64 ra, .int .i64 rb, .int .i64 rc] 31))).mono ?_
  rintro e w2 ⟨rfl, hb2⟩
  clear HR
  have HX2 : Hid (w2.heap[w1.heap.size]? = some (Obj.cells #[.int .i64 ra, .int .i64 rb, .int .i64 rc] 31)) := box_later' hb2
  have HB2 : Hid (Below w.heap.size w w2) := (HB1.out.alloc (by omega) _).trans (hb2.mono (by simp; omega))
  obtain ⟨r0, r1, r2, _, _, _, hl2⟩ := res_facts HX2.out
  clear hb2 g1 g2 g3
  have p1 : (ra == ra) = true := by simp
  have p2 : (rb == rb) = true := by simp
  have p3 : (rc == rc) = true := by simp
  have p4 : (er == er) = true := by simp
  go_wp2_with (go_at_call 48; refine (lNum _ _).mono ?_; rintro e w3 ⟨rfl, rfl⟩)
  go_ret
  exact ⟨rfl, HB2.out.alloc (by have := HB2.out.size; omega) _⟩
set_option maxHeartbeats 1000000 in
theorem lPlays6 (h : Value) (n m : Int) (s : ByteArray) (c : Int) (fo : Option Addr) (fl fc : Nat) (w : World) (hs : s.size ≤ maxLen) :
    Calls Tryz.prog 23 #[h, opV 6 n m s c fo fl fc] w fun e w' => e = .returned (.bool true) ∧ Below w.heap.size w w' := by
  unfold opV
  go_enter Tryz.func23, Tryz.ntmps23
  go_wp2_with fail
  refine (lRuns6 n m s c fo fl fc _ hs).mono ?_
  rintro e w1 ⟨rfl, hb1⟩
  have hb1' : Below w.heap.size w w1 := ((Below.refl _ _).alloc (Nat.le_refl _) _).trans (hb1.mono (by simp))
  clear hb1
  go_wp2_with fail
  go_ret
  exact ⟨rfl, hb1'⟩
def head5 : ByteArray := ⟨#[77, 32, 48, 32, 49, 10, 70, 32, 48, 32, 48, 10, 110, 53, 10]⟩
theorem rd_head : rdC head5 = some ⟨0, [⟨0, [[(1, 5)]]⟩]⟩ := by
  have h := code_read ⟨0, [⟨0, [[(1, 5)]]⟩]⟩ (by decide +kernel) head5 (by decide +kernel)
  unfold rdC
  rw [if_neg (by decide), h]
theorem run_head : (runI ⟨[⟨0, [[(1, 5)]]⟩], 1, 0⟩ 0).out = 1 ∧ (runI ⟨[⟨0, [[(1, 5)]]⟩], 1, 0⟩ 0).val = 5 ∧ (runI ⟨[⟨0, [[(1, 5)]]⟩], 1, 0⟩ 0).stp = 1 := by decide +kernel
set_option maxHeartbeats 1000000 in
theorem lHeads6 (w : World) :
    Calls Tryz.prog 22 #[.int .i64 6] w fun e w' => e = .returned (.bool true) ∧ Below w.heap.size w w' := by
  have HC : Hid _ := xRunI head5 1 0 _ w (by decide) rd_head (rdE_some rd_head) (by omega) (by omega) (by omega) (by omega) (rdC_good rd_head)
  rw [run_head.1, run_head.2.1, run_head.2.2] at HC
  unfold head5 at HC
  go_enter Tryz.func22, Tryz.ntmps22
  go_wp2_with fail
  refine (show Calls _ _ _ _ _ from HC.out).mono ?_
  clear HC
  rintro e w1 ⟨rfl, hb1⟩
  have HB1 : Hid _ := hb1
  have hs1 := hb1.size
  clear hb1
  go_wp2_with fail
  go_ret
  exact ⟨rfl, HB1.out.alloc hs1 _⟩
set_option maxHeartbeats 1000000 in
theorem lRunsAll (a : Option Addr) (len cap : Nat) (w : World) (hops : IsOps w a len cap) :
    Calls Tryz.prog 7 #[.slice a len cap] w fun e w' => e = .returned (.bool true) ∧ Below w.heap.size w w' := by
  go_enter Tryz.func7, Tryz.ntmps7
  go_wp2_with fail
  refine (lUpToK 6 (by decide) (by decide) lHeads6 lPlays6 a len cap _ hops).mono ?_
  rintro e w1 ⟨rfl, hb1⟩
  go_wp2_with fail
  go_ret
  exact ⟨rfl, hb1⟩

end Go.Proofs.YtnndoagpbcacdaaGreatDoor
