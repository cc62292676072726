import Derived.Test.YtnndoagpbcacdaaGreatDoorMM2
namespace Go.Proofs.YtnndoagpbcacdaaGreatDoor
open Go.RowKit

/-! Package machine: prim.go. -/
theorem MP.old {w w' : World} {B mb : Nat} {fv : Value} {c : Cf} {s : Ms} {K : Nat → Prop} (h : MP w B mb fv c s K) (hb : Below w.heap.size w w') : MP w' B mb fv c s K := by
  obtain ⟨sv, rv, nv, ev, vs, h⟩ := h
  exact ⟨_, _, _, _, _, h.old hb⟩
theorem MP.lt {w : World} {B mb : Nat} {fv : Value} {c : Cf} {s : Ms} {K : Nat → Prop} (h : MP w B mb fv c s K) : mb < w.heap.size := by
  obtain ⟨sv, rv, nv, ev, vs, h⟩ := h
  exact h.lt
theorem MP.lo {w : World} {B mb : Nat} {fv : Value} {c : Cf} {s : Ms} {K : Nat → Prop} (h : MP w B mb fv c s K) : B ≤ mb := by
  obtain ⟨sv, rv, nv, ev, vs, h⟩ := h
  exact h.lo
theorem MP.less {w : World} {B mb : Nat} {fv : Value} {c : Cf} {s : Ms} {K K' : Nat → Prop} (h : MP w B mb fv c s K) (hk : ∀ k, K' k → K k) : MP w B mb fv c s K' := by
  obtain ⟨sv, rv, nv, ev, vs, h⟩ := h
  exact ⟨_, _, _, _, _, h.moreK fun k h1 => .inl (hk k h1)⟩
/-- A new block that is to be kept. -/
theorem MP.box {w : World} {B mb : Nat} {fv : Value} {c : Cf} {s : Ms} {K : Nat → Prop} (h : MP w B mb fv c s K) (o : Obj) : MP (w.alloc o) B mb fv c s (fun k => K k ∨ k = w.heap.size) := by
  obtain ⟨sv, rv, nv, ev, vs, h⟩ := h
  refine ⟨_, _, _, _, _, ((h.old (below_al w o)).fromT h.mlt).moreK fun k hk => .inl ?_⟩
  rcases hk with hk | hk
  · exact .inl hk
  · exact .inr ⟨by omega, by simp; omega⟩
theorem Kept.less {K K' : Nat → Prop} {w w' : World} (h : Kept K w w') (hk : ∀ k, K' k → K k) : Kept K' w w' := fun k h1 h2 => h k (hk k h1) h2
theorem Kept.blk {K : Nat → Prop} {w w' : World} {b : Nat} {o : Obj} (h : Kept K w w') (hk : K b) (hb : w.heap[b]? = some o) : w'.heap[b]? = some o := (h b hk (Array.getElem?_eq_some_iff.1 hb).1).trans hb

theorem cells_of2 {w : World} {k : Nat} {u v : Value} {t : TypeId} (h : w.heap[k]? = some (.cells #[u, v] t (0, 0))) : w.cell? ⟨k, 0, none⟩ = some u ∧ w.cell? ⟨k, 1, none⟩ = some v :=
  ⟨by rw [cell_of_row w k 0 _ _ _ h]; rfl, by rw [cell_of_row w k 1 _ _ _ h]; rfl⟩
theorem cells_of5 {w : World} {k : Nat} {a b d e f : Value} {t : TypeId} (h : w.heap[k]? = some (.cells #[a, b, d, e, f] t (0, 0))) : w.cell? ⟨k, 0, none⟩ = some a ∧ w.cell? ⟨k, 1, none⟩ = some b ∧ w.cell? ⟨k, 2, none⟩ = some d ∧ w.cell? ⟨k, 3, none⟩ = some e ∧ w.cell? ⟨k, 4, none⟩ = some f :=
  ⟨by rw [cell_of_row w k 0 _ _ _ h]; rfl, by rw [cell_of_row w k 1 _ _ _ h]; rfl, by rw [cell_of_row w k 2 _ _ _ h]; rfl, by rw [cell_of_row w k 3 _ _ _ h]; rfl, by rw [cell_of_row w k 4 _ _ _ h]; rfl⟩

set_option maxHeartbeats 4000000 in
theorem mAskFirst (p : Int) (B mb : Nat) (fv : Value) (c : Cf) (s : Ms) (K : Nat → Prop) (w : World) (h : MP w B mb fv c s K) (hl : s.stk.length ≤ 1099511627770) (hl2 : s.frs.length ≤ 1099511627770) :
    Calls Tryz.prog 80 #[.pointer (some ⟨mb, 0, none⟩), .int .i64 p] w fun e w' => (∃ v, e = .returned v) ∧ Below B w w' ∧ Kept K w w' ∧ MP w' B mb fv c (askM p s) K := by
  have HC1 : Hid _ := mPop B mb fv c s K w h (by omega)
  generalize hdI s.stk = x0 at *
  have HE : Hid (askM p s = pushM (hdI s.stk.tail) (waitM 2 0 p 0 (popM (popM s)))) := rfl
  have HX : Hid (hdI (popM s).stk = hdI s.stk.tail) := rfl
  rw [HE.out]
  generalize hdI s.stk.tail = x at *
  obtain ⟨x1, x2⟩ := x
  clear h HE
  go_enter Tryz.func80, Tryz.ntmps80
  go_wp2_with fail
  refine (show Calls _ _ _ _ _ from HC1.out).mono ?_
  rintro e w1 ⟨rfl, hb1, hk1, hm1⟩
  have ht1 : (popM s).stk.length ≤ 1099511627776 := by show s.stk.tail.length ≤ _; rw [List.length_tail]; omega
  have HC2 : Hid _ := mPop B mb fv c (popM s) K w1 hm1 ht1
  rw [HX.out] at HC2
  simp only at HC2
  clear HC1 HX hm1
  go_wp2_with fail
  refine (show Calls _ _ _ _ _ from HC2.out).mono ?_
  rintro e w2 ⟨rfl, hb2, hk2, hm2⟩
  have hB2 : B ≤ w2.heap.size := by have := hm2.lt; have := hm2.lo; omega
  have HC3 : Hid _ := mWait 2 0 0 p 0 B mb fv c (popM (popM s)) _ _ (hm2.box (Obj.cells #[.int .i64 x1, .int .i64 x2] 96)) (by exact Nat.le_trans hl2 (by omega)) (by show s.stk.tail.tail.length ≤ _; rw [List.length_tail, List.length_tail]; omega)
  have HB : Hid (Below B w (w2.alloc (Obj.cells #[.int .i64 x1, .int .i64 x2] 96))) := (hb1.trans hb2).alloc hB2 _
  have HK : Hid (Kept K w (w2.alloc (Obj.cells #[.int .i64 x1, .int .i64 x2] 96))) := (hk1.trans hk2 hb1.size).trans (Kept.old (below_al _ _)) (by have := hb1.size; have := hb2.size; omega)
  clear HC2 hb1 hk1 hb2 hk2 hm2
  go_wp2_with fail
  refine (show Calls _ _ _ _ _ from HC3.out).mono ?_
  rintro e w3 ⟨⟨v3, rfl⟩, hb3, hk3, hm3⟩
  have hbx := hk3.blk (.inr rfl) (heap_alloc_new w2 _)
  obtain ⟨q0, q1⟩ := cells_of2 hbx
  have hlt3 : w2.heap.size < w3.heap.size := (Array.getElem?_eq_some_iff.1 hbx).1
  have HC4 : Hid _ := mPush (x1, x2) B mb fv c (waitM 2 0 p 0 (popM (popM s))) _ w3 hm3 (by show s.stk.tail.tail.length ≤ _; rw [List.length_tail, List.length_tail]; omega)
  have HB3 : Hid (Below B w w3) := HB.out.trans hb3
  have HK3 : Hid (Kept K w w3) := HK.out.trans (hk3.less fun k hk => .inl hk) HB.out.size
  clear HC3 hb3 hk3 hm3 hbx HB HK
  go_wp2_with fail
  refine (show Calls _ _ _ _ _ from HC4.out).mono ?_
  rintro e w4 ⟨⟨v4, rfl⟩, hb4, hk4, hm4⟩
  have HB4 : Hid (Below B w w4) := HB3.out.trans hb4
  have HK4 : Hid (Kept K w w4) := HK3.out.trans (hk4.less fun k hk => .inl hk) HB3.out.size
  have HM4 : Hid (MP w4 B mb fv c (pushM (x1, x2) (waitM 2 0 p 0 (popM (popM s)))) K) := hm4.less fun k hk => .inl hk
  clear HC4 hb4 hk4 hm4 q0 q1
  go_wp2_with fail
  exact bodyPost_end (v := .tuple #[]) (by simp [results, Tryz.results80, go_sem]) rfl ⟨⟨_, rfl⟩, HB4.out, HK4.out, HM4.out⟩

set_option maxHeartbeats 4000000 in
theorem mAskSecond (fk fh fnd p fnu n : Int) (B mb : Nat) (fv : Value) (c : Cf) (s : Ms) (K : Nat → Prop) (w : World) (h : MP w B mb fv c s K) (hl : s.stk.length ≤ 1099511627770) (hl2 : s.frs.length ≤ 1099511627770) :
    Calls Tryz.prog 124 #[.pointer (some ⟨mb, 0, none⟩), .agg #[.int .i64 fk, .int .i64 fh, .int .i64 fnd, .int .i64 p, .int .i64 fnu], .int .i64 n] w fun e w' => (∃ v, e = .returned v) ∧ Below B w w' ∧ Kept K w w' ∧ MP w' B mb fv c (askM2 p n s) K := by
  have HC0 : Hid _ := mDrop B mb fv c s _ _ (h.box (Obj.cells #[.int .i64 fk, .int .i64 fh, .int .i64 fnd, .int .i64 p, .int .i64 fnu] 191)) (by omega)
  have hB0 : B ≤ w.heap.size := by have := h.lt; have := h.lo; omega
  have HE : Hid (askM2 p n s = pushM (hdI s.stk.tail) (waitM 3 0 p n (popM (popM (dropM s))))) := rfl
  have HX : Hid (hdI (popM (dropM s)).stk = hdI s.stk.tail) := rfl
  rw [HE.out]
  generalize hdI s.stk.tail = x at *
  obtain ⟨x1, x2⟩ := x
  clear h HE
  go_enter Tryz.func124, Tryz.ntmps124
  go_wp2_with fail
  refine (show Calls _ _ _ _ _ from HC0.out).mono ?_
  rintro e w0 ⟨⟨v0, rfl⟩, hb0, hk0, hm0⟩
  have HBX0 : Hid _ := hk0.blk (.inr rfl) (heap_alloc_new w _)
  have HB0 : Hid (Below B w w0) := ((Below.refl B w).alloc hB0 _).trans hb0
  have HK0 : Hid (Kept K w w0) := (Kept.old (below_al w _)).trans (hk0.less fun k hk => .inl hk) (by simp)
  have HC1 : Hid _ := mPop B mb fv c (dropM s) _ w0 hm0 (by show s.stk.length ≤ _; omega)
  generalize hdI (dropM s).stk = x0 at *
  clear HC0 hb0 hk0 hm0
  go_wp2_with fail
  refine (show Calls _ _ _ _ _ from HC1.out).mono ?_
  rintro e w1 ⟨rfl, hb1, hk1, hm1⟩
  have HBX1 : Hid _ := hk1.blk (.inr rfl) HBX0.out
  have HB1 : Hid (Below B w w1) := HB0.out.trans hb1
  have HK1 : Hid (Kept K w w1) := HK0.out.trans (hk1.less fun k hk => .inl hk) HB0.out.size
  have ht1 : (popM (dropM s)).stk.length ≤ 1099511627776 := by show s.stk.tail.length ≤ _; rw [List.length_tail]; omega
  have HC2 : Hid _ := mPop B mb fv c (popM (dropM s)) _ w1 hm1 ht1
  rw [HX.out] at HC2
  simp only at HC2
  clear HC1 HX hm1 hb1 hk1 HBX0 HB0 HK0
  go_wp2_with fail
  refine (show Calls _ _ _ _ _ from HC2.out).mono ?_
  rintro e w2 ⟨rfl, hb2, hk2, hm2⟩
  have hB2 : B ≤ w2.heap.size := by have := hm2.lt; have := hm2.lo; omega
  have HBX2 : Hid _ := hk2.blk (.inr rfl) HBX1.out
  have HB2 : Hid (Below B w w2) := HB1.out.trans hb2
  have HK2 : Hid (Kept K w w2) := HK1.out.trans (hk2.less fun k hk => .inl hk) HB1.out.size
  have HC3 : Hid _ := mWait 3 0 0 p n B mb fv c (popM (popM (dropM s))) _ _ (hm2.box (Obj.cells #[.int .i64 x1, .int .i64 x2] 96)) (by show s.frs.tail.length ≤ _; rw [List.length_tail]; omega) (by show s.stk.tail.tail.length ≤ _; rw [List.length_tail, List.length_tail]; omega)
  have hlt2 : w.heap.size < w2.heap.size := (Array.getElem?_eq_some_iff.1 HBX2.out).1
  obtain ⟨_, _, _, p3, _⟩ := cells_of5 HBX2.out
  have HB : Hid (Below B w (w2.alloc (Obj.cells #[.int .i64 x1, .int .i64 x2] 96))) := HB2.out.alloc hB2 _
  have HK : Hid (Kept K w (w2.alloc (Obj.cells #[.int .i64 x1, .int .i64 x2] 96))) := HK2.out.trans (Kept.old (below_al _ _)) HB2.out.size
  clear HC2 hb2 hk2 hm2 HBX1 HB1 HK1
  go_wp2_with fail
  refine (show Calls _ _ _ _ _ from HC3.out).mono ?_
  rintro e w3 ⟨⟨v3, rfl⟩, hb3, hk3, hm3⟩
  have hbx := hk3.blk (.inr rfl) (heap_alloc_new w2 _)
  obtain ⟨q0, q1⟩ := cells_of2 hbx
  have hlt3 : w2.heap.size < w3.heap.size := (Array.getElem?_eq_some_iff.1 hbx).1
  have HC4 : Hid _ := mPush (x1, x2) B mb fv c (waitM 3 0 p n (popM (popM (dropM s)))) _ w3 hm3 (by show s.stk.tail.tail.length ≤ _; rw [List.length_tail, List.length_tail]; omega)
  have HB3 : Hid (Below B w w3) := HB.out.trans hb3
  have HK3 : Hid (Kept K w w3) := HK.out.trans (hk3.less fun k hk => .inl (.inl hk)) HB.out.size
  clear HC3 hb3 hk3 hm3 hbx HB HK p3 HB2 HK2 HBX2
  go_wp2_with fail
  refine (show Calls _ _ _ _ _ from HC4.out).mono ?_
  rintro e w4 ⟨⟨v4, rfl⟩, hb4, hk4, hm4⟩
  have HB4 : Hid (Below B w w4) := HB3.out.trans hb4
  have HK4 : Hid (Kept K w w4) := HK3.out.trans (hk4.less fun k hk => .inl (.inl hk)) HB3.out.size
  have HM4 : Hid (MP w4 B mb fv c (pushM (x1, x2) (waitM 3 0 p n (popM (popM (dropM s))))) K) := hm4.less fun k hk => .inl (.inl hk)
  clear HC4 hb4 hk4 hm4 q0 q1
  go_wp2_with fail
  exact bodyPost_end (v := .tuple #[]) (by simp [results, Tryz.results124, go_sem]) rfl ⟨⟨_, rfl⟩, HB4.out, HK4.out, HM4.out⟩

set_option maxHeartbeats 4000000 in
theorem mChoose (bb : Bool) (B mb : Nat) (fv : Value) (c : Cf) (s : Ms) (K : Nat → Prop) (w : World) (h : MP w B mb fv c s K) (hl : s.stk.length ≤ 1099511627770) :
    Calls Tryz.prog 165 #[.pointer (some ⟨mb, 0, none⟩), .bool bb] w fun e w' => (∃ v, e = .returned v) ∧ Below B w w' ∧ Kept K w w' ∧ MP w' B mb fv c (chooseM bb s) K := by
  have HC1 : Hid _ := mPop B mb fv c s K w h (by omega)
  have HE : Hid (chooseM bb s = pushM (if bb then hdI s.stk else hdI s.stk.tail) (popM (popM s))) := rfl
  have HX : Hid (hdI (popM s).stk = hdI s.stk.tail) := rfl
  rw [HE.out]
  generalize hdI s.stk.tail = x at *
  generalize hdI s.stk = y at *
  obtain ⟨x1, x2⟩ := x
  obtain ⟨y1, y2⟩ := y
  simp only at HC1
  clear h HE
  go_enter Tryz.func165, Tryz.ntmps165
  go_wp2_with fail
  refine (show Calls _ _ _ _ _ from HC1.out).mono ?_
  rintro e w1 ⟨rfl, hb1, hk1, hm1⟩
  have hB1 : B ≤ w1.heap.size := by have := hm1.lt; have := hm1.lo; omega
  have ht1 : (popM s).stk.length ≤ 1099511627776 := by show s.stk.tail.length ≤ _; rw [List.length_tail]; omega
  have HC2 : Hid _ := mPop B mb fv c (popM s) _ _ (hm1.box (Obj.cells #[.int .i64 y1, .int .i64 y2] 96)) ht1
  rw [HX.out] at HC2
  simp only at HC2
  have HB1 : Hid (Below B w (w1.alloc (Obj.cells #[.int .i64 y1, .int .i64 y2] 96))) := hb1.alloc hB1 _
  have HK1 : Hid (Kept K w (w1.alloc (Obj.cells #[.int .i64 y1, .int .i64 y2] 96))) := hk1.trans (Kept.old (below_al _ _)) hb1.size
  clear HC1 HX hm1 hb1 hk1
  go_wp2_with fail
  refine (show Calls _ _ _ _ _ from HC2.out).mono ?_
  rintro e w2 ⟨rfl, hb2, hk2, hm2⟩
  have hB2 : B ≤ w2.heap.size := by have := hm2.lt; have := hm2.lo; omega
  have HBX : Hid _ := hk2.blk (.inr rfl) (heap_alloc_new w1 _)
  have hlt1 : w1.heap.size < w2.heap.size := (Array.getElem?_eq_some_iff.1 HBX.out).1
  obtain ⟨q0, q1⟩ := cells_of2 HBX.out
  have HB2 : Hid (Below B w (w2.alloc (Obj.cells #[.int .i64 x1, .int .i64 x2] 96))) := (HB1.out.trans hb2).alloc hB2 _
  have HK2 : Hid (Kept K w (w2.alloc (Obj.cells #[.int .i64 x1, .int .i64 x2] 96))) := (HK1.out.trans (hk2.less fun k hk => .inl hk) HB1.out.size).trans (Kept.old (below_al _ _)) (HB1.out.trans hb2).size
  have HM2 : Hid (MP (w2.alloc (Obj.cells #[.int .i64 x1, .int .i64 x2] 96)) B mb fv c (popM (popM s)) K) := (hm2.less fun k hk => .inl hk).old (below_al _ _)
  have hl3 : (popM (popM s)).stk.length ≤ 1099511627776 := by show s.stk.tail.tail.length ≤ _; rw [List.length_tail, List.length_tail]; omega
  have HC3 : Hid _ := mPush (if bb then (y1, y2) else (x1, x2)) B mb fv c (popM (popM s)) K _ HM2.out hl3
  clear HC2 hb2 hk2 hm2 HB1 HK1 HBX
  cases bb
  all_goals
    simp only [Bool.false_eq_true, if_false, if_true] at HC3 ⊢
    go_wp2_with fail
    refine (show Calls _ _ _ _ _ from HC3.out).mono ?_
    rintro e w4 ⟨⟨v4, rfl⟩, hb4, hk4, hm4⟩
    have HB4 : Hid (Below B w w4) := HB2.out.trans hb4
    have HK4 : Hid (Kept K w w4) := HK2.out.trans hk4 HB2.out.size
    have HM4 : Hid _ := hm4
    clear HC3 hb4 hk4 hm4 q0 q1
    go_wp2_with fail
    exact bodyPost_end (v := .tuple #[]) (by simp [results, Tryz.results165, go_sem]) rfl ⟨⟨_, rfl⟩, HB4.out, HK4.out, HM4.out⟩

set_option maxHeartbeats 1000000 in
theorem mMayStep (B mb : Nat) (fv : Value) (c : Cf) (s : Ms) (K : Nat → Prop) (w : World) (h : MP w B mb fv c s K) :
    Calls Tryz.prog 116 #[.pointer (some ⟨mb, 0, none⟩)] w fun e w' => e = .returned (.bool (decide (s.stp < c.bud))) ∧ Below B w w' ∧ Kept K w w' ∧ MP w' B mb fv c (if c.bud ≤ s.stp then { s with out := 5 } else s) K := by
  obtain ⟨sv, rv, nv, ev, vs, h⟩ := h
  have c7 := h.c7
  have c1 := h.c1
  have hmb := h.lt
  have hlo := h.lo
  have HM : Hid (∀ m, MSt (w.drewN m) B mb fv c s K sv rv nv ev vs) := fun m => h.old (below_drewN (Below.refl _ _) m)
  have HK : Hid (¬ K mb) := h.noK
  clear h
  generalize hst : s.stp = st at *
  generalize hbu : c.bud = bu at *
  have HST : Hid (s.stp = st) := hst
  clear hst hbu
  by_cases hle : bu ≤ st
  · have hd : decide (st < bu) = false := by simp; omega
    have hd2 : decide (bu ≤ st) = true := by simpa using hle
    rw [hd, if_pos hle]
    have HF : Hid (∀ m, MSt ((w.drewN m).setCell ⟨mb, 8, none⟩ (.int .i64 5)) B mb fv c { s with out := 5 } K sv rv nv ev vs) := fun m => (HM.out m).field rfl rfl rfl rfl rfl
    go_enter Tryz.func116, Tryz.ntmps116
    go_wp2_with fail
    go_quiet (fail)
    have c8 := (HM.out nq).c8
    have f8 := (HM.out nq).fz 8
    go_wp2_with fail
    go_ret
    exact ⟨rfl, (below_drewN (Below.refl B w) _).setCell (by exact hlo) _, (Kept.old (below_drewN (Below.refl _ w) _)).trans (Kept.set HK.out) (Nat.le_refl _), _, _, _, _, _, by have h := HF.out nq; rw [HST.out] at h; exact h⟩
  · have hd : decide (st < bu) = true := by simp; omega
    have hd2 : decide (bu ≤ st) = false := by simpa using hle
    rw [hd, if_neg hle]
    go_enter Tryz.func116, Tryz.ntmps116
    go_wp2_with fail
    go_quiet (fail)
    go_wp2_with fail
    go_ret
    exact ⟨rfl, below_drewN (Below.refl B w) _, Kept.old (below_drewN (Below.refl _ w) _), _, _, _, _, _, HM.out _⟩

set_option maxHeartbeats 1000000 in
theorem mFinish (t : Int × Int) (B mb : Nat) (fv : Value) (c : Cf) (s : Ms) (K : Nat → Prop) (w : World) (h : MP w B mb fv c s K) :
    Calls Tryz.prog 122 #[.pointer (some ⟨mb, 0, none⟩), .agg #[.int .i64 t.1, .int .i64 t.2]] w fun e w' => (∃ v, e = .returned v) ∧ Below B w w' ∧ Kept K w w' ∧ MP w' B mb fv c (finM t s) K := by
  obtain ⟨sv, rv, nv, ev, vs, h⟩ := h
  have c8 := h.c8
  have c9 := h.c9
  have f8 := h.fz 8
  have f9 := h.fz 9
  have hmb := h.lt
  have hlo := h.lo
  have HK : Hid (¬ K mb) := h.noK
  obtain ⟨t1, t2⟩ := t
  by_cases ht : t1 = 1
  · subst ht
    have HE : Hid (finM (1, t2) s = { s with out := 1, val := t2 }) := rfl
    have HF : Hid (MSt ((w.setCell ⟨mb, 8, none⟩ (.int .i64 1)).setCell ⟨mb, 9, none⟩ (.int .i64 t2)) B mb fv c { s with out := 1, val := t2 } K sv rv nv ev vs) := MSt.field (s' := { s with out := 1, val := t2 }) (MSt.field (s' := { s with out := 1 }) h rfl rfl rfl rfl rfl) rfl rfl rfl rfl rfl
    rw [HE.out]
    clear h HE
    go_enter Tryz.func122, Tryz.ntmps122
    go_wp2_with fail
    refine bodyPost_end (v := .tuple #[]) (by simp [results, Tryz.results122, go_sem]) rfl ⟨⟨_, rfl⟩, (((Below.refl B w).setCell (by exact hlo) _).setCell (by exact hlo) _).alloc (by simp [World.setCell]; omega) _, ?_, _, _, _, _, _, HF.out.old (below_al _ _)⟩
    exact ((Kept.set HK.out).trans (Kept.set HK.out) (by rw [size_set]; exact Nat.le_refl _)).trans (Kept.old (below_al _ _)) (by rw [size_set, size_set]; exact Nat.le_refl _)
  · have HE : Hid (finM (t1, t2) s = { s with out := 2 }) := if_neg ht
    have HF : Hid (MSt (w.setCell ⟨mb, 8, none⟩ (.int .i64 2)) B mb fv c { s with out := 2 } K sv rv nv ev vs) := h.field rfl rfl rfl rfl rfl
    have hd : (t1 == 1) = false := by simpa using ht
    rw [HE.out]
    clear h HE
    go_enter Tryz.func122, Tryz.ntmps122
    go_wp2_with fail
    refine bodyPost_end (v := .tuple #[]) (by simp [results, Tryz.results122, go_sem]) rfl ⟨⟨_, rfl⟩, ((Below.refl B w).setCell (by exact hlo) _).alloc (by simp [World.setCell]; omega) _, (Kept.set HK.out).trans (Kept.old (below_al _ _)) (by rw [size_set]; exact Nat.le_refl _), _, _, _, _, _, HF.out.old (below_al _ _)⟩

theorem mul_in (x y : Int) (h1 : -1000000000 ≤ x) (h2 : x ≤ 1000000000) (h3 : -1000000000 ≤ y) (h4 : y ≤ 1000000000) : -1000000000000000000 ≤ x * y ∧ x * y ≤ 1000000000000000000 := by
  have hx : x.natAbs ≤ 1000000000 := by omega
  have hy : y.natAbs ≤ 1000000000 := by omega
  have h : (x * y).natAbs ≤ 1000000000 * 1000000000 := by rw [Int.natAbs_mul]; exact Nat.mul_le_mul hx hy
  omega

set_option maxHeartbeats 4000000 in
theorem mCalc (p x y : Int) (hx1 : -1000000000 ≤ x) (hx2 : x ≤ 1000000000) (hy1 : -1000000000 ≤ y) (hy2 : y ≤ 1000000000) (B mb : Nat) (fv : Value) (c : Cf) (s : Ms) (K : Nat → Prop) (w : World) (h : MP w B mb fv c s K) (hl : s.stk.length ≤ 1099511627770) :
    Calls Tryz.prog 166 #[.pointer (some ⟨mb, 0, none⟩), .int .i64 p, .int .i64 x, .int .i64 y] w fun e w' => (∃ v, e = .returned v) ∧ Below B w w' ∧ Kept K w w' ∧ MP w' B mb fv c (calcM p x y s) K := by
  have HC : Hid _ := mPush (1, calcV p x y) B mb fv c s K w h (by omega)
  have HE : Hid (calcM p x y s = if 1000000000 < calcV p x y ∨ calcV p x y < -1000000000 then { s with out := 4 } else pushM (1, calcV p x y) s) := rfl
  rw [HE.out]
  clear HE
  simp only at HC
  obtain ⟨sv, rv, nv, ev, vs, h⟩ := h
  have c8 := h.c8
  have f8 := h.fz 8
  have hmb := h.lt
  have hlo := h.lo
  have HK : Hid (¬ K mb) := h.noK
  have HF : Hid (MSt (w.setCell ⟨mb, 8, none⟩ (.int .i64 4)) B mb fv c { s with out := 4 } K sv rv nv ev vs) := h.field rfl rfl rfl rfl rfl
  clear h
  have hm := mul_in x y hx1 hx2 hy1 hy2
  have hv : (p = 0 ∧ calcV p x y = x + y) ∨ (p = 1 ∧ calcV p x y = x - y) ∨ ((p == 0) = false ∧ (p == 1) = false ∧ calcV p x y = x * y) := by
    unfold calcV
    by_cases h0 : p = 0
    · left; simp [h0]
    · by_cases h1 : p = 1
      · right; left; simp [h1]
      · right; right; simp [h0, h1]
  generalize hV : calcV p x y = V at *
  clear hV
  rcases hv with ⟨rfl, hv⟩ | ⟨rfl, hv⟩ | ⟨g0, g1, hv⟩
  all_goals
    subst hv
    go_enter Tryz.func166, Tryz.ntmps166
  · by_cases hb1 : 1000000000 < x + y
    · have hd1 : decide (1000000000 < x + y) = true := by simpa using hb1
      rw [if_pos (.inl hb1)]
      go_wp2_with fail
      exact bodyPost_ret (v := .tuple #[]) (by simp [results, Tryz.results166, go_sem]) rfl ⟨⟨_, rfl⟩, (Below.refl B w).setCell (by exact hlo) _, Kept.set HK.out, _, _, _, _, _, HF.out⟩
    · by_cases hb2 : x + y < -1000000000
      · have hd1 : decide (1000000000 < x + y) = false := by simpa using hb1
        have hd2 : decide (x + y < -1000000000) = true := by simpa using hb2
        rw [if_pos (.inr hb2)]
        go_wp2_with fail
        exact bodyPost_ret (v := .tuple #[]) (by simp [results, Tryz.results166, go_sem]) rfl ⟨⟨_, rfl⟩, (Below.refl B w).setCell (by exact hlo) _, Kept.set HK.out, _, _, _, _, _, HF.out⟩
      · have hd1 : decide (1000000000 < x + y) = false := by simpa using hb1
        have hd2 : decide (x + y < -1000000000) = false := by simpa using hb2
        rw [if_neg (by omega)]
        go_wp2_with fail
        refine (show Calls _ _ _ _ _ from HC.out).mono ?_
        rintro e w1 ⟨⟨v1, rfl⟩, hb1, hk1, hm1⟩
        have HM1 : Hid _ := hm1
        clear hm1 HC
        go_wp2_with fail
        exact bodyPost_end (v := .tuple #[]) (by simp [results, Tryz.results166, go_sem]) rfl ⟨⟨_, rfl⟩, hb1, hk1, HM1.out⟩
  · by_cases hb1 : 1000000000 < x - y
    · have hd1 : decide (1000000000 < x - y) = true := by simpa using hb1
      rw [if_pos (.inl hb1)]
      go_wp2_with fail
      exact bodyPost_ret (v := .tuple #[]) (by simp [results, Tryz.results166, go_sem]) rfl ⟨⟨_, rfl⟩, (Below.refl B w).setCell (by exact hlo) _, Kept.set HK.out, _, _, _, _, _, HF.out⟩
    · by_cases hb2 : x - y < -1000000000
      · have hd1 : decide (1000000000 < x - y) = false := by simpa using hb1
        have hd2 : decide (x - y < -1000000000) = true := by simpa using hb2
        rw [if_pos (.inr hb2)]
        go_wp2_with fail
        exact bodyPost_ret (v := .tuple #[]) (by simp [results, Tryz.results166, go_sem]) rfl ⟨⟨_, rfl⟩, (Below.refl B w).setCell (by exact hlo) _, Kept.set HK.out, _, _, _, _, _, HF.out⟩
      · have hd1 : decide (1000000000 < x - y) = false := by simpa using hb1
        have hd2 : decide (x - y < -1000000000) = false := by simpa using hb2
        rw [if_neg (by omega)]
        go_wp2_with fail
        refine (show Calls _ _ _ _ _ from HC.out).mono ?_
        rintro e w1 ⟨⟨v1, rfl⟩, hb1, hk1, hm1⟩
        have HM1 : Hid _ := hm1
        clear hm1 HC
        go_wp2_with fail
        exact bodyPost_end (v := .tuple #[]) (by simp [results, Tryz.results166, go_sem]) rfl ⟨⟨_, rfl⟩, hb1, hk1, HM1.out⟩
  · by_cases hb1 : 1000000000 < x * y
    · have hd1 : decide (1000000000 < x * y) = true := by simpa using hb1
      rw [if_pos (.inl hb1)]
      go_wp2_with fail
      exact bodyPost_ret (v := .tuple #[]) (by simp [results, Tryz.results166, go_sem]) rfl ⟨⟨_, rfl⟩, (Below.refl B w).setCell (by exact hlo) _, Kept.set HK.out, _, _, _, _, _, HF.out⟩
    · by_cases hb2 : x * y < -1000000000
      · have hd1 : decide (1000000000 < x * y) = false := by simpa using hb1
        have hd2 : decide (x * y < -1000000000) = true := by simpa using hb2
        rw [if_pos (.inr hb2)]
        go_wp2_with fail
        exact bodyPost_ret (v := .tuple #[]) (by simp [results, Tryz.results166, go_sem]) rfl ⟨⟨_, rfl⟩, (Below.refl B w).setCell (by exact hlo) _, Kept.set HK.out, _, _, _, _, _, HF.out⟩
      · have hd1 : decide (1000000000 < x * y) = false := by simpa using hb1
        have hd2 : decide (x * y < -1000000000) = false := by simpa using hb2
        rw [if_neg (by omega)]
        go_wp2_with fail
        refine (show Calls _ _ _ _ _ from HC.out).mono ?_
        rintro e w1 ⟨⟨v1, rfl⟩, hb1, hk1, hm1⟩
        have HM1 : Hid _ := hm1
        clear hm1 HC
        go_wp2_with fail
        exact bodyPost_end (v := .tuple #[]) (by simp [results, Tryz.results166, go_sem]) rfl ⟨⟨_, rfl⟩, hb1, hk1, HM1.out⟩

set_option maxHeartbeats 4000000 in
theorem mCompute (fk fh fnd p x y : Int) (hx1 : -1000000000 ≤ x) (hx2 : x ≤ 1000000000) (hy1 : -1000000000 ≤ y) (hy2 : y ≤ 1000000000) (B mb : Nat) (fv : Value) (c : Cf) (s : Ms) (K : Nat → Prop) (w : World) (h : MP w B mb fv c s K) (hl : s.stk.length ≤ 1099511627770) (hl2 : s.frs.length ≤ 1099511627770) (hs1 : 0 ≤ s.stp) (hs2 : s.stp ≤ 1099511627770) :
    Calls Tryz.prog 125 #[.pointer (some ⟨mb, 0, none⟩), .agg #[.int .i64 fk, .int .i64 fh, .int .i64 fnd, .int .i64 p, .int .i64 x], .int .i64 y] w fun e w' => (∃ v, e = .returned v) ∧ Below B w w' ∧ Kept K w w' ∧ MP w' B mb fv c (compM c p x y s) K := by
  have HC0 : Hid _ := mMayStep B mb fv c s _ _ (h.box (Obj.cells #[.int .i64 fk, .int .i64 fh, .int .i64 fnd, .int .i64 p, .int .i64 x] 191))
  have hB0 : B ≤ w.heap.size := by have := h.lt; have := h.lo; omega
  clear h
  by_cases hle : c.bud ≤ s.stp
  · have hd : decide (s.stp < c.bud) = false := by simp; omega
    have HE : Hid (compM c p x y s = { s with out := 5 }) := if_pos hle
    rw [HE.out]
    rw [hd, if_pos hle] at HC0
    clear HE
    go_enter Tryz.func125, Tryz.ntmps125
    go_wp2_with fail
    refine (show Calls _ _ _ _ _ from HC0.out).mono ?_
    rintro e w0 ⟨rfl, hb0, hk0, hm0⟩
    have HM : Hid _ := hm0
    clear hm0 HC0
    go_wp2_with fail
    exact bodyPost_ret (v := .tuple #[]) (by simp [results, Tryz.results125, go_sem]) rfl ⟨⟨_, rfl⟩, ((Below.refl B w).alloc hB0 _).trans hb0, (Kept.old (below_al w _)).trans (hk0.less fun k hk => .inl hk) (by simp), MP.less HM.out fun k hk => .inl hk⟩
  · have hd : decide (s.stp < c.bud) = true := by simp; omega
    have HE : Hid (compM c p x y s = if p = 3 then chooseM (decide (x < y)) (popM (dropM { s with stp := s.stp + 1 })) else if p = 4 then chooseM (decide (x = y)) (popM (dropM { s with stp := s.stp + 1 })) else calcM p x y (popM (dropM { s with stp := s.stp + 1 }))) := if_neg hle
    rw [HE.out]
    rw [hd, if_neg hle] at HC0
    clear HE
    go_enter Tryz.func125, Tryz.ntmps125
    go_wp2_with fail
    refine (show Calls _ _ _ _ _ from HC0.out).mono ?_
    rintro e w0 ⟨rfl, hb0, hk0, ⟨sv, rv, nv, ev, vs, hm0⟩⟩
    have HBX0 : Hid _ := hk0.blk (.inr rfl) (heap_alloc_new w _)
    have HB0 : Hid (Below B w w0) := ((Below.refl B w).alloc hB0 _).trans hb0
    have HK0 : Hid (Kept K w w0) := (Kept.old (below_al w _)).trans (hk0.less fun k hk => .inl hk) (by simp)
    have c7 := hm0.c7
    have f7 := hm0.fz 7
    have hmb := hm0.lt
    have hlo := hm0.lo
    have hnk := hm0.noK
    have HF : Hid (MP (w0.setCell ⟨mb, 7, none⟩ (.int .i64 (s.stp + 1))) B mb fv c { s with stp := s.stp + 1 } (fun k => K k ∨ k = w.heap.size)) := ⟨_, _, _, _, _, hm0.field rfl rfl rfl rfl rfl⟩
    have HB1 : Hid (Below B w (w0.setCell ⟨mb, 7, none⟩ (.int .i64 (s.stp + 1)))) := HB0.out.setCell (by exact hlo) _
    have HK1 : Hid (Kept K w (w0.setCell ⟨mb, 7, none⟩ (.int .i64 (s.stp + 1)))) := HK0.out.trans (Kept.set fun hk => hnk (.inl hk)) HB0.out.size
    have HBX1 : Hid _ := (Kept.set (K := fun k => K k ∨ k = w.heap.size) (w := w0) (i := 7) (u := .int .i64 (s.stp + 1)) hnk).blk (.inr rfl) HBX0.out
    have HC1 : Hid _ := mDrop B mb fv c { s with stp := s.stp + 1 } _ _ HF.out (by show s.frs.length ≤ _; omega)
    clear HC0 hb0 hk0 hm0 HB0 HK0 HBX0 HF hnk
    go_wp2_with fail
    refine (show Calls _ _ _ _ _ from HC1.out).mono ?_
    rintro e w1 ⟨⟨v1, rfl⟩, hb1, hk1, hm1⟩
    have HBX2 : Hid _ := hk1.blk (.inr rfl) HBX1.out
    have HB2 : Hid (Below B w w1) := HB1.out.trans hb1
    have HK2 : Hid (Kept K w w1) := HK1.out.trans (hk1.less fun k hk => .inl hk) HB1.out.size
    have HC2 : Hid _ := mPop B mb fv c (dropM { s with stp := s.stp + 1 }) _ w1 hm1 (by show s.stk.length ≤ _; omega)
    generalize hdI (dropM { s with stp := s.stp + 1 }).stk = x0 at *
    clear HC1 hb1 hk1 hm1 HB1 HK1 HBX1 c7 f7 hmb
    go_wp2_with fail
    refine (show Calls _ _ _ _ _ from HC2.out).mono ?_
    rintro e w2 ⟨rfl, hb2, hk2, hm2⟩
    have HBX3 : Hid _ := hk2.blk (.inr rfl) HBX2.out
    have hlt3 : w.heap.size < w2.heap.size := (Array.getElem?_eq_some_iff.1 HBX3.out).1
    obtain ⟨_, _, _, p3, p4⟩ := cells_of5 HBX3.out
    have HB3 : Hid (Below B w w2) := HB2.out.trans hb2
    have HK3 : Hid (Kept K w w2) := HK2.out.trans (hk2.less fun k hk => .inl hk) HB2.out.size
    have HM3 : Hid (MP w2 B mb fv c (popM (dropM { s with stp := s.stp + 1 })) K) := hm2.less fun k hk => .inl hk
    have hls : (popM (dropM { s with stp := s.stp + 1 })).stk.length ≤ 1099511627770 := by show s.stk.tail.length ≤ _; rw [List.length_tail]; omega
    have HCh : Hid (∀ bb, Calls Tryz.prog 165 #[.pointer (some ⟨mb, 0, none⟩), .bool bb] w2 fun e w' => (∃ v, e = .returned v) ∧ Below B w2 w' ∧ Kept K w2 w' ∧ MP w' B mb fv c (chooseM bb (popM (dropM { s with stp := s.stp + 1 }))) K) := fun bb => mChoose bb B mb fv c _ K w2 HM3.out hls
    have HCa : Hid _ := mCalc p x y hx1 hx2 hy1 hy2 B mb fv c _ K w2 HM3.out hls
    clear HC2 hb2 hk2 hm2 HB2 HK2 HBX2 HBX3 HM3
    by_cases h3 : p = 3
    · subst h3
      go_wp2_with fail
      refine (show Calls _ _ _ _ _ from HCh.out _).mono ?_
      rintro e w4 ⟨⟨v4, rfl⟩, hb4, hk4, hm4⟩
      have HM4 : Hid _ := hm4
      have HB4 : Hid (Below B w w4) := HB3.out.trans hb4
      have HK4 : Hid (Kept K w w4) := HK3.out.trans hk4 HB3.out.size
      clear HCh HCa hm4 hb4 hk4 p3 p4
      go_wp2_with fail
      exact bodyPost_end (v := .tuple #[]) (by simp [results, Tryz.results125, go_sem]) rfl ⟨⟨_, rfl⟩, HB4.out, HK4.out, HM4.out⟩
    · by_cases h4 : p = 4
      · subst h4
        have hbe : (x == y) = decide (x = y) := by by_cases hxy : x = y <;> simp [hxy]
        go_wp2_with fail
        refine (show Calls _ _ _ _ _ from HCh.out _).mono ?_
        rintro e w4 ⟨⟨v4, rfl⟩, hb4, hk4, hm4⟩
        have HM4 : Hid _ := hm4
        have HB4 : Hid (Below B w w4) := HB3.out.trans hb4
        have HK4 : Hid (Kept K w w4) := HK3.out.trans hk4 HB3.out.size
        clear HCh HCa hm4 hb4 hk4 p3 p4
        go_wp2_with fail
        exact bodyPost_end (v := .tuple #[]) (by simp [results, Tryz.results125, go_sem]) rfl ⟨⟨_, rfl⟩, HB4.out, HK4.out, by rw [← hbe]; exact HM4.out⟩
      · have g3 : (p == 3) = false := by simpa using h3
        have g4 : (p == 4) = false := by simpa using h4
        go_wp2_with fail
        refine (show Calls _ _ _ _ _ from HCa.out).mono ?_
        rintro e w4 ⟨⟨v4, rfl⟩, hb4, hk4, hm4⟩
        have HM4 : Hid _ := hm4
        have HB4 : Hid (Below B w w4) := HB3.out.trans hb4
        have HK4 : Hid (Kept K w w4) := HK3.out.trans hk4 HB3.out.size
        clear HCh HCa hm4 hb4 hk4 p3 p4
        go_wp2_with fail
        exact bodyPost_end (v := .tuple #[]) (by simp [results, Tryz.results125, go_sem]) rfl ⟨⟨_, rfl⟩, HB4.out, HK4.out, HM4.out⟩

end Go.Proofs.YtnndoagpbcacdaaGreatDoor
