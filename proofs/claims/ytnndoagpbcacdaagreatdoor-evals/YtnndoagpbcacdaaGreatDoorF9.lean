import Derived.Test.YtnndoagpbcacdaaGreatDoorF8
import Derived.Test.YtnndoagpbcacdaaGreatDoorF0
import Derived.Test.YtnndoagpbcacdaaGreatDoorMN15
import Derived.Test.YtnndoagpbcacdaaGreatDoorMR9
import Derived.Test.YtnndoagpbcacdaaGreatDoorN19a
namespace Go.Proofs.YtnndoagpbcacdaaGreatDoor
open Go.RowKit

/-! The reference: Mean. -/
set_option maxHeartbeats 1000000 in
theorem rMeanE (s : ByteArray) (bud : Int) (w : World) (hs : s.size ≤ maxLen) (he : (chk s).2 ≠ 0) :
    Calls Tryz.prog 58 #[.string s, .int .i64 bud] w fun e w' => e = .returned (.tuple #[.agg #[.int .i64 0, .int .i64 0, .int .i64 0], .int .i64 (chk s).2]) ∧ Below w.heap.size w w' := by
  have HC : Hid _ := rCheck s (w.alloc (Obj.cells #[.int .i64 0, .int .i64 0, .int .i64 0] 31)) hs
  generalize (chk s).2 = er at *
  generalize (chk s).1 = ea at *
  have hne2 : (er == 0) = false := by simpa using he
  go_enter Tryz.func58, Tryz.ntmps58
  go_wp2_with fail
  refine (show Calls _ _ _ _ _ from HC.out).mono ?_
  rintro e w1 ⟨rfl, hb1⟩
  clear HC
  have hX := (hb1.block w.heap.size (by simp)).trans (heap_alloc_new w _)
  obtain ⟨r0, r1, r2, z0, z1, z2, hwl⟩ := res_facts hX
  have HXX : Hid _ := hX
  have HB1 : Hid (Below w.heap.size w w1) := (below_al w _).trans (hb1.mono (by simp))
  clear hX hb1
  go_wp2_with fail
  obtain ⟨q0, q1, q2⟩ := cells_three w1 w.heap.size _ _ _ _ (.int .i64 0) (.int .i64 0) (.int .i64 0) HXX.out
  exact bodyPost_ret (v := .tuple #[.agg #[.int .i64 0, .int .i64 0, .int .i64 0], .int .i64 er]) (by simp [results, Tryz.results58, go_sem, q0, q1, q2]) rfl ⟨rfl, ((HB1.out.setCell (by exact Nat.le_refl _) _).setCell (by exact Nat.le_refl _) _).setCell (by exact Nat.le_refl _) _⟩
set_option maxHeartbeats 1000000 in
theorem rMeanA (s : ByteArray) (bud : Int) (w : World) (hs : s.size ≤ maxLen) (he : (chk s).2 = 0) (hb : bud < 0 ∨ 2000 < bud) :
    Calls Tryz.prog 58 #[.string s, .int .i64 bud] w fun e w' => e = .returned (.tuple #[.agg #[.int .i64 0, .int .i64 0, .int .i64 0], .int .i64 8]) ∧ Below w.heap.size w w' := by
  have HC : Hid _ := rCheck s (w.alloc (Obj.cells #[.int .i64 0, .int .i64 0, .int .i64 0] 31)) hs
  rw [he] at HC
  generalize (chk s).1 = ea at *
  go_enter Tryz.func58, Tryz.ntmps58
  go_wp2_with fail
  refine (show Calls _ _ _ _ _ from HC.out).mono ?_
  rintro e w1 ⟨rfl, hb1⟩
  clear HC
  have hX := (hb1.block w.heap.size (by simp)).trans (heap_alloc_new w _)
  obtain ⟨r0, r1, r2, z0, z1, z2, hwl⟩ := res_facts hX
  have HXX : Hid _ := hX
  have HB1 : Hid (Below w.heap.size w w1) := (below_al w _).trans (hb1.mono (by simp))
  clear hX hb1
  by_cases h1 : bud < 0
  case' pos => have hd1 : decide (bud < 0) = true := decide_eq_true h1
  case' neg =>
    have hd1 : decide (bud < 0) = false := decide_eq_false h1
    have hd2 : decide (2000 < bud) = true := decide_eq_true (by omega)
  all_goals
    go_wp2_with fail
    obtain ⟨q0, q1, q2⟩ := cells_three w1 w.heap.size _ _ _ _ (.int .i64 0) (.int .i64 0) (.int .i64 0) HXX.out
    exact bodyPost_ret (v := .tuple #[.agg #[.int .i64 0, .int .i64 0, .int .i64 0], .int .i64 8]) (by simp [results, Tryz.results58, go_sem, q0, q1, q2]) rfl ⟨rfl, ((HB1.out.setCell (by exact Nat.le_refl _) _).setCell (by exact Nat.le_refl _) _).setCell (by exact Nat.le_refl _) _⟩
theorem cx_of (s : ByteArray) (bud : Int) (hb : bud ≤ 2000) (h : (chk s).2 = 0) : Cx ((cAll (toksF s 0)).ds.map (·.name)) (cAll (toksF s 0)).ds ⟨(codeOf (cAll (toksF s 0)).ds).fs, bud, 24000⟩ := by
  obtain ⟨_, hpr, _, _, hdl⟩ := prog_of s h
  have hsc := (prog_more s h).1
  have hci := cAll_inv (toksF s 0)
  refine ⟨rfl, hb, by simp [codeOf], hdl, fun F d t hd ht => ?_⟩
  have hdm := List.mem_of_getElem? hd
  have hlt := hpr.lt
  have hb4 := hci.i4 d hdm
  have htt : t = tpOf (cAll (toksF s 0)).ds d := by
    simp only [codeOf, List.getElem?_map, hd] at ht
    exact (Option.some.inj ht).symm
  subst htt
  exact ⟨rfl, by omega, by omega, fun hh a hbody hs3 hok => (hsc d hdm hh a hbody hs3 hok).symm⟩
set_option maxRecDepth 100000 in
set_option maxHeartbeats 2000000 in
theorem rMeanOk (s : ByteArray) (bud : Int) (w : World) (hs : s.size ≤ maxLen) (hc : (chk s).2 = 0) (hb0 : 0 ≤ bud) (hb1 : bud ≤ 2000) :
    Calls Tryz.prog 58 #[.string s, .int .i64 bud] w fun e w' => e = .returned (.tuple #[.agg #[.int .i64 (runI ⟨(codeOf (cAll (toksF s 0)).ds).fs, bud, 24000⟩ (codeOf (cAll (toksF s 0)).ds).mn).out, .int .i64 (runI ⟨(codeOf (cAll (toksF s 0)).ds).fs, bud, 24000⟩ (codeOf (cAll (toksF s 0)).ds).mn).val, .int .i64 (runI ⟨(codeOf (cAll (toksF s 0)).ds).fs, bud, 24000⟩ (codeOf (cAll (toksF s 0)).ds).mn).stp], .int .i64 0]) ∧ Below w.heap.size w w' := by
  have hgood := chk_good s hc
  have hcx := cx_of s bud hb1 hc
  obtain ⟨hs2, hpr, _, _, _⟩ := prog_of s hc
  obtain ⟨hmn, htg, _, _⟩ := tgo_good (bud := bud) (hp := 24000) hgood
  have htp := tpg_good hgood
  obtain ⟨n, U, he, hg, hz, hne, r1, r2, r3⟩ := run_res ⟨(codeOf (cAll (toksF s 0)).ds).fs, bud, 24000⟩ (codeOf (cAll (toksF s 0)).ds).mn hmn htg htp hb0 hb1
  rw [r1, r2, r3]
  obtain ⟨ra, hra⟩ : ∃ ra : Int, ra = (if U.out = 0 then (if (hdI U.cur).1 = 1 then 1 else 2) else U.out) := ⟨_, rfl⟩
  obtain ⟨rb, hrb⟩ : ∃ rb : Int, rb = (if U.out = 0 then (if (hdI U.cur).1 = 1 then (hdI U.cur).2 else 0) else 0) := ⟨_, rfl⟩
  obtain ⟨us, hus⟩ : ∃ us : Int, us = U.stp := ⟨_, rfl⟩
  rw [← hra, ← hrb, ← hus]
  have HRA : Hid _ := hra
  have HRB : Hid _ := hrb
  have HUS : Hid _ := hus
  have HC : Hid _ := rCheck s (w.alloc (Obj.cells #[.int .i64 0, .int .i64 0, .int .i64 0] 31)) hs
  rw [hc] at HC
  have HP : Hid _ := fun w' => rProgram s (cAll (toksF s 0)).ds w' hs2 hpr
  have HWT : Hid _ := fun T g fv => eWorth T g fv ((cAll (toksF s 0)).ds.map (·.name)) (cAll (toksF s 0)).ds ⟨(codeOf (cAll (toksF s 0)).ds).fs, bud, 24000⟩ hcx htg htp n
  have HE : Hid _ := he
  have HG : Hid _ := hg
  have HZ : Hid _ := hz
  have HNE : Hid _ := hne
  have HMN : Hid ((codeOf (cAll (toksF s 0)).ds).mn = fnd (cAll (toksF s 0)).ds mainB) := rfl
  have hd1 : decide (bud < 0) = false := by simp; omega
  have hd2 : decide (2000 < bud) = false := by simp; omega
  rw [HMN.out] at HE HG HZ
  clear r1 r2 r3 he hg hz hne hmn htg htp hgood hra hrb hus hcx hpr hc HMN
  generalize (chk s).1 = ea at *
  obtain ⟨cf, hcf⟩ : ∃ cf : Cf, cf = ⟨(codeOf (cAll (toksF s 0)).ds).fs, bud, 24000⟩ := ⟨_, rfl⟩
  rw [← hcf] at HWT HE HG HZ
  have HCB : Hid (cf.bud = bud) := by show _ = _; rw [hcf]
  clear hcf
  generalize (cAll (toksF s 0)).ds = ds at *
  go_enter Tryz.func58, Tryz.ntmps58
  go_wp2_with fail
  refine (show Calls _ _ _ _ _ from HC.out).mono ?_
  rintro e w0 ⟨rfl, hb0'⟩
  clear HC
  go_wp2_with fail
  refine (show Calls _ _ _ _ _ from HP.out _).mono ?_
  rintro e w1 ⟨fv, m, rfl, hb1', hm, xs, hrow, hfl⟩
  clear HP
  subst hm
  have hX := ((hb1'.block w.heap.size (by have := hb0'.size; simp at this; omega)).trans (hb0'.block w.heap.size (by simp))).trans (heap_alloc_new w _)
  have hwl : w.heap.size < w1.heap.size := (Array.getElem?_eq_some_iff.1 hX).1
  have HXX : Hid _ := hX
  have HB1 : Hid (Below w.heap.size w w1) := ((below_al w _).trans (hb0'.mono (by simp))).trans (hb1'.mono (by have := hb0'.size; simp at this; omega))
  obtain ⟨fo, fc, rfl⟩ := own_form hrow
  have hfb : ∀ k, (Value.slice fo ds.length fc).ownBlock = some k → k < w1.heap.size := fun k hk => (World.ownsRow.lt hrow k hk).2
  generalize hmm : fnd ds mainB = m at *
  have HAL : Hid (Below w1.heap.size w1 ((w1.alloc (Obj.cells #[.slice fo ds.length fc, .int .i64 bud, .int .i64 0, .slice none 0 0, .int .i64 0] 165)).alloc (Obj.cells #[.int .i64 3, .int .i64 m] 75))) := below_al2 _ _ _
  have hblk : ((w1.alloc (Obj.cells #[.slice fo ds.length fc, .int .i64 bud, .int .i64 0, .slice none 0 0, .int .i64 0] 165)).alloc (Obj.cells #[.int .i64 3, .int .i64 m] 75)).heap[w1.heap.size]? = some (.cells #[.slice fo ds.length fc, .int .i64 bud, .int .i64 0, .slice none 0 0, .int .i64 0] 165 (0, 0)) := (Below.heap_alloc _ _ _ (by simp)).trans (heap_alloc_new w1 _)
  have HRX : Hid (Rd ((w1.alloc (Obj.cells #[.slice fo ds.length fc, .int .i64 bud, .int .i64 0, .slice none 0 0, .int .i64 0] 165)).alloc (Obj.cells #[.int .i64 3, .int .i64 m] 75)) w1.heap.size (.slice (some ⟨w1.heap.size + 1, 0, none⟩) 1 1) [(3, m)]) := by
    have := World.ownsRow_lit (w1.alloc (Obj.cells #[.slice fo ds.length fc, .int .i64 bud, .int .i64 0, .slice none 0 0, .int .i64 0] 165)) #[.int .i64 3, .int .i64 m] 1 (e := 75) (base := 0) (size := 2) (Nat.zero_le _) (by unfold maxLen; omega) rfl
    rw [World.size_alloc] at this
    exact Rd.own (l := [(3, m)]) this
  have HCW : Hid _ := HWT.out w1.heap.size w1.heap.size (.slice fo ds.length fc) (initI m) U _ _ [(3, m)] [] [] HE.out HG.out HZ.out ⟨_, [], by rw [HCB.out]; exact hblk, Nat.le_refl _, ⟨xs, ownsRow_old hrow HAL.out, hfb, hfl.keep HAL.out⟩, World.ownsRow_nil _ _ _ _, rfl, fun j v d hj => by simp at hj, fun d hd => by simp at hd⟩ ⟨rfl, fun i j d e p q h => by simp at h, fun i d p h => by simp at h, fun d hd => by simp at hd, fun i d p h => by simp at h, fun i d p h => by simp at h, fun i d p h => by simp at h⟩ (vL.cons (fun h => by simp at h) (vL.nil _)) rfl HRX.out
  clear hX hb1' hb0' hrow hfl hfb hblk HRX HE HG HZ HWT
  go_wp2_with fail
  refine (show Calls _ _ _ _ _ from HCW.out).mono ?_
  rintro e w4 ⟨v, D4, ρ4, l, rfl, hf4, hw4, _, hl4, _, hlu⟩
  clear HCW
  have HF4 : Hid (Fx w1.heap.size w1 w4) := (Fx.of HAL.out (Nat.le_refl _)).trans hf4
  have HX4 : Hid _ := (HF4.out.bel.block w.heap.size hwl).trans HXX.out
  have HB4 : Hid (Below w.heap.size w w4) := HB1.out.trans (HF4.out.bel.mono (by omega))
  obtain ⟨av, vs, hw4⟩ := hw4
  obtain ⟨_, _, c2, _, c4⟩ := hw4.cells
  have hg4 := hw4.lt
  have HR : Hid _ := rResult U.out U.stp l w1.heap.size v w4.drew (hl4.old (Below.drew (Below.refl _ _))) (fun h e => HNE.out h (by rw [← (hlu h).1, e]; rfl))
  have ek : U.out = 0 → hdI U.cur = imA ρ4 (hdI l) := fun h => by
    rw [← (hlu h).1]
    exact hd_im ρ4 (fun e => HNE.out h (by rw [← (hlu h).1, e]; rfl))
  have e1 : (if U.out = 0 then (if (hdI l).1 = 1 then 1 else 2) else U.out : Int) = (if U.out = 0 then (if (hdI U.cur).1 = 1 then 1 else 2) else U.out) := by
    by_cases h : U.out = 0
    · rw [if_pos h, if_pos h, ek h, imA_k]
    · rw [if_neg h, if_neg h]
  have e2 : (if U.out = 0 then (if (hdI l).1 = 1 then (hdI l).2 else 0) else 0 : Int) = (if U.out = 0 then (if (hdI U.cur).1 = 1 then (hdI U.cur).2 else 0) else 0) := by
    by_cases h : U.out = 0
    · rw [if_pos h, if_pos h, ek h, imA_k]
      by_cases h1 : (hdI l).1 = 1
      · rw [if_pos h1, if_pos h1, imA_ne (by rw [h1]; decide)]
      · rw [if_neg h1, if_neg h1]
    · rw [if_neg h, if_neg h]
  rw [e1, e2, ← HRA.out, ← HRB.out, ← HUS.out] at HR
  rw [← HUS.out] at c2
  obtain ⟨vo, vc, rfl⟩ := hl4.form
  clear e1 e2 ek hl4 hlu hw4 hf4 HNE HRA HRB HUS
  generalize U.out = uo at *
  generalize l.length = ll at *
  have hw4l : w.heap.size < w4.heap.size := (Array.getElem?_eq_some_iff.1 HX4.out).1
  go_wp2_with fail
  go_region_with (go_at_call 95; go_must (refine (show Calls _ _ _ _ _ from HR.out).mono ?_); rintro e w5 ⟨rfl, hb5⟩; have HX5 : Hid (w5.heap[w.heap.size]? = some (Obj.cells #[.int .i64 0, .int .i64 0, .int .i64 0] 31)) := (hb5.block w.heap.size hw4l).trans HX4.out; have HB5 : Hid (Below w.heap.size w w5) := HB4.out.trans ((Below.drew (Below.refl _ _)).trans (hb5.mono (by show w.heap.size ≤ w4.heap.size; omega))); clear hb5; obtain ⟨r0, r1, r2, z0, z1, z2, hl5⟩ := res_facts HX5.out)
  all_goals
    go_wp2_with fail
    obtain ⟨q0, q1, q2⟩ := cells_three w5 w.heap.size _ _ _ _ (.int .i64 ra) (.int .i64 rb) (.int .i64 us) HX5.out
    exact bodyPost_ret (v := .tuple #[.agg #[.int .i64 ra, .int .i64 rb, .int .i64 us], .int .i64 0]) (by simp [results, Tryz.results58, go_sem, q0, q1, q2]) rfl ⟨rfl, ((HB5.out.setCell (by exact Nat.le_refl _) _).setCell (by exact Nat.le_refl _) _).setCell (by exact Nat.le_refl _) _⟩

end Go.Proofs.YtnndoagpbcacdaaGreatDoor
