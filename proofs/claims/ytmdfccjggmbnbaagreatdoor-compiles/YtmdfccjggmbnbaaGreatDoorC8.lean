import Derived.Test.YtmdfccjggmbnbaaGreatDoorC5
import Derived.Test.YtmdfccjggmbnbaaGreatDoorC4
import Derived.Test.YtmdfccjggmbnbaaGreatDoorP3
import Derived.Test.YtmdfccjggmbnbaaGreatDoorK7
namespace Go.Proofs.YtmdfccjggmbnbaaGreatDoor
open Go.RowKit

def SameCut (ds : List Df) : Prop := ∀ d ∈ ds, ∀ hd a, d.body = hd :: At.toks a → simp3 hd → a.ok → ownT (knownF d.ps (ds.map (·.name))) (.sim hd a) 0 :: restT (knownF d.ps (ds.map (·.name))) (.sim hd a) 0 = cutLs d.ps ds d.body

set_option maxRecDepth 100000 in
set_option maxHeartbeats 8000000 in
theorem rCode (s : ByteArray) (ds : List Df) (w : World) (hs2 : s.size ≤ 1000) (hp : Prog (toksF s 0) ds) (hdl : ds.length ≤ 1000) (hsc : SameCut ds) (hdo : ∀ d ∈ ds, DfOk d) :
    Calls Tryz.prog 52 #[.string s] w fun e w' => ∃ fv, e = .returned (.agg #[.int .i64 (codeOf ds).mn, fv]) ∧ Below w.heap.size w w' ∧ FunsRd w' w'.heap.size fv (codeOf ds).fs := by
  have HP : Hid _ := rProgram s ds (w.alloc (Obj.cells #[.int .i64 0, .slice none 0 0] 34)) hs2 hp
  have HSC : Hid _ := hsc
  have HDO : Hid _ := hdo
  clear hsc hdo hp
  obtain ⟨i, hi, hz0, hz1, hz2⟩ := info_parts Tryz.infoTemplate
  go_enter Tryz.func52, Tryz.ntmps52
  go_wp2_with fail
  refine (show Calls _ _ _ _ _ from HP.out).mono ?_
  rintro e w1 ⟨v, mm, rfl, hb1, hmm, xs, hrow, hfl⟩
  clear HP
  have HMM : Hid (mm = (codeOf ds).mn) := hmm
  clear hmm
  have hbr := box_later' hb1
  have hb1' : Below w.heap.size w w1 := ((Below.refl _ _).alloc (Nat.le_refl _) _).trans (hb1.mono (by simp))
  have hrlt : w.heap.size < w1.heap.size := (Array.getElem?_eq_some_iff.1 hbr).1
  clear hb1
  obtain ⟨lo, lcap, rfl⟩ := own_form hrow
  go_wp2_with fail
  go_loopw [6] (fun a wr => ∃ (k T : Nat) (fv : Value) (ys : List Value), k ≤ ds.length ∧ a = .int .i64 k ∧ Below w1.heap.size w1 wr ∧ wr.heap[w1.heap.size]? = some (.cells #[.int .i64 mm, fv] 34 (0, 0)) ∧ w1.heap.size < T ∧ T ≤ wr.heap.size ∧ wr.ownsRow (w1.heap.size + 1) 51 2 fv k ys ∧ FuOw wr T ((ds.take k).map (tpOf ds)) ys) (fun a _ => ds.length - (intOf a).toNat)
  case atStart => exact ⟨0, w1.heap.size + 1, .slice none 0 0, [], Nat.zero_le _, rfl, (Below.refl _ _).alloc (Nat.le_refl _) _, heap_alloc_new w1 _, by omega, by simp, World.ownsRow_nil _ _ _ _, rfl⟩
  case round =>
    obtain ⟨k, T, fv, ys, hk, rfl, hb, hbox, hlo, hhi, hfr, hfu⟩ := hrel
    have hbsz := hb.size
    have hwlt : w1.heap.size < wr.heap.size := by omega
    have C0 := cell_of_row wr w1.heap.size 0 _ _ _ hbox
    have C1 := cell_of_row wr w1.heap.size 1 _ _ _ hbox
    simp only [List.getElem?_toArray, List.getElem?_cons_succ, List.getElem?_cons_zero] at C0 C1
    obtain ⟨fo, fcap, rfl⟩ := own_form hfr
    by_cases hlt : k < ds.length
    · obtain ⟨qd, cd, hqd, _, hqdl⟩ := hrow.form (by omega)
      cases hqd
      have hdm := List.getElem_mem hlt
      obtain ⟨_, _, _, hlp, hlb⟩ := HDO.out ds[k] hdm
      have hr4 := ownsRow_old hrow hb
      obtain ⟨psv, bv, t0, t1, t2, hfo⟩ := (hfl.keep hb).at k hlt
      have d2 := row_cell hr4 _ _ t2
      obtain ⟨hpr, hplt, ⟨hd0, a0, zs, hbody, hsh, hao, hbrw, her⟩, hblt⟩ := hfo
      have HBD : Hid _ := HSC.out ds[k] hdm hd0 a0 hbody hsh hao
      have hba : a0.toks.length < 1001 := by have h1 := congrArg List.length hbody; simp at h1; omega
      have HC : Hid _ := rLines ds[k].ps (ds.map (·.name)) 1002 (.sim hd0 a0) zs bv 0 wr (by simp [At.toks]; omega) (by omega) (by simp [At.toks]; omega) hbrw (ER.keep (fun k _ => rfl) (fun k hk => by omega) her)
      rw [HBD.out] at HC
      have HT1 : Hid _ := t1
      have HMP : Hid _ := map_snoc (tpOf ds) ds k hlt
      have HTP : Hid (tpOf ds ds[k] = ⟨ds[k].ps.length, cutLs ds[k].ps ds ds[k].body⟩) := rfl
      obtain ⟨po, pcap, rfl⟩ := own_form hpr
      obtain ⟨bo, bcap, rfl⟩ := own_form hbrw
      generalize cutLs ds[k].ps ds ds[k].body = CL at *
      clear t0 t1 t2 hr4 hbody her hbrw hpr
      go_wp2_with fail
      refine (show Calls _ _ _ _ _ from HC.out).mono ?_
      rintro e w3 ⟨lv3, rfl, hb3, hlb3⟩
      clear HC d2 C0 C1
      have how := hlb3.ow
      obtain ⟨lo3, lc3, hlv3⟩ : ∃ a b, lv3 = .slice a CL.length b := by obtain ⟨vs, h1, _⟩ := how; obtain ⟨a, b, e⟩ := own_form h1; exact ⟨a, b, e⟩
      subst hlv3
      have hbw3 : Below w1.heap.size w1 w3 := hb.trans (hb3.mono hbsz)
      have hbox2 := (hb3.block w1.heap.size hwlt).trans hbox
      have C1 := cell_of_row w3 w1.heap.size 1 _ _ _ hbox2
      simp only [List.getElem?_toArray, List.getElem?_cons_succ, List.getElem?_cons_zero] at C1
      have d1 := row_cell (ownsRow_old hrow hbw3) _ _ HT1.out
      have hfr2 := ownsRow_old hfr hb3
      have hfu2 := (hfu.keep (hb3.mono hhi)).up (Nat.le_trans hhi hb3.size)
      have hcsz := hb3.size
      have hw3 : w1.heap.size < w3.heap.size := by omega
      have hq3 : qd < w3.heap.size := by omega
      have HQ1 : Hid ((w3.alloc (Obj.cells #[.int .i64 ds[k].ps.length, .slice lo3 CL.length lc3] 51)).drew.ownsRow (w1.heap.size + 1) 51 2 (.slice fo k fcap) k ys) := World.ownsRow.drew (hfr2.alloc (Obj.cells #[.int .i64 ds[k].ps.length, .slice lo3 CL.length lc3] 51))
      have HQ2 : Hid ((w3.alloc (Obj.cells #[.int .i64 ds[k].ps.length, .slice lo3 CL.length lc3] 51)).drew.heap[w1.heap.size]? = some (.cells #[.int .i64 mm, .slice fo k fcap] 34 (0, 0))) := by
        show (w3.alloc _).heap[w1.heap.size]? = _
        exact (Below.heap_alloc w3 _ _ (by omega)).trans hbox2
      have HQ3 : Hid (FuOw (w3.alloc (Obj.cells #[.int .i64 ds[k].ps.length, .slice lo3 CL.length lc3] 51)).drew w3.heap.size ((ds.take (k + 1)).map (tpOf ds)) (ys ++ [.int .i64 ds[k].ps.length, .slice lo3 CL.length lc3])) := by
        show FuOw _ _ _ _
        rw [HMP.out, HTP.out]
        exact ((FuOw.snoc (t := ⟨ds[k].ps.length, CL⟩) how hfu2).keep ((Below.refl _ _).alloc (Nat.le_refl _) _)).keep (Below.drew (Below.refl _ _))
      have HQ4 : Hid (Below w1.heap.size w1 (w3.alloc (Obj.cells #[.int .i64 ds[k].ps.length, .slice lo3 CL.length lc3] 51)).drew) := Below.drew (hbw3.alloc (by omega) _)
      clear how hlb3
      go_wp2_with fail
      go_region_law ((refine step_append_lies _ (by rfl) _ _ _ (by rfl) (w1.heap.size + 1) 51 i _ 2 32 Tryz.underlying32 hi hz0 hz1 hz2 rfl (by omega) (.slice fo k fcap) k ys (by rfl) (by exact HQ1.out) _ 1 _ [.int .i64 ds[k].ps.length, .slice lo3 CL.length lc3] (by rfl) rfl (by exact World.news_of_block (heap_alloc_new w3 _)) (by simp [Value.oneCell']) (by omega) (by unfold maxLen; omega) (by omega) (by simp; omega) _ rfl ?_; intro g cap2 w4 hown4 hgrow4 hat4 hlt4; have HX4 : Hid _ := grown_type HQ1.out hgrow4 (by decide) HQ2.out; have HF4 : Hid _ := FuOw.type HQ1.out hgrow4 HQ3.out; have HB4 : Hid _ := HQ4.out.grown hgrow4 (by simp [heap_drew]; omega) (fun k hk => by have := (World.ownsRow.lt HQ1.out k hk).1; omega); have HO4 : Hid _ := hown4; have E1 := cell_of_row w4 w1.heap.size 1 _ _ _ HX4.out; simp only [List.getElem?_toArray, List.getElem?_cons_succ, List.getElem?_cons_zero] at E1; have f1 := frozen_of_row w4 w1.heap.size 1 _ _ HX4.out; have hsz4 := hgrow4.size; simp only [heap_drew, World.size_alloc] at hsz4; clear hown4 hgrow4 hat4 hlt4))
      all_goals
        go_wp2_with fail
        go_roundw
        case rel => exact ⟨k + 1, w3.heap.size, _, _, hlt, by go_num, HB4.out.setCell (by exact Nat.le_refl _) _, blk_set _ HX4.out, by omega, by simp [World.setCell]; omega, ownsRow_set HO4.out HX4.out (by decide), FuOw.set HX4.out HF4.out⟩
        case measure => simp [intOf]; omega
    · have hk2 : k = ds.length := by omega
      subst hk2
      rw [List.take_length] at hfu
      have hbr2 := (hb.block w.heap.size hrlt).trans hbr
      have R0 := cell_of_row wr w.heap.size 0 _ _ _ hbr2
      have R1 := cell_of_row wr w.heap.size 1 _ _ _ hbr2
      simp only [List.getElem?_toArray, List.getElem?_cons_succ, List.getElem?_cons_zero] at R0 R1
      have f0 := frozen_of_row wr w.heap.size 0 _ _ hbr2
      have f1 := frozen_of_row wr w.heap.size 1 _ _ hbr2
      have q0 : (wr.setCell ⟨w.heap.size, 0, none⟩ (.int .i64 mm)).cell? ⟨w.heap.size, 0, none⟩ = some (.int .i64 mm) := by rw [cell_of_row _ _ _ _ _ _ (blk_set _ hbr2)]; rfl
      have q1 : ((wr.setCell ⟨w.heap.size, 0, none⟩ (.int .i64 mm)).setCell ⟨w.heap.size, 1, none⟩ (.slice fo ds.length fcap)).cell? ⟨w.heap.size, 1, none⟩ = some (.slice fo ds.length fcap) := by rw [cell_of_row _ _ _ _ _ _ (blk_set _ (blk_set _ hbr2))]; rfl
      have hne : w1.heap.size ≠ w.heap.size := by omega
      go_wp2_with fail
      refine bodyPost_ret (v := .agg #[.int .i64 mm, .slice fo ds.length fcap]) (by simp [results, Tryz.results52, go_sem, q0, q1]) rfl ⟨_, by rw [HMM.out], ?_, ?_⟩
      · exact (((hb1'.trans (hb.mono hb1'.size)).setCell (by exact Nat.le_refl _) _).setCell (by exact Nat.le_refl _) _)
      · refine FuOw.rd ?_ ?_ (FuOw.up ?_ (FuOw.set (blk_set _ hbr2) (FuOw.set hbr2 hfu)))
        · simp only [codeOf, List.length_map]
          exact ownsRow_set (ownsRow_set (ownsRow_base hfr (Nat.zero_le _)) hbr2 (by decide)) (blk_set _ hbr2) (by decide)
        · intro k hk; have := (hfr.lt k hk).2; simpa [World.setCell] using this
        · simpa [World.setCell] using hhi

set_option maxRecDepth 100000 in
set_option maxHeartbeats 4000000 in
theorem rCompile (s : ByteArray) (w : World) (hs : s.size ≤ maxLen) (hchk : (chk s).2 = 0 → s.size ≤ 1000 ∧ Prog (toksF s 0) (cAll (toksF s 0)).ds ∧ (cAll (toksF s 0)).ds.length ≤ 1000 ∧ SameCut (cAll (toksF s 0)).ds ∧ ∀ d ∈ (cAll (toksF s 0)).ds, DfOk d) :
    Calls Tryz.prog 29 #[.string s] w fun e w' => ∃ x : ByteArray, e = .returned (.tuple #[.string x, .int .i64 (cmpE s)]) ∧ x.data.toList = cmpL s ∧ x.size ≤ 20000 ∧ Below w.heap.size w w' := by
  by_cases h0 : (chk s).2 = 0
  · obtain ⟨hs2, hpc, hdl, hsc, hdo⟩ := hchk h0
    have HE : Hid (cmpE s = wrE (codeOf (cAll (toksF s 0)).ds)) := by show _ = _; unfold cmpE; rw [if_pos h0]
    have HL : Hid (cmpL s = wrL (codeOf (cAll (toksF s 0)).ds)) := by show _ = _; unfold cmpL; rw [if_pos h0]
    rw [HE.out, HL.out]
    clear hchk HE HL
    have HCD : Hid _ := fun w => rCode s (cAll (toksF s 0)).ds w hs2 hpc hdl hsc hdo
    clear hpc hdl hsc hdo
    generalize codeOf (cAll (toksF s 0)).ds = CO at *
    go_enter Tryz.func29, Tryz.ntmps29
    go_wp2_with fail
    refine (rCheck s _ hs).mono ?_
    rintro e w1 ⟨rfl, hb1⟩
    rw [h0]
    go_wp2_with fail
    refine (show Calls _ _ _ _ _ from HCD.out _).mono ?_
    rintro e w2 ⟨fv, rfl, hb2, hfr⟩
    clear HCD
    have hb2' := hb1.trans (hb2.mono hb1.size)
    have HW : Hid _ := rWrite CO fv w2.heap.size (w2.alloc (Obj.cells #[.int .i64 CO.mn, fv] 34)) (by simp) (hfr.keep ((Below.refl _ _).alloc (Nat.le_refl _) _))
    obtain ⟨fo, fcap, rfl, _, _, _⟩ := hfr
    go_wp2_with fail
    refine (show Calls _ _ _ _ _ from HW.out).mono ?_
    rintro e w3 ⟨x, rfl, hx, hxs, hb3⟩
    go_wp2_with fail
    go_ret2
    exact ⟨x, rfl, hx, hxs, hb2'.trans ((((Below.refl _ _).alloc (Nat.le_refl _) _).trans (hb3.mono (by simp))).mono hb2'.size)⟩
  · have h0' : ((chk s).2 == 0) = false := by simpa using h0
    have HE : Hid (cmpE s = (chk s).2) := by show _ = _; unfold cmpE; rw [if_neg h0]
    have HS : Hid (cmpL s = []) := by show _ = _; unfold cmpL; rw [if_neg h0]
    rw [HE.out]
    go_enter Tryz.func29, Tryz.ntmps29
    go_wp2_with fail
    refine (rCheck s _ hs).mono ?_
    rintro e w1 ⟨rfl, hb1⟩
    go_wp2_with fail
    go_ret2
    exact ⟨_, rfl, HS.out.symm, by decide, hb1⟩

end Go.Proofs.YtmdfccjggmbnbaaGreatDoor
