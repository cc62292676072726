import Derived.Test.YtnndoagpbcacdaaGreatDoorMK5
namespace Go.Proofs.YtnndoagpbcacdaaGreatDoor
open Go.RowKit

/-- The code of a program. -/
def tpOf (ds : List Df) (d : Df) : Tp := ⟨d.ps.length, cutLs d.ps ds d.body⟩
def codeOf (ds : List Df) : Cd := ⟨fnd ds mainB, ds.map (tpOf ds)⟩
def cmpL (s : ByteArray) : List UInt8 := if (chk s).2 = 0 then wrL (codeOf (cAll (toksF s 0)).ds) else []
def cmpE (s : ByteArray) : Int := if (chk s).2 = 0 then wrE (codeOf (cAll (toksF s 0)).ds) else (chk s).2
theorem two_later_drew {w w1 : World} {o o2 : Obj} (hb : Below ((w.alloc o).alloc o2).drew.heap.size ((w.alloc o).alloc o2).drew w1) : w1.heap[w.heap.size]? = some o ∧ w1.heap[w.heap.size + 1]? = some o2 :=
  two_later (w1 := w1) ((Below.drew (Below.refl _ _)).trans hb)

set_option maxRecDepth 100000 in
set_option maxHeartbeats 4000000 in
theorem sCompile (s : ByteArray) (w : World) (hs : s.size ≤ maxLen) (ht : Tab w)
    (hds : (chk s).2 = 0 → (cAll (toksF s 0)).ds.length ≤ 1000 ∧ ∀ d ∈ (cAll (toksF s 0)).ds, DfOk d ∧ ∀ t ∈ d.body, kindOf t.txt = 2 → t.txt.size ≤ 6 ∧ digL t.txt.data.toList) :
    Calls Tryz.prog 25 #[.string s] w fun e w' => ∃ x : ByteArray, e = .returned (.tuple #[.string x, .int .i64 (cmpE s)]) ∧ x.data.toList = cmpL s ∧ x.size ≤ 20000 ∧ Below w.heap.size w w' := by
  by_cases h0 : (chk s).2 = 0
  · obtain ⟨hdl, hdo⟩ := hds h0
    have HE : Hid (cmpE s = wrE (codeOf (cAll (toksF s 0)).ds)) := by show _ = _; unfold cmpE; rw [if_pos h0]
    have HL : Hid (cmpL s = wrL (codeOf (cAll (toksF s 0)).ds)) := by show _ = _; unfold cmpL; rw [if_pos h0]
    rw [HE.out, HL.out]
    clear hds HE HL
    generalize hQ1 : wrE (codeOf (cAll (toksF s 0)).ds) = RE
    generalize hQ2 : wrL (codeOf (cAll (toksF s 0)).ds) = RL
    have HQ1 : Hid (wrE (codeOf (cAll (toksF s 0)).ds) = RE) := hQ1
    have HQ2 : Hid (wrL (codeOf (cAll (toksF s 0)).ds) = RL) := hQ2
    clear hQ1 hQ2
    have HT : Hid (Tab w) := ht
    clear ht
    obtain ⟨i, hi, hz0, hz1, hz2⟩ := info_parts Tryz.infoTemplate
    go_enter Tryz.func25, Tryz.ntmps25
    go_wp2_with fail
    refine (sParse s _ hs).mono ?_
    rintro e w1 ⟨lv, rfl, hb1, hdr⟩
    rcases hdr with ⟨hne, _⟩ | ⟨_, hs2, xs, hdr⟩
    · exact absurd h0 hne
    rw [h0]
    have HDO : Hid _ := hdo
    clear hdo h0
    generalize (cAll (toksF s 0)).ds = ds at *
    obtain ⟨ao, cap, rfl⟩ := own_form hdr.row
    have HF : Hid _ := sFindFunction _ ds xs w1.heap.size mainB w1 (by omega) hdr (Nat.le_refl _)
    go_wp2_with fail
    refine (show Calls _ _ _ _ _ from HF.out).mono ?_
    rintro e w2 ⟨rfl, hb2⟩
    clear HF
    have hb2' := hb1.trans (hb2.mono hb1.size)
    have hdr2 := hdr.old (Nat.le_refl _) hb2
    have hT2 := hb2.size
    have HT2 : Hid (Tab w2) := Tab.below HT.out hb2'
    clear hdr hb1 hb2 HT
    generalize hM : fnd ds mainB = mn
    have HM : Hid (fnd ds mainB = mn) := hM
    clear hM
    go_wp2_with fail
    go_loopw [25] (fun a wr => ∃ (k T : Nat) (fv : Value) (ys : List Value), k ≤ ds.length ∧ a = .int .i64 k ∧ Below w2.heap.size w2 wr ∧ wr.heap[w2.heap.size]? = some (.cells #[.int .i64 mn, fv] 57 (0, 0)) ∧ w2.heap.size < T ∧ T ≤ wr.heap.size ∧ wr.ownsRow (w2.heap.size + 1) 78 2 fv k ys ∧ FuOw wr T ((ds.take k).map (tpOf ds)) ys) (fun a _ => ds.length - (intOf a).toNat)
    case atStart => exact ⟨0, w2.heap.size + 1, .slice none 0 0, [], Nat.zero_le _, rfl, (Below.refl _ _).alloc (Nat.le_refl _) _, heap_alloc_new w2 _, by omega, by simp, World.ownsRow_nil _ _ _ _, rfl⟩
    case round =>
      obtain ⟨k, T, fv, ys, hk, rfl, hb, hbox, hlo, hhi, hrow, hfu⟩ := hrel
      have hbsz := hb.size
      have hwlt : w2.heap.size < wr.heap.size := by omega
      have C0 := cell_of_row wr w2.heap.size 0 _ _ _ hbox
      have C1 := cell_of_row wr w2.heap.size 1 _ _ _ hbox
      simp only [List.getElem?_toArray, List.getElem?_cons_succ, List.getElem?_cons_zero] at C0 C1
      obtain ⟨fo, fcap, rfl⟩ := own_form hrow
      have hvr := hdr2.old hT2 hb
      by_cases hlt : k < ds.length
      · obtain ⟨q, cap', hq, _, hqlt⟩ := hdr2.row.form (by omega)
        cases hq
        obtain ⟨pv, bv, t0, t1, t2, t3, t4, hd⟩ := hvr.all.at k hlt
        have d0 := row_cell hvr.row _ _ t0
        have d1 := row_cell hvr.row _ _ t1
        have d2 := row_cell hvr.row _ _ t2
        have d3 := row_cell hvr.row _ _ t3
        have d4 := row_cell hvr.row _ _ t4
        obtain ⟨o1, p1, rfl⟩ := own_form hd.1
        obtain ⟨o2, p2, rfl⟩ := own_form hd.2.1
        clear t0 t1 t2 t3 t4
        obtain ⟨hdk, hnk⟩ := HDO.out ds[k] (List.getElem_mem hlt)
        have hlp := hdk.lp
        have HC : Hid _ := fun w' (hw : Below wr.heap.size wr w') => sCutLines ds xs (.slice (some ⟨q, 0, none⟩) ds.length cap) w1.heap.size ds[k] (.slice o1 ds[k].ps.length p1) (.slice o2 ds[k].body.length p2) w' hdl hlp hdk.lb (hvr.old (by omega) hw) (by have := hw.size; omega) (hd.keep (hw.mono (by omega))) hnk
        have HTP : Hid (tpOf ds ds[k] = ⟨ds[k].ps.length, cutLs ds[k].ps ds ds[k].body⟩) := rfl
        have HMP : Hid _ := map_snoc (tpOf ds) ds k hlt
        generalize cutLs ds[k].ps ds ds[k].body = CL at *
        have HC2 : Hid (Calls Tryz.prog 39 #[.slice (some ⟨q, 0, none⟩) ds.length cap, .agg #[.int .i64 (kindOf ds[k].name.txt), .int .i64 ds[k].name.pos, .string ds[k].name.txt, .slice o1 ds[k].ps.length p1, .slice o2 ds[k].body.length p2]] (wr.alloc (Obj.cells #[.int .i64 (kindOf ds[k].name.txt), .int .i64 ds[k].name.pos, .string ds[k].name.txt, .slice o1 ds[k].ps.length p1, .slice o2 ds[k].body.length p2] 87)).drew fun e w3 => ∃ a b, e = .returned (.slice a CL.length b) ∧ w3.cell? ⟨wr.heap.size, 3, none⟩ = some (.slice o1 ds[k].ps.length p1) ∧ wr.heap.size < w3.heap.size ∧ Hid (Below wr.heap.size wr w3 ∧ LinesOw w3 w3.heap.size (.slice a CL.length b) CL)) := by
          refine (show Calls _ _ _ _ _ from HC.out _ (Below.drew ((Below.refl _ _).alloc (Nat.le_refl _) _))).mono ?_
          rintro e w3 ⟨lv3, rfl, hb3, how3⟩
          obtain ⟨lo3, lc3, hlv3⟩ : ∃ a b, lv3 = .slice a CL.length b := by obtain ⟨vs, h1, _⟩ := how3; obtain ⟨a, b, e⟩ := own_form h1; exact ⟨a, b, e⟩
          subst hlv3
          have hbx3 := box_later hb3
          exact ⟨lo3, lc3, rfl, by rw [cell_of_row w3 wr.heap.size 3 _ _ _ hbx3]; rfl, (Array.getElem?_eq_some_iff.1 hbx3).1, (Below.drew ((Below.refl _ _).alloc (Nat.le_refl _) _)).trans (hb3.mono (by simp [heap_drew])), how3⟩
        have HC3 : Hid (Calls Tryz.prog 39 #[.slice (some ⟨q, 0, none⟩) ds.length cap, .agg #[.int .i64 (kindOf ds[k].name.txt), .int .i64 ds[k].name.pos, .string ds[k].name.txt, .slice o1 ds[k].ps.length p1, .slice o2 ds[k].body.length p2]] ((wr.alloc (Obj.cells #[.int .i64 (kindOf ds[k].name.txt), .int .i64 ds[k].name.pos, .string ds[k].name.txt, .slice o1 ds[k].ps.length p1, .slice o2 ds[k].body.length p2] 87)).alloc (Obj.cells #[.int .i64 0, .slice none 0 0] 78)).drew fun e w3 => ∃ a b, e = .returned (.slice a CL.length b) ∧ w3.cell? ⟨wr.heap.size, 3, none⟩ = some (.slice o1 ds[k].ps.length p1) ∧ wr.heap.size < w3.heap.size ∧ w3.cell? ⟨wr.heap.size + 1, 0, none⟩ = some (.int .i64 0) ∧ w3.cell? ⟨wr.heap.size + 1, 1, none⟩ = some (.slice none 0 0) ∧ w3.frozen? ⟨wr.heap.size + 1, 0, none⟩ = false ∧ w3.frozen? ⟨wr.heap.size + 1, 1, none⟩ = false ∧ Hid (w3.heap[wr.heap.size + 1]? = some (.cells #[.int .i64 0, .slice none 0 0] 78 (0, 0))) ∧ Hid (Below wr.heap.size wr w3 ∧ LinesOw w3 w3.heap.size (.slice a CL.length b) CL)) := by
          refine (show Calls _ _ _ _ _ from HC.out _ (Below.drew (((Below.refl _ _).alloc (Nat.le_refl _) _).alloc (by simp) _))).mono ?_
          rintro e w3 ⟨lv3, rfl, hb3, how3⟩
          obtain ⟨lo3, lc3, hlv3⟩ : ∃ a b, lv3 = .slice a CL.length b := by obtain ⟨vs, h1, _⟩ := how3; obtain ⟨a, b, e⟩ := own_form h1; exact ⟨a, b, e⟩
          subst hlv3
          obtain ⟨x1, x2⟩ := two_later_drew hb3
          exact ⟨lo3, lc3, rfl, by rw [cell_of_row w3 wr.heap.size 3 _ _ _ x1]; rfl, (Array.getElem?_eq_some_iff.1 x1).1, by rw [cell_of_row w3 (wr.heap.size + 1) 0 _ _ _ x2]; rfl, by rw [cell_of_row w3 (wr.heap.size + 1) 1 _ _ _ x2]; rfl, frozen_of_row w3 _ 0 _ _ x2, frozen_of_row w3 _ 1 _ _ x2, x2, (Below.drew (((Below.refl _ _).alloc (Nat.le_refl _) _).alloc (by simp) _)).trans (hb3.mono (by simp [heap_drew]; omega)), how3⟩
        clear hvr hd hdk hnk HC
        go_wp2_with fail
        go_cut [10] (fun vx wc => ∃ (c : Nat) (lv : Value), vx = .pointer (some ⟨c, 0, none⟩) ∧ wc.heap[c]? = some (.cells #[.int .i64 ds[k].ps.length, lv] 78 (0, 0)) ∧ wr.heap.size ≤ c ∧ Below wr.heap.size wr wc ∧ LinesOw wc wc.heap.size lv CL)
        case first =>
          go_region_with (go_at_call 39; first
            | (refine (show Calls _ _ _ _ _ from HC2.out).mono ?_; rintro e w3 ⟨lo3, lc3, rfl, y3, hsz3, HW3⟩)
            | (refine (show Calls _ _ _ _ _ from HC3.out).mono ?_; rintro e w3 ⟨lo3, lc3, rfl, y3, hsz3, z0, z1, fz0, fz1, HZB, HW3⟩))
          all_goals
            go_wp2_with fail
            go_meet
            case rel =>
              first
              | exact ⟨w3.heap.size, _, rfl, heap_alloc_new w3 _, by omega, HW3.out.1.alloc (by omega) _, (HW3.out.2.keep ((Below.refl _ _).alloc (Nat.le_refl _) _)).up (by simp)⟩
              | exact ⟨wr.heap.size + 1, _, rfl, blk_set _ (blk_set _ HZB.out), by omega, (HW3.out.1.setCell (by show wr.heap.size ≤ wr.heap.size + 1; omega) _).setCell (by show wr.heap.size ≤ wr.heap.size + 1; omega) _, (HW3.out.2.setT HZB.out |>.setT (blk_set _ HZB.out)).up (by simp [World.setCell])⟩
        case rest =>
          obtain ⟨c, lv3, rfl, hcb, hcge, hbc, how⟩ := hcut
          clear HC2 HC3 d0 d1 d2 d3 d4 C0 C1
          have hbox2 := (hbc.block w2.heap.size hwlt).trans hbox
          have C1 := cell_of_row wc w2.heap.size 1 _ _ _ hbox2
          have D0 := cell_of_row wc c 0 _ _ _ hcb
          have D1 := cell_of_row wc c 1 _ _ _ hcb
          simp only [List.getElem?_toArray, List.getElem?_cons_succ, List.getElem?_cons_zero] at C1 D0 D1
          have hrow2 := ownsRow_old hrow hbc
          have hfu2 := (hfu.keep (hbc.mono hhi)).up (Nat.le_trans hhi hbc.size)
          have hcsz := hbc.size
          obtain ⟨lo3, lc3, hlv3⟩ : ∃ a b, lv3 = .slice a CL.length b := by obtain ⟨vs, h1, _⟩ := how; obtain ⟨a, b, e⟩ := own_form h1; exact ⟨a, b, e⟩
          subst hlv3
          go_wp2_with (at_builtin; go_must (refine wpList_append_lies _ rfl _ _ _ rfl (w2.heap.size + 1) 78 i _ 2 32 Tryz.underlying55 hi hz0 hz1 hz2 rfl (by omega) (.slice fo k fcap) k ys rfl ?hown _ 1 _ [.int .i64 ds[k].ps.length, .slice lo3 CL.length lc3] rfl rfl ?hnews ?h1 (by omega) ?h63 ?hbytes ?hbase _ rfl ?_))
          case hown => exact hrow2.alloc _
          case hnews => exact World.news_of_block (heap_alloc_new wc _)
          case h1 => simp [Value.oneCell']
          case h63 => unfold maxLen; omega
          case hbytes => omega
          case hbase => simp; omega
          intro g cap2 w4 hown4 hgrow4 hat4 hlt4
          have hbox4 := grown_type (hrow2.alloc _) hgrow4 (by decide) ((Below.heap_alloc wc _ _ (by omega)).trans hbox2)
          have E1 := cell_of_row w4 w2.heap.size 1 _ _ _ hbox4
          simp only [List.getElem?_toArray, List.getElem?_cons_succ, List.getElem?_cons_zero] at E1
          have f1 := frozen_of_row w4 w2.heap.size 1 _ _ hbox4
          have hbel4 : Below w2.heap.size w2 w4 := ((hb.trans (hbc.mono hbsz)).alloc (by omega) _).grown hgrow4 (by simp; omega) (fun k hk => by have := (hrow2.lt k hk).1; omega)
          have hfu4 : FuOw w4 wc.heap.size ((ds.take (k + 1)).map (tpOf ds)) (ys ++ [.int .i64 ds[k].ps.length, .slice lo3 CL.length lc3]) := by
            rw [HMP.out, HTP.out]
            exact FuOw.type (hrow2.alloc _) hgrow4 ((FuOw.snoc (t := ⟨ds[k].ps.length, CL⟩) how hfu2).keep ((Below.refl _ _).alloc (Nat.le_refl _) _))
          have hsz4 := hgrow4.size
          simp only [World.size_alloc] at hsz4
          clear hgrow4 hat4 hlt4 C1 D0 D1
          go_wp2_with fail
          go_roundw
          case rel => exact ⟨k + 1, wc.heap.size, _, _, hlt, by go_num, hbel4.setCell (by exact Nat.le_refl _) _, blk_set _ hbox4, by omega, by simp [World.setCell]; omega, ownsRow_set hown4 hbox4 (by decide), FuOw.set hbox4 hfu4⟩
          case measure => simp [intOf]; omega
      · have hk2 : k = ds.length := by omega
        subst hk2
        rw [List.take_length] at hfu
        have hfr : FunsRd wr wr.heap.size (.slice fo ds.length fcap) (codeOf ds).fs := FuOw.rd (by simp only [codeOf, List.length_map]; exact ownsRow_base hrow (Nat.zero_le _)) (fun k hk => (hrow.lt k hk).2) (hfu.up hhi)
        have HW : Hid _ := pWrite (codeOf ds) _ wr.heap.size wr (Nat.le_refl _) hfr (Tab.below HT2.out hb)
        have HMN : Hid ((codeOf ds).mn = mn) := HM.out
        rw [HMN.out, HQ1.out, HQ2.out] at HW
        clear hfr hfu
        go_wp2_with fail
        refine (show Calls _ _ _ _ _ from HW.out).mono ?_
        rintro e w3 ⟨x, rfl, hx, hxs, hb3⟩
        go_wp2_with fail
        go_ret2
        exact ⟨x, rfl, hx, hxs, hb2'.trans ((hb.trans (hb3.mono hbsz)).mono hb2'.size)⟩
  · have h0' : ((chk s).2 == 0) = false := by simpa using h0
    have HE : Hid (cmpE s = (chk s).2) := by show _ = _; unfold cmpE; rw [if_neg h0]
    have HS : Hid (cmpL s = []) := by show _ = _; unfold cmpL; rw [if_neg h0]
    rw [HE.out]
    go_enter Tryz.func25, Tryz.ntmps25
    go_wp2_with fail
    refine (sParse s _ hs).mono ?_
    rintro e w1 ⟨lv, rfl, hb1, _⟩
    go_wp2_with fail
    go_ret2
    exact ⟨_, rfl, HS.out.symm, by decide, hb1⟩

end Go.Proofs.YtnndoagpbcacdaaGreatDoor
