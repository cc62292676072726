import Derived.Test.YtnndoagpbcacdaaGreatDoorMF4
namespace Go.Proofs.YtnndoagpbcacdaaGreatDoor
open Go.RowKit

/-! The reference's Sense: called. -/
theorem tpl_at {c : Cf} {F : Nat} {t : Tp} (h : c.fs[F]? = some t) : tplM c (F : Int) = t := by
  have hl := (List.getElem?_eq_some_iff.1 h).1
  unfold tplM
  rw [if_pos ⟨by omega, by omega⟩, Int.toNat_natCast, h]
  rfl
theorem res_facts3 {w : World} {b : Nat} {a0 a1 a2 : Value} {t : TypeId} (h : w.heap[b]? = some (.cells #[a0, a1, a2] t (0, 0))) : w.cell? ⟨b, 0, none⟩ = some a0 ∧ w.cell? ⟨b, 1, none⟩ = some a1 ∧ w.cell? ⟨b, 2, none⟩ = some a2 ∧ w.frozen? ⟨b, 0, none⟩ = false ∧ w.frozen? ⟨b, 1, none⟩ = false ∧ w.frozen? ⟨b, 2, none⟩ = false ∧ b < w.heap.size :=
  ⟨by rw [cell_of_row _ _ 0 _ _ _ h]; rfl, by rw [cell_of_row _ _ 1 _ _ _ h]; rfl, by rw [cell_of_row _ _ 2 _ _ _ h]; rfl, frozen_of_row _ _ _ _ _ h, frozen_of_row _ _ _ _ _ h, frozen_of_row _ _ _ _ _ h, (Array.getElem?_eq_some_iff.1 h).1⟩
set_option maxRecDepth 100000 in
set_option maxHeartbeats 4000000 in
theorem eCalled (T g : Nat) (fv : Value) (nm : List Tk) (ds : List Df) (c : Cf) (s : Im) (w : World) (iv : Value) (F : Nat) (lr : Ln) (D : List Dl) (ρ : List Nat) (t : Tp) (d : Df) (hcx : Cx nm ds c) (htF : c.fs[F]? = some t) (hdF : ds[F]? = some d) (htg : TGo c t)
    (ho : s.out = 0) (hst : 0 ≤ s.stp) (hnd : (s.nds.length : Int) ≤ 12 * s.stp) (hw : SnP w T g fv nm ds c.bud D s.stp 0) (hsm : Smr nm D ρ s.nds (opsK s.ks)) (hv : vL D.length lr) (hr : Rd w T iv ((3, (F : Int)) :: lr)) (har : d.ps.length ≤ lr.length) (hll : lr.length ≤ 9000000) :
    Calls Tryz.prog 145 #[.pointer (some ⟨g, 0, none⟩), iv] w fun e w' => ∃ v D' ρ' l', e = .returned v ∧ Fx T w w' ∧ SnP w' T g fv nm ds c.bud D' (callI c t (imL ρ lr) s).stp (callI c t (imL ρ lr) s).out ∧ Exd D D' ρ ρ' ∧ Rd w' T v l' ∧ ((callI c t (imL ρ lr) s).out = 0 → imL ρ' l' = (callI c t (imL ρ lr) s).cur ∧ vL D'.length l' ∧ Smr nm D' ρ' (callI c t (imL ρ lr) s).nds (opsK s.ks)) := by
  obtain ⟨hta, hdp, hdb, hls⟩ := hcx.tp F d t hdF htF
  have hFl := (List.getElem?_eq_some_iff.1 hdF).1
  have hdl := hcx.dl
  obtain ⟨av, vs, hw⟩ := hw
  obtain ⟨xs, hf1, hf2, hf3⟩ := hw.fu
  have hdd : ds[F] = d := by rw [List.getElem?_eq_getElem hFl] at hdF; exact Option.some.inj hdF
  obtain ⟨psv, bv, y0, y1, y2, hfo⟩ := FList.at hf3 F hFl
  rw [hdd] at y0 hfo
  obtain ⟨hh, a, zs, hbody, hs3, hok, hbr, hber⟩ := hfo.body
  have htls := hls hh a hbody hs3 hok
  obtain ⟨qf, capf, rfl, _, hqfl⟩ := hf1.form (by omega)
  have f0 := row_cell hf1 _ _ y0
  have f1 := row_cell hf1 _ _ y1
  have f2 := row_cell hf1 _ _ y2
  have hcapf := own_cap hf1
  have hprow := hfo.prow
  have hplt := hfo.plt
  have hblt := hfo.blt
  have hbt1 : (At.sim hh a).toks.length ≤ 1000 := by rw [hbody] at hdb; exact hdb
  have hbtl : (At.sim hh a).toks.length ≤ 1000 := by rw [hbody] at hdb; exact hdb
  obtain ⟨po, pc, rfl⟩ := own_form hprow
  obtain ⟨bo, bc, rfl⟩ := own_form hbr
  obtain ⟨ib, ioff, icap, rfl, hiblt⟩ := hr.isSome (by simp)
  obtain ⟨i0, i1⟩ := Rd.at hr 0 (by simp)
  simp only [List.getElem_cons_zero, Nat.zero_mul, Nat.add_zero, List.length_cons] at i0 i1 ⊢
  obtain ⟨_, c1, c2, c3, c4⟩ := hw.cells
  have c0 := hw.cells.1
  have hgl := hw.lt
  have hTw := hw.hT
  obtain ⟨_, hcp1, hcp2⟩ := Rd.cap hr
  simp only [List.length_cons] at hcp1
  unfold maxLen at hcp2
  have hDl : D.length ≤ 24000 ∨ c.bud ≤ s.stp := by have := hsm.le; have := hcx.bud; omega
  have hbud := hcx.bud
  have HCX : Hid _ := hcx
  have HSM : Hid _ := hsm
  have HV : Hid _ := hv
  have HLS : Hid _ := htls
  have HTA : Hid _ := hta
  have HTG : Hid _ := htg
  have HO : Hid _ := ho
  have HND : Hid _ := hnd
  have HR : Hid (∀ w', Fx T w w' → Rd w' T (.slice (some ⟨ib, ioff, none⟩) (lr.length + 1) icap) ((3, (F : Int)) :: lr)) := fun w' hf => hr.keep hf
  have HPT : Hid (∀ (w' : World) (ev : Value) (E : Ln) (stp : Int), Fx T w w' → SnP w' T g (.slice (some ⟨qf, 0, none⟩) ds.length capf) nm ds c.bud D stp 0 → Rd w' T ev E → E.length = d.ps.length → D.length ≤ 24000 → _) := fun w' ev E stp hf hsp hev hE hD => eParts T g (.slice (some ⟨qf, 0, none⟩) ds.length capf) nm ds c.bud stp 0 d.ps E (.sim hh a) D zs (.slice bo (a.cnt + 1) bc) ev w' hsp (ownsRow_below hbr hf.bel hblt) hblt (ER.keep (fun k hk => hf.bel.block k hk) (fun _ h => h) hber) hev hE hbtl (by have := dls_le d.ps E (.sim hh a); omega)
  have HW : Hid _ := hw
  clear hf1 hf2 hf3 hfo hbody hber hbr hr hsm hv htls hta htg ho hnd hprow hplt hblt hw hdF htF hdd hls hcx y0 y1 y2 hok hs3 hbtl hdb
  obtain ⟨S, hS⟩ : ∃ S, S = callI c t (imL ρ lr) s := ⟨_, rfl⟩
  rw [← hS]
  have HS : Hid _ := hS
  clear hS
  go_enter Tryz.func145, Tryz.ntmps145
  go_wp2_with fail
  go_cut [5] (fun vx wc => vx = .pointer (some ⟨w.heap.size, 0, none⟩) ∧ Hid (Below w.heap.size w wc) ∧ Hid (wc.heap[w.heap.size]? = some (.cells #[.string d.name.txt, .slice po d.ps.length pc, .slice bo (a.cnt + 1) bc] 149 (0, 0))))
  case first =>
    go_region
    all_goals
      go_wp2_with fail
      go_meet
      case rel => exact ⟨rfl, Below.drew (below_al w _), heap_alloc_new w _⟩
  case rest =>
    obtain ⟨hx5, HB0, HT0⟩ := hcut
    rw [hx5]
    clear hx5 c0 c1 c2 c3 c4 i0 i1 f0 f1 f2
    have hwc := SB.old HW.out HB0.out
    have hgc := hwc.lt
    have HWC : Hid (SnP wc T g (.slice (some ⟨qf, 0, none⟩) ds.length capf) nm ds c.bud D s.stp 0) := ⟨_, _, hwc⟩
    have HF0 : Hid (Fx T w wc) := Fx.of HB0.out hTw
    have hwl : w.heap.size < wc.heap.size := (Array.getElem?_eq_some_iff.1 HT0.out).1
    clear hwc
    by_cases hb : c.bud ≤ s.stp
    · have HE : Hid (S = { s with out := 5 }) := by show _ = _; rw [HS.out]; unfold callI; rw [if_pos hb]
      have HC : Hid _ := eStepN wc T g _ nm ds c.bud D s.stp 0 HWC.out hb
      go_wp2_with fail
      refine (show Calls _ _ _ _ _ from HC.out).mono ?_
      rintro e w2 ⟨rfl, hf2, _, hw2⟩
      clear HC
      go_wp2_with fail
      go_ret
      exact ⟨_, D, ρ, [], rfl, HF0.out.trans hf2, by rw [HE.out]; exact hw2, Exd.refl _ _, Rd.nil _ _, fun h5 => by rw [HE.out] at h5; simp at h5⟩
    · have hDl2 : D.length ≤ 24000 := hDl.resolve_right hb
      have hnf : ¬ c.hp < (needI s : Int) + ((t.ls.length : Int) - 1) := by
        have h1 := need_le s
        have h2 := HTG.out.tg.n1
        have h3 := HND.out
        have h4 := HCX.out.hp
        omega
      have HE : Hid (S = { s with stp := s.stp + 1, cur := instM (t.ls.headD []) ((imL ρ lr).take t.ar.toNat) (idP s.nds.length (t.ls.length - 1)) ++ (imL ρ lr).drop t.ar.toNat, nds := s.nds ++ t.ls.tail.map (fun l => (instM l ((imL ρ lr).take t.ar.toNat) (idP s.nds.length (t.ls.length - 1)), false)) }) := by show _ = _; rw [HS.out]; unfold callI; rw [if_neg hb, if_neg hnf]
      have HCS : Hid _ := call_sim HSM.out HLS.out HTA.out HV.out
      have HFIN : Hid (∀ (w' : World) (v : Value), SnP w' T g (.slice (some ⟨qf, 0, none⟩) ds.length capf) nm ds c.bud (D ++ dls d.ps (lr.take d.ps.length) (.sim hh a)) (s.stp + 1) 0 → Fx T w w' → Rd w' T v (ous (knownF d.ps nm) (lr.take d.ps.length) (.sim hh a) D.length ++ lr.drop d.ps.length) → ∃ v' D' ρ' l', v = v' ∧ Fx T w w' ∧ SnP w' T g (.slice (some ⟨qf, 0, none⟩) ds.length capf) nm ds c.bud D' S.stp S.out ∧ Exd D D' ρ ρ' ∧ Rd w' T v' l' ∧ (S.out = 0 → imL ρ' l' = S.cur ∧ vL D'.length l' ∧ Smr nm D' ρ' S.nds (opsK s.ks))) := fun w' v h1 h2 h3 => ⟨v, _, _, _, rfl, h2, by rw [HE.out]; simp only [HO.out]; exact h1, Exd.app _ _ _ _, h3, fun _ => by rw [HE.out]; exact ⟨HCS.out.2.1, HCS.out.2.2, HCS.out.1⟩⟩
      have HC : Hid _ := eStepY wc T g _ nm ds c.bud D s.stp 0 HWC.out hst hbud (by omega)
      have houl : (ous (knownF d.ps nm) (lr.take d.ps.length) (.sim hh a) D.length).length ≤ 1000 := by
        rw [ous_len]
        exact Nat.le_trans (At.cnt_le _) hbt1
      have houl0 : Hid _ := houl
      clear houl
      clear hnf HCS HE HS HCX HSM HLS HTA HTG HO HND HV
      go_wp2_with fail
      refine (show Calls _ _ _ _ _ from HC.out).mono ?_
      rintro e w3 ⟨rfl, hf3, hb3, hw3⟩
      clear HC
      have HF3 : Hid (Fx T w w3) := HF0.out.trans hf3
      have HT3 : Hid (w3.heap[w.heap.size]? = some (.cells #[.string d.name.txt, .slice po d.ps.length pc, .slice bo (a.cnt + 1) bc] 149 (0, 0))) := (hb3.oth w.heap.size hwl (by omega)).trans HT0.out
      have HW3 : Hid _ := hw3
      obtain ⟨_, s1, s2, _, _, _, hw3l⟩ := res_facts3 HT3.out
      clear hf3 hb3 hw3 HT0 HB0 HWC HF0 hwl hgc
      by_cases hic : icap = 1
      · have hr0 : lr = [] := List.length_eq_zero_iff.1 (by omega)
        subst hic
        subst hr0
        have hA0 : d.ps.length = 0 := by simpa using har
        simp only [List.take_nil, List.drop_nil] at HFIN houl0
        have HC5 : Hid _ := HPT.out w3.drew (.slice (some ⟨ib, ioff, none⟩) 0 0) [] (s.stp + 1) HF3.out.drew (SnP.old HW3.out (Below.drew (Below.refl _ _))) (by have q := (Rd.from (HR.out _ HF3.out.drew) 1 (by simp)).2 rfl; exact q) (by rw [hA0]; rfl) hDl2
        rw [hA0] at s1
        have hA1 : Hid _ := hA0
        clear hA0 har
        have hwz1 : IntKind.i64.wrap 1 = 1 := by decide
        have hwz0 : IntKind.i64.wrap 0 = 0 := by decide
        go_wp2_with fail
        go_cut [1, 8] (fun v1 vx wx => v1 = .slice (some ⟨ib, ioff, none⟩) 1 1 ∧ (∃ ao bo', vx = .slice ao (ous (knownF d.ps nm) [] (.sim hh a) D.length).length bo') ∧ Hid (Fx T w wx) ∧ Hid (SnP wx T g (.slice (some ⟨qf, 0, none⟩) ds.length capf) nm ds c.bud (D ++ dls d.ps [] (.sim hh a)) (s.stp + 1) 0) ∧ Hid (Rd wx T vx (ous (knownF d.ps nm) [] (.sim hh a) D.length)))
        case first =>
          go_region_law ((go_simp; go_at_call 182; refine (show Calls _ _ _ _ _ from HC5.out).mono ?_; rintro e w5 ⟨v5, rfl, hf5, hw5, hr5⟩))
          all_goals
            go_wp2_with fail
            go_meet
            case rel => exact ⟨rfl, hr5.form, HF3.out.drew.trans hf5, hw5, hr5⟩
        case rest =>
          obtain ⟨hx1, ⟨vo5, vc5, hx8⟩, HF5, HW5, HR5⟩ := hcut
          rw [hx8] at HR5
          rw [hx1, hx8]
          clear hx1 hx8 HC5 HPT HW3 s1 s2
          generalize hOL : (ous (knownF d.ps nm) [] (.sim hh a) D.length).length = ol at *
          have HOL : Hid _ := hOL
          clear hOL
          have houl2 : ol ≤ 1000 := houl0.out
          have HRb : Hid (Rd wc T (.slice (some ⟨ib, ioff, none⟩) 0 0) ([] : Ln)) := by
            exact (Rd.from (HR.out wc HF5.out) 1 (by simp)).2 rfl
          have HJ : Hid _ := rJoined (.slice vo5 ol vc5) (.slice (some ⟨ib, ioff, none⟩) 0 0) (ous (knownF d.ps nm) [] (.sim hh a) D.length) [] T wc HR5.out HRb.out (by rw [HOL.out]; simp; omega)
          go_wp2_with fail
          refine (show Calls _ _ _ _ _ from HJ.out).mono ?_
          rintro e w6 ⟨v6, rfl, hb6, ho6⟩
          clear HJ
          have HZ : Hid _ := HFIN.out w6 v6 (SnP.old HW5.out hb6) (HF5.out.trans (Fx.of hb6 (by have := HF5.out.size; omega))) (Rd.own ho6)
          clear hb6 ho6
          obtain ⟨v7, D7, ρ7, l7, rfl, h7⟩ := HZ.out
          go_wp2_with fail
          go_ret
          exact ⟨_, D7, ρ7, l7, rfl, h7⟩
      ·
        have HC5 : Hid _ := HPT.out w3.drew (.slice (some ⟨ib, ioff + 2, none⟩) d.ps.length (icap - 1)) (lr.take d.ps.length) (s.stp + 1) HF3.out.drew (SnP.old HW3.out (Below.drew (Below.refl _ _))) (by exact Rd.part (k := 1) (m := d.ps.length) (c := icap - 1) (HR.out _ HF3.out.drew) (by simp; omega) (by omega) (by unfold maxLen; omega)) (by rw [List.length_take]; omega) hDl2
        have hw7 : IntKind.i64.wrap (1 + (d.ps.length : Int)) = 1 + (d.ps.length : Int) := Go.IntWalk.i64_in _ (by omega)
        have hw8 : 0 ≤ 1 + (d.ps.length : Int) ∧ 1 + (d.ps.length : Int) ≤ (icap : Int) := by omega
        have hw9 : 1 ≤ max (1 + (d.ps.length : Int)) 0 := by omega
        have hw10 : (1 + (d.ps.length : Int)).toNat - 1 = d.ps.length := by omega
        go_wp2_with fail
        go_cut [1, 8] (fun v1 vx wx => v1 = .slice (some ⟨ib, ioff, none⟩) (lr.length + 1) icap ∧ (∃ ao bo', vx = .slice ao (ous (knownF d.ps nm) (lr.take d.ps.length) (.sim hh a) D.length).length bo') ∧ Hid (Fx T w wx) ∧ Hid (SnP wx T g (.slice (some ⟨qf, 0, none⟩) ds.length capf) nm ds c.bud (D ++ dls d.ps (lr.take d.ps.length) (.sim hh a)) (s.stp + 1) 0) ∧ Hid (Rd wx T vx (ous (knownF d.ps nm) (lr.take d.ps.length) (.sim hh a) D.length)))
        case first =>
          go_region_law ((go_simp; go_at_call 182; refine (show Calls _ _ _ _ _ from HC5.out).mono ?_; rintro e w5 ⟨v5, rfl, hf5, hw5, hr5⟩))
          all_goals
            go_wp2_with fail
            go_meet
            case rel => exact ⟨rfl, hr5.form, HF3.out.drew.trans hf5, hw5, hr5⟩
        case rest =>
          obtain ⟨hx1, ⟨vo5, vc5, hx8⟩, HF5, HW5, HR5⟩ := hcut
          rw [hx8] at HR5
          rw [hx1, hx8]
          clear hx1 hx8 HC5 HPT HW3 s1 s2
          generalize hOL : (ous (knownF d.ps nm) (lr.take d.ps.length) (.sim hh a) D.length).length = ol at *
          have HOL : Hid _ := hOL
          clear hOL
          have houl2 : ol ≤ 1000 := houl0.out
          have hq1 : (1 + (d.ps.length : Int)).toNat = 1 + d.ps.length := by omega
          by_cases hic2 : icap = 1 + d.ps.length
          · skip
            have HRb : Hid (Rd wc T (.slice (some ⟨ib, ioff, none⟩) (lr.length + 1 - (1 + d.ps.length)) 0) (lr.drop d.ps.length)) := by
              have q := (Rd.from (HR.out wc HF5.out) (1 + d.ps.length) (by omega)).2 hic2
              rw [show 1 + d.ps.length = d.ps.length + 1 by omega] at q ⊢
              exact q
            have HJ : Hid _ := rJoined (.slice vo5 ol vc5) (.slice (some ⟨ib, ioff, none⟩) (lr.length + 1 - (1 + d.ps.length)) 0) (ous (knownF d.ps nm) (lr.take d.ps.length) (.sim hh a) D.length) (lr.drop d.ps.length) T wc HR5.out HRb.out (by rw [List.length_drop, HOL.out]; omega)
            go_wp2_with fail
            refine (show Calls _ _ _ _ _ from HJ.out).mono ?_
            rintro e w6 ⟨v6, rfl, hb6, ho6⟩
            clear HJ
            have HZ : Hid _ := HFIN.out w6 v6 (SnP.old HW5.out hb6) (HF5.out.trans (Fx.of hb6 (by have := HF5.out.size; omega))) (Rd.own ho6)
            clear hb6 ho6
            obtain ⟨v7, D7, ρ7, l7, rfl, h7⟩ := HZ.out
            go_wp2_with fail
            go_ret
            exact ⟨_, D7, ρ7, l7, rfl, h7⟩
          · skip
            have HRb : Hid (Rd wc T (.slice (some ⟨ib, ioff + (1 + d.ps.length) * 2, none⟩) (lr.length + 1 - (1 + d.ps.length)) (icap - (1 + d.ps.length))) (lr.drop d.ps.length)) := by
              have q := (Rd.from (HR.out wc HF5.out) (1 + d.ps.length) (by omega)).1
              rw [show 1 + d.ps.length = d.ps.length + 1 by omega] at q ⊢
              exact q
            have HJ : Hid _ := rJoined (.slice vo5 ol vc5) (.slice (some ⟨ib, ioff + (1 + d.ps.length) * 2, none⟩) (lr.length + 1 - (1 + d.ps.length)) (icap - (1 + d.ps.length))) (ous (knownF d.ps nm) (lr.take d.ps.length) (.sim hh a) D.length) (lr.drop d.ps.length) T wc HR5.out HRb.out (by rw [List.length_drop, HOL.out]; omega)
            go_wp2_with fail
            refine (show Calls _ _ _ _ _ from HJ.out).mono ?_
            rintro e w6 ⟨v6, rfl, hb6, ho6⟩
            clear HJ
            have HZ : Hid _ := HFIN.out w6 v6 (SnP.old HW5.out hb6) (HF5.out.trans (Fx.of hb6 (by have := HF5.out.size; omega))) (Rd.own ho6)
            clear hb6 ho6
            obtain ⟨v7, D7, ρ7, l7, rfl, h7⟩ := HZ.out
            go_wp2_with fail
            go_ret
            exact ⟨_, D7, ρ7, l7, rfl, h7⟩

end Go.Proofs.YtnndoagpbcacdaaGreatDoor
namespace Go.Proofs.YtnndoagpbcacdaaGreatDoor
open Go.RowKit

/-! The reference's Sense: computed. -/
set_option maxRecDepth 100000 in
set_option maxHeartbeats 8000000 in
theorem eComputed (T g : Nat) (fv : Value) (nm : List Tk) (ds : List Df) (c : Cf) (n1 n2 : Nat) (hrec1 : WthE T g fv nm ds c n1) (hrec2 : WthE T g fv nm ds c n2) (ks : List Kf) (p : Int) (x y : Int × Int) (r : Ln) (s1 U1 U2 : Im) (w : World) (iv : Value) (D : List Dl) (ρ : List Nat)
    (hc1 : s1.cur = [imA ρ x]) (hk1 : s1.ks = ⟨2, 0, p, 0, imA ρ y :: imL ρ r⟩ :: ks) (he1 : Ev c s1.ks n1 s1 U1) (hg1 : Gd c s1) (hs1 : Sz c n1 s1) (hU1 : U1.out = 0 → Gd c U1)
    (h2 : numO U1 = 0 → Ev c (⟨3, 0, p, (hdI U1.cur).2, imL ρ r⟩ :: ks) n2 { U1 with cur := [imA ρ y], ks := ⟨3, 0, p, (hdI U1.cur).2, imL ρ r⟩ :: ks } U2 ∧ Gd c { U1 with cur := [imA ρ y], ks := ⟨3, 0, p, (hdI U1.cur).2, imL ρ r⟩ :: ks } ∧ Sz c n2 { U1 with cur := [imA ρ y], ks := ⟨3, 0, p, (hdI U1.cur).2, imL ρ r⟩ :: ks } ∧ (U2.out = 0 → Gd c U2 ∧ U2.ks = ⟨3, 0, p, (hdI U1.cur).2, imL ρ r⟩ :: ks ∧ 0 ≤ U2.stp))
    (hp : 0 ≤ p ∧ p ≤ 4) (hr : 2 < p → 2 ≤ r.length) (hrl : r.length ≤ 9000000) (hbud : c.bud ≤ 2000)
    (hw : SnP w T g fv nm ds c.bud D s1.stp 0) (hsm : Smr nm D ρ s1.nds (opsK ks)) (hv : vL D.length ((4, p) :: x :: y :: r)) (hrd : Rd w T iv ((4, p) :: x :: y :: r)) :
    Calls Tryz.prog 146 #[.pointer (some ⟨g, 0, none⟩), iv] w fun e w' => ∃ v D' ρ' l', e = .returned v ∧ Fx T w w' ∧ SnP w' T g fv nm ds c.bud D' (cmpR c U1 U2).stp (cmpR c U1 U2).out ∧ Exd D D' ρ ρ' ∧ Rd w' T v l' ∧ ((cmpR c U1 U2).out = 0 → imL ρ' l' = (cmpR c U1 U2).cur ∧ vL D'.length l' ∧ Smr nm D' ρ' (cmpR c U1 U2).nds (opsK ks)) := by
  obtain ⟨ib, ioff, icap, rfl, hib⟩ := hrd.isSome (by simp)
  obtain ⟨a2, a3⟩ := Rd.at hrd 1 (by simp)
  simp only [List.getElem_cons_zero, List.getElem_cons_succ, Nat.one_mul] at a2 a3
  have hcp := Rd.cap hrd
  simp only [List.length_cons] at hcp
  obtain ⟨_, hcp1, hcp2⟩ := hcp
  unfold maxLen at hcp2
  have hT : T ≤ w.heap.size := by obtain ⟨_, _, h⟩ := hw; exact h.hT
  have hlenD := hsm.len
  have hvx : vA D.length x := hv x (by simp)
  have hvy : vA D.length y := hv y (by simp)
  have hvr : vL D.length r := hv.sub (fun z hz => by simp [hz])
  have HCA : Hid _ := eNumber T g fv nm ds c n1 hrec1 s1 U1 ⟨2, 0, p, 0, imA ρ y :: imL ρ r⟩ ks x w D ρ hc1 hk1 (by simp) he1 hg1 hs1 hw hsm hvx (fun h => (hU1 h).ii.elim fun rk hi => hi.ne)
  have HRD : Hid (∀ w', Fx T w w' → Rd w' T (.slice (some ⟨ib, ioff, none⟩) ((4, p) :: x :: y :: r).length icap) ((4, p) :: x :: y :: r)) := fun w' hf => hrd.keep hf
  obtain ⟨x1, x2⟩ := x
  obtain ⟨y1, y2⟩ := y
  simp only at *
  generalize hR : cmpR c U1 U2 = R
  have HR : Hid (cmpR c U1 U2 = R) := hR
  have HVY : Hid _ := hvy
  have HVR : Hid _ := hvr
  have HLD : Hid _ := hlenD
  have HH2 : Hid _ := h2
  clear hR hrd hw hsm hv hvx hvy hvr hlenD hc1 hk1 he1 hg1 hs1 hU1 h2
  go_enter Tryz.func146, Tryz.ntmps146
  go_wp2_with fail
  refine (show Calls _ _ _ _ _ from HCA.out).mono ?_
  rintro e w2 ⟨va, D1, ρ1, rfl, hf2, hw2, hx1, hv2⟩
  clear HCA a2 a3
  have HF2 : Hid _ := hf2
  have HX1 : Hid _ := hx1
  have HW2 : Hid _ := hw2
  have HV2 : Hid _ := hv2
  have hib2 : ib < w2.heap.size := Nat.lt_of_lt_of_le hib hf2.size
  obtain ⟨av2, vs2, hw2⟩ := hw2
  obtain ⟨_, _, _, _, d4⟩ := hw2.cells
  have hg2 := hw2.lt
  clear hw2 hf2 hx1 hv2
  by_cases hz1 : numO U1 = 0
  · obtain ⟨hva, hsm1⟩ := HV2.out hz1
    obtain ⟨he2, hgd2, hsz2, hU2⟩ := HH2.out hz1
    rw [← hva] at he2 hgd2 hsz2 hU2
    clear hva
    rw [hz1] at d4
    have HW2' : Hid (SnP w2 T g fv nm ds c.bud D1 U1.stp 0) := by have := HW2.out; rw [hz1] at this; exact this
    have hvy1 : vA D1.length (y1, y2) := by have := HX1.out.vl (l := [(y1, y2)]) (vL.cons HVY.out (vL.nil _)); exact this _ (by simp)
    have himy : imA ρ1 (y1, y2) = imA ρ (y1, y2) := by
      have := HX1.out.im (l := [(y1, y2)]) HLD.out (vL.cons HVY.out (vL.nil _))
      unfold imL at this
      simpa using this
    have HCB : Hid _ := eNumber T g fv nm ds c n2 hrec2 { U1 with cur := [imA ρ (y1, y2)], ks := ⟨3, 0, p, va, imL ρ r⟩ :: ks } U2 ⟨3, 0, p, va, imL ρ r⟩ ks (y1, y2) w2 D1 ρ1 (by rw [himy]) rfl (by simp) he2 hgd2 hsz2 HW2'.out hsm1 hvy1 (fun h => (hU2 h).1.ii.elim fun rk hi => hi.ne)
    obtain ⟨b4, b5⟩ := Rd.at (HRD.out w2 HF2.out) 2 (by simp)
    simp only [List.getElem_cons_zero, List.getElem_cons_succ] at b4 b5
    have HU2 : Hid _ := hU2
    have HZ1 : Hid _ := hz1
    have HL1 : Hid _ := hsm1.len
    clear hsm1 he2 hgd2 hsz2 hU2 himy hvy1 hz1 HH2 HV2
    go_wp2_with fail
    refine (show Calls _ _ _ _ _ from HCB.out).mono ?_
    rintro e w3 ⟨vb, D2, ρ2, rfl, hf3, hw3, hx2, hv3⟩
    clear HCB b4 b5
    have HF3 : Hid (Fx T w w3) := HF2.out.trans hf3
    have HX2 : Hid (Exd D D2 ρ ρ2) := HX1.out.trans hx2
    have HW3 : Hid _ := hw3
    have HV3 : Hid _ := hv3
    have hib3 : ib < w3.heap.size := Nat.lt_of_lt_of_le hib2 hf3.size
    obtain ⟨av3, vs3, hw3⟩ := hw3
    obtain ⟨_, _, _, _, d4⟩ := hw3.cells
    have hg3 := hw3.lt
    clear hw3 hf3 hx2 hv3 HW2' HW2
    by_cases hz3 : numO U2 = 0
    · obtain ⟨hvb, hsm2⟩ := HV3.out hz3
      have hU2o : U2.out = 0 := by
        unfold numO at hz3
        by_cases h : U2.out = 0
        · exact h
        · rw [if_neg h] at hz3; exact hz3
      have hU2k : (hdI U2.cur).1 = 1 := by
        unfold numO at hz3
        rw [if_pos hU2o] at hz3
        by_cases h : (hdI U2.cur).1 = 1
        · exact h
        · rw [if_neg h] at hz3; simp at hz3
      obtain ⟨hgU2, hkU2, hstU2⟩ := HU2.out hU2o
      rw [hz3] at d4
      have HW3' : Hid (SnP w3 T g fv nm ds c.bud D2 U2.stp 0) := by have := HW3.out; rw [hz3] at this; exact this
      have HD : Hid (R = if c.bud ≤ U2.stp then { U2 with out := 5 } else if p = 3 ∨ p = 4 then { U2 with stp := U2.stp + 1, ks := ks, cur := (if picks p va vb then hdI (imL ρ r) else hdI (imL ρ r).tail) :: (imL ρ r).drop 2 } else if overV (calcV p va vb) then { U2 with stp := U2.stp + 1, ks := ks, cur := imL ρ r, out := 4 } else { U2 with stp := U2.stp + 1, ks := ks, cur := (1, calcV p va vb) :: imL ρ r }) := by
        show _ = _
        rw [← HR.out]; unfold cmpR
        rw [if_neg (fun h => h HZ1.out), if_neg (fun h => h hz3)]
        exact del_three hkU2 hU2k hvb
      have hvab : (-1000000000 ≤ va ∧ va ≤ 1000000000) ∧ -1000000000 ≤ vb ∧ vb ≤ 1000000000 := by
        obtain ⟨⟨rk, hi⟩, _⟩ := hgU2
        refine ⟨?_, ?_⟩
        · have := (hi.fr ⟨3, 0, p, va, imL ρ r⟩ (by rw [hkU2]; simp)).2.2.2
          exact this
        · rw [hvb]
          obtain ⟨z, zs, hzc⟩ : ∃ z zs, U2.cur = z :: zs := by
            cases hq : U2.cur with
            | nil => exact absurd hq hi.ne
            | cons a b => exact ⟨a, b, rfl⟩
          have hz := (hi.it z (by rw [hzc]; simp)).1
          rw [hzc] at hU2k ⊢
          exact hz hU2k
      have HCS : Hid (U2.stp < c.bud → _) := fun h => eStepY w3 T g fv nm ds c.bud D2 U2.stp 0 HW3'.out hstU2 hbud h
      have HCN : Hid (c.bud ≤ U2.stp → _) := fun h => eStepN w3 T g fv nm ds c.bud D2 U2.stp 0 HW3'.out h
      have HSM2 : Hid _ := hsm2
      have hU2o' := hU2o
      /- what is left of the list is still the same -/
      have HIM : Hid (∀ l : Ln, (∀ z ∈ l, z ∈ r) → imL ρ2 l = imL ρ l ∧ vL D2.length l) := fun l hl => ⟨HX2.out.im HLD.out (vL.sub HVR.out hl), HX2.out.vl (vL.sub HVR.out hl)⟩
      clear hgU2 hkU2 hU2k hU2o HU2 HV3 HW3 hvb hsm2 hz3
      by_cases hb : c.bud ≤ U2.stp
      · rw [if_pos hb] at HD
        have HC : Hid _ := HCN.out hb
        clear HCS HCN
        go_wp2_with fail
        refine (show Calls _ _ _ _ _ from HC.out).mono ?_
        rintro e w4 ⟨rfl, hf4, _, hw4⟩
        clear HC
        go_wp2_with fail
        go_ret
        exact ⟨_, D2, ρ2, [], rfl, HF3.out.trans hf4, by rw [HD.out]; exact hw4, HX2.out, Rd.nil _ _, fun h => by rw [HD.out] at h; simp at h⟩
      · rw [if_neg hb] at HD
        have HC : Hid _ := HCS.out (by omega)
        clear HCS HCN
        go_wp2_with fail
        refine (show Calls _ _ _ _ _ from HC.out).mono ?_
        rintro e w4 ⟨rfl, hf4, _, hw4⟩
        clear HC
        have HF4 : Hid (Fx T w w4) := HF3.out.trans hf4
        have HW4 : Hid _ := hw4
        have HR4 : Hid _ := HRD.out w4 HF4.out
        have hT4 : T ≤ w4.heap.size := Nat.le_trans hT HF4.out.size
        have hib4 : ib < w4.heap.size := Nat.lt_of_lt_of_le hib3 hf4.size
        obtain ⟨b0, b1⟩ := Rd.at HR4.out 0 (by simp)
        simp only [List.getElem_cons_zero, Nat.zero_mul, Nat.add_zero] at b0 b1
        clear hf4 hw4 d4 HW3'
        have HFIN : Hid (∀ (l : Ln) (w' : World) (v : Value), imL ρ2 l = R.cur ∧ vL D2.length l → R.nds = U2.nds ∧ R.stp = U2.stp + 1 ∧ R.out = 0 → SnP w' T g fv nm ds c.bud D2 (U2.stp + 1) 0 → Fx T w w' → Rd w' T v l → ∃ v' D' ρ' l', v = v' ∧ Fx T w w' ∧ SnP w' T g fv nm ds c.bud D' R.stp R.out ∧ Exd D D' ρ ρ' ∧ Rd w' T v' l' ∧ (R.out = 0 → imL ρ' l' = R.cur ∧ vL D'.length l' ∧ Smr nm D' ρ' R.nds (opsK ks))) := fun l w' v q1 q2 q3 q4 q5 => ⟨v, D2, ρ2, l, rfl, q4, by rw [q2.2.1, q2.2.2]; exact q3, HX2.out, q5, fun _ => ⟨q1.1, q1.2, by rw [q2.1]; exact HSM2.out⟩⟩
        by_cases hp2 : 2 < p
        · have hd2 : decide (2 < p) = true := decide_eq_true hp2
          have hr2 := hr hp2
          rw [if_pos (by omega)] at HD
          obtain ⟨r0, r1, r2, hrr⟩ : ∃ r0 r1 r2, r = r0 :: r1 :: r2 := by
            cases hq : r with
            | nil => rw [hq] at hr2; simp at hr2
            | cons a b =>
              cases hq2 : b with
              | nil => rw [hq, hq2] at hr2; simp at hr2
              | cons a' b' => exact ⟨a, a', b', rfl⟩
          have HRR : Hid (r = r0 :: r1 :: r2) := hrr
          have hrl2 : r2.length + 2 = r.length := by rw [hrr]; rfl
          obtain ⟨Y, hY⟩ : ∃ Y, Y = picks p va vb := ⟨_, rfl⟩
          have hYc : (p = 3 ∧ Y = decide (va < vb)) ∨ (p = 4 ∧ Y = decide (va = vb)) := by
            rcases (show p = 3 ∨ p = 4 by omega) with h | h
            · exact .inl ⟨h, by rw [hY, h]; rfl⟩
            · exact .inr ⟨h, by rw [hY, h]; rfl⟩
          have HJ : Hid (∀ vb', Rd w4 T vb' r2 → Calls Tryz.prog 143 #[.slice (some ⟨ib, ioff + 6, none⟩) 1 (icap - 3), vb'] w4.drew fun e w' => ∃ v, e = .returned v ∧ Below w4.heap.size w4 w' ∧ Rd w' T v (r0 :: r2)) := fun vb' hv => by
            have q := Rd.part (k := 3) (m := 1) (c := icap - 3) HR4.out (by simp; omega) (by omega) (by unfold maxLen; omega)
            rw [hrr] at q
            refine (rJoined _ _ [r0] r2 T w4.drew (Rd.old q (Below.drew (Below.refl _ _))) (Rd.old hv (Below.drew (Below.refl _ _))) (by simp; omega)).mono ?_
            rintro e w' ⟨v, rfl, hb', ho'⟩
            exact ⟨v, rfl, (Below.drew (Below.refl _ w4)).trans hb', Rd.own ho'⟩
          have HT5 : Hid (Rd w4 T (.slice (some ⟨ib, ioff + 10, none⟩) (r.length - 2) (icap - 5)) r2 ∧ (icap = 5 → Rd w4 T (.slice (some ⟨ib, ioff, none⟩) (r.length - 2) 0) r2)) := by
            have q := Rd.from HR4.out 5 (by simp; omega)
            have e1 : ((4, p) :: (x1, x2) :: (y1, y2) :: r).length - 5 = r.length - 2 := by simp only [List.length_cons]; omega
            have e2 : ((4, p) :: (x1, x2) :: (y1, y2) :: r).drop 5 = r2 := by rw [hrr]; rfl
            rw [e1, e2] at q
            exact q
          have HT4 : Hid (Rd w4 T (.slice (some ⟨ib, ioff + 8, none⟩) (r.length - 1) (icap - 4)) (r1 :: r2)) := by
            have q := (Rd.from HR4.out 4 (by simp; omega)).1
            have e1 : ((4, p) :: (x1, x2) :: (y1, y2) :: r).length - 4 = r.length - 1 := by simp only [List.length_cons]; omega
            have e2 : ((4, p) :: (x1, x2) :: (y1, y2) :: r).drop 4 = r1 :: r2 := by rw [hrr]; rfl
            rw [e1, e2] at q
            exact q
          have HPY : Hid (Y = true → (imL ρ2 (r0 :: r2) = R.cur ∧ vL D2.length (r0 :: r2)) ∧ R.nds = U2.nds ∧ R.stp = U2.stp + 1 ∧ R.out = 0) := fun h => by
            obtain ⟨q1, q2⟩ := HIM.out (r0 :: r2) (fun z hz => by rw [hrr]; simp at hz ⊢; rcases hz with h | h <;> simp [h])
            rw [q1, HD.out, ← hY, h, hrr]
            exact ⟨⟨rfl, q2⟩, rfl, rfl, hU2o'⟩
          have HPN : Hid (Y = false → (imL ρ2 (r1 :: r2) = R.cur ∧ vL D2.length (r1 :: r2)) ∧ R.nds = U2.nds ∧ R.stp = U2.stp + 1 ∧ R.out = 0) := fun h => by
            obtain ⟨q1, q2⟩ := HIM.out (r1 :: r2) (fun z hz => by rw [hrr]; simp at hz ⊢; rcases hz with h | h <;> simp [h])
            rw [q1, HD.out, ← hY, h, hrr]
            exact ⟨⟨rfl, q2⟩, rfl, rfl, hU2o'⟩
          clear hrr hY
          rcases hYc with ⟨hp3, hYd⟩ | ⟨hp4, hYd⟩
          · subst hp3
            by_cases hlt : va < vb
            · have hdd : decide (va < vb) = true := decide_eq_true hlt
              rw [hdd] at hYd
              by_cases hic : icap = 5
              · have hr2e : r2 = [] := List.length_eq_zero_iff.1 (by omega)
                have hrr5 : r = [r0, r1] := by rw [HRR.out, hr2e]
                have HJ5 : Hid (Calls Tryz.prog 143 #[.slice (some ⟨ib, ioff + 6, none⟩) 1 2, .slice (some ⟨ib, ioff, none⟩) 0 0] w4.drew fun e w' => ∃ v, e = .returned v ∧ Below w4.heap.size w4 w' ∧ Rd w' T v (r0 :: r2)) := by
                  have := HJ.out _ (HT5.out.2 hic)
                  rw [hic, hrr5] at this
                  exact this
                clear HJ HT5 HT4 HRD HR4 HRR HD HPN HIM HVR
                subst hic
                subst hrr5
                go_wp2_with fail
                go_region_with (go_at_call 143; go_must (refine (show Calls _ _ _ _ _ from HJ5.out).mono ?_); rintro e w5 ⟨v5, rfl, hb5, hr5⟩)
                all_goals
                  go_wp2_with fail
                  go_ret
                  obtain ⟨v7, D7, ρ7, l7, rfl, h7⟩ := HFIN.out _ w5 v5 (HPY.out hYd).1 (HPY.out hYd).2 (SnP.old HW4.out hb5) (HF4.out.trans (Fx.of hb5 hT4)) hr5
                  exact ⟨_, D7, ρ7, l7, rfl, h7⟩
              · have HJ5 : Hid _ := HJ.out _ HT5.out.1
                go_wp2_with fail
                go_region_with (go_at_call 143; go_must (refine (show Calls _ _ _ _ _ from HJ5.out).mono ?_); rintro e w5 ⟨v5, rfl, hb5, hr5⟩)
                all_goals
                  go_wp2_with fail
                  go_ret
                  obtain ⟨v7, D7, ρ7, l7, rfl, h7⟩ := HFIN.out _ w5 v5 (HPY.out hYd).1 (HPY.out hYd).2 (SnP.old HW4.out hb5) (HF4.out.trans (Fx.of hb5 hT4)) hr5
                  exact ⟨_, D7, ρ7, l7, rfl, h7⟩
            · have hdd : decide (va < vb) = false := decide_eq_false hlt
              rw [hdd] at hYd
              go_wp2_with fail
              go_ret
              obtain ⟨v7, D7, ρ7, l7, rfl, h7⟩ := HFIN.out _ w4 _ (HPN.out hYd).1 (HPN.out hYd).2 HW4.out HF4.out HT4.out
              exact ⟨_, D7, ρ7, l7, rfl, h7⟩
          · subst hp4
            by_cases hlt : va = vb
            · have hdd : decide (va = vb) = true := decide_eq_true hlt
              have hdb : (va == vb) = true := by simpa using hlt
              rw [hdd] at hYd
              clear hlt hdd
              by_cases hic : icap = 5
              · have hr2e : r2 = [] := List.length_eq_zero_iff.1 (by omega)
                have hrr5 : r = [r0, r1] := by rw [HRR.out, hr2e]
                have HJ5 : Hid (Calls Tryz.prog 143 #[.slice (some ⟨ib, ioff + 6, none⟩) 1 2, .slice (some ⟨ib, ioff, none⟩) 0 0] w4.drew fun e w' => ∃ v, e = .returned v ∧ Below w4.heap.size w4 w' ∧ Rd w' T v (r0 :: r2)) := by
                  have := HJ.out _ (HT5.out.2 hic)
                  rw [hic, hrr5] at this
                  exact this
                clear HJ HT5 HT4 HRD HR4 HRR HD HPN HIM HVR
                subst hic
                subst hrr5
                go_wp2_with fail
                go_region_with (go_at_call 143; go_must (refine (show Calls _ _ _ _ _ from HJ5.out).mono ?_); rintro e w5 ⟨v5, rfl, hb5, hr5⟩)
                all_goals
                  go_wp2_with fail
                  go_ret
                  obtain ⟨v7, D7, ρ7, l7, rfl, h7⟩ := HFIN.out _ w5 v5 (HPY.out hYd).1 (HPY.out hYd).2 (SnP.old HW4.out hb5) (HF4.out.trans (Fx.of hb5 hT4)) hr5
                  exact ⟨_, D7, ρ7, l7, rfl, h7⟩
              · have HJ5 : Hid _ := HJ.out _ HT5.out.1
                go_wp2_with fail
                go_region_with (go_at_call 143; go_must (refine (show Calls _ _ _ _ _ from HJ5.out).mono ?_); rintro e w5 ⟨v5, rfl, hb5, hr5⟩)
                all_goals
                  go_wp2_with fail
                  go_ret
                  obtain ⟨v7, D7, ρ7, l7, rfl, h7⟩ := HFIN.out _ w5 v5 (HPY.out hYd).1 (HPY.out hYd).2 (SnP.old HW4.out hb5) (HF4.out.trans (Fx.of hb5 hT4)) hr5
                  exact ⟨_, D7, ρ7, l7, rfl, h7⟩
            · have hdd : decide (va = vb) = false := decide_eq_false hlt
              have hdb : (va == vb) = false := by simpa using hlt
              rw [hdd] at hYd
              go_wp2_with fail
              go_ret
              obtain ⟨v7, D7, ρ7, l7, rfl, h7⟩ := HFIN.out _ w4 _ (HPN.out hYd).1 (HPN.out hYd).2 HW4.out HF4.out HT4.out
              exact ⟨_, D7, ρ7, l7, rfl, h7⟩
        · have hd2 : decide (2 < p) = false := decide_eq_false hp2
          have hp3 : (p == 3) = false := by simp; omega
          have hp4 : (p == 4) = false := by simp; omega
          rw [if_neg (by omega)] at HD
          have HSM : Hid _ := rSum p va vb w4 hvab.1 hvab.2
          generalize calcV p va vb = V at *
          obtain ⟨av4, vs4, hw4⟩ := HW4.out
          obtain ⟨_, _, _, _, d9⟩ := hw4.cells
          have e9 := hw4.fz 4
          have hg4 := hw4.lt
          have HO : Hid _ := hw4.setOut 4
          clear hw4
          by_cases hov : overV V = true
          · rw [if_pos hov] at HD
            have hov2 : 1000000000 < V ∨ (¬ 1000000000 < V ∧ V < -1000000000) := by
              unfold overV at hov
              simp only [Bool.or_eq_true, decide_eq_true_eq] at hov
              omega
            go_wp2_with fail
            refine (show Calls _ _ _ _ _ from HSM.out).mono ?_
            rintro e w5 ⟨rfl, rfl⟩
            clear HSM hov
            rcases hov2 with hv1 | ⟨hv1, hv2⟩
            · have hd3 : decide (1000000000 < V) = true := decide_eq_true hv1
              go_wp2_with fail
              go_ret
              exact ⟨_, D2, ρ2, [], rfl, HF4.out.trans HO.out.1, by rw [HD.out]; exact ⟨_, _, HO.out.2⟩, HX2.out, Rd.nil _ _, fun h => by rw [HD.out] at h; simp at h⟩
            · have hd3 : decide (1000000000 < V) = false := decide_eq_false (by omega)
              have hd4 : decide (V < -1000000000) = true := decide_eq_true hv2
              go_wp2_with fail
              go_ret
              exact ⟨_, D2, ρ2, [], rfl, HF4.out.trans HO.out.1, by rw [HD.out]; exact ⟨_, _, HO.out.2⟩, HX2.out, Rd.nil _ _, fun h => by rw [HD.out] at h; simp at h⟩
          · rw [if_neg hov] at HD
            have hv1 : ¬ 1000000000 < V := by unfold overV at hov; simp only [Bool.or_eq_true, decide_eq_true_eq] at hov; omega
            have hv2 : ¬ V < -1000000000 := by unfold overV at hov; simp only [Bool.or_eq_true, decide_eq_true_eq] at hov; omega
            have hd3 : decide (1000000000 < V) = false := decide_eq_false hv1
            have hd4 : decide (V < -1000000000) = false := decide_eq_false hv2
            go_wp2_with fail
            refine (show Calls _ _ _ _ _ from HSM.out).mono ?_
            rintro e w5 ⟨rfl, rfl⟩
            clear HSM hov
            have HT3 : Hid (Rd w5 T (.slice (some ⟨ib, ioff + 6, none⟩) r.length (icap - 3)) r ∧ (icap = 3 → Rd w5 T (.slice (some ⟨ib, ioff, none⟩) r.length 0) r)) := Rd.from HR4.out 3 (by simp)
            have HJ3 : Hid (∀ rv, Rd w5 T rv r → Calls Tryz.prog 143 #[.slice (some ⟨w5.heap.size, 0, none⟩) 1 1, rv] (w5.alloc (Obj.cells #[.int .i64 1, .int .i64 V] 75)) fun e w' => ∃ v, e = .returned v ∧ Below w5.heap.size w5 w' ∧ Rd w' T v ((1, V) :: r)) := fun rv hv => by
              have q := World.ownsRow_lit w5 #[.int .i64 1, .int .i64 V] 1 (e := 75) (base := 0) (size := 2) (Nat.zero_le _) (by unfold maxLen; omega) rfl
              refine (rJoined _ _ [(1, V)] r T _ (Rd.own (l := [(1, V)]) q) (Rd.old hv (below_al _ _)) (by simp; omega)).mono ?_
              rintro e w' ⟨v, rfl, hb', ho'⟩
              exact ⟨v, rfl, (below_al w5 _).trans (hb'.mono (by simp)), Rd.own ho'⟩
            have HRE : Hid ((imL ρ2 ((1, V) :: r) = R.cur ∧ vL D2.length ((1, V) :: r)) ∧ R.nds = U2.nds ∧ R.stp = U2.stp + 1 ∧ R.out = 0) := by
              obtain ⟨q1, q2⟩ := HIM.out r (fun z hz => hz)
              rw [HD.out]
              exact ⟨⟨by show imA ρ2 (1, V) :: imL ρ2 r = _; rw [q1]; rfl, vL.cons (fun h => by simp at h) q2⟩, rfl, rfl, hU2o'⟩
            go_wp2_with fail
            all_goals
              refine (HJ3.out _ (by first | exact HT3.out.1 | exact HT3.out.2 (by assumption))).mono ?_
              rintro e w6 ⟨v6, rfl, hb6, hr6⟩
              go_wp2_with fail
              go_ret
              obtain ⟨v7, D7, ρ7, l7, rfl, h7⟩ := HFIN.out _ w6 v6 HRE.out.1 HRE.out.2 (SnP.old HW4.out hb6) (HF4.out.trans (Fx.of hb6 hT4)) hr6
              exact ⟨_, D7, ρ7, l7, rfl, h7⟩
    · have hz4 : (numO U2 == 0) = false := by simpa using hz3
      have HE : Hid (R = { U2 with out := numO U2 }) := by show _ = _; rw [← HR.out]; unfold cmpR; rw [if_neg (by simpa using HZ1.out), if_pos hz3]
      go_wp2_with fail
      go_ret
      exact ⟨_, D2, ρ2, [], rfl, HF3.out, by rw [HE.out]; exact HW3.out, HX2.out, Rd.nil _ _, fun h => by rw [HE.out] at h; exact absurd h hz3⟩
  · have hz4 : (numO U1 == 0) = false := by simpa using hz1
    have HE : Hid (R = { U1 with out := numO U1 }) := by show _ = _; rw [← HR.out]; unfold cmpR; rw [if_pos hz1]
    go_wp2_with fail
    go_ret
    exact ⟨_, D1, ρ1, [], rfl, HF2.out, by rw [HE.out]; exact HW2.out, HX1.out, Rd.nil _ _, fun h => by rw [HE.out] at h; exact absurd h hz1⟩

end Go.Proofs.YtnndoagpbcacdaaGreatDoor
