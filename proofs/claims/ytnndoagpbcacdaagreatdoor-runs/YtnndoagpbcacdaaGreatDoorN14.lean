import Derived.Test.YtnndoagpbcacdaaGreatDoorMN12
namespace Go.Proofs.YtnndoagpbcacdaaGreatDoor
open Go.RowKit

/-! The reference's run: computed. -/
set_option maxRecDepth 100000 in
set_option maxHeartbeats 8000000 in
theorem rComputed (T g : Nat) (fv : Value) (mn : Int) (c : Cf) (n1 n2 : Nat) (hrec1 : WthC T g fv mn c n1) (hrec2 : WthC T g fv mn c n2) (ks : List Kf) (p : Int) (x y : Int × Int) (r : Ln) (s1 U1 U2 : Im) (w : World) (iv : Value)
    (hc1 : s1.cur = [x]) (hk1 : s1.ks = ⟨2, 0, p, 0, y :: r⟩ :: ks) (he1 : Ev c s1.ks n1 s1 U1) (hg1 : Gd c s1) (hs1 : Sz c n1 s1) (hU1 : U1.out = 0 → Gd c U1)
    (h2 : numO U1 = 0 → Ev c (⟨3, 0, p, (hdI U1.cur).2, r⟩ :: ks) n2 { U1 with cur := [y], ks := ⟨3, 0, p, (hdI U1.cur).2, r⟩ :: ks } U2 ∧ Gd c { U1 with cur := [y], ks := ⟨3, 0, p, (hdI U1.cur).2, r⟩ :: ks } ∧ Sz c n2 { U1 with cur := [y], ks := ⟨3, 0, p, (hdI U1.cur).2, r⟩ :: ks } ∧ (U2.out = 0 → Gd c U2 ∧ U2.ks = ⟨3, 0, p, (hdI U1.cur).2, r⟩ :: ks ∧ 0 ≤ U2.stp))
    (hp : 0 ≤ p ∧ p ≤ 4) (hr : 2 < p → 2 ≤ r.length) (hrl : r.length ≤ 9000000) (hbud : c.bud ≤ 2000)
    (hw : WP w T g fv mn c s1.nds s1.stp 0 (bysK ks) (opsK ks)) (hrd : Rd w T iv ((4, p) :: x :: y :: r)) :
    Calls Tryz.prog 141 #[.pointer (some ⟨g, 0, none⟩), iv] w fun e w' => ∃ v, e = .returned v ∧ Fx T w w' ∧ WP w' T g fv mn c (cmpR c U1 U2).nds (cmpR c U1 U2).stp (cmpR c U1 U2).out (bysK ks) (opsK ks) ∧ ((cmpR c U1 U2).out = 0 → Rd w' T v (cmpR c U1 U2).cur) := by
  obtain ⟨ib, ioff, icap, rfl, hib⟩ := hrd.isSome (by simp)
  obtain ⟨a0, a1⟩ := Rd.at hrd 0 (by simp)
  obtain ⟨a2, a3⟩ := Rd.at hrd 1 (by simp)
  simp only [List.getElem_cons_zero, List.getElem_cons_succ, Nat.zero_mul, Nat.one_mul, Nat.add_zero] at a0 a1 a2 a3
  have hcp := Rd.cap hrd
  simp only [List.length_cons] at hcp
  obtain ⟨_, hcp1, hcp2⟩ := hcp
  unfold maxLen at hcp2
  have hT : T ≤ w.heap.size := by obtain ⟨_, _, _, _, _, h⟩ := hw; exact h.hT
  have HN1 : Hid (∀ w' rv, WP w' T g fv mn c s1.nds s1.stp 0 (bysK ks) (opsK ks) → Rd w' T rv (y :: r) → _) := fun w' rv h1 h2 => rNumber T g fv mn c n1 hrec1 s1 U1 ⟨2, 0, p, 0, y :: r⟩ ks x w' rv hc1 hk1 (by simp) he1 hg1 hs1 h1 h2 (fun h => (hU1 h).ii.elim fun rk hi => hi.ne)
  have HRD : Hid (∀ w', Fx T w w' → Rd w' T (.slice (some ⟨ib, ioff, none⟩) ((4, p) :: x :: y :: r).length icap) ((4, p) :: x :: y :: r)) := fun w' hf => hrd.keep hf
  obtain ⟨x1, x2⟩ := x
  obtain ⟨y1, y2⟩ := y
  simp only at *
  generalize hR : cmpR c U1 U2 = R
  have HR : Hid (cmpR c U1 U2 = R) := hR
  clear hR hrd
  have HW : Hid _ := hw
  obtain ⟨av, bv, ov, vs, bs, hw⟩ := hw
  have hgl := hw.lt
  clear hw
  have HCA : Hid _ := HN1.out w.drew _ (WP.old HW.out (Below.drew (Below.refl _ _))) (show Rd w.drew T (.slice (some ⟨ib, ioff + 4, none⟩) (r.length + 1) (icap - 2)) ((y1, y2) :: r) from (Rd.from (HRD.out w.drew (Fx.refl _ _).drew) 2 (by simp)).1)
  go_enter Tryz.func141, Tryz.ntmps141
  go_wp2_with fail
  go_cut [6] (fun vx wc => ∃ va : Int, vx = .int .i64 va ∧ Hid (Fx T w wc) ∧ Hid (WP wc T g fv mn c U1.nds U1.stp (numO U1) (bysK ks) (opsK ks)) ∧ Hid (numO U1 = 0 → va = (hdI U1.cur).2))
  case first =>
    go_region_with (go_at_call 180; go_must (refine (show Calls _ _ _ _ _ from HCA.out).mono ?_); rintro e w2 ⟨va, rfl, hf2, hw2, hv2⟩)
    all_goals
      go_wp2_with fail
      go_meet
      case rel => exact ⟨va, rfl, (Fx.refl T w).drew.trans hf2, hw2, hv2⟩
  case rest =>
    obtain ⟨va, hx6, HF2, HW2, HV2⟩ := hcut
    rw [hx6]
    clear hx6 HCA a0 a1 a2 a3 hib hgl
    obtain ⟨av2, bv2, ov2, vs2, bs2, hw2⟩ := HW2.out
    obtain ⟨_, _, _, _, _, _, _, _, d8⟩ := hw2.cells
    have hg2 := hw2.lt
    clear hw2
    by_cases hz1 : numO U1 = 0
    · have hva := HV2.out hz1
      obtain ⟨he2, hgd2, hsz2, hU2⟩ := h2 hz1
      rw [← hva] at he2 hgd2 hsz2 hU2
      clear hva
      rw [hz1] at d8
      have HW2' : Hid (WP wc T g fv mn c U1.nds U1.stp 0 (bysK ks) (opsK ks)) := by have := HW2.out; rw [hz1] at this; exact this
      have HN2 : Hid (∀ w' rv, WP w' T g fv mn c U1.nds U1.stp 0 (bysK ks) (opsK ks) → Rd w' T rv r → _) := fun w' rv h1 h2 => rNumber T g fv mn c n2 hrec2 { U1 with cur := [(y1, y2)], ks := ⟨3, 0, p, va, r⟩ :: ks } U2 ⟨3, 0, p, va, r⟩ ks (y1, y2) w' rv rfl rfl (by simp) he2 hgd2 hsz2 h1 h2 (fun h => (hU2 h).1.ii.elim fun rk hi => hi.ne)
      have hrd2 := HRD.out wc HF2.out
      obtain ⟨b4, b5⟩ := Rd.at hrd2 2 (by simp)
      simp only [List.getElem_cons_zero, List.getElem_cons_succ] at b4 b5
      have HCB : Hid _ := HN2.out wc.drew (.slice (some ⟨ib, ioff + 6, none⟩) r.length (icap - 3)) (WP.old HW2'.out (Below.drew (Below.refl _ _))) (Rd.from (HRD.out wc.drew HF2.out.drew) 3 (by simp)).1
      have HCB2 : Hid (icap = 3 → _) := fun h => HN2.out wc.drew (.slice (some ⟨ib, ioff, none⟩) r.length 0) (WP.old HW2'.out (Below.drew (Below.refl _ _))) ((Rd.from (HRD.out wc.drew HF2.out.drew) 3 (by simp)).2 h)
      have hib2 : ib < wc.heap.size := by
        obtain ⟨b', o', c', e', h'⟩ := hrd2.isSome (by simp)
        cases e'; exact h'
      clear hrd2 HN1
      go_wp2_with fail
      go_cut [1, 7] (fun v1 vx wx => v1 = .slice (some ⟨ib, ioff, none⟩) (r.length + 1 + 1 + 1) icap ∧ ∃ vb : Int, vx = .int .i64 vb ∧ Hid (Fx T w wx) ∧ Hid (WP wx T g fv mn c U2.nds U2.stp (numO U2) (bysK ks) (opsK ks)) ∧ Hid (numO U2 = 0 → vb = (hdI U2.cur).2))
      case first =>
        by_cases hic : icap = 3
        · subst hic
          have hr0 : r = [] := List.length_eq_zero_iff.1 (by omega)
          subst hr0
          have HCC : Hid (Calls Tryz.prog 180 #[.pointer (some ⟨g, 0, none⟩), .agg #[.int .i64 y1, .int .i64 y2], .slice (some ⟨ib, ioff, none⟩) 0 0] wc.drew _) := HCB2.out rfl
          clear HCB HCB2
          go_region_with (go_at_call 180; go_must (refine (show Calls _ _ _ _ _ from HCC.out).mono ?_); rintro e w3 ⟨vb, rfl, hf3, hw3, hv3⟩)
          all_goals
            go_wp2_with fail
            go_meet
            case rel => exact ⟨rfl, vb, rfl, HF2.out.drew.trans hf3, hw3, hv3⟩
        · clear HCB2
          go_region_with (go_at_call 180; go_must (refine (show Calls _ _ _ _ _ from HCB.out).mono ?_); rintro e w3 ⟨vb, rfl, hf3, hw3, hv3⟩)
          all_goals
            go_wp2_with fail
            go_meet
            case rel => exact ⟨rfl, vb, rfl, HF2.out.drew.trans hf3, hw3, hv3⟩
      case rest =>
        obtain ⟨hx1, vb, hx7, HF3, HW3, HV3⟩ := hcut
        rw [hx1, hx7]
        clear hx1 hx7 HCB HCB2 b4 b5 d8 hg2 hib2
        obtain ⟨av3, bv3, ov3, vs3, bs3, hw3⟩ := HW3.out
        obtain ⟨_, _, _, _, _, _, _, _, d8⟩ := hw3.cells
        have hg3 := hw3.lt
        clear hw3
        by_cases hz3 : numO U2 = 0
        · have hvb := HV3.out hz3
          have hU2o : U2.out = 0 := by
            unfold numO at hz3
            by_cases h : U2.out = 0
            · exact h
            · rw [if_neg h] at hz3; exact hz3
          have hU2k : (hdI U2.cur).1 = 1 := by
            unfold numO at hz3
            rw [if_pos hU2o] at hz3
            by_cases h : (hdI U2.cur).1 = 1
            · exact h
            · rw [if_neg h] at hz3; simp at hz3
          obtain ⟨hgU2, hkU2, hstU2⟩ := hU2 hU2o
          rw [hz3] at d8
          have HW3' : Hid (WP wc T g fv mn c U2.nds U2.stp 0 (bysK ks) (opsK ks)) := by have := HW3.out; rw [hz3] at this; exact this
          have HD : Hid (R = if c.bud ≤ U2.stp then { U2 with out := 5 } else if p = 3 ∨ p = 4 then { U2 with stp := U2.stp + 1, ks := ks, cur := (if picks p va vb then hdI r else hdI r.tail) :: r.drop 2 } else if overV (calcV p va vb) then { U2 with stp := U2.stp + 1, ks := ks, cur := r, out := 4 } else { U2 with stp := U2.stp + 1, ks := ks, cur := (1, calcV p va vb) :: r }) := by
            show _ = _
            rw [← HR.out]; unfold cmpR
            rw [if_neg (fun h => h hz1), if_neg (fun h => h hz3)]
            exact del_three hkU2 hU2k hvb
          have hvab : (-1000000000 ≤ va ∧ va ≤ 1000000000) ∧ -1000000000 ≤ vb ∧ vb ≤ 1000000000 := by
            obtain ⟨⟨rk, hi⟩, _⟩ := hgU2
            refine ⟨?_, ?_⟩
            · have := (hi.fr ⟨3, 0, p, va, r⟩ (by rw [hkU2]; simp)).2.2.2
              exact this
            · rw [hvb]
              obtain ⟨z, zs, hzc⟩ : ∃ z zs, U2.cur = z :: zs := by
                cases hq : U2.cur with
                | nil => exact absurd hq hi.ne
                | cons a b => exact ⟨a, b, rfl⟩
              have hz := (hi.it z (by rw [hzc]; simp)).1
              rw [hzc] at hU2k ⊢
              exact hz hU2k
          have HCS : Hid (U2.stp < c.bud → _) := fun h => rStepY wc T g fv mn c U2.nds U2.stp 0 (bysK ks) (opsK ks) HW3'.out hstU2 hbud h
          have HCN : Hid (c.bud ≤ U2.stp → _) := fun h => rStepN wc T g fv mn c U2.nds U2.stp 0 (bysK ks) (opsK ks) HW3'.out h
          have hU2o' := hU2o
          clear hgU2 hkU2 hU2k hU2o hU2 he2 hgd2 hsz2 h2 HV3 HV2 HW3 HW2 hvb HN2
          by_cases hb : c.bud ≤ U2.stp
          · rw [if_pos hb] at HD
            have HC : Hid _ := HCN.out hb
            clear HCS HCN
            go_wp2_with fail
            refine (show Calls _ _ _ _ _ from HC.out).mono ?_
            rintro e w4 ⟨rfl, hf4, _, hw4⟩
            clear HC
            go_wp2_with fail
            go_ret
            exact ⟨_, rfl, HF3.out.trans hf4, by rw [HD.out]; exact hw4, fun h => by rw [HD.out] at h; simp at h⟩
          · rw [if_neg hb] at HD
            have HC : Hid _ := HCS.out (by omega)
            clear HCS HCN
            go_wp2_with fail
            refine (show Calls _ _ _ _ _ from HC.out).mono ?_
            rintro e w4 ⟨rfl, hf4, _, hw4⟩
            clear HC
            have HF4 : Hid (Fx T w w4) := HF3.out.trans hf4
            have HW4 : Hid _ := hw4
            have HR4 : Hid _ := HRD.out w4 HF4.out
            have hT4 : T ≤ w4.heap.size := Nat.le_trans hT HF4.out.size
            clear hf4 hw4 d8
            by_cases hp2 : 2 < p
            · have hd2 : decide (2 < p) = true := decide_eq_true hp2
              have hr2 := hr hp2
              rw [if_pos (by omega)] at HD
              obtain ⟨r0, r1, r2, hrr⟩ : ∃ r0 r1 r2, r = r0 :: r1 :: r2 := by
                cases hq : r with
                | nil => rw [hq] at hr2; simp at hr2
                | cons a b =>
                  cases hq2 : b with
                  | nil => rw [hq, hq2] at hr2; simp at hr2
                  | cons a' b' => exact ⟨a, a', b', rfl⟩
              have HRR : Hid (r = r0 :: r1 :: r2) := hrr
              have hrl2 : r2.length + 2 = r.length := by rw [hrr]; rfl
              obtain ⟨Y, hY⟩ : ∃ Y, Y = picks p va vb := ⟨_, rfl⟩
              have HY : Hid (Y = picks p va vb) := hY
              have hYc : (p = 3 ∧ Y = decide (va < vb)) ∨ (p = 4 ∧ Y = decide (va = vb)) := by
                rcases (show p = 3 ∨ p = 4 by omega) with h | h
                · exact .inl ⟨h, by rw [hY, h]; rfl⟩
                · exact .inr ⟨h, by rw [hY, h]; rfl⟩
              have HJ : Hid (∀ vb', Rd w4 T vb' r2 → Calls Tryz.prog 143 #[.slice (some ⟨ib, ioff + 6, none⟩) 1 (icap - 3), vb'] w4.drew fun e w' => ∃ v, e = .returned v ∧ Below w4.heap.size w4 w' ∧ Rd w' T v (r0 :: r2)) := fun vb' hv => by
                have q := Rd.part (k := 3) (m := 1) (c := icap - 3) HR4.out (by simp; omega) (by omega) (by unfold maxLen; omega)
                rw [hrr] at q
                refine (rJoined _ _ [r0] r2 T w4.drew (Rd.old q (Below.drew (Below.refl _ _))) (Rd.old hv (Below.drew (Below.refl _ _))) (by simp; omega)).mono ?_
                rintro e w' ⟨v, rfl, hb', ho'⟩
                exact ⟨v, rfl, (Below.drew (Below.refl _ w4)).trans hb', Rd.own ho'⟩
              have HT5 : Hid (Rd w4 T (.slice (some ⟨ib, ioff + 10, none⟩) (r.length - 2) (icap - 5)) r2 ∧ (icap = 5 → Rd w4 T (.slice (some ⟨ib, ioff, none⟩) (r.length - 2) 0) r2)) := by
                have q := Rd.from HR4.out 5 (by simp; omega)
                have e1 : ((4, p) :: (x1, x2) :: (y1, y2) :: r).length - 5 = r.length - 2 := by simp only [List.length_cons]; omega
                have e2 : ((4, p) :: (x1, x2) :: (y1, y2) :: r).drop 5 = r2 := by rw [hrr]; rfl
                rw [e1, e2] at q
                exact q
              have HT4 : Hid (Rd w4 T (.slice (some ⟨ib, ioff + 8, none⟩) (r.length - 1) (icap - 4)) (r1 :: r2)) := by
                have q := (Rd.from HR4.out 4 (by simp; omega)).1
                have e1 : ((4, p) :: (x1, x2) :: (y1, y2) :: r).length - 4 = r.length - 1 := by simp only [List.length_cons]; omega
                have e2 : ((4, p) :: (x1, x2) :: (y1, y2) :: r).drop 4 = r1 :: r2 := by rw [hrr]; rfl
                rw [e1, e2] at q
                exact q
              have HPY : Hid (Y = true → R.nds = U2.nds ∧ R.stp = U2.stp + 1 ∧ R.out = 0 ∧ R.cur = r0 :: r2) := fun h => by rw [HD.out, ← hY, h, hrr]; exact ⟨rfl, rfl, hU2o', rfl⟩
              have HPN : Hid (Y = false → R.nds = U2.nds ∧ R.stp = U2.stp + 1 ∧ R.out = 0 ∧ R.cur = r1 :: r2) := fun h => by rw [HD.out, ← hY, h, hrr]; exact ⟨rfl, rfl, hU2o', rfl⟩
              clear hrr hY
              rcases hYc with ⟨hp3, hYd⟩ | ⟨hp4, hYd⟩
              · subst hp3
                by_cases hlt : va < vb
                · have hdd : decide (va < vb) = true := decide_eq_true hlt
                  rw [hdd] at hYd
                  by_cases hic : icap = 5
                  · have hr2e : r2 = [] := List.length_eq_zero_iff.1 (by omega)
                    have hrr5 : r = [r0, r1] := by rw [HRR.out, hr2e]
                    have HJ5 : Hid (Calls Tryz.prog 143 #[.slice (some ⟨ib, ioff + 6, none⟩) 1 2, .slice (some ⟨ib, ioff, none⟩) 0 0] w4.drew fun e w' => ∃ v, e = .returned v ∧ Below w4.heap.size w4 w' ∧ Rd w' T v (r0 :: r2)) := by
                      have := HJ.out _ (HT5.out.2 hic)
                      rw [hic, hrr5] at this
                      exact this
                    clear HJ HT5 HT4 HRD HR4 HRR HD HPN
                    subst hic
                    subst hrr5
                    go_wp2_with fail
                    go_region_with (go_at_call 143; go_must (refine (show Calls _ _ _ _ _ from HJ5.out).mono ?_); rintro e w5 ⟨v5, rfl, hb5, hr5⟩)
                    all_goals
                      go_wp2_with fail
                      go_ret
                      obtain ⟨z1, z2, z3, z4⟩ := HPY.out hYd
                      exact ⟨_, rfl, HF4.out.trans (Fx.of hb5 hT4), by rw [z1, z2, z3]; exact WP.old HW4.out hb5, fun _ => by rw [z4]; exact hr5⟩
                  · have HJ5 : Hid _ := HJ.out _ HT5.out.1
                    go_wp2_with fail
                    go_region_with (go_at_call 143; go_must (refine (show Calls _ _ _ _ _ from HJ5.out).mono ?_); rintro e w5 ⟨v5, rfl, hb5, hr5⟩)
                    all_goals
                      go_wp2_with fail
                      go_ret
                      obtain ⟨z1, z2, z3, z4⟩ := HPY.out hYd
                      exact ⟨_, rfl, HF4.out.trans (Fx.of hb5 hT4), by rw [z1, z2, z3]; exact WP.old HW4.out hb5, fun _ => by rw [z4]; exact hr5⟩
                · have hdd : decide (va < vb) = false := decide_eq_false hlt
                  rw [hdd] at hYd
                  go_wp2_with fail
                  go_ret
                  obtain ⟨z1, z2, z3, z4⟩ := HPN.out hYd
                  exact ⟨_, rfl, HF4.out, by rw [z1, z2, z3]; exact HW4.out, fun _ => by rw [z4]; exact HT4.out⟩
              · subst hp4
                by_cases hlt : va = vb
                · have hdd : decide (va = vb) = true := decide_eq_true hlt
                  have hdb : (va == vb) = true := by simpa using hlt
                  rw [hdd] at hYd
                  clear hlt hdd
                  by_cases hic : icap = 5
                  · have hr2e : r2 = [] := List.length_eq_zero_iff.1 (by omega)
                    have hrr5 : r = [r0, r1] := by rw [HRR.out, hr2e]
                    have HJ5 : Hid (Calls Tryz.prog 143 #[.slice (some ⟨ib, ioff + 6, none⟩) 1 2, .slice (some ⟨ib, ioff, none⟩) 0 0] w4.drew fun e w' => ∃ v, e = .returned v ∧ Below w4.heap.size w4 w' ∧ Rd w' T v (r0 :: r2)) := by
                      have := HJ.out _ (HT5.out.2 hic)
                      rw [hic, hrr5] at this
                      exact this
                    clear HJ HT5 HT4 HRD HR4 HRR HD HPN
                    subst hic
                    subst hrr5
                    go_wp2_with fail
                    go_region_with (go_at_call 143; go_must (refine (show Calls _ _ _ _ _ from HJ5.out).mono ?_); rintro e w5 ⟨v5, rfl, hb5, hr5⟩)
                    all_goals
                      go_wp2_with fail
                      go_ret
                      obtain ⟨z1, z2, z3, z4⟩ := HPY.out hYd
                      exact ⟨_, rfl, HF4.out.trans (Fx.of hb5 hT4), by rw [z1, z2, z3]; exact WP.old HW4.out hb5, fun _ => by rw [z4]; exact hr5⟩
                  · have HJ5 : Hid _ := HJ.out _ HT5.out.1
                    go_wp2_with fail
                    go_region_with (go_at_call 143; go_must (refine (show Calls _ _ _ _ _ from HJ5.out).mono ?_); rintro e w5 ⟨v5, rfl, hb5, hr5⟩)
                    all_goals
                      go_wp2_with fail
                      go_ret
                      obtain ⟨z1, z2, z3, z4⟩ := HPY.out hYd
                      exact ⟨_, rfl, HF4.out.trans (Fx.of hb5 hT4), by rw [z1, z2, z3]; exact WP.old HW4.out hb5, fun _ => by rw [z4]; exact hr5⟩
                · have hdd : decide (va = vb) = false := decide_eq_false hlt
                  have hdb : (va == vb) = false := by simpa using hlt
                  rw [hdd] at hYd
                  go_wp2_with fail
                  go_ret
                  obtain ⟨z1, z2, z3, z4⟩ := HPN.out hYd
                  exact ⟨_, rfl, HF4.out, by rw [z1, z2, z3]; exact HW4.out, fun _ => by rw [z4]; exact HT4.out⟩
            · have hd2 : decide (2 < p) = false := decide_eq_false hp2
              rw [if_neg (by omega)] at HD
              have HSM : Hid _ := rSum p va vb w4 hvab.1 hvab.2
              generalize calcV p va vb = V at *
              obtain ⟨av4, bv4, ov4, vs4, bs4, hw4⟩ := HW4.out
              obtain ⟨_, _, _, _, _, _, _, _, d9⟩ := hw4.cells
              have e9 := hw4.fz 8
              have hg4 := hw4.lt
              have HO : Hid _ := hw4.setOut 4
              clear hw4
              by_cases hov : overV V = true
              · rw [if_pos hov] at HD
                have hov2 : 1000000000 < V ∨ (¬ 1000000000 < V ∧ V < -1000000000) := by
                  unfold overV at hov
                  simp only [Bool.or_eq_true, decide_eq_true_eq] at hov
                  omega
                go_wp2_with fail
                refine (show Calls _ _ _ _ _ from HSM.out).mono ?_
                rintro e w5 ⟨rfl, rfl⟩
                clear HSM hov
                rcases hov2 with hv1 | ⟨hv1, hv2⟩
                · have hd3 : decide (1000000000 < V) = true := decide_eq_true hv1
                  go_wp2_with fail
                  go_ret
                  exact ⟨_, rfl, HF4.out.trans HO.out.1, by rw [HD.out]; exact ⟨_, _, _, _, _, HO.out.2⟩, fun h => by rw [HD.out] at h; simp at h⟩
                · have hd3 : decide (1000000000 < V) = false := decide_eq_false (by omega)
                  have hd4 : decide (V < -1000000000) = true := decide_eq_true hv2
                  go_wp2_with fail
                  go_ret
                  exact ⟨_, rfl, HF4.out.trans HO.out.1, by rw [HD.out]; exact ⟨_, _, _, _, _, HO.out.2⟩, fun h => by rw [HD.out] at h; simp at h⟩
              · rw [if_neg hov] at HD
                have hv1 : ¬ 1000000000 < V := by unfold overV at hov; simp only [Bool.or_eq_true, decide_eq_true_eq] at hov; omega
                have hv2 : ¬ V < -1000000000 := by unfold overV at hov; simp only [Bool.or_eq_true, decide_eq_true_eq] at hov; omega
                have hd3 : decide (1000000000 < V) = false := decide_eq_false hv1
                have hd4 : decide (V < -1000000000) = false := decide_eq_false hv2
                go_wp2_with fail
                refine (show Calls _ _ _ _ _ from HSM.out).mono ?_
                rintro e w5 ⟨rfl, rfl⟩
                clear HSM hov
                have HT3 : Hid (Rd w5 T (.slice (some ⟨ib, ioff + 6, none⟩) r.length (icap - 3)) r ∧ (icap = 3 → Rd w5 T (.slice (some ⟨ib, ioff, none⟩) r.length 0) r)) := Rd.from HR4.out 3 (by simp)
                have HJ3 : Hid (∀ rv, Rd w5 T rv r → Calls Tryz.prog 143 #[.slice (some ⟨w5.heap.size, 0, none⟩) 1 1, rv] (w5.alloc (Obj.cells #[.int .i64 1, .int .i64 V] 75)) fun e w' => ∃ v, e = .returned v ∧ Below w5.heap.size w5 w' ∧ Rd w' T v ((1, V) :: r)) := fun rv hv => by
                  have q := World.ownsRow_lit w5 #[.int .i64 1, .int .i64 V] 1 (e := 75) (base := 0) (size := 2) (Nat.zero_le _) (by unfold maxLen; omega) rfl
                  refine (rJoined _ _ [(1, V)] r T _ (Rd.own (l := [(1, V)]) q) (Rd.old hv (below_al _ _)) (by simp; omega)).mono ?_
                  rintro e w' ⟨v, rfl, hb', ho'⟩
                  exact ⟨v, rfl, (below_al w5 _).trans (hb'.mono (by simp)), Rd.own ho'⟩
                have HRE : Hid (R.nds = U2.nds ∧ R.stp = U2.stp + 1 ∧ R.out = 0 ∧ R.cur = (1, V) :: r) := by rw [HD.out]; exact ⟨rfl, rfl, hU2o', rfl⟩
                go_wp2_with fail
                all_goals
                  refine (HJ3.out _ (by first | exact HT3.out.1 | exact HT3.out.2 (by assumption))).mono ?_
                  rintro e w6 ⟨v6, rfl, hb6, hr6⟩
                  go_wp2_with fail
                  go_ret
                  obtain ⟨z1, z2, z3, z4⟩ := HRE.out
                  exact ⟨_, rfl, HF4.out.trans (Fx.of hb6 hT4), by rw [z1, z2, z3]; exact WP.old HW4.out hb6, fun _ => by rw [z4]; exact hr6⟩
        · have hz4 : (numO U2 == 0) = false := by simpa using hz3
          have HE : Hid (R = { U2 with out := numO U2 }) := by show _ = _; rw [← HR.out]; unfold cmpR; rw [if_neg (by simpa using hz1), if_pos hz3]
          go_wp2_with fail
          go_ret
          exact ⟨_, rfl, HF3.out, by rw [HE.out]; exact HW3.out, fun h => by rw [HE.out] at h; exact absurd h hz3⟩
    · have hz2 : (numO U1 == 0) = false := by simpa using hz1
      have HE : Hid (R = { U1 with out := numO U1 }) := by show _ = _; rw [← HR.out]; unfold cmpR; rw [if_pos hz1]
      go_wp2_with fail
      go_ret
      exact ⟨_, rfl, HF2.out, by rw [HE.out]; exact HW2.out, fun h => by rw [HE.out] at h; exact absurd h hz1⟩

end Go.Proofs.YtnndoagpbcacdaaGreatDoor
