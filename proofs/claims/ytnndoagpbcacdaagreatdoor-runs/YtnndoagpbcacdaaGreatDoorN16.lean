import Derived.Test.YtnndoagpbcacdaaGreatDoorMN15
import Derived.Test.YtnndoagpbcacdaaGreatDoorN14
namespace Go.Proofs.YtnndoagpbcacdaaGreatDoor
open Go.RowKit

/-! The reference's run: worth. -/
set_option maxRecDepth 100000 in
set_option maxHeartbeats 8000000 in
theorem rWorth (T g : Nat) (fv : Value) (mn : Int) (c : Cf) (ht : ∀ t ∈ c.fs, TGo c t) (hp : ∀ t ∈ c.fs, TPg t) (hbud : c.bud ≤ 2000) (hhp : 0 ≤ c.hp ∧ c.hp ≤ 24000) : ∀ n, WthC T g fv mn c n := by
  intro n
  induction n using Nat.strongRecOn with
  | ind n ih =>
    intro s U w iv he hg hs hw hr
    have HIH : Hid _ := ih
    clear ih
    obtain ⟨ks, hks⟩ : ∃ ks, ks = s.ks := ⟨_, rfl⟩
    rw [← hks] at he hw ⊢
    obtain ⟨io, ic, rfl⟩ := hr.form
    have HE : Hid _ := he
    have HG : Hid _ := hg
    have HS : Hid _ := hs
    have HW : Hid _ := hw
    have HR : Hid _ := hr
    have HK : Hid (s.ks = ks) := hks.symm
    obtain ⟨cn, hcn⟩ : ∃ cn, cn = s.cur.length := ⟨_, rfl⟩
    rw [← hcn]
    clear he hg hs hw hr hks
    have HCN : Hid (cn = s.cur.length) := hcn
    clear hcn
    go_enter Tryz.func94, Tryz.ntmps94
    go_wp2_with fail
    go_loopg [1] n (fun k y wr => k ≤ n ∧ ∃ s' : Im, Hid (Fx T w wr) ∧ Hid (WP wr T g fv mn c s'.nds s'.stp s'.out (bysK ks) (opsK ks)) ∧ Hid (Ev c ks k s' U) ∧ Hid (s'.out = 0 → Gd c s' ∧ Sz c k s' ∧ s'.ks = ks ∧ Rd wr T y s'.cur))
    case atStart => exact ⟨Nat.le_refl _, s, Fx.refl _ _, by rw [HG.out.out]; exact HW.out, HE.out, fun _ => ⟨HG.out, HS.out, HK.out, by rw [HCN.out]; exact HR.out⟩⟩
    case round =>
      clear HE HG HS HW HR HK
      obtain ⟨hkn, s', HF, HW, HE, HI⟩ := hrel
      obtain ⟨av, bv, ov, vs, bs, hw⟩ := HW.out
      obtain ⟨_, c1, _, _, _, _, _, _, c8⟩ := hw.cells
      have e8 := hw.fz 8
      have hgl := hw.lt
      have hTw := hw.hT
      have hfu := hw.fu
      have HO3 : Hid _ := hw.setOut 3
      clear hw
      by_cases ho : s'.out = 0
      · obtain ⟨hg, hs, hk, hr⟩ := HI.out ho
        rw [ho] at c8
        obtain ⟨rk, hi⟩ := hg.ii
        obtain ⟨x, r, hcur⟩ : ∃ x r, s'.cur = x :: r := by
          cases hq : s'.cur with
          | nil => exact absurd hq hi.ne
          | cons a b => exact ⟨a, b, rfl⟩
        have hr' := hr
        rw [hcur] at hr'
        obtain ⟨ib, ioff, icap, rfl, hib⟩ := hr'.isSome (by simp)
        obtain ⟨a0, a1⟩ := Rd.at hr' 0 (by simp)
        simp only [List.getElem_cons_zero, Nat.zero_mul, Nat.add_zero, List.length_cons] at a0 a1 ⊢
        obtain ⟨_, hcp1, hcp2⟩ := Rd.cap hr'
        simp only [List.length_cons] at hcp1
        unfold maxLen at hcp2
        have hpx := hg.pg.cur x (by rw [hcur]; simp)
        have hrl : r.length ≤ 8000000 := by have := hs.tot; unfold totI at this; rw [hcur] at this; simp at this; omega
        obtain ⟨x1, x2⟩ := x
        simp only at a0 a1 hpx
        have HCUR : Hid (s'.cur = (x1, x2) :: r) := hcur
        have HO : Hid (s'.out = 0) := ho
        have HG : Hid (Gd c s') := hg
        have HS : Hid (Sz c gk s') := hs
        have HK : Hid (s'.ks = ks) := hk
        have HII : Hid (Ii c rk s') := hi
        have HRD : Hid (∀ w', Fx T wr w' → Rd w' T (.slice (some ⟨ib, ioff, none⟩) (r.length + 1) icap) s'.cur) := fun w' hf => by rw [hcur]; exact hr'.keep hf
        have HAL : Hid (Fx T wr (wr.alloc (Obj.cells #[.int .i64 x1, .int .i64 x2] 75))) := Fx.of (below_al _ _) hTw
        have HWA : Hid (WP (wr.alloc (Obj.cells #[.int .i64 x1, .int .i64 x2] 75)) T g fv mn c s'.nds s'.stp 0 (bysK ks) (opsK ks)) := by
          have := WP.old HW.out (below_al wr (Obj.cells #[.int .i64 x1, .int .i64 x2] 75))
          rw [ho] at this
          exact this
        unfold PI at hpx
        simp only at hpx
        clear hcur ho hg hs hk hi hr hr' HI
        have hlen : s'.cur.length ≤ 9000000 := by rw [HCUR.out]; simp; omega
        rcases hpx with h1 | h3 | ⟨h4, hp0, hp4⟩ | h5
        · subst h1
          by_cases hz : r.length = 0
          · have HU : Hid (U = s') := (ev_val HE.out HK.out (by rw [HCUR.out]; exact ⟨by simp [hdI], by simp [hdI], by simp [hdI], fun _ _ => by simp [hz]⟩)).2
            have hd : decide ((0 : Int) < (r.length : Int)) = false := decide_eq_false (by omega)
            have hz' : ¬ (0 : Int) < (r.length : Int) := by omega
            have HZ : Hid (r.length = 0) := hz
            clear hz
            go_wp2_with fail
            go_ret
            exact ⟨_, rfl, HF.out.trans HAL.out, by rw [HU.out, HO.out]; exact HWA.out, s'.cur, HRD.out _ HAL.out, hlen, fun _ => by rw [HU.out]⟩
          · have HU : Hid (U = { s' with out := 3 }) := by
              obtain ⟨k', _, he'⟩ := ev_move HE.out HO.out (fun h => hz (by
                have := h.2.2.2.2 (by rw [HCUR.out]; simp [hdI]) (by rw [HCUR.out]; simp [hdI])
                rw [HCUR.out] at this
                exact this))
              have hm : moveI c s' = { s' with out := 3 } := by
                unfold moveI
                have h1 : hdI s'.cur = (1, x2) := by rw [HCUR.out]; rfl
                have h2 : s'.cur.tail = r := by rw [HCUR.out]; rfl
                simp only [h1, h2]
                rw [if_neg (by decide), if_neg (by decide), if_neg (by decide), if_pos (by omega)]
              rw [hm] at he'
              exact (ev_out he' (by simp)).2
            have hd : decide ((0 : Int) < (r.length : Int)) = true := decide_eq_true (by omega)
            have HFX : Hid (Fx T wr ((wr.setCell ⟨g, 8, none⟩ (.int .i64 3)).alloc (Obj.cells #[.int .i64 1, .int .i64 x2] 75))) := HO3.out.1.trans (Fx.of (below_al _ _) (by rw [sz_setc]; exact hTw))
            go_wp2_with fail
            go_ret
            exact ⟨_, rfl, HF.out.trans HFX.out, by rw [HU.out]; exact WP.old ⟨_, _, _, _, _, HO3.out.2⟩ (below_al _ _), s'.cur, HRD.out _ HFX.out, hlen, fun h => by rw [HU.out] at h; simp at h⟩
        · subst h3
          have hf2 := (HII.out.it (3, x2) (by rw [HCUR.out]; simp)).2.1 rfl
          obtain ⟨F, rfl⟩ := Int.eq_ofNat_of_zero_le hf2.1
          have hFl : F < c.fs.length := by have := hf2.2; omega
          have htpl : tplM c (F : Int) = c.fs[F] := by unfold tplM; rw [if_pos hf2, Int.toNat_natCast, List.getElem?_eq_getElem hFl]; rfl
          obtain ⟨fa, fcap, hfve, hfc1, hfc2, hfc3⟩ := hfu
          obtain ⟨fb, foff, hfae, hfbT, hfcell⟩ := hfc3.resolve_left (by omega)
          subst hfae
          subst hfve
          obtain ⟨lv, f0, f1, _⟩ := hfcell F hFl
          have hfbw : fb < wr.heap.size := by omega
          unfold maxLen at hfc2
          have HTP : Hid (tplM c (F : Int) = c.fs[F]) := htpl
          have har6 := (ht _ (List.getElem_mem hFl)).tg.a1
          clear hfc3 hfcell htpl
          generalize c.fs[F] = t at *
          by_cases hlt : (r.length : Int) < t.ar
          · have HU : Hid (U = s') := (ev_val HE.out HK.out (by rw [HCUR.out]; exact ⟨by simp [hdI], fun _ => by simp only [hdI, List.headD_cons, List.tail_cons]; rw [HTP.out]; exact hlt, by simp [hdI], fun h => by simp [hdI] at h⟩)).2
            have hd : decide ((r.length : Int) < t.ar) = true := decide_eq_true hlt
            go_wp2_with fail
            go_region
            all_goals
              go_wp2_with fail
              go_ret
              exact ⟨_, rfl, (HF.out.trans HAL.out).drew, by rw [HU.out, HO.out]; exact WP.old HWA.out (Below.drew (Below.refl _ _)), s'.cur, HRD.out _ HAL.out.drew, hlen, fun _ => by rw [HU.out]⟩
          · have hd : decide ((r.length : Int) < t.ar) = false := decide_eq_false hlt
            have hm : moveI c s' = callI c (tplM c (F : Int)) r s' := by
              unfold moveI
              have h1 : hdI s'.cur = (3, (F : Int)) := by rw [HCUR.out]; rfl
              have h2 : s'.cur.tail = r := by rw [HCUR.out]; rfl
              simp only [h1, h2]
              rw [if_neg (by decide), if_pos trivial, if_pos (by rw [HTP.out]; omega)]
            obtain ⟨k', hk', he'⟩ := ev_move HE.out HO.out (fun h => by
              have := h.2.2.1 (by rw [HCUR.out]; rfl)
              rw [HCUR.out] at this
              simp only [hdI, List.headD_cons, List.tail_cons] at this
              rw [HTP.out] at this
              exact hlt this)
            rw [hm] at he'
            have HE' : Hid (Ev c ks k' (callI c (tplM c (F : Int)) r s') U) := he'
            have HN : Hid ((callI c (tplM c (F : Int)) r s').out = 0 → Gd c (callI c (tplM c (F : Int)) r s') ∧ Sz c k' (callI c (tplM c (F : Int)) r s')) := fun h => by
              have := gs_move ht hp HG.out (n := k') (by rw [← hk']; exact HS.out) (by rw [hm]; exact h)
              rw [hm] at this
              exact this
            have hnl : s'.nds.length ≤ 900000 := by have := HS.out.nd; have := HS.out.sb; omega
            have htot : totI s' ≤ 9000000 := by have := HS.out.tot; omega
            have hksl : s'.ks.length ≤ 900000 := by have := HS.out.ks; omega
            have HC : Hid _ := rCalled _ T g _ mn c rk s' _ (F : Int) r HCUR.out HO.out (by rw [HK.out]; exact WP.old HWA.out (Below.drew (Below.refl _ _))) (HRD.out _ HAL.out.drew) HII.out HG.out.nb ht hp (by rw [HTP.out]; omega) HS.out.st hbud hhp hnl htot hksl
            rw [HK.out] at HC
            have HKC : Hid ((callI c (tplM c (F : Int)) r s').ks = ks) := by show _ = _; rw [call_ks]; exact HK.out
            clear he' hm
            generalize callI c (tplM c (F : Int)) r s' = S2 at *
            subst hk'
            go_wp2_with fail
            go_region
            go_wp2_with fail
            refine (show Calls _ _ _ _ _ from HC.out).mono ?_
            rintro e w3 ⟨v3, rfl, hf3, hw3, hr3⟩
            clear HC
            go_wp2_with fail
            go_roundg k'
            case measure => omega
            case rel => exact ⟨by omega, S2, (HF.out.trans HAL.out.drew).trans hf3, hw3, HE'.out, fun h => ⟨(HN.out h).1, (HN.out h).2, HKC.out, hr3 h⟩⟩
        · subst h4
          have HWN : Hid (∀ w', Calls Tryz.prog 140 #[.int .i64 x2] w' fun e w'' => e = .returned (.int .i64 (wantM x2)) ∧ w'' = w') := fun w' => rWants x2 w' hp0 hp4
          by_cases hlt : (r.length : Int) < wantM x2
          · have HU : Hid (U = s') := (ev_val HE.out HK.out (by rw [HCUR.out]; exact ⟨by simp [hdI], by simp [hdI], fun _ => by simp only [hdI, List.headD_cons, List.tail_cons]; exact hlt, fun _ h => by simp [hdI] at h⟩)).2
            have hd : decide ((r.length : Int) < wantM x2) = true := decide_eq_true hlt
            go_wp2_with fail
            refine (show Calls _ _ _ _ _ from HWN.out _).mono ?_
            rintro e w3 ⟨rfl, rfl⟩
            go_wp2_with fail
            go_ret
            exact ⟨_, rfl, HF.out.trans HAL.out, by rw [HU.out, HO.out]; exact HWA.out, s'.cur, HRD.out _ HAL.out, hlen, fun _ => by rw [HU.out]⟩
          · have hd : decide ((r.length : Int) < wantM x2) = false := decide_eq_false hlt
            have hw2 := want_ge x2
            obtain ⟨x', y', r', hrr⟩ : ∃ x' y' r', r = x' :: y' :: r' := by
              cases hq : r with
              | nil => rw [hq] at hlt; simp at hlt; omega
              | cons a b =>
                cases hq2 : b with
                | nil => rw [hq, hq2] at hlt; simp at hlt; omega
                | cons a' b' => exact ⟨a, a', b', rfl⟩
            obtain ⟨n1, n2, n3, U1, U2, l1, l2, l3, e1, e2, e3, e4, e5, e6, e7⟩ := ev_prim ht hp HE.out HK.out HG.out HS.out (by rw [HCUR.out, hrr]) (by rw [← hrr]; omega)
            have HC : Hid _ := rComputed T g fv mn c n1 n2 (HIH.out n1 (by omega)) (HIH.out n2 (by omega)) ks x2 x' y' r' { s' with cur := [x'], ks := ⟨2, 0, x2, 0, y' :: r'⟩ :: ks } U1 U2 (wr.alloc (Obj.cells #[.int .i64 4, .int .i64 x2] 75)) (.slice (some ⟨ib, ioff, none⟩) (r.length + 1) icap) rfl rfl e1 e2 e3 e4 e5 ⟨hp0, hp4⟩ (fun h => by
              have : wantM x2 = 4 := by unfold wantM; rw [if_pos (by omega)]
              rw [hrr] at hlt; simp at hlt; omega) (by rw [hrr] at hrl; simp at hrl; omega) hbud HWA.out (by have := HRD.out _ HAL.out; rw [HCUR.out, hrr] at this; rw [hrr]; exact this)
            have HE6 : Hid _ := e6
            have HE7 : Hid _ := e7
            clear e1 e2 e3 e4 e5 e6 e7 hrr
            generalize cmpR c U1 U2 = S2 at *
            go_wp2_with fail
            refine (show Calls _ _ _ _ _ from HWN.out _).mono ?_
            rintro e w3 ⟨rfl, rfl⟩
            go_wp2_with fail
            refine (show Calls _ _ _ _ _ from HC.out).mono ?_
            rintro e w4 ⟨v4, rfl, hf4, hw4, hr4⟩
            clear HC
            go_wp2_with fail
            go_roundg n3
            case measure => omega
            case rel => exact ⟨by omega, S2, (HF.out.trans HAL.out).trans hf4, hw4, HE6.out, fun h => ⟨(HE7.out h).1, (HE7.out h).2.1, (HE7.out h).2.2, hr4 h⟩⟩
        · subst h5
          have hf2 := (HII.out.it (5, x2) (by rw [HCUR.out]; simp)).2.2 rfl
          obtain ⟨P, rfl⟩ := Int.eq_ofNat_of_zero_le hf2.1
          have hPl : P < s'.nds.length := by have := hf2.2; omega
          obtain ⟨l, dn, hnd⟩ : ∃ l dn, s'.nds[P]? = some (l, dn) := ⟨_, _, List.getElem?_eq_getElem hPl⟩
          have hl8 : l.length ≤ 8 := HG.out.nb _ (List.mem_of_getElem? hnd)
          have hnl : s'.nds.length ≤ 900000 := by have := HS.out.nd; have := HS.out.sb; omega
          have HFR : Hid (∀ w', Fx T wr w' → (∀ h : icap = 1, Rd w' T (.slice (some ⟨ib, ioff, none⟩) r.length 0) r) ∧ Rd w' T (.slice (some ⟨ib, ioff + 2, none⟩) r.length (icap - 1)) r) := fun w' hf => by
            have := Rd.from (HRD.out w' hf) 1 (by omega)
            rw [HCUR.out] at this
            exact ⟨fun h => this.2 h, this.1⟩
          by_cases hic : icap = 1
          · have hr0 : r = [] := List.length_eq_zero_iff.1 (by omega)
            subst hic
            subst hr0
            cases dn with
            | true =>
              have hm : moveI c s' = { s' with cur := l ++ [] } := by
                unfold moveI
                have hn2 : ndI s' (P : Int) = (l, true) := by unfold ndI; rw [Int.toNat_natCast, hnd]; rfl
                have h1 : hdI s'.cur = (5, (P : Int)) := by rw [HCUR.out]; rfl
                have h2 : s'.cur.tail = [] := by rw [HCUR.out]; rfl
                simp only [h1, h2, hn2]
                rw [if_pos trivial, if_pos trivial]
              obtain ⟨k', hk', he'⟩ := ev_move HE.out HO.out (fun h => h.2.1 (by rw [HCUR.out]; rfl))
              rw [hm] at he'
              have HE' : Hid _ := he'
              have HN : Hid _ := gs_move ht hp HG.out (n := k') (by rw [← hk']; exact HS.out) (by rw [hm]; exact HO.out)
              rw [hm] at HN
              have HC : Hid _ := rForcedD T g fv mn c s'.nds s'.stp (bysK ks) (opsK ks) P l (wr.alloc (Obj.cells #[.int .i64 5, .int .i64 (P : Int)] 75)).drew (.slice (some ⟨ib, ioff, none⟩) 0 0) hnd (WP.old HWA.out (Below.drew (Below.refl _ _))) hnl ⟨_, _, _, rfl⟩
              clear he' hm
              subst hk'
              go_wp2_with fail
              go_region_with (go_at_call 142; go_must (refine (show Calls _ _ _ _ _ from HC.out).mono ?_); rintro e w3 ⟨v3, rfl, hb3, hr3⟩; obtain ⟨vo3, vc3, rfl⟩ := hr3.form)
              all_goals
                have HF3 : Hid (Fx T wr w3) := HAL.out.drew.trans (Fx.of hb3 (Nat.le_trans hTw HAL.out.drew.size))
                have HJ : Hid _ := rJoined _ _ l [] T w3 hr3 ((HFR.out w3 HF3.out).1 (by simp)) (by omega)
                have HW3 : Hid _ := WP.old (WP.old HWA.out (Below.drew (Below.refl _ _))) hb3
                have hT3 : T ≤ w3.heap.size := Nat.le_trans hTw HF3.out.size
                clear hb3 hr3
                go_wp2_with fail
                refine (show Calls _ _ _ _ _ from HJ.out).mono ?_
                rintro e w4 ⟨v4, rfl, hb4, ho4⟩
                clear HJ
                go_wp2_with fail
                go_roundg k'
                case measure => omega
                case rel => exact ⟨by omega, { s' with cur := l ++ [] }, (HF.out.trans HF3.out).trans (Fx.of hb4 hT3), by rw [HO.out]; exact WP.old HW3.out hb4, HE'.out, fun _ => ⟨HN.out.1, HN.out.2, HK.out, Rd.own ho4⟩⟩
            | false =>
              obtain ⟨n1, n3, U1, l1, l3, e1, e2, e3, e4, e5⟩ := ev_node ht hp hbud HE.out HK.out HG.out HS.out HCUR.out hnd
              have HC : Hid _ := rForced T g fv mn c n1 (HIH.out n1 (by omega)) { s' with cur := l, ks := ⟨1, (P : Int), 0, 0, []⟩ :: ks } U1 ks P l [] (wr.alloc (Obj.cells #[.int .i64 5, .int .i64 (P : Int)] 75)).drew (.slice (some ⟨ib, ioff, none⟩) 0 0) hnd rfl rfl e1 e2 e3 hbud (WP.old HWA.out (Below.drew (Below.refl _ _))) ((HFR.out _ HAL.out.drew).1 (by simp)) (fun h => ⟨(e4 h).2.2.2.1, (e4 h).2.2.2.2⟩)
              have HE4 : Hid _ := e4
              have HE5 : Hid _ := e5
              clear e1 e2 e3 e4 e5
              go_wp2_with fail
              go_region_with (go_at_call 142; go_must (refine (show Calls _ _ _ _ _ from HC.out).mono ?_); rintro e w3 ⟨v3, rfl, hf3, hw3, l5, hr3, hl5, hlu5⟩; obtain ⟨vo3, vc3, rfl⟩ := hr3.form)
              all_goals
                have HF3 : Hid (Fx T wr w3) := HAL.out.drew.trans hf3
                have HJ : Hid _ := rJoined _ _ l5 [] T w3 hr3 ((HFR.out w3 HF3.out).1 (by simp)) (by simp only [List.length_nil]; omega)
                have HW3 : Hid _ := hw3
                have HLU : Hid _ := hlu5
                have hT3 : T ≤ w3.heap.size := Nat.le_trans hTw HF3.out.size
                clear hf3 hr3 hw3 hlu5 hl5
                go_wp2_with fail
                refine (show Calls _ _ _ _ _ from HJ.out).mono ?_
                rintro e w4 ⟨v4, rfl, hb4, ho4⟩
                clear HJ
                go_wp2_with fail
                by_cases hU1 : U1.out = 0
                · obtain ⟨q1, q2, q3, _, _⟩ := HE4.out hU1
                  go_roundg n3
                  case measure => omega
                  case rel => exact ⟨by omega, { U1 with cur := U1.cur ++ [], ks := ks, nds := frcN P U1 }, (HF.out.trans HF3.out).trans (Fx.of hb4 hT3), WP.old HW3.out hb4, q1, fun _ => ⟨q2, q3, rfl, by have := HLU.out hU1; rw [this] at ho4; exact Rd.own ho4⟩⟩
                · go_roundg 0
                  case measure => omega
                  case rel => exact ⟨by omega, U1, (HF.out.trans HF3.out).trans (Fx.of hb4 hT3), by have := WP.old HW3.out hb4; unfold frcN at this; rw [if_neg hU1] at this; exact this, ⟨HE5.out hU1, .inl hU1⟩, fun h => absurd h hU1⟩
          · cases dn with
            | true =>
              have hm : moveI c s' = { s' with cur := l ++ r } := by
                unfold moveI
                have hn2 : ndI s' (P : Int) = (l, true) := by unfold ndI; rw [Int.toNat_natCast, hnd]; rfl
                have h1 : hdI s'.cur = (5, (P : Int)) := by rw [HCUR.out]; rfl
                have h2 : s'.cur.tail = r := by rw [HCUR.out]; rfl
                simp only [h1, h2, hn2]
                rw [if_pos trivial, if_pos trivial]
              obtain ⟨k', hk', he'⟩ := ev_move HE.out HO.out (fun h => h.2.1 (by rw [HCUR.out]; rfl))
              rw [hm] at he'
              have HE' : Hid _ := he'
              have HN : Hid _ := gs_move ht hp HG.out (n := k') (by rw [← hk']; exact HS.out) (by rw [hm]; exact HO.out)
              rw [hm] at HN
              have HC : Hid _ := rForcedD T g fv mn c s'.nds s'.stp (bysK ks) (opsK ks) P l (wr.alloc (Obj.cells #[.int .i64 5, .int .i64 (P : Int)] 75)).drew (.slice (some ⟨ib, ioff + 2, none⟩) r.length (icap - 1)) hnd (WP.old HWA.out (Below.drew (Below.refl _ _))) hnl ⟨_, _, _, rfl⟩
              clear he' hm
              subst hk'
              go_wp2_with fail
              go_region_with (go_at_call 142; go_must (refine (show Calls _ _ _ _ _ from HC.out).mono ?_); rintro e w3 ⟨v3, rfl, hb3, hr3⟩; obtain ⟨vo3, vc3, rfl⟩ := hr3.form)
              all_goals
                have HF3 : Hid (Fx T wr w3) := HAL.out.drew.trans (Fx.of hb3 (Nat.le_trans hTw HAL.out.drew.size))
                have HJ : Hid _ := rJoined _ _ l r T w3 hr3 (HFR.out w3 HF3.out).2 (by omega)
                have HW3 : Hid _ := WP.old (WP.old HWA.out (Below.drew (Below.refl _ _))) hb3
                have hT3 : T ≤ w3.heap.size := Nat.le_trans hTw HF3.out.size
                clear hb3 hr3
                go_wp2_with fail
                refine (show Calls _ _ _ _ _ from HJ.out).mono ?_
                rintro e w4 ⟨v4, rfl, hb4, ho4⟩
                clear HJ
                go_wp2_with fail
                go_roundg k'
                case measure => omega
                case rel => exact ⟨by omega, { s' with cur := l ++ r }, (HF.out.trans HF3.out).trans (Fx.of hb4 hT3), by rw [HO.out]; exact WP.old HW3.out hb4, HE'.out, fun _ => ⟨HN.out.1, HN.out.2, HK.out, Rd.own ho4⟩⟩
            | false =>
              obtain ⟨n1, n3, U1, l1, l3, e1, e2, e3, e4, e5⟩ := ev_node ht hp hbud HE.out HK.out HG.out HS.out HCUR.out hnd
              have HC : Hid _ := rForced T g fv mn c n1 (HIH.out n1 (by omega)) { s' with cur := l, ks := ⟨1, (P : Int), 0, 0, r⟩ :: ks } U1 ks P l r (wr.alloc (Obj.cells #[.int .i64 5, .int .i64 (P : Int)] 75)).drew (.slice (some ⟨ib, ioff + 2, none⟩) r.length (icap - 1)) hnd rfl rfl e1 e2 e3 hbud (WP.old HWA.out (Below.drew (Below.refl _ _))) (HFR.out _ HAL.out.drew).2 (fun h => ⟨(e4 h).2.2.2.1, (e4 h).2.2.2.2⟩)
              have HE4 : Hid _ := e4
              have HE5 : Hid _ := e5
              clear e1 e2 e3 e4 e5
              go_wp2_with fail
              go_region_with (go_at_call 142; go_must (refine (show Calls _ _ _ _ _ from HC.out).mono ?_); rintro e w3 ⟨v3, rfl, hf3, hw3, l5, hr3, hl5, hlu5⟩; obtain ⟨vo3, vc3, rfl⟩ := hr3.form)
              all_goals
                have HF3 : Hid (Fx T wr w3) := HAL.out.drew.trans hf3
                have HJ : Hid _ := rJoined _ _ l5 r T w3 hr3 (HFR.out w3 HF3.out).2 (by omega)
                have HW3 : Hid _ := hw3
                have HLU : Hid _ := hlu5
                have hT3 : T ≤ w3.heap.size := Nat.le_trans hTw HF3.out.size
                clear hf3 hr3 hw3 hlu5 hl5
                go_wp2_with fail
                refine (show Calls _ _ _ _ _ from HJ.out).mono ?_
                rintro e w4 ⟨v4, rfl, hb4, ho4⟩
                clear HJ
                go_wp2_with fail
                by_cases hU1 : U1.out = 0
                · obtain ⟨q1, q2, q3, _, _⟩ := HE4.out hU1
                  go_roundg n3
                  case measure => omega
                  case rel => exact ⟨by omega, { U1 with cur := U1.cur ++ r, ks := ks, nds := frcN P U1 }, (HF.out.trans HF3.out).trans (Fx.of hb4 hT3), WP.old HW3.out hb4, q1, fun _ => ⟨q2, q3, rfl, by have := HLU.out hU1; rw [this] at ho4; exact Rd.own ho4⟩⟩
                · go_roundg 0
                  case measure => omega
                  case rel => exact ⟨by omega, U1, (HF.out.trans HF3.out).trans (Fx.of hb4 hT3), by have := WP.old HW3.out hb4; unfold frcN at this; rw [if_neg hU1] at this; exact this, ⟨HE5.out hU1, .inl hU1⟩, fun h => absurd h hU1⟩
      · obtain ⟨_, hU⟩ := ev_out HE.out ho
        subst hU
        have ho2 : (U.out == 0) = false := by simpa using ho
        go_wp2_with fail
        go_ret
        exact ⟨_, rfl, HF.out, HW.out, [], Rd.nil _ _, by simp, fun h => absurd h ho⟩

end Go.Proofs.YtnndoagpbcacdaaGreatDoor
