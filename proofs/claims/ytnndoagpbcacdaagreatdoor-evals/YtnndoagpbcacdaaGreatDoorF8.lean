import Derived.Test.YtnndoagpbcacdaaGreatDoorMF6
namespace Go.Proofs.YtnndoagpbcacdaaGreatDoor
open Go.RowKit

/-! The reference's Sense: worth. -/
theorem bl_open {rk : Int → Nat} : ∀ {ks : List Kf} {q : Int}, RkK rk ks → Bl rk ks q → ∀ o ∈ opens ks, rk q < rk o
  | [], q, _, _, o, ho => by simp [opens] at ho
  | f :: ks, q, hk, hb, o, ho => by
    obtain ⟨h1, h2, h3⟩ := hk
    by_cases hf : f.k = 1
    · have hq : rk q < rk f.nd := hb f.nd (by unfold nxO; rw [if_pos hf])
      unfold opens at ho
      rw [List.flatMap_cons, if_pos hf, List.singleton_append] at ho
      rcases List.mem_cons.1 ho with rfl | ho
      · exact hq
      · exact Nat.lt_trans hq (bl_open h3 (h2 hf) o ho)
    · unfold opens at ho
      rw [List.flatMap_cons, if_neg hf, List.nil_append] at ho
      exact bl_open h3 (fun n hn => hb n (by unfold nxO; rw [if_neg hf]; exact hn)) o ho
theorem not_open {c : Cf} {rk : Int → Nat} {s : Im} (hi : Ii c rk s) {p : Int} {r : Ln} (hc : s.cur = (5, p) :: r) : p ∉ opsK s.ks := fun h => by
  unfold opsK at h
  rw [List.mem_reverse] at h
  have : rk p < rk p := bl_open hi.kb (hi.cb (5, p) (by rw [hc]; simp) rfl) p h
  omega
/-- What a pointer points to. -/
theorem sim_at {nm : List Tk} {D : List Dl} {ρ : List Nat} {nds : List (Ln × Bool)} {ops : List Int} (h : Smr nm D ρ nds ops) {x : Int} (hv : vA D.length (5, x)) : ∃ (n p : Nat) (d : Dl), x = (n : Int) ∧ n < D.length ∧ D[n]? = some d ∧ ρ[n]? = some p ∧ imA ρ (5, x) = (5, (p : Int)) := by
  obtain ⟨h0, h1⟩ := hv rfl
  simp only at h0 h1
  obtain ⟨n, rfl⟩ := Int.eq_ofNat_of_zero_le h0
  have hn : n < D.length := by omega
  have hr : n < ρ.length := by have := h.len; omega
  refine ⟨n, ρ[n], D[n], rfl, hn, List.getElem?_eq_getElem hn, List.getElem?_eq_getElem hr, ?_⟩
  unfold imA
  rw [if_pos rfl]
  simp only [Int.toNat_natCast]
  rw [List.getElem?_eq_getElem hr]
  rfl
set_option maxRecDepth 100000 in
set_option maxHeartbeats 8000000 in
theorem eWorth (T g : Nat) (fv : Value) (nm : List Tk) (ds : List Df) (c : Cf) (hcx : Cx nm ds c) (ht : ∀ t ∈ c.fs, TGo c t) (hp : ∀ t ∈ c.fs, TPg t) : ∀ n, WthE T g fv nm ds c n := by
  intro n
  induction n using Nat.strongRecOn with
  | ind n ih =>
    intro s U w iv l D ρ he hg hs hw hsm hvl hml hr
    have HIH : Hid _ := ih
    clear ih
    have hbud := hcx.bud
    obtain ⟨ks, hks⟩ : ∃ ks, ks = s.ks := ⟨_, rfl⟩
    rw [← hks] at he hsm ⊢
    obtain ⟨io, ic, rfl⟩ := hr.form
    have HE : Hid _ := he
    have HG : Hid _ := hg
    have HS : Hid _ := hs
    have HW : Hid _ := hw
    have HR : Hid _ := hr
    have HSM : Hid _ := hsm
    have HVL : Hid _ := hvl
    have HML : Hid _ := hml
    have HK : Hid (s.ks = ks) := hks.symm
    have HCX : Hid _ := hcx
    obtain ⟨cn, hcn⟩ : ∃ cn, cn = l.length := ⟨_, rfl⟩
    rw [← hcn]
    clear he hg hs hw hr hks hsm hvl hml hcx
    have HCN : Hid (cn = l.length) := hcn
    clear hcn
    go_enter Tryz.func96, Tryz.ntmps96
    go_wp2_with fail
    go_loopg [1] n (fun k y wr => k ≤ n ∧ ∃ (s' : Im) (l' : Ln) (D' : List Dl) (ρ' : List Nat), Hid (Fx T w wr) ∧ Hid (SnP wr T g fv nm ds c.bud D' s'.stp s'.out) ∧ Hid (Ev c ks k s' U) ∧ Hid (Exd D D' ρ ρ') ∧ Hid (Rd wr T y l') ∧ Hid (s'.out = 0 → Gd c s' ∧ Sz c k s' ∧ s'.ks = ks ∧ imL ρ' l' = s'.cur ∧ vL D'.length l' ∧ Smr nm D' ρ' s'.nds (opsK ks)))
    case atStart => exact ⟨Nat.le_refl _, s, l, D, ρ, Fx.refl _ _, by rw [HG.out.out]; exact HW.out, HE.out, Exd.refl _ _, by rw [HCN.out]; exact HR.out, fun _ => ⟨HG.out, HS.out, HK.out, HML.out, HVL.out, HSM.out⟩⟩
    case round =>
      clear HE HG HS HW HR HK HSM HVL HML HCN
      obtain ⟨hkn, s', l', D', ρ', HF, HW, HE, HX, HRD, HI⟩ := hrel
      obtain ⟨av, vs, hw⟩ := HW.out
      obtain ⟨c0, _, _, _, c4⟩ := hw.cells
      have e4 := hw.fz 4
      have hgl := hw.lt
      have hTw := hw.hT
      have hfu := hw.fu
      have HO3 : Hid _ := hw.setOut 3
      clear hw
      by_cases ho : s'.out = 0
      · obtain ⟨hg, hs, hk, hml, hvl, hsm⟩ := HI.out ho
        rw [ho] at c4
        obtain ⟨rk, hi⟩ := hg.ii
        obtain ⟨x, r, hl⟩ : ∃ x r, l' = x :: r := by
          cases hq : l' with
          | nil => rw [hq] at hml; exact absurd hml.symm hi.ne
          | cons a b => exact ⟨a, b, rfl⟩
        subst hl
        have hr' := HRD.out
        obtain ⟨ib, ioff, icap, hy, hib⟩ := hr'.isSome (by simp)
        subst hy
        obtain ⟨a0, a1⟩ := Rd.at hr' 0 (by simp)
        simp only [List.getElem_cons_zero, Nat.zero_mul, Nat.add_zero, List.length_cons] at a0 a1 ⊢
        obtain ⟨_, hcp1, hcp2⟩ := Rd.cap hr'
        simp only [List.length_cons] at hcp1
        unfold maxLen at hcp2
        have hcur : s'.cur = imA ρ' x :: imL ρ' r := hml.symm
        have hpx := hg.pg.cur (imA ρ' x) (by rw [hcur]; simp)
        have hrl : r.length ≤ 8000000 := by have := hs.tot; unfold totI at this; rw [hcur] at this; simp [imL_len] at this; omega
        obtain ⟨x1, x2⟩ := x
        simp only at a0 a1
        have hvr : vL D'.length r := hvl.sub (fun z hz => by simp [hz])
        have hvx : vA D'.length (x1, x2) := hvl _ (by simp)
        have HCUR : Hid (s'.cur = imA ρ' (x1, x2) :: imL ρ' r) := hcur
        have HO : Hid (s'.out = 0) := ho
        have HG : Hid (Gd c s') := hg
        have HS : Hid (Sz c gk s') := hs
        have HK : Hid (s'.ks = ks) := hk
        have HII : Hid (Ii c rk s') := hi
        have HSM : Hid _ := hsm
        have HVL : Hid _ := hvl
        have HVR : Hid _ := hvr
        have HVX : Hid _ := hvx
        have HLD : Hid _ := hsm.len
        have HRD2 : Hid (∀ w', Fx T wr w' → Rd w' T (.slice (some ⟨ib, ioff, none⟩) (r.length + 1) icap) ((x1, x2) :: r)) := fun w' hf => hr'.keep hf
        have HAL : Hid (Fx T wr (wr.alloc (Obj.cells #[.int .i64 x1, .int .i64 x2] 75))) := Fx.of (below_al _ _) hTw
        have HWA : Hid (SnP (wr.alloc (Obj.cells #[.int .i64 x1, .int .i64 x2] 75)) T g fv nm ds c.bud D' s'.stp 0) := by
          have := SnP.old HW.out (below_al wr (Obj.cells #[.int .i64 x1, .int .i64 x2] 75))
          rw [ho] at this
          exact this
        have HFV : Hid (U = s' → ∀ w', Fx T wr w' → SnP w' T g fv nm ds c.bud D' s'.stp 0 → ∃ v D2 ρ2 l2, (.slice (some ⟨ib, ioff, none⟩) (r.length + 1) icap : Value) = v ∧ Fx T w w' ∧ SnP w' T g fv nm ds c.bud D2 U.stp U.out ∧ Exd D D2 ρ ρ2 ∧ Rd w' T v l2 ∧ l2.length ≤ 9000000 ∧ (U.out = 0 → imL ρ2 l2 = U.cur ∧ vL D2.length l2 ∧ Smr nm D2 ρ2 U.nds (opsK ks))) := fun hU w' q1 q2 => ⟨_, D', ρ', (x1, x2) :: r, rfl, HF.out.trans q1, by rw [hU, ho]; exact q2, HX.out, HRD2.out w' q1, by simp; omega, fun _ => by rw [hU]; exact ⟨hml, HVL.out, HSM.out⟩⟩
        have hpk : (imA ρ' (x1, x2)).1 = x1 := imA_k _ _
        unfold PI at hpx
        rw [hpk] at hpx
        clear hcur ho hg hs hk hi hr' HI hml hvl hsm hvr hvx hpk HRD
        rcases hpx with h1 | h3 | ⟨h4, hp0, hp4⟩ | h5
        · subst h1
          have HIM : Hid (imA ρ' (1, x2) = (1, x2)) := imA_ne (by simp)
          by_cases hz : r.length = 0
          · have HU : Hid (U = s') := (ev_val HE.out HK.out (by rw [HCUR.out, HIM.out]; exact ⟨by simp [hdI], by simp [hdI], by simp [hdI], fun _ _ => by simp [imL_len, hz]⟩)).2
            have hd : decide ((0 : Int) < (r.length : Int)) = false := decide_eq_false (by omega)
            have hz' : ¬ (0 : Int) < (r.length : Int) := by omega
            have HZ : Hid (r.length = 0) := hz
            clear hz
            go_wp2_with fail
            go_ret
            obtain ⟨v, D2, ρ2, l2, rfl, h2⟩ := HFV.out HU.out _ HAL.out HWA.out
            first
              | exact ⟨_, D2, ρ2, l2, rfl, h2⟩
              | (obtain ⟨q1, q2, q3, q4, q5, q6⟩ := h2; exact ⟨_, rfl, q1, D2, q2, ρ2, q3, l2, q4, q5, q6⟩)
          · obtain ⟨k', hk', he'⟩ := ev_move HE.out HO.out (fun h => hz (by
              have := h.2.2.2.2 (by rw [HCUR.out, HIM.out]; simp [hdI]) (by rw [HCUR.out, HIM.out]; simp [hdI])
              rw [HCUR.out] at this
              simpa [imL_len] using this))
            have hm : moveI c s' = { s' with out := 3 } := by
              unfold moveI
              have h1 : hdI s'.cur = (1, x2) := by rw [HCUR.out, HIM.out]; rfl
              have h2 : s'.cur.tail = imL ρ' r := by rw [HCUR.out]; rfl
              simp only [h1, h2]
              rw [if_neg (by decide), if_neg (by decide), if_neg (by decide), if_pos (by rw [imL_len]; omega)]
            rw [hm] at he'
            have HE' : Hid _ := he'
            have hd : decide ((0 : Int) < (r.length : Int)) = true := decide_eq_true (by omega)
            have HFX : Hid (Fx T wr ((wr.setCell ⟨g, 4, none⟩ (.int .i64 3)).alloc (Obj.cells #[.int .i64 1, .int .i64 x2] 75))) := HO3.out.1.trans (Fx.of (below_al _ _) (by rw [sz_setc]; exact hTw))
            clear he' hm
            subst hk'
            go_wp2_with fail
            go_roundg k'
            case measure => omega
            case rel => exact ⟨by omega, { s' with out := 3 }, (1, x2) :: r, D', ρ', HF.out.trans HFX.out, SnP.old ⟨_, _, HO3.out.2⟩ (below_al _ _), HE'.out, HX.out, HRD2.out _ HFX.out, fun h => by simp at h⟩
        · subst h3
          have HIM : Hid (imA ρ' (3, x2) = (3, x2)) := imA_ne (by simp)
          have hf2 := (HII.out.it (3, x2) (by rw [HCUR.out, HIM.out]; simp)).2.1 rfl
          obtain ⟨F, rfl⟩ := Int.eq_ofNat_of_zero_le hf2.1
          have hFl : F < c.fs.length := by have := hf2.2; omega
          have hFd : F < ds.length := by have := HCX.out.len; omega
          have hdl := HCX.out.dl
          obtain ⟨t, htF⟩ : ∃ t, c.fs[F]? = some t := ⟨_, List.getElem?_eq_getElem hFl⟩
          obtain ⟨d, hdF⟩ : ∃ d, ds[F]? = some d := ⟨_, List.getElem?_eq_getElem hFd⟩
          have htpl := tpl_at htF
          obtain ⟨hta, hdp, _, _⟩ := HCX.out.tp F d t hdF htF
          obtain ⟨xs, hf1, hf3, hf4⟩ := hfu
          have hdd : ds[F] = d := by rw [List.getElem?_eq_getElem hFd] at hdF; exact Option.some.inj hdF
          obtain ⟨psv, bv, y0, y1, y2, hfo⟩ := FList.at hf4 F hFd
          rw [hdd] at y0 hfo
          have hprow := hfo.prow
          obtain ⟨po, pc, rfl⟩ := own_form hprow
          obtain ⟨qf, capf, rfl, _, hqfl⟩ := hf1.form (by omega)
          have f1 := row_cell hf1 _ _ y1
          have hcapf := own_cap hf1
          clear hf1 hf3 hf4 hfo hprow y0 y1 y2 hdd
          have HTP : Hid _ := htpl
          have HTA : Hid _ := hta
          have HTF : Hid _ := htF
          have HDF : Hid _ := hdF
          clear htpl hta htF hdF
          by_cases hlt : (r.length : Int) < (d.ps.length : Int)
          · have HU : Hid (U = s') := (ev_val HE.out HK.out (by rw [HCUR.out, HIM.out]; exact ⟨by simp [hdI], fun _ => by simp only [hdI, List.headD_cons, List.tail_cons]; rw [HTP.out, HTA.out, imL_len]; exact hlt, by simp [hdI], fun h => by simp [hdI] at h⟩)).2
            have hd : decide ((d.ps.length : Int) ≤ (r.length : Int)) = false := decide_eq_false (by omega)
            go_wp2_with fail
            go_region
            all_goals
              go_wp2_with fail
              go_ret
              obtain ⟨v, D2, ρ2, l2, rfl, h2⟩ := HFV.out HU.out _ HAL.out.drew (SnP.old HWA.out (Below.drew (Below.refl _ _)))
              first
                | exact ⟨_, D2, ρ2, l2, rfl, h2⟩
                | (obtain ⟨q1, q2, q3, q4, q5, q6⟩ := h2; exact ⟨_, rfl, q1, D2, q2, ρ2, q3, l2, q4, q5, q6⟩)
          · have hd : decide ((d.ps.length : Int) ≤ (r.length : Int)) = true := decide_eq_true (by omega)
            have hm : moveI c s' = callI c t (imL ρ' r) s' := by
              unfold moveI
              have h1 : hdI s'.cur = (3, (F : Int)) := by rw [HCUR.out, HIM.out]; rfl
              have h2 : s'.cur.tail = imL ρ' r := by rw [HCUR.out]; rfl
              simp only [h1, h2]
              rw [if_neg (by decide), if_pos trivial, HTP.out, if_pos (by rw [HTA.out, imL_len]; omega)]
            obtain ⟨k', hk', he'⟩ := ev_move HE.out HO.out (fun h => by
              have := h.2.2.1 (by rw [HCUR.out, HIM.out]; rfl)
              rw [HCUR.out, HIM.out] at this
              simp only [hdI, List.headD_cons, List.tail_cons] at this
              rw [HTP.out, HTA.out, imL_len] at this
              exact hlt this)
            rw [hm] at he'
            have HE' : Hid _ := he'
            have HN : Hid ((callI c t (imL ρ' r) s').out = 0 → Gd c (callI c t (imL ρ' r) s') ∧ Sz c k' (callI c t (imL ρ' r) s')) := fun h => by
              have := gs_move ht hp HG.out (n := k') (by rw [← hk']; exact HS.out) (by rw [hm]; exact h)
              rw [hm] at this
              exact this
            have HC : Hid _ := eCalled T g _ nm ds c s' (wr.alloc (Obj.cells #[.int .i64 3, .int .i64 (F : Int)] 75)).drew _ F r D' ρ' t d HCX.out HTF.out HDF.out (ht _ (List.mem_of_getElem? HTF.out)) HO.out HS.out.st HS.out.nd (SnP.old HWA.out (Below.drew (Below.refl _ _))) (by rw [HK.out]; exact HSM.out) HVR.out (HRD2.out _ HAL.out.drew) (by omega) (by omega)
            rw [HK.out] at HC
            have HKC : Hid ((callI c t (imL ρ' r) s').ks = ks) := by show _ = _; rw [call_ks]; exact HK.out
            clear he' hm
            generalize callI c t (imL ρ' r) s' = S2 at *
            subst hk'
            go_wp2_with fail
            go_region
            go_wp2_with fail
            refine (show Calls _ _ _ _ _ from HC.out).mono ?_
            rintro e w3 ⟨v3, D3, ρ3, l3, rfl, hf3, hw3, hx3, hr3, hu3⟩
            clear HC
            go_wp2_with fail
            go_roundg k'
            case measure => omega
            case rel => exact ⟨by omega, S2, l3, D3, ρ3, (HF.out.trans HAL.out.drew).trans hf3, hw3, HE'.out, HX.out.trans hx3, hr3, fun h => ⟨(HN.out h).1, (HN.out h).2, HKC.out, (hu3 h).1, (hu3 h).2.1, (hu3 h).2.2⟩⟩
        · subst h4
          have HIM : Hid (imA ρ' (4, x2) = (4, x2)) := imA_ne (by simp)
          rw [HIM.out] at hp0 hp4
          simp only at hp0 hp4
          have HWN : Hid (∀ w', Calls Tryz.prog 140 #[.int .i64 x2] w' fun e w'' => e = .returned (.int .i64 (wantM x2)) ∧ w'' = w') := fun w' => rWants x2 w' hp0 hp4
          by_cases hlt : (r.length : Int) < wantM x2
          · have HU : Hid (U = s') := (ev_val HE.out HK.out (by rw [HCUR.out, HIM.out]; exact ⟨by simp [hdI], by simp [hdI], fun _ => by simp only [hdI, List.headD_cons, List.tail_cons]; rw [imL_len]; exact hlt, fun _ h => by simp [hdI] at h⟩)).2
            have hd : decide (wantM x2 ≤ (r.length : Int)) = false := decide_eq_false (by omega)
            go_wp2_with fail
            go_region
            go_wp2_with fail
            refine (show Calls _ _ _ _ _ from HWN.out _).mono ?_
            rintro e w3 ⟨rfl, rfl⟩
            go_wp2_with fail
            go_ret
            obtain ⟨v, D2, ρ2, l2, rfl, h2⟩ := HFV.out HU.out _ HAL.out.drew (SnP.old HWA.out (Below.drew (Below.refl _ _)))
            first
              | exact ⟨_, D2, ρ2, l2, rfl, h2⟩
              | (obtain ⟨q1, q2, q3, q4, q5, q6⟩ := h2; exact ⟨_, rfl, q1, D2, q2, ρ2, q3, l2, q4, q5, q6⟩)
          · have hd : decide (wantM x2 ≤ (r.length : Int)) = true := decide_eq_true (by omega)
            have hw2 := want_ge x2
            obtain ⟨x', y', r', hrr⟩ : ∃ x' y' r', r = x' :: y' :: r' := by
              cases hq : r with
              | nil => rw [hq] at hlt; simp at hlt; omega
              | cons a b =>
                cases hq2 : b with
                | nil => rw [hq, hq2] at hlt; simp at hlt; omega
                | cons a' b' => exact ⟨a, a', b', rfl⟩
            have hirr : imL ρ' r = imA ρ' x' :: imA ρ' y' :: imL ρ' r' := by rw [hrr]; rfl
            obtain ⟨n1, n2, n3, U1, U2, l1, l2, l3, e1, e2, e3, e4, e5, e6, e7⟩ := ev_prim ht hp HE.out HK.out HG.out HS.out (by rw [HCUR.out, HIM.out, hirr]) (by rw [← hirr, imL_len]; omega)
            have HC : Hid _ := eComputed T g fv nm ds c n1 n2 (HIH.out n1 (by omega)) (HIH.out n2 (by omega)) ks x2 x' y' r' { s' with cur := [imA ρ' x'], ks := ⟨2, 0, x2, 0, imA ρ' y' :: imL ρ' r'⟩ :: ks } U1 U2 (wr.alloc (Obj.cells #[.int .i64 4, .int .i64 x2] 75)).drew (.slice (some ⟨ib, ioff, none⟩) (r.length + 1) icap) D' ρ' rfl rfl e1 e2 e3 e4 e5 ⟨hp0, hp4⟩ (fun h => by
              have : wantM x2 = 4 := by unfold wantM; rw [if_pos (by omega)]
              rw [hrr] at hlt; simp at hlt; omega) (by rw [hrr] at hrl; simp at hrl; omega) hbud (SnP.old HWA.out (Below.drew (Below.refl _ _))) HSM.out (by rw [← hrr]; exact HVL.out) (by have := HRD2.out _ HAL.out.drew; rw [hrr] at this; rw [hrr]; exact this)
            have HE6 : Hid _ := e6
            have HE7 : Hid _ := e7
            clear e1 e2 e3 e4 e5 e6 e7 hrr hirr
            generalize cmpR c U1 U2 = S2 at *
            go_wp2_with fail
            go_region
            go_wp2_with fail
            refine (show Calls _ _ _ _ _ from HWN.out _).mono ?_
            rintro e w3 ⟨rfl, rfl⟩
            go_wp2_with fail
            refine (show Calls _ _ _ _ _ from HC.out).mono ?_
            rintro e w4 ⟨v4, D4, ρ4, l4, rfl, hf4, hw4, hx4, hr4, hu4⟩
            clear HC
            go_wp2_with fail
            go_roundg n3
            case measure => omega
            case rel => exact ⟨by omega, S2, l4, D4, ρ4, (HF.out.trans HAL.out.drew).trans hf4, hw4, HE6.out, HX.out.trans hx4, hr4, fun h => ⟨(HE7.out h).1, (HE7.out h).2.1, (HE7.out h).2.2, (hu4 h).1, (hu4 h).2.1, (hu4 h).2.2⟩⟩
        · subst h5
          obtain ⟨q, P, d, rfl, hqD, hdq, hpq, himq⟩ := sim_at HSM.out HVX.out
          have HC5 : Hid (s'.cur = (5, (P : Int)) :: imL ρ' r) := by show _ = _; rw [HCUR.out, himq]
          have hf2 := (HII.out.it (5, (P : Int)) (by rw [HC5.out]; simp)).2.2 rfl
          have hPl : P < s'.nds.length := by have := hf2.2; omega
          have hDl : D'.length ≤ 100000 := by have := HSM.out.le; have := HS.out.nd; have := HS.out.sb; omega
          have HFR : Hid (∀ w', Fx T wr w' → (icap = 1 → Rd w' T (.slice (some ⟨ib, ioff, none⟩) r.length 0) r) ∧ Rd w' T (.slice (some ⟨ib, ioff + 2, none⟩) r.length (icap - 1)) r) := fun w' hf => by
            have := Rd.from (HRD2.out w' hf) 1 (by omega)
            exact ⟨fun h => this.2 h, this.1⟩
          have hst := (HSM.out.env d (List.mem_of_getElem? hdq)).2
          rcases (show d.st = 0 ∨ d.st = 1 ∨ d.st = 2 by omega) with h0 | h1 | h2
          · obtain ⟨f1, _, _⟩ := force_sim HSM.out hdq hpq h0
            obtain ⟨l0, hnd⟩ : ∃ l0, s'.nds[P]? = some (l0, false) := ⟨_, f1⟩
            obtain ⟨n1, n3, U1, q1, q3, e1, e2, e3, e4, e5⟩ := ev_node ht hp hbud HE.out HK.out HG.out HS.out HC5.out hnd
            have HC : Hid _ := eDelayed T g fv nm ds c n1 (HIH.out n1 (by omega)) { s' with cur := l0, ks := ⟨1, (P : Int), 0, 0, imL ρ' r⟩ :: ks } U1 ks P (imL ρ' r) (wr.alloc (Obj.cells #[.int .i64 5, .int .i64 (q : Int)] 75)) D' ρ' q d rfl hnd e1 e2 e3 HWA.out HSM.out hdq hpq h0 hbud (fun h => by
              obtain ⟨⟨⟨rk1, hi1⟩, _, _, _⟩, _⟩ := gs_ev ht hp (n2 := 0) e1 e2 (by rw [Nat.add_zero]; exact e3) h
              exact hi1.ne)
            have HE4 : Hid _ := e4
            have HE5 : Hid _ := e5
            clear e1 e2 e3 e4 e5 hst h0 f1 hnd hpq hdq himq hf2
            go_wp2_with fail
            refine (show Calls _ _ _ _ _ from HC.out).mono ?_
            rintro e w3 ⟨v3, D3, ρ3, l3, rfl, hf3, hw3, hx3, hr3, hl3, hu3⟩
            clear HC
            have HF3 : Hid (Fx T wr w3) := HAL.out.trans hf3
            have HJ1 : Hid (icap = 1 → _) := fun h => rJoined v3 (.slice (some ⟨ib, ioff, none⟩) r.length 0) l3 r T w3 hr3 ((HFR.out w3 HF3.out).1 h) (by omega)
            have HJ2 : Hid _ := rJoined v3 (.slice (some ⟨ib, ioff + 2, none⟩) r.length (icap - 1)) l3 r T w3 hr3 (HFR.out w3 HF3.out).2 (by omega)
            have HW3 : Hid _ := hw3
            have HX3 : Hid _ := hx3
            have HU3 : Hid _ := hu3
            have hT3 : T ≤ w3.heap.size := Nat.le_trans hTw HF3.out.size
            obtain ⟨vo3, vc3, rfl⟩ := hr3.form
            have hib3 : ib < w3.heap.size := Nat.lt_of_lt_of_le hib HF3.out.size
            clear hf3 hr3 hw3 hu3 hx3
            by_cases hic : icap = 1
            case' pos => have HJ : Hid _ := HJ1.out hic
            case' neg => have HJ : Hid _ := HJ2.out
            all_goals
              clear HJ1 HJ2
              go_wp2_with fail
              refine (show Calls _ _ _ _ _ from HJ.out).mono ?_
              rintro e w4 ⟨v4, rfl, hb4, ho4⟩
              clear HJ
              have HF4 : Hid (Fx T w w4) := (HF.out.trans HF3.out).trans (Fx.of hb4 hT3)
              have HW4 : Hid _ := SnP.old HW3.out hb4
              have HR4 : Hid (Rd w4 T v4 (l3 ++ r)) := Rd.own ho4
              clear hb4 ho4
              go_wp2_with fail
              by_cases hU1 : U1.out = 0
              · obtain ⟨z1, z2, z3, _, _⟩ := HE4.out hU1
                obtain ⟨u1, u2, u3⟩ := HU3.out hU1
                go_roundg n3
                case measure => omega
                case rel => exact ⟨by omega, { U1 with cur := U1.cur ++ imL ρ' r, ks := ks, nds := frcN P U1 }, l3 ++ r, D3, ρ3, HF4.out, HW4.out, z1, HX.out.trans HX3.out, HR4.out, fun _ => ⟨z2, z3, rfl, by rw [imL_app, u1, HX3.out.im HLD.out HVR.out], vL.app u2 (HX3.out.vl HVR.out), u3⟩⟩
              · go_roundg 0
                case measure => omega
                case rel => exact ⟨by omega, U1, l3 ++ r, D3, ρ3, HF4.out, HW4.out, ⟨HE5.out hU1, .inl hU1⟩, HX.out.trans HX3.out, HR4.out, fun h => absurd h hU1⟩
          · exact absurd (HSM.out.s1 q d P hdq hpq h1).2 (by rw [← HK.out]; exact not_open HII.out HC5.out)
          · obtain ⟨w1, w2, w3'⟩ := HSM.out.s2 q d P hdq hpq h2
            have hm : moveI c s' = { s' with cur := imL ρ' d.val ++ imL ρ' r } := by
              unfold moveI
              have hn2 : ndI s' (P : Int) = (imL ρ' d.val, true) := by unfold ndI; rw [Int.toNat_natCast, w3']; rfl
              have h1 : hdI s'.cur = (5, (P : Int)) := by rw [HC5.out]; rfl
              have h2 : s'.cur.tail = imL ρ' r := by rw [HC5.out]; rfl
              simp only [h1, h2, hn2]
              rw [if_pos trivial, if_pos trivial]
            obtain ⟨k', hk', he'⟩ := ev_move HE.out HO.out (fun h => h.2.1 (by rw [HC5.out]; rfl))
            rw [hm] at he'
            have HE' : Hid _ := he'
            have HN : Hid _ := gs_move ht hp HG.out (n := k') (by rw [← hk']; exact HS.out) (by rw [hm]; exact HO.out)
            rw [hm] at HN
            have hvl8 : d.val.length ≤ 8 := by have := HG.out.nb _ (List.mem_of_getElem? w3'); simpa [imL_len] using this
            have HC : Hid _ := eDelayedD (wr.alloc (Obj.cells #[.int .i64 5, .int .i64 (q : Int)] 75)) T g fv nm ds c.bud D' s'.stp 0 q d HWA.out hdq w1 hDl
            have HV8 : Hid _ := w2
            clear he' hm w1 w2 w3' hst h2 hpq hdq himq hf2
            subst hk'
            go_wp2_with fail
            refine (show Calls _ _ _ _ _ from HC.out).mono ?_
            rintro e w3 ⟨v3, rfl, hb3, hr3⟩
            clear HC
            have HF3 : Hid (Fx T wr w3) := HAL.out.trans (Fx.of hb3 (Nat.le_trans hTw HAL.out.size))
            have HJ1 : Hid (icap = 1 → _) := fun h => rJoined v3 (.slice (some ⟨ib, ioff, none⟩) r.length 0) d.val r T w3 hr3 ((HFR.out w3 HF3.out).1 h) (by omega)
            have HJ2 : Hid _ := rJoined v3 (.slice (some ⟨ib, ioff + 2, none⟩) r.length (icap - 1)) d.val r T w3 hr3 (HFR.out w3 HF3.out).2 (by omega)
            have HW3 : Hid _ := SnP.old HWA.out hb3
            have hT3 : T ≤ w3.heap.size := Nat.le_trans hTw HF3.out.size
            obtain ⟨vo3, vc3, rfl⟩ := hr3.form
            have hib3 : ib < w3.heap.size := Nat.lt_of_lt_of_le hib HF3.out.size
            clear hb3 hr3
            by_cases hic : icap = 1
            case' pos => have HJ : Hid _ := HJ1.out hic
            case' neg => have HJ : Hid _ := HJ2.out
            all_goals
              clear HJ1 HJ2
              go_wp2_with fail
              refine (show Calls _ _ _ _ _ from HJ.out).mono ?_
              rintro e w4 ⟨v4, rfl, hb4, ho4⟩
              clear HJ
              have HF4 : Hid (Fx T w w4) := (HF.out.trans HF3.out).trans (Fx.of hb4 hT3)
              have HW4 : Hid _ := SnP.old HW3.out hb4
              have HR4 : Hid (Rd w4 T v4 (d.val ++ r)) := Rd.own ho4
              clear hb4 ho4
              go_wp2_with fail
              go_roundg k'
              case measure => omega
              case rel => exact ⟨by omega, { s' with cur := imL ρ' d.val ++ imL ρ' r }, d.val ++ r, D', ρ', HF4.out, by rw [HO.out]; exact HW4.out, HE'.out, HX.out, HR4.out, fun _ => ⟨HN.out.1, HN.out.2, HK.out, imL_app _ _ _, vL.app HV8.out HVR.out, HSM.out⟩⟩
      · obtain ⟨_, hU⟩ := ev_out HE.out ho
        subst hU
        have ho2 : (U.out == 0) = false := by simpa using ho
        obtain ⟨yo, yc, rfl⟩ := HRD.out.form
        generalize l'.length = ll at *
        go_wp2_with fail
        go_ret
        exact ⟨_, D', ρ', [], rfl, HF.out, HW.out, HX.out, Rd.nil _ _, by simp, fun h => absurd h ho⟩

end Go.Proofs.YtnndoagpbcacdaaGreatDoor
