import Derived.Test.YtnndoagpbcacdaaGreatDoorMF3
import Derived.Test.YtnndoagpbcacdaaGreatDoorMN15
import Derived.Test.YtnndoagpbcacdaaGreatDoorMN4
namespace Go.Proofs.YtnndoagpbcacdaaGreatDoor
open Go.RowKit

/-! The reference's Sense: worth, by the number of moves of the machine; number. -/
/-- What the run is of: the definitions, their templates. -/
structure Cx (nm : List Tk) (ds : List Df) (c : Cf) : Prop where
  hp : c.hp = 24000
  bud : c.bud ≤ 2000
  len : c.fs.length = ds.length
  dl : ds.length ≤ 1000
  tp : ∀ (F : Nat) (d : Df) (t : Tp), ds[F]? = some d → c.fs[F]? = some t → t.ar = (d.ps.length : Int) ∧ d.ps.length ≤ 1000 ∧ d.body.length ≤ 1000 ∧ ∀ h a, d.body = h :: At.toks a → simp3 h → a.ok → t.ls = ownT (knownF d.ps nm) (.sim h a) 0 :: restT (knownF d.ps nm) (.sim h a) 0
def WthE (T g : Nat) (fv : Value) (nm : List Tk) (ds : List Df) (c : Cf) (n : Nat) : Prop := ∀ (s U : Im) (w : World) (iv : Value) (l : Ln) (D : List Dl) (ρ : List Nat), Ev c s.ks n s U → Gd c s → Sz c n s → SnP w T g fv nm ds c.bud D s.stp 0 → Smr nm D ρ s.nds (opsK s.ks) → vL D.length l → imL ρ l = s.cur → Rd w T iv l →
  Calls Tryz.prog 96 #[.pointer (some ⟨g, 0, none⟩), iv] w fun e w' => ∃ v D' ρ' l', e = .returned v ∧ Fx T w w' ∧ SnP w' T g fv nm ds c.bud D' U.stp U.out ∧ Exd D D' ρ ρ' ∧ Rd w' T v l' ∧ l'.length ≤ 9000000 ∧ (U.out = 0 → imL ρ' l' = U.cur ∧ vL D'.length l' ∧ Smr nm D' ρ' U.nds (opsK s.ks))
theorem hd_im (ρ : List Nat) {l : Ln} (h : l ≠ []) : hdI (imL ρ l) = imA ρ (hdI l) := by
  cases l with
  | nil => exact absurd rfl h
  | cons a b => rfl
theorem Smr.le {nm : List Tk} {D : List Dl} {ρ : List Nat} {nds : List (Ln × Bool)} {ops : List Int} (h : Smr nm D ρ nds ops) : D.length ≤ nds.length := by
  have hnd : ρ.Nodup := by
    unfold List.Nodup
    rw [List.pairwise_iff_getElem]
    intro i j hi hj hij he
    have hi' : i < D.length := by have := h.len; omega
    have hj' : j < D.length := by have := h.len; omega
    have := h.dj i j _ _ ρ[i] ρ[j] (List.getElem?_eq_getElem hi') (List.getElem?_eq_getElem hj') (List.getElem?_eq_getElem hi) (List.getElem?_eq_getElem hj) (by omega)
    omega
  have := nodup_le ρ (List.range nds.length) hnd (fun x hx => by
    obtain ⟨i, hi⟩ := List.getElem?_of_mem hx
    have hil := (List.getElem?_eq_some_iff.1 hi).1
    have := h.lt i _ x (List.getElem?_eq_getElem (by have := h.len; omega)) hi
    rw [List.mem_range]; omega)
  rw [List.length_range, h.len] at this
  exact this
set_option maxRecDepth 100000 in
set_option maxHeartbeats 4000000 in
theorem eNumber (T g : Nat) (fv : Value) (nm : List Tk) (ds : List Df) (c : Cf) (n : Nat) (hrec : WthE T g fv nm ds c n) (s U : Im) (f : Kf) (ks : List Kf) (x : Int × Int) (w : World) (D : List Dl) (ρ : List Nat) (hcur : s.cur = [imA ρ x]) (hks : s.ks = f :: ks) (hf : f.k ≠ 1) (he : Ev c s.ks n s U) (hg : Gd c s) (hs : Sz c n s)
    (hw : SnP w T g fv nm ds c.bud D s.stp 0) (hsm : Smr nm D ρ s.nds (opsK ks)) (hv : vA D.length x) (hun : U.out = 0 → U.cur ≠ []) :
    Calls Tryz.prog 184 #[.pointer (some ⟨g, 0, none⟩), .agg #[.int .i64 x.1, .int .i64 x.2]] w fun e w' => ∃ (r : Int) (D' : List Dl) (ρ' : List Nat), e = .returned (.int .i64 r) ∧ Fx T w w' ∧ SnP w' T g fv nm ds c.bud D' U.stp (numO U) ∧ Exd D D' ρ ρ' ∧ (numO U = 0 → r = (hdI U.cur).2 ∧ Smr nm D' ρ' U.nds (opsK ks)) := by
  obtain ⟨x1, x2⟩ := x
  have hTw : T ≤ w.heap.size := by obtain ⟨av, vs, h⟩ := hw; exact h.hT
  have HAL : Hid (Below w.heap.size w ((w.alloc (Obj.cells #[.int .i64 x1, .int .i64 x2] 75)).alloc (Obj.cells #[.int .i64 x1, .int .i64 x2] 75))) := below_al2 _ _ _
  have HRX : Hid (Rd ((w.alloc (Obj.cells #[.int .i64 x1, .int .i64 x2] 75)).alloc (Obj.cells #[.int .i64 x1, .int .i64 x2] 75)) T (.slice (some ⟨w.heap.size + 1, 0, none⟩) 1 1) [(x1, x2)]) := by
    have := World.ownsRow_lit (w.alloc (Obj.cells #[.int .i64 x1, .int .i64 x2] 75)) #[.int .i64 x1, .int .i64 x2] 1 (e := 75) (base := 0) (size := 2) (Nat.zero_le _) (by unfold maxLen; omega) rfl
    rw [World.size_alloc] at this
    exact Rd.own (l := [(x1, x2)]) this
  have hops : opsK s.ks = opsK ks := by rw [hks]; exact opsK_no ks hf
  have HC : Hid _ := hrec s U _ _ [(x1, x2)] D ρ he hg hs (SnP.old hw HAL.out) (by rw [hops]; exact hsm) (vL.cons hv (vL.nil _)) (by rw [hcur]; rfl) HRX.out
  rw [hops] at HC
  clear hw
  go_enter Tryz.func184, Tryz.ntmps184
  go_wp2_with fail
  refine (show Calls _ _ _ _ _ from HC.out).mono ?_
  rintro e w7 ⟨v, D', ρ', l', rfl, hf7, hw7, hex, hr7, _, hu7⟩
  clear HC
  have HF7 : Hid (Fx T w w7) := (Fx.of HAL.out hTw).trans hf7
  have HEX : Hid _ := hex
  have HU7 : Hid _ := hu7
  obtain ⟨av7, vs7, hw7⟩ := hw7
  obtain ⟨_, _, _, _, d4⟩ := hw7.cells
  have e4 := hw7.fz 4
  have hg7 := hw7.lt
  have HO3 : Hid _ := hw7.setOut 3
  have HW7 : Hid _ := hw7
  have HUN : Hid _ := hun
  obtain ⟨vo, vc, rfl⟩ := hr7.form
  clear hw7 hf7 hex hu7 hun
  by_cases hU : U.out = 0
  · obtain ⟨h1, h2, h3⟩ := HU7.out hU
    have hne : l' ≠ [] := fun e => HUN.out hU (by rw [← h1, e]; rfl)
    obtain ⟨y, r, rfl⟩ : ∃ y r, l' = y :: r := by
      cases l' with
      | nil => exact absurd rfl hne
      | cons a b => exact ⟨a, b, rfl⟩
    obtain ⟨y1, y2⟩ := y
    obtain ⟨ib, ioff, icap, hie, hib⟩ := hr7.isSome (by simp)
    cases hie
    obtain ⟨a0, a1⟩ := Rd.at hr7 0 (by simp)
    simp only [List.getElem_cons_zero, Nat.zero_mul, Nat.add_zero, List.length_cons] at a0 a1 ⊢
    have hhd : hdI U.cur = imA ρ' (y1, y2) := by rw [← h1]; rfl
    rw [hU] at d4
    by_cases hk : y1 = 1
    · subst hk
      have HH : Hid (hdI U.cur = (1, y2)) := hhd
      have HZ : Hid (numO U = 0) := by show _ = _; unfold numO; rw [if_pos hU, HH.out]; rfl
      have HS3 : Hid _ := h3
      clear h1 h2 h3 hhd hr7 hne
      go_wp2_with fail
      go_ret
      exact ⟨y2, D', ρ', rfl, HF7.out, by rw [HZ.out]; rw [hU] at HW7; exact ⟨_, _, HW7.out⟩, HEX.out, fun _ => ⟨by rw [HH.out], HS3.out⟩⟩
    · have hk2 : (y1 == 1) = false := by simpa using hk
      have HZ : Hid (numO U = 3) := by show _ = _; unfold numO; rw [if_pos hU, if_neg (by rw [hhd, imA_k]; exact hk)]
      clear h1 h2 h3 hhd hr7 hne
      go_wp2_with fail
      go_ret
      exact ⟨0, D', ρ', rfl, HF7.out.trans HO3.out.1, by rw [HZ.out]; exact ⟨_, _, HO3.out.2⟩, HEX.out, fun h => by rw [HZ.out] at h; simp at h⟩
  · have hU2 : (U.out == 0) = false := by simpa using hU
    have HZ : Hid (numO U = U.out) := by show _ = _; unfold numO; rw [if_neg hU]
    clear hr7
    generalize l'.length = ln at *
    go_wp2_with fail
    go_ret
    exact ⟨0, D', ρ', rfl, HF7.out, by rw [HZ.out]; exact ⟨_, _, HW7.out⟩, HEX.out, fun h => by rw [HZ.out] at h; exact absurd h hU⟩

end Go.Proofs.YtnndoagpbcacdaaGreatDoor
namespace Go.Proofs.YtnndoagpbcacdaaGreatDoor
open Go.RowKit

/-! The reference's Sense: delayed. -/
set_option maxRecDepth 100000 in
set_option maxHeartbeats 2000000 in
/-- What is known. -/
theorem eDelayedD (w : World) (T g : Nat) (fv : Value) (nm : List Tk) (ds : List Df) (bud : Int) (D : List Dl) (stp out : Int) (n : Nat) (d : Dl) (h : SnP w T g fv nm ds bud D stp out) (hd : D[n]? = some d) (hv : d.val ≠ []) (hl : D.length ≤ 100000) :
    Calls Tryz.prog 144 #[.pointer (some ⟨g, 0, none⟩), .int .i64 (n : Int)] w fun e w' => ∃ v, e = .returned v ∧ Below w.heap.size w w' ∧ Rd w' T v d.val := by
  obtain ⟨av, vs, hw⟩ := h
  have hnl := (List.getElem?_eq_some_iff.1 hd).1
  have hvl := hw.vl
  have hnv : n < vs.length := by omega
  have hu0 : vs[n]? = some vs[n] := List.getElem?_eq_getElem hnv
  obtain ⟨_, _, hrd⟩ := hw.rv n _ d hu0 hd
  obtain ⟨k0, k1, k2⟩ := dcs_at vs n _ hu0
  obtain ⟨q, cap, rfl, hqT, hql⟩ := hw.ra.form (by omega)
  have c0 := row_cell hw.ra _ _ k0
  have c1 := row_cell hw.ra _ _ k1
  have c2 := row_cell hw.ra _ _ k2
  obtain ⟨_, _, _, c3, _⟩ := hw.cells
  have hcap := own_cap hw.ra
  have hgl := hw.lt
  generalize vs[n] = v at *
  obtain ⟨v1, v2, v3⟩ := v
  simp only at *
  obtain ⟨ao, ac, rfl⟩ := hrd.form
  have hz : d.val.length ≠ 0 := fun e => hv (List.length_eq_zero_iff.1 e)
  have hz2 : ((d.val.length : Int) == 0) = false := by simpa using hz
  have hz3 : ¬ (d.val.length : Int) = 0 := by omega
  have HRD : Hid _ := hrd
  clear hrd hw hu0 k0 k1 k2 hvl hd
  go_enter Tryz.func144, Tryz.ntmps144
  go_wp2_with fail
  go_ret
  exact ⟨_, rfl, Below.refl _ _, HRD.out⟩
set_option maxRecDepth 100000 in
set_option maxHeartbeats 4000000 in
/-- What is not yet known. -/
theorem eDelayed (T g : Nat) (fv : Value) (nm : List Tk) (ds : List Df) (c : Cf) (n1 : Nat) (hrec : WthE T g fv nm ds c n1) (s U : Im) (ks : List Kf) (p : Nat) (r : Ln) (w : World) (D : List Dl) (ρ : List Nat) (n : Nat) (d : Dl) (hks : s.ks = ⟨1, (p : Int), 0, 0, r⟩ :: ks) (hnd : s.nds[p]? = some (s.cur, false)) (he : Ev c s.ks n1 s U) (hg : Gd c s) (hs : Sz c n1 s)
    (hw : SnP w T g fv nm ds c.bud D s.stp 0) (hsm : Smr nm D ρ s.nds (opsK ks)) (hd : D[n]? = some d) (hp : ρ[n]? = some p) (h0 : d.st = 0) (hbud : c.bud ≤ 2000) (hun : U.out = 0 → U.cur ≠ []) :
    Calls Tryz.prog 144 #[.pointer (some ⟨g, 0, none⟩), .int .i64 (n : Int)] w fun e w' => ∃ v D' ρ' l', e = .returned v ∧ Fx T w w' ∧ SnP w' T g fv nm ds c.bud D' U.stp U.out ∧ Exd D D' ρ ρ' ∧ Rd w' T v l' ∧ l'.length ≤ 9000000 ∧ (U.out = 0 → imL ρ' l' = U.cur ∧ vL D'.length l' ∧ Smr nm D' ρ' (frcN p U) (opsK ks)) := by
  have hDl : D.length ≤ 24000 := by have := hsm.le; have := hs.nd; have := hs.sb; omega
  obtain ⟨f1, f2, f3⟩ := force_sim hsm hd hp h0
  rw [hnd] at f1
  obtain ⟨av, vs, hw⟩ := hw
  have hnl := (List.getElem?_eq_some_iff.1 hd).1
  have hvl := hw.vl
  have hnv : n < vs.length := by omega
  have hu0 : vs[n]? = some vs[n] := List.getElem?_eq_getElem hnv
  obtain ⟨hpo, hre, hrv⟩ := hw.rv n _ d hu0 hd
  obtain ⟨hev1, hev2⟩ := hw.ev d (List.mem_of_getElem? hd)
  obtain ⟨k0, k1, k2⟩ := dcs_at vs n _ hu0
  obtain ⟨q, cap, rfl, hqT, hql⟩ := hw.ra.form (by omega)
  have c0 := row_cell hw.ra _ _ k0
  have c1 := row_cell hw.ra _ _ k1
  have c2 := row_cell hw.ra _ _ k2
  obtain ⟨_, _, _, c3, _⟩ := hw.cells
  have hcap := own_cap hw.ra
  have hgl := hw.lt
  have hTw := hw.hT
  rw [(hsm.s0 n d p hd hp h0).1] at hrv
  obtain ⟨xs, hp1, hp2, hp3⟩ := hpo
  have hdl := dls_le d.ps d.env d.b
  have HPT : Hid _ := eParts T g fv nm ds c.bud s.stp 0 d.ps d.env d.b (D.set n { d with st := 1 }) xs vs[n].1 vs[n].2.1 w.drew ⟨_, _, (hw.take hd).old (Below.drew (Below.refl _ _))⟩ (World.ownsRow.drew hp1) hp2 (ER.keep (w := w) (w' := w.drew) (fun _ _ => rfl) (fun _ h => h) hp3) (hre.old (Below.drew (Below.refl _ _))) hev1 hev2 (by rw [List.length_set]; omega)
  rw [List.length_set] at HPT
  generalize vs[n] = v at *
  obtain ⟨v1, v2, v3⟩ := v
  simp only at *
  obtain ⟨ao, ac, rfl⟩ := hrv.form
  simp only [List.length_nil] at c2
  obtain ⟨po, pcap, rfl⟩ := own_form hp1
  obtain ⟨eo, ecap, rfl⟩ := hre.form
  have HF2 : Hid _ := f2
  have HF3 : Hid _ := f3
  have HF1 : Hid (imL (ρ ++ bss d.b (p + 1)) (ous (knownF d.ps nm) d.env d.b D.length) = s.cur) := by simp at f1; exact f1.symm
  have HREC : Hid _ := hrec
  have HE : Hid _ := he
  have HG : Hid _ := hg
  have HS : Hid _ := hs
  have HKS : Hid _ := hks
  have HD : Hid _ := hd
  have HP : Hid _ := hp
  have H0 : Hid _ := h0
  have HUN : Hid _ := hun
  clear f1 f2 f3 hrec he hg hs hks hd hp h0 hun hu0 k0 k1 k2 hvl hw hrv hre hp1 hp2 hp3 hnd hev1 hev2 hsm hdl hnv hbud
  go_enter Tryz.func144, Tryz.ntmps144
  go_wp2_with fail
  go_cut [5] (fun vx wc => Hid (Fx T w wc) ∧ Hid (SnP wc T g fv nm ds c.bud (D.set n { d with st := 1 } ++ dls d.ps d.env d.b) s.stp 0) ∧ Hid (Rd wc T vx (ous (knownF d.ps nm) d.env d.b D.length)))
  case first =>
    go_region_with (go_at_call 182; go_must (refine (show Calls _ _ _ _ _ from HPT.out).mono ?_); rintro e w1 ⟨lv, rfl, hf1, hw1, hr1⟩)
    all_goals
      go_wp2_with fail
      go_meet
      case rel => exact ⟨(Fx.refl T w).drew.trans hf1, hw1, hr1⟩
  case rest =>
    obtain ⟨HFC, HWC, HRC⟩ := hcut
    obtain ⟨lo, lcap, rfl⟩ := Rd.form HRC.out
    have hops : opsK s.ks = opsK ks ++ [(p : Int)] := by rw [HKS.out]; exact opsK_yes ks rfl
    have HC : Hid _ := HREC.out s U wc _ (ous (knownF d.ps nm) d.env d.b D.length) (D.set n { d with st := 1 } ++ dls d.ps d.env d.b) (ρ ++ bss d.b (p + 1)) HE.out HG.out HS.out HWC.out (by rw [hops]; exact HF2.out) HF3.out HF1.out HRC.out
    rw [hops] at HC
    clear hops c0 c1 c2 c3 hcap hqT hql HPT HRC HWC HREC
    generalize (ous (knownF d.ps nm) d.env d.b D.length).length = ln at *
    go_wp2_with fail
    refine (show Calls _ _ _ _ _ from HC.out).mono ?_
    rintro e w2 ⟨v, D3, ρ3, l', rfl, hf2, hw2, hex, hr2, hl2, hu2⟩
    clear HC
    obtain ⟨hd3, hex3⟩ := Exd.force HD.out H0.out hex
    have hn3 := (List.getElem?_eq_some_iff.1 hd3).1
    obtain ⟨av3, vs3, hw3⟩ := hw2
    obtain ⟨q3, cap3, rfl, hq3T, hq3l⟩ := hw3.ra.form (by omega)
    have hnv3 : n < vs3.length := by rw [hw3.vl]; exact hn3
    obtain ⟨k0, k1, k2⟩ := dcs_at vs3 n _ (List.getElem?_eq_getElem hnv3)
    have c2 := row_cell hw3.ra _ _ k2
    have z2 := rowF hw3.ra (n * 3 + 2)
    obtain ⟨_, _, _, c3, _⟩ := hw3.cells
    have hcap := own_cap hw3.ra
    have hgl3 := hw3.lt
    obtain ⟨vs4, hfx4, hw4⟩ := hw3.layV (st := 2) rfl hr2 hd3
    obtain ⟨vo, vc, rfl⟩ := hr2.form
    obtain ⟨_, _, _, e3, _⟩ := hw4.cells
    have hnv4 : n < vs4.length := by rw [hw4.vl, List.length_set]; exact hn3
    have HRD4 : Hid _ := hr2.keep hfx4
    have HF4 : Hid _ := (HFC.out.trans hf2).trans hfx4
    have HW4 : Hid _ := hw4
    have HU2 : Hid _ := hu2
    have HX3 : Hid _ := hex3
    have HD3 : Hid _ := hd3
    clear hf2 hw3 hex hr2 hu2 hfx4 hw4 hex3 hd3 k0 k1 k2
    generalize hvv : vs3[n].2.2 = vv3 at *
    clear hvv
    go_wp2_with fail
    go_ret
    refine ⟨_, D3.set n { d with val := l', st := 2 }, ρ3, l', rfl, HF4.out, ⟨_, _, HW4.out⟩, HX3.out _, HRD4.out, hl2, fun hU => ?_⟩
    obtain ⟨u1, u2, u3⟩ := HU2.out hU
    have hp3 : ρ3[n]? = some p := by
      obtain ⟨ρ2, e⟩ := (HX3.out d).ex
      rw [e, List.getElem?_append_left (List.getElem?_eq_some_iff.1 HP.out).1]
      exact HP.out
    have hne : l' ≠ [] := fun e => HUN.out hU (by rw [← u1, e]; rfl)
    have hk := u3.known HD3.out hp3 rfl hne u2
    refine ⟨u1, by rw [List.length_set]; exact u2, ?_⟩
    unfold frcN
    rw [if_pos hU, ← u1]
    exact hk

end Go.Proofs.YtnndoagpbcacdaaGreatDoor
