import Derived.Test.YtnndoagpbcacdaaGreatDoorMN7
import Derived.Test.YtnndoagpbcacdaaGreatDoorM8
namespace Go.Proofs.YtnndoagpbcacdaaGreatDoor
open Go.RowKit

/-! The reference's run: needed. -/
theorem made_bls (n : Nat) : (madeCells #[Value.bool false] n).toList = bls (List.replicate n false) := by
  rw [toList_madeCells_one]; simp [bls]
/-- What holds of the marks: at hand is marked; none is too many. -/
structure Mk (nd : List Ln) (rt : Ln) (ops : List Int) (S : List Bool) : Prop where
  len : S.length = nd.length
  r1 : ∀ a ∈ rt, a.1 = 5 → S[a.2.toNat]? = some true
  r2 : ∀ p ∈ ops, S[p.toNat]? = some true
  so : ∀ R : Nat → Prop, (∀ a ∈ rt, a.1 = 5 → R a.2.toNat) → (∀ p ∈ ops, R p.toNat) → (∀ i, R i → ∀ a ∈ nd[i]?.getD [], a.1 = 5 → R a.2.toNat) → ∀ i : Nat, S[i]? = some true → R i
theorem mk_start {nd : List Ln} {rt : Ln} {ops : List Int} (h1 : ∀ a ∈ rt, a.1 = 5 → 0 ≤ a.2 ∧ a.2 < nd.length) (h2 : ∀ p ∈ ops, 0 ≤ p ∧ p < nd.length) : Mk nd rt ops (mrkO ops (mrk rt (List.replicate nd.length false))) := by
  refine ⟨by rw [mrkO_len, mrk_len]; simp, fun a ha h5 => ?_, fun p hp => ?_, fun R k1 k2 _ i hi => ?_⟩
  · exact (mrkO_iff _ _ _).2 (.inl ((mrk_iff _ _ _).2 (.inr ⟨by have := h1 a ha h5; simp; omega, a, ha, h5, rfl⟩)))
  · exact (mrkO_iff _ _ _).2 (.inr ⟨by have := h2 p hp; rw [mrk_len]; simp; omega, p, hp, rfl⟩)
  · rcases (mrkO_iff _ _ _).1 hi with hi | ⟨_, p, hp, rfl⟩
    · rcases (mrk_iff _ _ _).1 hi with hi | ⟨_, a, ha, h5, rfl⟩
      · have := List.mem_of_getElem? hi
        simp at this
      · exact k1 a ha h5
    · exact k2 p hp
theorem Mk.pas {nd : List Ln} {rt : Ln} {ops : List Int} {S : List Bool} (h : Mk nd rt ops S) : Mk nd rt ops (pas nd S.length S) :=
  ⟨by rw [pas_len]; exact h.len, fun a ha h5 => pas_sub _ _ _ (h.r1 a ha h5), fun p hp => pas_sub _ _ _ (h.r2 p hp), fun R k1 k2 k3 => pas_sound k3 _ _ (h.so R k1 k2 k3)⟩
/-- Where a pass marks nothing new. -/
def ClS (nd : List Ln) (S : List Bool) : Prop := ∀ i : Nat, S[i]? = some true → ∀ a ∈ nd[i]?.getD [], a.1 = 5 → S[a.2.toNat]? = some true
theorem cls_fix {nd : List Ln} {S : List Bool} (hl : S.length = nd.length) (hv : ∀ l ∈ nd, ∀ a ∈ l, a.1 = 5 → 0 ≤ a.2 ∧ a.2 < nd.length) (h : cT (pas nd S.length S) ≤ cT S) : pas nd S.length S = S ∧ ClS nd S := by
  obtain ⟨h1, h2⟩ := pas_fix _ _ h
  refine ⟨h1, fun i hi a ha h5 => ?_⟩
  have hil := (List.getElem?_eq_some_iff.1 hi).1
  have := h2 i hil hi
  rw [← this]
  refine (mrk_iff _ _ _).2 (.inr ⟨?_, a, ha, h5, rfl⟩)
  rw [List.getElem?_eq_getElem (by omega)] at ha
  have := hv _ (List.getElem_mem (by omega)) a ha h5
  omega
theorem mk_need {s : Im} {S : List Bool} (h : Mk (s.nds.map (·.1)) (s.cur ++ (s.ks.map (·.rs)).reverse.flatten) (opens s.ks).reverse S) (hc : ClS (s.nds.map (·.1)) S) {c : Cf} {rk : Int → Nat} (hi : Ii c rk s) : needI s = cT S := by
  have hfl : ∀ a : Int × Int, a ∈ flK s.ks ↔ a ∈ (s.ks.map (·.rs)).reverse.flatten := by
    intro a
    unfold flK
    rw [List.mem_flatMap, List.mem_flatten]
    constructor
    · rintro ⟨f, hf, ha⟩
      exact ⟨f.rs, by rw [List.mem_reverse]; exact List.mem_map.2 ⟨f, hf, rfl⟩, ha⟩
    · rintro ⟨l, hl, ha⟩
      rw [List.mem_reverse] at hl
      obtain ⟨f, hf, rfl⟩ := List.mem_map.1 hl
      exact ⟨f, hf, ha⟩
  have hmem : ∀ a, a ∈ s.cur ++ flK s.ks ↔ a ∈ s.cur ++ (s.ks.map (·.rs)).reverse.flatten := by
    intro a; rw [List.mem_append, List.mem_append, hfl]
  have hnd : ∀ i : Nat, (s.nds.map (·.1))[i]?.getD [] = (s.nds[i]?.getD ([], false)).1 := by
    intro i; rw [List.getElem?_map]; cases s.nds[i]? <;> rfl
  refine need_cnt s S (by rw [h.len, List.length_map]) (fun a ha h5 => ?_) (fun p hp => ?_) (fun n hn a ha h5 => ((hi.nd n hn).2.1 a ha).2.2 h5) (fun a ha h5 => h.r1 a ((hmem a).1 ha) h5) (fun p hp => h.r2 p (by rw [List.mem_reverse]; exact hp)) (fun i hi2 a ha h5 => hc i hi2 a (by rw [hnd]; exact ha) h5) (fun R k1 k2 k3 => h.so R (fun a ha => k1 a ((hmem a).2 ha)) (fun p hp => k2 p (by rw [List.mem_reverse] at hp; exact hp)) (fun i hR a ha => k3 i hR a (by rw [← hnd]; exact ha)))
  · rcases List.mem_append.1 ha with ha | ha
    · exact (hi.it a ha).2.2 h5
    · obtain ⟨f, hf, ha⟩ := List.mem_flatMap.1 ha
      exact ((hi.fr f hf).2.2.1 a ha).2.2 h5
  · obtain ⟨f, hf, hq⟩ := List.mem_flatMap.1 hp
    by_cases hk : f.k = 1
    · rw [if_pos hk] at hq
      simp only [List.mem_singleton] at hq
      subst hq
      exact (hi.fr f hf).2.1 hk
    · rw [if_neg hk] at hq; simp at hq

end Go.Proofs.YtnndoagpbcacdaaGreatDoor
namespace Go.Proofs.YtnndoagpbcacdaaGreatDoor
open Go.RowKit

theorem ints_get (l : List Int) (m : Nat) (h : m < l.length) : (ints l)[m]? = some (.int .i64 l[m]) := by simp [ints, h]
theorem bys_snoc (bys : List Ln) (j : Nat) (h : j < bys.length) : (bys.take (j + 1)).flatten = (bys.take j).flatten ++ bys[j] := by
  rw [List.take_succ_eq_append_getElem h, List.flatten_append]; simp
theorem ops_snoc (l : List Int) (j : Nat) (h : j < l.length) (S : List Bool) : mrkO (l.take (j + 1)) S = (mrkO (l.take j) S).set l[j].toNat true := by
  rw [List.take_succ_eq_append_getElem h, mrkO_app]; rfl
set_option maxRecDepth 100000 in
set_option maxHeartbeats 4000000 in
theorem rNeeded (w : World) (T g : Nat) (fv : Value) (mn : Int) (c : Cf) (nds : List (Ln × Bool)) (stp out : Int) (bys : List Ln) (ops : List Int) (h : WP w T g fv mn c nds stp out bys ops) (iv : Value) (cur : Ln) (hr : Rd w T iv cur)
    (hn : nds.length ≤ 1000000) (hc : cur.length ≤ 10000000) (hbl : ∀ l ∈ bys, l.length ≤ 10000000) (hbys : bys.length ≤ 1000000) (hops : ops.length ≤ 1000000) (hnl : ∀ n ∈ nds, n.1.length ≤ 1000)
    (hv1 : ∀ a ∈ cur ++ bys.flatten, a.1 = 5 → 0 ≤ a.2 ∧ a.2 < nds.length) (hv2 : ∀ p ∈ ops, 0 ≤ p ∧ p < nds.length) (hv3 : ∀ n ∈ nds, ∀ a ∈ n.1, a.1 = 5 → 0 ≤ a.2 ∧ a.2 < nds.length) :
    Calls Tryz.prog 177 #[.pointer (some ⟨g, 0, none⟩), iv] w fun e w' => ∃ S : List Bool, Mk (nds.map (·.1)) (cur ++ bys.flatten) ops S ∧ ClS (nds.map (·.1)) S ∧ e = .returned (.int .i64 (cT S : Nat)) ∧ Below w.heap.size w w' := by
  obtain ⟨ib, hib, hb0, hb1, hb2⟩ := info_parts Tryz.infoBool
  obtain ⟨av, bv, ov, vs, bs, hw⟩ := h
  have HM : Hid (∀ w', Below w.heap.size w w' → WB w' T g fv mn c nds stp out bys ops av bv ov vs bs) := fun w' hb => hw.old hb
  have HRD : Hid (∀ w', Below w.heap.size w w' → Rd w' T iv cur) := fun w' hb => hr.old hb
  obtain ⟨ao, ac, rfl⟩ := own_form hw.ra
  obtain ⟨bo, bc, rfl⟩ := own_form hw.rb
  obtain ⟨oo, oc, rfl⟩ := own_form hw.ro
  obtain ⟨io, ic, rfl⟩ := hr.form
  obtain ⟨_, _, _, _, _, c5, _, _, _⟩ := hw.cells
  have hgl := hw.lt
  have hTw := hw.hT
  have HV1 : Hid _ := hv1
  have HV2 : Hid _ := hv2
  have HV3 : Hid _ := hv3
  have HBL : Hid _ := hbl
  have HNL : Hid _ := hnl
  clear hw hr hv1 hv2 hv3 hbl hnl
  go_enter Tryz.func177, Tryz.ntmps177
  go_wp2_with (at_make; go_must (refine wpList_make_full _ rfl _ _ 250 rfl w.heap.size 4 ib _ 1 Tryz.underlying250 hib hb0 hb1 _ _ _ _ nds.length rfl rfl (by simp) (by simp) ?mb ?ml ?mbase ?_))
  case mb => rw [hb2]; omega
  case ml => unfold maxLen; omega
  case mbase => omega
  intro w1 hown1 hgrow1
  have HB1 : Hid (Below w.heap.size w w1) := (Below.refl _ _).grown (row := none) hgrow1 (Nat.le_refl _) (fun k hk => by cases hk)
  have HR1 : Hid (w1.ownsRow w.heap.size 4 1 (.slice (some ⟨w.heap.size, 0, none⟩) nds.length nds.length) nds.length (bls (List.replicate nds.length false))) := by rw [← made_bls]; exact hown1
  have HS1 : Hid ((mrk (cur ++ bys.flatten) (List.replicate nds.length false)).length = nds.length) := by show _ = _; rw [mrk_len]; simp
  have HMK : Hid (Mk (nds.map (·.1)) (cur ++ bys.flatten) ops (mrkO ops (mrk (cur ++ bys.flatten) (List.replicate nds.length false)))) := by
    have := mk_start (nd := nds.map (·.1)) (rt := cur ++ bys.flatten) (ops := ops) (by rw [List.length_map]; exact HV1.out) (by rw [List.length_map]; exact HV2.out)
    rw [List.length_map] at this
    exact this
  have HC1 : Hid _ := rReach (.slice io cur.length ic) cur w.heap.size nds.length nds.length w.heap.size T (List.replicate nds.length false) w1 (HRD.out w1 HB1.out) (by simp) HR1.out (fun a ha h5 => by have := HV1.out a (by simp [ha]) h5; simpa using this) hTw hc
  clear hown1 hgrow1 HR1 c5
  go_wp2_with fail
  refine (show Calls _ _ _ _ _ from HC1.out).mono ?_
  rintro e w2 ⟨rfl, hb2', hR2⟩
  clear HC1
  have HB2 : Hid (Below w.heap.size w w2) := HB1.out.trans hb2'.bel
  have HR2 : Hid (w2.ownsRow w.heap.size 4 1 (.slice (some ⟨w.heap.size, 0, none⟩) nds.length nds.length) nds.length (bls (mrk (cur ++ (bys.take 0).flatten) (List.replicate nds.length false)))) := by
    rw [List.take_zero, List.flatten_nil, List.append_nil]; exact hR2
  clear hb2' hR2 HB1
  go_wp2_with fail
  go_loopw [6] (fun y wr => ∃ j : Nat, j ≤ bys.length ∧ y = .int .i64 j ∧ w.heap.size ≤ wr.heap.size ∧ Hid (Below w.heap.size w wr) ∧ Hid (wr.ownsRow w.heap.size 4 1 (.slice (some ⟨w.heap.size, 0, none⟩) nds.length nds.length) nds.length (bls (mrk (cur ++ (bys.take j).flatten) (List.replicate nds.length false))))) (fun y _ => bys.length - (intOf y).toNat)
  case atStart => exact ⟨0, Nat.zero_le _, rfl, HB2.out.size, HB2.out, HR2.out⟩
  case round =>
    clear HB2 HR2
    obtain ⟨j, hj, rfl, hsz, HB, HR⟩ := hrel
    have hwr := HM.out wr HB.out
    obtain ⟨_, _, _, _, _, c5, c6, c7, _⟩ := hwr.cells
    have hgr := hwr.lt
    by_cases hjl : j < bys.length
    · obtain ⟨q, cap', hq, hqb, hqlt⟩ := hwr.rb.form (by omega)
      cases hq
      have hbl := hwr.bl
      have hjb : j < bs.length := by omega
      have hcl := row_cell hwr.rb j _ (List.getElem?_eq_getElem hjb)
      have hrv := hwr.rl j _ _ (List.getElem?_eq_getElem hjb) (List.getElem?_eq_getElem hjl)
      have HBV : Hid _ := bys_snoc bys j hjl
      have hmem := List.getElem_mem hjl
      generalize bs[j] = v at *
      obtain ⟨vo, vc, rfl⟩ := hrv.form
      have HC : Hid _ := rReach _ bys[j] w.heap.size nds.length nds.length w.heap.size T _ wr hrv (by rw [mrk_len]; simp) HR.out (fun a ha h5 => by rw [mrk_len]; have := HV1.out a (by simp only [List.mem_append, List.mem_flatten]; exact .inr ⟨_, hmem, ha⟩) h5; simpa using this) hTw (HBL.out _ hmem)
      rw [← mrk_app, List.append_assoc, ← HBV.out] at HC
      clear hrv hwr
      have hlj := HBL.out _ hmem
      generalize bys[j] = l at *
      go_wp2_with fail
      refine (show Calls _ _ _ _ _ from HC.out).mono ?_
      rintro e w3 ⟨rfl, hb3, hR3⟩
      clear HC
      have HB3 : Hid (Below w.heap.size w w3) := HB.out.trans hb3.bel
      have HR3 : Hid _ := hR3
      clear hb3 hR3
      go_wp2_with fail
      go_roundw
      case rel => exact ⟨j + 1, hjl, by go_num, HB3.out.size, HB3.out, HR3.out⟩
      case measure => simp [intOf]; omega
    · have hjd : decide ((j : Int) < (bys.length : Int)) = false := decide_eq_false (by omega)
      have HRF : Hid (wr.ownsRow w.heap.size 4 1 (.slice (some ⟨w.heap.size, 0, none⟩) nds.length nds.length) nds.length (bls (mrkO (ops.take 0) (mrk (cur ++ bys.flatten) (List.replicate nds.length false))))) := by
        have := HR.out
        rw [List.take_of_length_le (by omega)] at this
        exact this
      clear hwr HR
      go_wp2_with fail
      obtain ⟨wo, hwo⟩ : ∃ wo, wo = wr := ⟨_, rfl⟩
      rw [← hwo]
      have HBo : Hid (Below w.heap.size w wo) := by rw [hwo]; exact HB.out
      have HRo : Hid (wo.ownsRow w.heap.size 4 1 (.slice (some ⟨w.heap.size, 0, none⟩) nds.length nds.length) nds.length (bls (mrkO (ops.take 0) (mrk (cur ++ bys.flatten) (List.replicate nds.length false))))) := by rw [hwo]; exact HRF.out
      clear HRF HB hwo hsz c5 c6 c7 hgr hjd hj hjl
      generalize mrk (cur ++ bys.flatten) (List.replicate nds.length false) = S1 at *
      go_loopw [7] (fun y wx => ∃ j : Nat, j ≤ ops.length ∧ y = .int .i64 j ∧ w.heap.size ≤ wx.heap.size ∧ Hid (Below w.heap.size w wx) ∧ Hid (wx.ownsRow w.heap.size 4 1 (.slice (some ⟨w.heap.size, 0, none⟩) nds.length nds.length) nds.length (bls (mrkO (ops.take j) S1)))) (fun y _ => ops.length - (intOf y).toNat)
      case atStart => exact ⟨0, Nat.zero_le _, rfl, HBo.out.size, HBo.out, HRo.out⟩
      case round =>
        clear HBo HRo
        obtain ⟨j, hj, rfl, hsz, HB, HR⟩ := hrel
        have hwr := HM.out wr HB.out
        obtain ⟨_, _, _, _, _, c5, c6, c7, _⟩ := hwr.cells
        have hgr := hwr.lt
        by_cases hjl : j < ops.length
        · obtain ⟨q, cap', hq, hqb, hqlt⟩ := hwr.ro.form (by omega)
          cases hq
          have hcl := row_cell hwr.ro j _ (ints_get ops j hjl)
          obtain ⟨hp0, hp1⟩ := HV2.out _ (List.getElem_mem hjl)
          have HO : Hid _ := ops_snoc ops j hjl S1
          have HNE : Hid (q ≠ w.heap.size) := by
            intro e
            obtain ⟨cs, hh⟩ := rowB hwr.ro
            obtain ⟨ds, hh2⟩ := rowB HR.out
            rw [e, hh2] at hh
            simp at hh
          have hne := HNE.out
          generalize ops[j] = p at *
          obtain ⟨m, rfl⟩ := Int.eq_ofNat_of_zero_le hp0
          have hm : m < nds.length := by omega
          have hml : m < (mrkO (ops.take j) S1).length := by rw [mrkO_len, HS1.out]; exact hm
          have d0 := row_cell HR.out m _ (bls_at _ _ hml)
          have f0 := rowF HR.out m
          have HR2 : Hid _ := ownsRow_store (j := m) (.bool true) HR.out
          rw [bls_set] at HR2
          rw [Int.toNat_natCast] at HO
          have hsb : w.heap.size < wr.heap.size := by obtain ⟨ds, hh2⟩ := rowB HR.out; exact (Array.getElem?_eq_some_iff.1 hh2).1
          clear hwr c5 c6 HNE
          generalize (mrkO (ops.take j) S1)[m] = bb at *
          generalize mrkO (ops.take j) S1 = SJ at *
          go_wp2_with fail
          go_roundw
          case rel => exact ⟨j + 1, hjl, by go_num, by simp [World.setCell]; omega, HB.out.setCell (by exact Nat.le_refl _) _, by rw [HO.out]; exact HR2.out⟩
          case measure => simp [intOf]; omega
        · have hjd : decide ((j : Int) < (ops.length : Int)) = false := decide_eq_false (by omega)
          have HRF : Hid (wr.ownsRow w.heap.size 4 1 (.slice (some ⟨w.heap.size, 0, none⟩) nds.length nds.length) nds.length (bls (mrkO ops S1))) := by
            have := HR.out
            rw [List.take_of_length_le (by omega)] at this
            exact this
          have HL2 : Hid ((mrkO ops S1).length = nds.length) := by show _ = _; rw [mrkO_len]; exact HS1.out
          have HC : Hid _ := rCount w.heap.size nds.length nds.length (mrkO ops S1) wr HL2.out.symm (ownsRow_base HRF.out (Nat.zero_le _)) (by rw [HL2.out]; omega)
          clear hwr HR c5 c6
          go_wp2_with fail
          refine (show Calls _ _ _ _ _ from HC.out).mono ?_
          rintro e w5 ⟨rfl, rfl⟩
          clear HC hjd c7 hgr
          go_wp2_with fail
          obtain ⟨wo2, hwo2⟩ : ∃ wo2, wo2 = w5 := ⟨_, rfl⟩
          rw [← hwo2]
          have HBo : Hid (Below w.heap.size w wo2) := by rw [hwo2]; exact HB.out
          have HRo : Hid (wo2.ownsRow w.heap.size 4 1 (.slice (some ⟨w.heap.size, 0, none⟩) nds.length nds.length) nds.length (bls (mrkO ops S1))) := by rw [hwo2]; exact HRF.out
          clear HRF HB hwo2 hsz hj hjl HL2 HS1
          generalize mrkO ops S1 = S3 at *
          go_loopw [8, 9] (fun y z wx => ∃ (S : List Bool) (n : Nat), n ≤ nds.length ∧ y = .int .i64 n ∧ z = .int .i64 (cT S : Nat) ∧ w.heap.size ≤ wx.heap.size ∧ Hid (Below w.heap.size w wx) ∧ Hid (wx.ownsRow w.heap.size 4 1 (.slice (some ⟨w.heap.size, 0, none⟩) nds.length nds.length) nds.length (bls S)) ∧ Hid (Mk (nds.map (·.1)) (cur ++ bys.flatten) ops S) ∧ Hid (cT S ≤ n → ClS (nds.map (·.1)) S ∧ n = cT S)) (fun y _ _ => nds.length - (intOf y).toNat)
          case atStart =>
            refine ⟨S3, 0, Nat.zero_le _, rfl, rfl, HBo.out.size, HBo.out, HRo.out, HMK.out, fun h0 => ⟨fun i hi => ?_, by omega⟩⟩
            have hz : ∀ (l : List Bool) (i : Nat), cT l = 0 → l[i]? ≠ some true := by
              intro l
              induction l with
              | nil => intro i _; simp
              | cons x l ih =>
                intro i h
                rw [cT] at h
                cases i with
                | zero => intro e; simp at e; subst e; simp at h
                | succ i => rw [List.getElem?_cons_succ]; exact ih i (by omega)
            exact absurd hi (hz S3 i (by omega))
          case round =>
            clear HBo HRo HMK
            obtain ⟨S, n, hnn, rfl, rfl, hsz, HB, HR, HMK, HCL⟩ := hrel
            have HSL : Hid (S.length = nds.length) := by have := HMK.out.len; rw [List.length_map] at this; exact this
            have hcS : cT S ≤ nds.length := by have := cT_le S; rw [HSL.out] at this; exact this
            by_cases hlt : n < cT S
            · have hjd : decide ((n : Int) < (cT S : Int)) = true := decide_eq_true (by omega)
              generalize hCS : cT S = CS at *
              have HCS : Hid (cT S = CS) := hCS
              clear hCS
              go_wp2_with fail
              obtain ⟨wo3, hwo3⟩ : ∃ wo3, wo3 = wr := ⟨_, rfl⟩
              rw [← hwo3]
              have HBo : Hid (Below w.heap.size w wo3) := by rw [hwo3]; exact HB.out
              have HRo : Hid (wo3.ownsRow w.heap.size 4 1 (.slice (some ⟨w.heap.size, 0, none⟩) nds.length nds.length) nds.length (bls S)) := by rw [hwo3]; exact HR.out
              obtain ⟨SF, hSF⟩ : ∃ SF, SF = pas (nds.map (·.1)) nds.length S := ⟨_, rfl⟩
              have HSF : Hid (SF = pas (nds.map (·.1)) nds.length S) := hSF
              have HSFL : Hid (SF.length = nds.length) := by show _ = _; rw [hSF, pas_len]; exact HSL.out
              clear HB HR hwo3 hsz hSF hjd
              go_loopw [10] (fun y wx => ∃ (r : Nat) (S' : List Bool), r ≤ nds.length ∧ y = .int .i64 ((r : Int) - 1) ∧ w.heap.size ≤ wx.heap.size ∧ Hid (Below w.heap.size w wx) ∧ Hid (wx.ownsRow w.heap.size 4 1 (.slice (some ⟨w.heap.size, 0, none⟩) nds.length nds.length) nds.length (bls S')) ∧ Hid (S'.length = nds.length) ∧ Hid (pas (nds.map (·.1)) r S' = SF)) (fun y _ => (intOf y + 1).toNat)
              case atStart => exact ⟨nds.length, S, Nat.le_refl _, by go_num, HBo.out.size, HBo.out, HRo.out, HSL.out, HSF.out.symm⟩
              case round =>
                clear HBo HRo
                obtain ⟨r, S', hr, rfl, hsz, HB, HR, HL, HP⟩ := hrel
                have hwr := HM.out wr HB.out
                obtain ⟨_, _, _, _, _, c5, _, _, _⟩ := hwr.cells
                have hgr := hwr.lt
                cases r with
                | zero =>
                  have HC : Hid _ := rCount w.heap.size nds.length nds.length SF wr HSFL.out.symm (ownsRow_base (by have := HP.out; simp only [pas] at this; rw [← this]; exact HR.out) (Nat.zero_le _)) (by rw [HSFL.out]; omega)
                  have HRF : Hid (wr.ownsRow w.heap.size 4 1 (.slice (some ⟨w.heap.size, 0, none⟩) nds.length nds.length) nds.length (bls SF)) := by
                    have := HP.out
                    simp only [pas] at this
                    rw [← this]; exact HR.out
                  clear hwr c5
                  go_wp2_with fail
                  refine (show Calls _ _ _ _ _ from HC.out).mono ?_
                  rintro e w6 ⟨rfl, rfl⟩
                  clear HC
                  have HMF : Hid (Mk (nds.map (·.1)) (cur ++ bys.flatten) ops SF) := by
                    have := HMK.out.pas
                    rw [HSL.out, ← HSF.out] at this
                    exact this
                  have HCF : Hid (cT SF ≤ CS → ClS (nds.map (·.1)) SF ∧ CS = cT SF) := by
                    intro hle
                    have hl : S.length = (nds.map (·.1)).length := by rw [List.length_map]; exact HSL.out
                    have e0 : pas (nds.map (·.1)) S.length S = SF := by rw [HSL.out]; exact HSF.out.symm
                    obtain ⟨e1, e2⟩ := cls_fix hl (fun l hl a ha h5 => by
                      obtain ⟨m, hm, rfl⟩ := List.mem_map.1 hl
                      rw [List.length_map]
                      exact HV3.out m hm a ha h5) (by rw [e0, HCS.out]; exact hle)
                    rw [e0] at e1
                    rw [e1]
                    exact ⟨e2, HCS.out.symm⟩
                  go_wp2_with fail
                  go_roundw
                  case rel => exact ⟨SF, CS, hcS, rfl, rfl, hsz, HB.out, HRF.out, HMF.out, HCF.out⟩
                  case measure => simp [intOf]; omega
                | succ r =>
                  have er : ((r + 1 : Nat) : Int) - 1 = (r : Int) := by omega
                  rw [er]
                  have hrl : r < nds.length := by omega
                  have hrs : r < S'.length := by rw [HL.out]; exact hrl
                  have HPE : Hid (pas (nds.map (·.1)) (r + 1) S' = pas (nds.map (·.1)) r (if S'[r] then mrk nds[r].1 S' else S')) := by
                    show _ = _
                    rw [pas, List.getElem?_eq_getElem hrs, List.getElem?_map, List.getElem?_eq_getElem hrl]; rfl
                  rw [HP.out] at HPE
                  have d0 := row_cell HR.out r _ (bls_at _ _ hrs)
                  have hr0 : decide ((0 : Int) ≤ (r : Int)) = true := decide_eq_true (by omega)
                  cases hb : S'[r]
                  · rw [hb] at d0 HPE
                    rw [if_neg (by simp)] at HPE
                    clear hwr c5 hb
                    go_wp2_with fail
                    go_roundw
                    case rel => exact ⟨r, S', by omega, rfl, hsz, HB.out, HR.out, HL.out, HPE.out.symm⟩
                    case measure => simp [intOf]
                  · rw [hb] at d0 HPE
                    rw [if_pos rfl] at HPE
                    obtain ⟨q, cap', hq, hqb, hqlt⟩ := hwr.ra.form (by omega)
                    cases hq
                    have hvl : r < vs.length := by rw [hwr.vl]; exact hrl
                    obtain ⟨n0, n1⟩ := ncs_at vs nds r _ _ (List.getElem?_eq_getElem hvl) (List.getElem?_eq_getElem hrl)
                    have k0 := row_cell hwr.ra _ _ n0
                    have hrv := hwr.rv r _ _ (List.getElem?_eq_getElem hvl) (List.getElem?_eq_getElem hrl)
                    have hmem := List.getElem_mem hrl
                    generalize vs[r] = v at *
                    obtain ⟨vo, vc, rfl⟩ := hrv.form
                    have HC : Hid _ := rReach _ nds[r].1 w.heap.size nds.length nds.length w.heap.size T S' wr hrv HL.out.symm HR.out (fun a ha h5 => by rw [HL.out]; exact HV3.out _ hmem a ha h5) hTw (by have := HNL.out _ hmem; omega)
                    clear hrv hwr n0 n1 hb
                    have hlr := HNL.out _ hmem
                    have HLM : Hid ((mrk nds[r].1 S').length = nds.length) := by show _ = _; rw [mrk_len]; exact HL.out
                    generalize nds[r].1 = ln at *
                    go_wp2_with fail
                    refine (show Calls _ _ _ _ _ from HC.out).mono ?_
                    rintro e w7 ⟨rfl, hb7, hR7⟩
                    clear HC
                    have HB7 : Hid (Below w.heap.size w w7) := HB.out.trans hb7.bel
                    have HR7 : Hid _ := hR7
                    clear hb7 hR7
                    go_wp2_with fail
                    go_roundw
                    case rel => exact ⟨r, _, by omega, rfl, HB7.out.size, HB7.out, HR7.out, HLM.out, HPE.out.symm⟩
                    case measure => simp [intOf]
            · have hjd : decide ((n : Int) < (cT S : Int)) = false := decide_eq_false (by omega)
              obtain ⟨hcl, hne⟩ := HCL.out (by omega)
              have HF1 : Hid _ := hcl
              have HF2 : Hid (n = cT S) := hne
              clear hcl hne
              go_wp2_with fail
              go_ret
              exact ⟨S, HMK.out, HF1.out, by rw [← HF2.out]; rfl, HB.out⟩

end Go.Proofs.YtnndoagpbcacdaaGreatDoor
