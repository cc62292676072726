import Derived.Test.YtnndoagpbcacdaaGreatDoorMN9
namespace Go.Proofs.YtnndoagpbcacdaaGreatDoor
open Go.RowKit

/-! The reference's run: called. -/
theorem ins_eq {c : Cf} {t : Tp} (hg : TG c t) (hp : TPg t) {l : Ln} (hl : l ∈ t.ls) {ar : Ln} (har : (ar.length : Int) = t.ar) (n : Nat) : l.map (insR ar n) = instM l ar (idP n (t.ls.length - 1)) := by
  unfold instM
  refine List.map_congr_left (fun a ha => ?_)
  have h5 := (((hg.ln l hl).2.2 a ha).2.2)
  unfold insR instA
  by_cases e2 : a.1 = 2
  · rw [if_pos e2, if_neg (by omega)]
    rcases hp l hl a ha with h | ⟨_, h0, h1⟩
    · unfold PI at h; omega
    · rw [if_pos ⟨e2, h0, by omega⟩]
  · rw [if_neg e2]
    by_cases e5 : a.1 = 5
    · obtain ⟨q0, q1⟩ := h5 e5
      have hn1 := hg.n0
      rw [if_pos e5, if_pos ⟨e5, q0, by simp [idP]; omega⟩]
      have : (idP n (t.ls.length - 1))[a.2.toNat]? = some ((n + a.2.toNat : Nat) : Int) := by
        unfold idP
        rw [List.getElem?_map, List.getElem?_range (by omega)]; rfl
      rw [this]
      show (5, a.2 + (n : Int)) = (5, ((n + a.2.toNat : Nat) : Int))
      congr 1; omega
    · rw [if_neg e5, if_neg (fun h => e5 h.1), if_neg (fun h => e2 h.1)]
theorem WP.old {w w' : World} {T g : Nat} {fv : Value} {mn : Int} {c : Cf} {nds : List (Ln × Bool)} {stp out : Int} {bys : List Ln} {ops : List Int} (h : WP w T g fv mn c nds stp out bys ops) (hb : Below w.heap.size w w') : WP w' T g fv mn c nds stp out bys ops := by
  obtain ⟨av, bv, ov, vs, bs, h⟩ := h
  exact ⟨av, bv, ov, vs, bs, h.old hb⟩
theorem opens_len : ∀ ks : List Kf, (opens ks).length ≤ ks.length
  | [] => Nat.le_refl _
  | f :: ks => by
    have := opens_len ks
    show ((if f.k = 1 then [f.nd] else []) ++ opens ks).length ≤ _
    rw [List.length_append, List.length_cons]
    split <;> simp <;> omega
theorem flK_le : ∀ {ks : List Kf} {f : Kf}, f ∈ ks → f.rs.length ≤ (flK ks).length
  | g :: ks, f, h => by
    rw [flK_cons, List.length_append]
    rcases List.mem_cons.1 h with rfl | h
    · omega
    · have := flK_le h; omega
theorem Tryz.infoThunk : (Tryz.prog.info? 239).map (fun i => (i.zero, i.size, i.bytes)) = some (some (.agg #[.slice none 0 0, .bool false]), 2, 32) := by kernel_rfl
set_option maxRecDepth 100000 in
set_option maxHeartbeats 4000000 in
theorem rCalled (w : World) (T g : Nat) (fv : Value) (mn : Int) (c : Cf) (rk : Int → Nat) (s : Im) (iv : Value) (f : Int) (r : Ln) (hcur : s.cur = (3, f) :: r) (ho : s.out = 0) (h : WP w T g fv mn c s.nds s.stp 0 (s.ks.map (·.rs)).reverse (opens s.ks).reverse) (hr : Rd w T iv s.cur)
    (hI : Ii c rk s) (hN : NdB s) (ht : ∀ t ∈ c.fs, TGo c t) (hp : ∀ t ∈ c.fs, TPg t) (har : (tplM c f).ar ≤ (r.length : Int)) (hst : 0 ≤ s.stp) (hbud : c.bud ≤ 2000) (hhp : 0 ≤ c.hp ∧ c.hp ≤ 24000) (hnl : s.nds.length ≤ 900000) (htot : totI s ≤ 9000000) (hks : s.ks.length ≤ 900000) :
    Calls Tryz.prog 139 #[.pointer (some ⟨g, 0, none⟩), iv] w fun e w' => ∃ v, e = .returned v ∧ Fx T w w' ∧ WP w' T g fv mn c (callI c (tplM c f) r s).nds (callI c (tplM c f) r s).stp (callI c (tplM c f) r s).out (s.ks.map (·.rs)).reverse (opens s.ks).reverse ∧ ((callI c (tplM c f) r s).out = 0 → Rd w' T v (callI c (tplM c f) r s).cur) := by
  obtain ⟨it, hit, hi0, hi1, hi2⟩ := info_parts Tryz.infoThunk
  have hf := (hI.it (3, f) (by rw [hcur]; simp)).2.1 rfl
  obtain ⟨F, rfl⟩ := Int.eq_ofNat_of_zero_le hf.1
  have hFl : F < c.fs.length := by have := hf.2; omega
  have htpl : tplM c (F : Int) = c.fs[F] := by unfold tplM; rw [if_pos hf, Int.toNat_natCast, List.getElem?_eq_getElem hFl]; rfl
  have htp := hp _ (List.getElem_mem hFl)
  have htg := ht _ (List.getElem_mem hFl)
  rw [htpl] at har ⊢
  clear htpl
  obtain ⟨av, bv, ov, vs, bs, hw⟩ := h
  have hfu := hw.fu
  obtain ⟨fa, fcap, rfl, hfc1, hfc2, hfc3⟩ := hfu
  obtain ⟨fb, foff, rfl, hfbT, hfcell⟩ := hfc3.resolve_left (by omega)
  obtain ⟨lv, f0, f1, hlrd⟩ := hfcell F hFl
  obtain ⟨la, lcap, rfl, hlc1, hlc2, hlc3⟩ := hlrd
  have hls := htg.tg.n0
  have hls2 := htg.tg.n1
  obtain ⟨lb, loff, rfl, hlbT, hlcell⟩ := hlc3.resolve_left (by omega)
  obtain ⟨ib, ioff, icap, rfl, hiblt⟩ := hr.isSome (by rw [hcur]; simp)
  have hr0 := Rd.at hr 0 (by rw [hcur]; simp)
  simp only [hcur, List.getElem_cons_zero, Nat.zero_mul, Nat.add_zero] at hr0
  obtain ⟨i0, i1⟩ := hr0
  obtain ⟨_, c1, c2, c3, c4, c5, c6, c7, c8⟩ := hw.cells
  have hgl := hw.lt
  have hTw := hw.hT
  have hfbw : fb < w.heap.size := by omega
  have hlbw : lb < w.heap.size := by omega
  obtain ⟨ao, ac, rfl⟩ := own_form hw.ra
  have hcl : s.cur.length = r.length + 1 := by rw [hcur]; rfl
  rw [hcl]
  unfold maxLen at hfc2 hlc2
  generalize c.fs[F] = t at *
  have hcapI := Rd.cap hr
  unfold maxLen at hcapI
  generalize hS : callI c t r s = S'
  have HS : Hid (callI c t r s = S') := hS
  clear hS
  go_enter Tryz.func139, Tryz.ntmps139
  go_wp2_with fail
  go_cut [5] (fun vx wc => vx = .pointer (some ⟨w.heap.size, 0, none⟩) ∧ Hid (Below w.heap.size w wc) ∧ Hid (wc.heap[w.heap.size]? = some (.cells #[.int .i64 t.ar, .slice (some ⟨lb, loff, none⟩) t.ls.length lcap] 78 (0, 0))))
  case first =>
    go_region
    all_goals
      go_wp2_with fail
      go_meet
      case rel => exact ⟨rfl, Below.drew (below_al w _), heap_alloc_new w _⟩
  case rest =>
    obtain ⟨hx5, HB0, HT0⟩ := hcut
    rw [hx5]
    clear hx5 c1 c2 c3 c4 c5 c6 c7 c8 i0 i1 f0 f1
    have hwc := hw.old HB0.out
    obtain ⟨_, c1, c2, c3, c4, c5, c6, c7, c8⟩ := hwc.cells
    have hgc := hwc.lt
    have t0 : wc.cell? ⟨w.heap.size, 0, none⟩ = some (.int .i64 t.ar) := by rw [cell_of_row _ _ 0 _ _ _ HT0.out]; rfl
    have t1 : wc.cell? ⟨w.heap.size, 1, none⟩ = some (.slice (some ⟨lb, loff, none⟩) t.ls.length lcap) := by rw [cell_of_row _ _ 1 _ _ _ HT0.out]; rfl
    have hwl : w.heap.size < wc.heap.size := (Array.getElem?_eq_some_iff.1 HT0.out).1
    have HWC : Hid (WP wc T g (.slice (some ⟨fb, foff, none⟩) c.fs.length fcap) mn c s.nds s.stp 0 (s.ks.map (·.rs)).reverse (opens s.ks).reverse) := ⟨_, _, _, _, _, hwc⟩
    have HF0 : Hid (Fx T w wc) := Fx.of HB0.out hTw
    have HRC : Hid (Rd wc T (.slice (some ⟨ib, ioff, none⟩) s.cur.length icap) s.cur) := hr.old HB0.out
    clear hwc hw hr
    by_cases hb : c.bud ≤ s.stp
    · have HE : Hid (S' = { s with out := 5 }) := by show _ = _; rw [← HS.out]; unfold callI; rw [if_pos hb]
      have hd : decide (s.stp < c.bud) = false := decide_eq_false (by omega)
      have HC : Hid (∀ w', WP w' T g (.slice (some ⟨fb, foff, none⟩) c.fs.length fcap) mn c s.nds s.stp 0 (s.ks.map (·.rs)).reverse (opens s.ks).reverse → _) := fun w' h => rStepN w' T g _ mn c s.nds s.stp 0 _ _ h hb
      go_wp2_with fail
      go_region
      go_wp2_with fail
      refine (show Calls _ _ _ _ _ from HC.out _ (WP.old HWC.out (Below.drew (Below.refl _ _)))).mono ?_
      rintro e w2 ⟨rfl, hf2, _, hw2⟩
      clear HC
      go_wp2_with fail
      go_ret
      exact ⟨_, rfl, (HF0.out.drew).trans hf2, by rw [HE.out]; exact hw2, fun h5 => by rw [HE.out] at h5; simp at h5⟩
    · have hd : decide (s.stp < c.bud) = true := decide_eq_true (by omega)
      have hneed := need_le s
      have HCS : Hid (∀ w', WP w' T g (.slice (some ⟨fb, foff, none⟩) c.fs.length fcap) mn c s.nds s.stp 0 (s.ks.map (·.rs)).reverse (opens s.ks).reverse → _) := fun w' h => rStepY w' T g _ mn c s.nds s.stp 0 _ _ h hst hbud (by omega)
      have HND : Hid (∀ w', Below wc.heap.size wc w' → Calls Tryz.prog 177 #[.pointer (some ⟨g, 0, none⟩), .slice (some ⟨ib, ioff, none⟩) (r.length + 1) icap] w' fun e w'' => e = .returned (.int .i64 (needI s : Nat)) ∧ Below w'.heap.size w' w'') := fun w' hb' => by
        have hrd := Rd.old HRC.out hb'
        rw [hcl] at hrd
        refine (rNeeded w' T g _ mn c s.nds s.stp 0 (s.ks.map (·.rs)).reverse (opens s.ks).reverse (WP.old HWC.out hb') _ s.cur hrd (by omega) (by unfold totI at htot; omega) (fun l hl => ?_) (by simp; omega) (by rw [List.length_reverse]; exact Nat.le_trans (opens_len s.ks) (by omega)) (fun n hn => by have := hN n hn; omega) (fun a ha h5 => ?_) (fun p hp => ?_) (fun n hn a ha h5 => ((hI.nd n hn).2.1 a ha).2.2 h5)).mono ?_
        · rw [List.mem_reverse] at hl
          obtain ⟨f, hf, rfl⟩ := List.mem_map.1 hl
          have := flK_le hf
          unfold totI at htot; omega
        · rcases List.mem_append.1 ha with ha | ha
          · exact (hI.it a ha).2.2 h5
          · obtain ⟨l, hl, ha⟩ := List.mem_flatten.1 ha
            rw [List.mem_reverse] at hl
            obtain ⟨f, hf, rfl⟩ := List.mem_map.1 hl
            exact ((hI.fr f hf).2.2.1 a ha).2.2 h5
        · rw [List.mem_reverse] at hp
          obtain ⟨f, hf, hq⟩ := List.mem_flatMap.1 hp
          by_cases hk : f.k = 1
          · rw [if_pos hk] at hq
            simp only [List.mem_singleton] at hq
            subst hq
            exact (hI.fr f hf).2.1 hk
          · rw [if_neg hk] at hq; simp at hq
        · rintro e w'' ⟨S, h1, h2, rfl, h3⟩
          exact ⟨by rw [mk_need h1 h2 hI], h3⟩
      by_cases hfull : c.hp < (needI s : Int) + ((t.ls.length : Int) - 1)
      · have HE : Hid (S' = { s with out := 6 }) := by show _ = _; rw [← HS.out]; unfold callI; rw [if_neg hb, if_pos hfull]
        have hd2 : decide (c.hp < (s.nds.length : Int) + ((t.ls.length : Int) - 1)) = true := decide_eq_true (by omega)
        have hd3 : decide (c.hp < (needI s : Int) + ((t.ls.length : Int) - 1)) = true := decide_eq_true hfull
        have HC : Hid _ := HND.out wc.drew (Below.drew (Below.refl _ _))
        clear HCS HND
        generalize needI s = ns at *
        go_wp2_with fail
        go_region
        go_wp2_with fail
        refine (show Calls _ _ _ _ _ from HC.out).mono ?_
        rintro e w2 ⟨rfl, hb2⟩
        clear HC
        obtain ⟨av2, bv2, ov2, vs2, bs2, hw2⟩ := WP.old (WP.old HWC.out (Below.drew (Below.refl _ _))) hb2
        obtain ⟨_, _, _, d3, _, _, _, _, d8⟩ := hw2.cells
        have g8 := hw2.fz 8
        have hg2 := hw2.lt
        have HF2 : Hid (Fx T w w2) := HF0.out.drew.trans (Fx.of hb2 (by have := HF0.out.size; show T ≤ wc.heap.size; omega))
        have HO : Hid _ := hw2.setOut 6
        clear hw2 hb2
        go_wp2_with fail
        go_ret
        exact ⟨_, rfl, HF2.out.trans HO.out.1, by rw [HE.out]; exact ⟨_, _, _, _, _, HO.out.2⟩, fun h5 => by rw [HE.out] at h5; simp at h5⟩
      · obtain ⟨A, hA⟩ := Int.eq_ofNat_of_zero_le htg.tg.a0
        have hAr : A ≤ r.length := by omega
        have hA6 : A ≤ 6 := by have := htg.tg.a1; omega
        rcases Classical.em (c.hp < (s.nds.length : Int) + ((t.ls.length : Int) - 1)) with hbig | hbig
        case' inl =>
          have hd2 : decide (c.hp < (s.nds.length : Int) + ((t.ls.length : Int) - 1)) = true := decide_eq_true hbig
          have hd3 : decide (c.hp < (needI s : Int) + ((t.ls.length : Int) - 1)) = false := decide_eq_false hfull
          have HC : Hid _ := HND.out wc.drew (Below.drew (Below.refl _ _))
          generalize hns : needI s = ns at *
          go_wp2_with fail
          go_region
          go_wp2_with fail
          refine (show Calls _ _ _ _ _ from HC.out).mono ?_
          rintro e wq ⟨rfl, hbq⟩
          clear HC
          have HWQ : Hid _ := WP.old (WP.old HWC.out (Below.drew (Below.refl _ _))) hbq
          have HFQ : Hid (Fx T w wq) := HF0.out.drew.trans (Fx.of hbq (by have := HF0.out.size; show T ≤ wc.heap.size; omega))
          have HTQ : Hid (wq.heap[w.heap.size]? = some (.cells #[.int .i64 t.ar, .slice (some ⟨lb, loff, none⟩) t.ls.length lcap] 78 (0, 0))) := (hbq.block w.heap.size hwl).trans HT0.out
          have HRQ : Hid (Rd wq T (.slice (some ⟨ib, ioff, none⟩) s.cur.length icap) s.cur) := Rd.old (Rd.old HRC.out (Below.drew (Below.refl _ _))) hbq
          obtain ⟨av2, bv2, ov2, vs2, bs2, hw2⟩ := HWQ.out
          obtain ⟨_, _, _, d3, _, _, _, _, d8⟩ := hw2.cells
          have hg2 := hw2.lt
          clear hw2 hbq
          go_wp2_with fail
        case' inr =>
          have hd2 : decide (c.hp < (s.nds.length : Int) + ((t.ls.length : Int) - 1)) = false := decide_eq_false hbig
          go_wp2_with fail
          go_region
          go_wp2_with fail
          have HWQ0 : Hid _ := WP.old HWC.out (Below.drew (Below.refl _ wc))
          have HFQ0 : Hid (Fx T w wc.drew) := HF0.out.drew
          have HTQ0 : Hid (wc.drew.heap[w.heap.size]? = some (.cells #[.int .i64 t.ar, .slice (some ⟨lb, loff, none⟩) t.ls.length lcap] 78 (0, 0))) := HT0.out
          have HRQ0 : Hid (Rd wc.drew T (.slice (some ⟨ib, ioff, none⟩) s.cur.length icap) s.cur) := Rd.old HRC.out (Below.drew (Below.refl _ _))
          obtain ⟨wq, hwq⟩ : ∃ wq, wq = wc.drew := ⟨_, rfl⟩
          rw [← hwq] at HWQ0 HFQ0 HTQ0 HRQ0 ⊢
          have HWQ : Hid _ := HWQ0.out
          have HFQ : Hid (Fx T w wq) := HFQ0.out
          have HTQ : Hid (wq.heap[w.heap.size]? = some (.cells #[.int .i64 t.ar, .slice (some ⟨lb, loff, none⟩) t.ls.length lcap] 78 (0, 0))) := HTQ0.out
          have HRQ : Hid (Rd wq T (.slice (some ⟨ib, ioff, none⟩) s.cur.length icap) s.cur) := HRQ0.out
          clear HWQ0 HFQ0 HTQ0 HRQ0 hwq
        all_goals
          refine (show Calls _ _ _ _ _ from HCS.out wq HWQ.out).mono ?_
          rintro e w3 ⟨rfl, hf3, hb3, hw3⟩
          clear HCS
          have HF3 : Hid (Fx T w w3) := HFQ.out.trans hf3
          have HT3 : Hid (w3.heap[w.heap.size]? = some (.cells #[.int .i64 t.ar, .slice (some ⟨lb, loff, none⟩) t.ls.length lcap] 78 (0, 0))) := (hb3.oth w.heap.size (Array.getElem?_eq_some_iff.1 HTQ.out).1 (by omega)).trans HTQ.out
          have HW3 : Hid _ := hw3
          have HR3 : Hid (Rd w3 T (.slice (some ⟨ib, ioff, none⟩) s.cur.length icap) s.cur) := Rd.keep HRQ.out hf3
          have s0 : w3.cell? ⟨w.heap.size, 0, none⟩ = some (.int .i64 t.ar) := by rw [cell_of_row _ _ 0 _ _ _ HT3.out]; rfl
          have hw3l : w.heap.size < w3.heap.size := (Array.getElem?_eq_some_iff.1 HT3.out).1
          clear hf3 hb3 hw3 HFQ HTQ HWQ HRQ
          rw [hA] at s0
          go_upto_region 12 with (fail)
          go_cut [1, 10] (fun v1 vx wx => wx = w3 ∧ v1 = .slice (some ⟨ib, ioff, none⟩) (r.length + 1) icap ∧ ∃ a cp, vx = .slice a A cp ∧ Hid (Rd w3 T (.slice a A cp) (r.take A)))
          case first =>
            go_wp2_with fail
            all_goals
              go_meet
              case rel =>
                refine ⟨rfl, by first | rfl | (rw [‹icap = 1›]), _, _, rfl, ?_⟩
                have hrr := HR3.out
                rw [hcur] at hrr
                first
                  | exact Rd.part (k := 1) (m := A) (c := icap - 1) hrr (by simp; omega) (by omega) (by unfold maxLen; omega)
                  | (have hz : A = 0 := by omega
                     subst hz
                     have q := Rd.part (l := (3, (F : Int)) :: r) (k := 0) (m := 0) (c := 0) hrr (by omega) (by omega) (by omega)
                     rw [List.take_zero] at q ⊢
                     exact q)
          case rest =>
            obtain ⟨hwx, hx1, aa, acp, hx10, HRA⟩ := hcut
            rw [hwx, hx1, hx10]
            clear hwx hx1 hx10
            have hAl : (((r.take A).length : Nat) : Int) = t.ar := by rw [List.length_take]; omega
            have HINS : Hid (∀ l ∈ t.ls, l.map (insR (r.take A) s.nds.length) = instM l (r.take A) (idP s.nds.length (t.ls.length - 1))) := fun l hl => ins_eq htg.tg htp hl hAl _
            have HE : Hid (S' = { s with stp := s.stp + 1, cur := instM (t.ls.headD []) (r.take A) (idP s.nds.length (t.ls.length - 1)) ++ r.drop A, nds := s.nds ++ t.ls.tail.map (fun l => (instM l (r.take A) (idP s.nds.length (t.ls.length - 1)), false)) }) := by
              show _ = _
              have hAn : t.ar.toNat = A := by omega
              rw [← HS.out]; unfold callI; rw [if_neg (by omega), if_neg (by omega), hAn]
            have HLR : Hid (∀ (j : Nat) (hj : j < t.ls.length) (w' : World), Fx T w w' → ∃ lvo lvc, w'.cell? ⟨lb, loff + j, none⟩ = some (.slice lvo t.ls[j].length lvc) ∧ Rd w' T (.slice lvo t.ls[j].length lvc) t.ls[j]) := by
              intro j hj w' hfx
              obtain ⟨lv, e1, e2⟩ := hlcell j hj
              have e3 := Rd.atoms (e2.keep hfx.bel) (Nat.le_trans hTw hfx.size) (by have := (htg.tg.ln _ (List.getElem_mem hj)).1; omega)
              obtain ⟨lvo, lvc, rfl⟩ := e3.form
              exact ⟨lvo, lvc, by rw [cell_same (hfx.bel.block lb hlbT)]; exact e1, e3⟩
            have HLN : Hid (∀ (j : Nat) (hj : j < t.ls.length), t.ls[j].length ≤ 8 ∧ (∀ a ∈ t.ls[j], a.1 = 2 → 0 ≤ a.2 ∧ a.2 < (r.take A).length) ∧ (∀ a ∈ t.ls[j], a.1 = 5 → 0 ≤ a.2 ∧ a.2 ≤ 1000)) := by
              intro j hj
              have hm := List.getElem_mem hj
              refine ⟨(htg.tg.ln _ hm).2.1, fun a ha e => ?_, fun a ha e => ?_⟩
              · rcases htp _ hm a ha with h | ⟨_, h0, h1⟩
                · unfold PI at h; omega
                · exact ⟨h0, by omega⟩
              · have := ((htg.tg.ln _ hm).2.2 a ha).2.2 e; omega
            have hTg : T ≤ g := by obtain ⟨_, _, _, _, _, h⟩ := HW3.out; exact h.lo
            clear hlcell hfcell hlc3 hfc3 hd2
            try clear hd3
            go_wp2_with fail
            obtain ⟨K, hK⟩ : ∃ K : Nat, K = t.ls.length - 1 := ⟨_, rfl⟩
            have hKe : ((t.ls.length : Int) - 1) = (K : Int) := by omega
            rw [hKe]
            have hK1 : K + 1 ≤ t.ls.length := by omega
            have hK2 : t.ls.length ≤ K + 1 := by omega
            have HKK : Hid (K = t.ls.length - 1) := hK
            clear hK hKe
            go_loopw [11] (fun y wr => ∃ m : Nat, m ≤ K ∧ y = .int .i64 ((m : Int) + 1) ∧ w.heap.size < wr.heap.size ∧ Hid (Fx T w wr) ∧ Hid (wr.heap[w.heap.size]? = some (.cells #[.int .i64 t.ar, .slice (some ⟨lb, loff, none⟩) t.ls.length lcap] 78 (0, 0))) ∧ Hid (Rd wr T (.slice aa A acp) (r.take A)) ∧ Hid (Rd wr T (.slice (some ⟨ib, ioff, none⟩) s.cur.length icap) s.cur) ∧ Hid (WP wr T g (.slice (some ⟨fb, foff, none⟩) c.fs.length fcap) mn c (s.nds ++ (t.ls.tail.take m).map (fun l => (l.map (insR (r.take A) s.nds.length), false))) (s.stp + 1) 0 (s.ks.map (·.rs)).reverse (opens s.ks).reverse)) (fun y _ => K + 1 - (intOf y).toNat)
            case atStart => exact ⟨0, Nat.zero_le _, rfl, hw3l, HF3.out, HT3.out, HRA.out, HR3.out, by show WP _ _ _ _ _ _ _ _ _ _ _; rw [List.take_zero, List.map_nil, List.append_nil]; exact HW3.out⟩
            case round =>
              clear HT3 HW3 HR3 s0
              obtain ⟨m, hm, rfl, hwr, HFr, HTr, HAr, HIr, HWr⟩ := hrel
              have s1 : wr.cell? ⟨w.heap.size, 1, none⟩ = some (.slice (some ⟨lb, loff, none⟩) t.ls.length lcap) := by rw [cell_of_row _ _ 1 _ _ _ HTr.out]; rfl
              have hlbr : lb < wr.heap.size := by omega
              by_cases hmk : m < K
              · have hm1 : m + 1 < t.ls.length := by omega
                obtain ⟨lvo, lvc, l0, lrd⟩ := HLR.out (m + 1) hm1 wr HFr.out
                obtain ⟨n1, n2, n3⟩ := HLN.out (m + 1) hm1
                have HC : Hid _ := rInst t.ls[m + 1] (r.take A) s.nds.length _ _ T wr lrd HAr.out (by omega) (by omega) n2 n3
                have HTK : Hid ((t.ls.tail.take (m + 1)).map (fun l => (l.map (insR (r.take A) s.nds.length), false)) = (t.ls.tail.take m).map (fun l => (l.map (insR (r.take A) s.nds.length), false)) ++ [(t.ls[m + 1].map (insR (r.take A) s.nds.length), false)]) := by
                  show _ = _
                  rw [List.take_succ_eq_append_getElem (by rw [List.length_tail]; omega), List.map_append]
                  simp
                have hk1 : decide ((m : Int) + 1 ≤ (K : Int)) = true := decide_eq_true (by omega)
                clear lrd n2 n3
                generalize t.ls[m + 1] = ln at *
                have hNLl : (s.nds ++ (t.ls.tail.take m).map (fun l => (l.map (insR (r.take A) s.nds.length), false))).length ≤ 900020 := by simp; omega
                generalize hNL : s.nds ++ (t.ls.tail.take m).map (fun l => (l.map (insR (r.take A) s.nds.length), false)) = NL at *
                have HNL : Hid (s.nds ++ (t.ls.tail.take m).map (fun l => (l.map (insR (r.take A) s.nds.length), false)) = NL) := hNL
                clear hNL
                go_wp2_with fail
                refine (show Calls _ _ _ _ _ from HC.out).mono ?_
                rintro e w4 ⟨v, rfl, hb4, hown4⟩
                clear HC
                have hrd4 : Rd w4 T v (ln.map (insR (r.take A) s.nds.length)) := Rd.own (by rw [List.length_map]; exact hown4)
                obtain ⟨lo4, lc4, rfl⟩ := own_form hown4
                obtain ⟨av4, bv4, ov4, vs4, bs4, hw4⟩ := WP.old HWr.out hb4
                obtain ⟨ao4, ac4, rfl⟩ := own_form hw4.ra
                obtain ⟨_, _, _, _, _, d5, _, _, _⟩ := hw4.cells
                have e5 := hw4.fz 5
                have hg4 := hw4.lt
                have HAL : Hid (Below w4.heap.size w4 (w4.alloc (Obj.cells #[.slice lo4 ln.length lc4, .bool false] 239))) := below_al _ _
                have HW4 : Hid _ := hw4.old HAL.out
                have HRD4 : Hid _ := Rd.old hrd4 HAL.out
                have HNB : Hid _ := heap_alloc_new w4 (Obj.cells #[.slice lo4 ln.length lc4, .bool false] 239)
                have HF4 : Hid (Fx T w (w4.alloc (Obj.cells #[.slice lo4 ln.length lc4, .bool false] 239))) := (HFr.out.trans (Fx.of hb4 (by have := HFr.out.size; omega))).trans (Fx.of HAL.out (by have := HFr.out.size; have := hb4.size; omega))
                have HT4 : Hid _ := (HAL.out.block w.heap.size (by have := hb4.size; omega)).trans ((hb4.block w.heap.size hwr).trans HTr.out)
                have HA4 : Hid _ := Rd.old (Rd.old HAr.out hb4) HAL.out
                have HI4 : Hid _ := Rd.old (Rd.old HIr.out hb4) HAL.out
                clear hrd4 hown4 hw4
                go_wp2_with (at_builtin; go_must (refine wpList_append_lies _ rfl _ _ _ rfl T 239 it _ 2 32 Tryz.underlying157 hit hi0 hi1 hi2 rfl (by omega) (.slice ao4 NL.length ac4) NL.length (ncs vs4 NL) rfl ?hownT _ 1 _ [.slice lo4 ln.length lc4, .bool false] rfl rfl ?hnewsT ?h1T (by omega) ?h63T ?hbytesT ?hbaseT _ rfl ?_))
                case hownT => exact (WB.ra HW4.out)
                try case hnewsT => exact World.news_of_block HNB.out
                case h1T => simp [Value.oneCell']
                case h63T => unfold maxLen; omega
                case hbytesT => omega
                case hbaseT => first | omega | (simp; omega)
                intro q5 cap5 w5 hown5 hgrow5 hat5 hlt5
                obtain ⟨hfx5, hw5⟩ := WB.pushN HW4.out HRD4.out hown5 hgrow5
                have hblk5 := grown_type (WB.ra HW4.out) hgrow5 (by decide) (WB.blk HW4.out)
                have kb := cell_of_row w5 g 5 _ _ _ hblk5
                simp only [List.getElem?_toArray, List.getElem?_cons_succ, List.getElem?_cons_zero] at kb
                have kf := frozen_of_row w5 g 5 _ _ hblk5
                have HT5 : Hid _ := (heap_set_ne (i := 5) (.slice (some ⟨q5, 0, none⟩) (NL.length + 1) cap5) (show w.heap.size ≠ g by omega)).trans (grown_type (WB.ra HW4.out) hgrow5 (by decide) HT4.out)
                have HF5 : Hid _ := HF4.out.trans hfx5
                have HA5 : Hid _ := Rd.keep HA4.out hfx5
                have HI5 : Hid _ := Rd.keep HI4.out hfx5
                have HW5 : Hid _ := hw5
                have hs5 : w.heap.size < w5.heap.size := by have := (Array.getElem?_eq_some_iff.1 HT4.out).1; have := hgrow5.size; omega
                clear hown5 hgrow5 hat5 hfx5 hw5 hblk5
                go_wp2_with fail
                go_roundw
                case rel => exact ⟨m + 1, by omega, by go_num, by simp [World.setCell]; exact hs5, HF5.out, HT5.out, HA5.out, HI5.out, by rw [HTK.out, ← List.append_assoc, HNL.out]; exact ⟨_, _, _, _, _, HW5.out⟩⟩
                case measure => simp [intOf]; omega
              · have HmK : Hid (m = K) := by show _ = _; omega
                have hk1 : decide ((m : Int) + 1 ≤ (K : Int)) = false := decide_eq_false (by omega)
                have h0l : 0 < t.ls.length := by omega
                obtain ⟨lvo, lvc, l0, lrd⟩ := HLR.out 0 h0l wr HFr.out
                obtain ⟨n1, n2, n3⟩ := HLN.out 0 h0l
                have HC : Hid _ := rInst t.ls[0] (r.take A) s.nds.length _ _ T wr lrd HAr.out (by omega) (by omega) n2 n3
                have HH0 : Hid (t.ls.headD [] = t.ls[0]) := by
                  show _ = _
                  rw [List.headD_eq_head?_getD, List.head?_eq_getElem?, List.getElem?_eq_getElem h0l]; rfl
                rw [Nat.add_zero] at l0
                have hlen0 := n1
                have HM0 : Hid (t.ls[0] ∈ t.ls) := List.getElem_mem h0l
                clear lrd n2 n3 n1
                generalize t.ls[0] = ln at *
                go_wp2_with fail
                refine (show Calls _ _ _ _ _ from HC.out).mono ?_
                rintro e w6 ⟨v, rfl, hb6, hown6⟩
                clear HC
                have HRD6 : Hid (Rd w6 T v (ln.map (insR (r.take A) s.nds.length))) := Rd.own (by rw [List.length_map]; exact hown6)
                have HW6 : Hid _ := WP.old HWr.out hb6
                have HF6 : Hid (Fx T w w6) := HFr.out.trans (Fx.of hb6 (by have := HFr.out.size; omega))
                have HR6 : Hid (Rd w6 T (.slice (some ⟨ib, ioff, none⟩) s.cur.length icap) s.cur) := Rd.old HIr.out hb6
                obtain ⟨lo6, lc6, rfl⟩ := own_form hown6
                have HT6 : Hid _ := (hb6.block w.heap.size hwr).trans HTr.out
                have u0 : w6.cell? ⟨w.heap.size, 0, none⟩ = some (.int .i64 t.ar) := by rw [cell_of_row _ _ 0 _ _ _ HT6.out]; rfl
                rw [hA] at u0
                have hs6 : w.heap.size < w6.heap.size := (Array.getElem?_eq_some_iff.1 HT6.out).1
                clear hown6 hb6
                have HND6 : Hid (s.nds ++ (t.ls.tail.take m).map (fun l => (l.map (insR (r.take A) s.nds.length), false)) = S'.nds) := by
                  show _ = _
                  have ht9 : t.ls.tail.take m = t.ls.tail := List.take_of_length_le (by rw [List.length_tail]; omega)
                  rw [HE.out, ht9]
                  congr 1
                  exact List.map_congr_left (fun l hl => by rw [HINS.out l (List.mem_of_mem_tail hl)])
                have HCR6 : Hid (ln.map (insR (r.take A) s.nds.length) ++ r.drop A = S'.cur) := by
                  show _ = _
                  rw [HE.out, HH0.out, HINS.out ln HM0.out]
                have HSO6 : Hid (S'.stp = s.stp + 1 ∧ S'.out = 0) := by show _ ∧ _; rw [HE.out]; exact ⟨rfl, ho⟩
                have hll : (ln.map (insR (r.take A) s.nds.length)).length + (r.drop A).length ≤ 30000000 := by rw [List.length_map, List.length_drop]; unfold totI at htot; omega
                go_wp2_with fail
                all_goals
                  refine (rJoined _ _ (ln.map (insR (r.take A) s.nds.length)) (r.drop A) T w6 HRD6.out ?hrb hll).mono ?_
                  case hrb =>
                    have hrr := HR6.out
                    rw [hcur] at hrr
                    first
                      | (have q := Rd.part (k := 1 + A) (m := r.length + 1 - (1 + A)) (c := icap - (1 + A)) hrr (by simp; omega) (by omega) (by unfold maxLen; omega)
                         rw [show 1 + A = A + 1 by omega, List.drop_succ_cons, List.take_of_length_le (by rw [List.length_drop]; omega)] at q
                         rw [show 1 + A = A + 1 by omega]
                         exact q)
                      | (have q := Rd.part (k := 0) (m := r.length + 1 - (1 + A)) (c := 0) hrr (by simp) (by omega) (by omega)
                         have hz : r.length + 1 - (1 + A) = 0 := by omega
                         have hd : r.drop A = [] := List.drop_eq_nil_of_le (by omega)
                         rw [hz, List.take_zero] at q
                         rw [hz, hd]
                         exact q)
                  rintro e w7 ⟨v7, rfl, hb7, hown7⟩
                  go_wp2_with fail
                  go_ret
                  refine ⟨_, rfl, HF6.out.trans (Fx.of hb7 (by have := HF6.out.size; omega)), ?_, fun _ => ?_⟩
                  · rw [← HND6.out, HSO6.out.1, HSO6.out.2]; exact WP.old HW6.out hb7
                  · rw [← HCR6.out]; exact Rd.own hown7

end Go.Proofs.YtnndoagpbcacdaaGreatDoor
