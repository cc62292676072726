import Derived.Test.YtnndoagpbcacdaaDoorMH3
import Derived.Test.YtnndoagpbcacdaaDoorMG15
import Derived.Test.YtnndoagpbcacdaaDoorML0
import Derived.Test.YtnndoagpbcacdaaDoorMS2
namespace Go.Proofs.YtnndoagpbcacdaaDoor
open Go.RowKit

/-! Package redexkeep: grow.go: loose. -/
def tlF (st : Int) : Bool := decide (st / 16 % 2 = 1)
def gpT (st : Int) : List UInt8 := (gapP (pickF st 3)).flatten
def fzZ (st : Int) (ns : List ByteArray) (f : Fz) : List UInt8 := f.nm.data.toList ++ (f.ps.flatMap (fun p => gpT st ++ p.data.toList) ++ ([61] ++ (gpT st ++ (lzT st (nmsB ns f.ps) 2 f.ap ++ ([59] ++ (if tlF st then gpT st else []))))))
theorem fzZ_take (st : Int) (ns : List ByteArray) (l : List Fz) (j : Nat) (f : Fz) (h : l[j]? = some f) : (l.take (j + 1)).flatMap (fzZ st ns) = (l.take j).flatMap (fzZ st ns) ++ fzZ st ns f := by
  obtain ⟨hj, rfl⟩ := List.getElem?_eq_some_iff.1 h
  rw [List.take_succ_eq_append_getElem hj, List.flatMap_append]; simp
theorem fzZ_le (st : Int) (ns : List ByteArray) (l : List Fz) (j : Nat) (f : Fz) (h : l[j]? = some f) : ((l.take j).flatMap (fzZ st ns)).length + (fzZ st ns f).length ≤ (l.flatMap (fzZ st ns)).length := by
  have h1 := congrArg List.length (fzZ_take st ns l j f h)
  have h2 : l.flatMap (fzZ st ns) = (l.take (j + 1)).flatMap (fzZ st ns) ++ (l.drop (j + 1)).flatMap (fzZ st ns) := by rw [← List.flatMap_append, List.take_append_drop]
  have h3 := congrArg List.length h2
  rw [List.length_append] at h1 h3
  omega
theorem pz_take (st : Int) (ps : List ByteArray) (j : Nat) (h : j < ps.length) : (ps.take (j + 1)).flatMap (fun p => gpT st ++ p.data.toList) = (ps.take j).flatMap (fun p => gpT st ++ p.data.toList) ++ (gpT st ++ ps[j].data.toList) := by
  rw [List.take_succ_eq_append_getElem h, List.flatMap_append]; simp
theorem pz_le (st : Int) (ps : List ByteArray) (j : Nat) (h : j < ps.length) : ((ps.take j).flatMap (fun p => gpT st ++ p.data.toList)).length + (gpT st).length + ps[j].size ≤ (ps.flatMap (fun p => gpT st ++ p.data.toList)).length := by
  have h1 := congrArg List.length (pz_take st ps j h)
  have h2 : ps.flatMap (fun p => gpT st ++ p.data.toList) = (ps.take (j + 1)).flatMap (fun p => gpT st ++ p.data.toList) ++ (ps.drop (j + 1)).flatMap (fun p => gpT st ++ p.data.toList) := by rw [← List.flatMap_append, List.take_append_drop]
  have h3 := congrArg List.length h2
  rw [size_len]
  simp only [List.length_append] at h1 h3
  omega
structure FzOk (ns : List ByteArray) (f : Fz) : Prop where
  nn : NmN (nmsB ns f.ps)
  pl : f.ps.length ≤ 1000
  al : f.ap.2.length ≤ 1000
  ln : ∀ e ∈ f.ap.2, exLn 2 e
  hd : wOk f.ps.length ns.length f.ap.1
  ag : ∀ e ∈ f.ap.2, exOk f.ps.length ns.length 2 e

set_option maxRecDepth 100000 in
set_option maxHeartbeats 8000000 in
theorem kLoose (st : Int) (hs1 : -9223372036854775808 ≤ st) (hs2 : st ≤ 9223372036854775807) (S : Nat → Prop) (ns : List ByteArray) (l : List Fz) (v : Value) (w : World) (h : FRow w S ns l v) (hl : l.length ≤ 1000) (hln : ∀ f ∈ l, FzOk ns f) (hsz : (l.flatMap (fzZ st ns)).length ≤ 1000) :
    Calls Tryd.prog 8 #[v, .int .i64 st] w fun e w' => ∃ x : ByteArray, e = .returned (.string x) ∧ x.data.toList = l.flatMap (fzZ st ns) ∧ Below w.heap.size w w' := by
  have HFR : Hid (∀ w', Below w.heap.size w w' → FRow w' S ns l v) := fun w' hb => h.old hb
  obtain ⟨xs, h1, _, _⟩ := h
  obtain ⟨vo, vc, rfl⟩ := own_form h1
  have HSZ : Hid ((l.flatMap (fzZ st ns)).length ≤ 1000) := hsz
  have HCG : Hid (∀ w', Calls Tryd.prog 21 #[.int .i64 st] w' fun e w'' => ∃ x : ByteArray, e = .returned (.string x) ∧ x.data.toList = gpT st ∧ w'' = w') := fun w' => kGap st w' hs1 hs2
  clear h1 hsz
  go_enter Tryd.func8, Tryd.ntmps8
  go_wp2_with fail
  go_loopw [5, 6] (fun y z wr => ∃ (i : Nat) (x : ByteArray), i ≤ l.length ∧ y = .string x ∧ z = .int .i64 i ∧ x.size ≤ 1000 ∧ w.heap.size ≤ wr.heap.size ∧ Hid (Below w.heap.size w wr) ∧ Hid (x.data.toList = (l.take i).flatMap (fzZ st ns))) (fun _ z _ => l.length - (intOf z).toNat)
  case atStart => exact ⟨0, _, by omega, rfl, rfl, by show 0 ≤ _; omega, Nat.le_refl _, Below.refl _ _, by simp [Hid]⟩
  case round =>
    obtain ⟨i, x, hi, rfl, rfl, hxs, hww, HB, HE⟩ := hrel
    obtain ⟨wo, hwo⟩ : ∃ wo, wo = wr := ⟨wr, rfl⟩
    subst hwo
    by_cases hil : i < l.length
    · have hget : l[i]? = some l[i] := List.getElem?_eq_getElem hil
      obtain ⟨xs, hrow, hS, hF⟩ := HFR.out wo HB.out
      obtain ⟨q, cap, hqe, _, hqr⟩ := hrow.form (by omega)
      cases hqe
      obtain ⟨a, b, c, ga, gb, gc, hfv⟩ := hF.at hget
      obtain ⟨rfl, hps, _, hxa⟩ := hfv
      have ka := row_cell hrow (i * 3) _ ga
      have kb := row_cell hrow (i * 3 + 1) _ gb
      have kc := row_cell hrow (i * 3 + 2) _ gc
      have hlf := hln _ (List.getElem_mem hil)
      have HXI : Hid (x.data.toList = (l.take i).flatMap (fzZ st ns)) := HE.out
      have HLE : Hid (x.size + (fzZ st ns l[i]).length ≤ 1000) := by
        show _ ≤ _
        rw [size_len, HXI.out]
        have := fzZ_le st ns l i _ hget
        have := HSZ.out
        omega
      have HNX : Hid ((l.take (i + 1)).flatMap (fzZ st ns) = (l.take i).flatMap (fzZ st ns) ++ fzZ st ns l[i]) := fzZ_take st ns l i _ hget
      generalize l[i] = f at *
      have HFZ : Hid (fzZ st ns f = f.nm.data.toList ++ (f.ps.flatMap (fun p => gpT st ++ p.data.toList) ++ ([61] ++ (gpT st ++ (lzT st (nmsB ns f.ps) 2 f.ap ++ ([59] ++ (if tlF st then gpT st else []))))))) := rfl
      have HL2 : Hid (x.size + f.nm.size + (f.ps.flatMap (fun p => gpT st ++ p.data.toList)).length + 1 + (gpT st).length + (lzT st (nmsB ns f.ps) 2 f.ap).length + 1 + (if tlF st then gpT st else []).length ≤ 1000) := by
        have := HLE.out
        rw [HFZ.out] at this
        show _ ≤ _
        rw [size_len f.nm]
        simp only [List.length_append, List.length_cons, List.length_nil] at this ⊢
        omega
      have hl2 : x.size + f.nm.size ≤ 1000 := by have := HL2.out; omega
      have HCB : Hid (∀ w', Below wo.heap.size wo w' → Calls Tryd.prog 22 #[c, .int .i64 st] w' fun e w'' => ∃ x : ByteArray, e = .returned (.string x) ∧ x.data.toList = lzT st (nmsB ns f.ps) 2 f.ap ∧ Below w'.heap.size w' w'') := fun w' hb => kWide st hs1 hs2 _ _ _ hlf.nn (by simp [nmsB]) (by simp [nmsB]) S 2 f.ap c w' (XA.keep (fun k hk hlt => ⟨hk, hb.block k hlt⟩) hxa) hlf.al hlf.ln hlf.hd hlf.ag (by have := HL2.out; omega)
      have hvr := hxa
      obtain ⟨_, _, _, hvr, _, _⟩ := hvr
      obtain ⟨co, cc, rfl⟩ := own_form hvr
      obtain ⟨po, pc, rfl⟩ := own_form hps
      have HPS : Hid (∀ w', Below wo.heap.size wo w' → w'.ownsRow 0 9 1 (.slice po f.ps.length pc) f.ps.length (sgs f.ps)) := fun w' hb => ownsRow_old hps hb
      have hpl : f.ps.length ≤ 1000 := hlf.pl
      have HKB : Hid _ := kb
      have HKC : Hid _ := kc
      clear hrow hF ga gb gc hvr hxa HLE hps hlf
      go_wp2_with fail
      clear ka kb kc
      go_loopw [5, 7] (fun y z w2 => ∃ (j : Nat) (x2 : ByteArray), j ≤ f.ps.length ∧ y = .string x2 ∧ z = .int .i64 j ∧ x2.size ≤ 1000 ∧ q < w2.heap.size ∧ wo.heap.size ≤ w2.heap.size ∧ Hid (Below wo.heap.size wo w2) ∧ Hid (x2.data.toList = x.data.toList ++ (f.nm.data.toList ++ (f.ps.take j).flatMap (fun p => gpT st ++ p.data.toList)))) (fun _ z _ => f.ps.length - (intOf z).toNat)
      case atStart => exact ⟨0, _, by omega, rfl, rfl, by rw [ByteArray.size_append]; exact hl2, hqr, Nat.le_refl _, Below.refl _ _, by show _ = _; rw [data_app]; simp⟩
      case round =>
        obtain ⟨j, x2, hj, rfl, rfl, hx2s, hq2, hw2, HB2, HE2⟩ := hrel
        have kb := (HB2.out.cell (p := ⟨q, i * 3 + 1, none⟩) hqr).trans HKB.out
        have kc := (HB2.out.cell (p := ⟨q, i * 3 + 2, none⟩) hqr).trans HKC.out
        by_cases hjl : j < f.ps.length
        · obtain ⟨pq, pcap, hpe, _, hpq⟩ := (HPS.out wr HB2.out).form (by omega)
          cases hpe
          have kp := row_cell (HPS.out wr HB2.out) j _ (sgs_at f.ps j hjl)
          have hx3 : x2.size + (gpT st).length + f.ps[j].size ≤ 1000 := by
            have h5 := pz_le st f.ps j hjl
            have h6 := HL2.out
            rw [size_len x2, HE2.out]
            rw [size_len x, size_len f.nm] at h6
            simp only [List.length_append]
            omega
          have HP : Hid ((f.ps.take (j + 1)).flatMap (fun p => gpT st ++ p.data.toList) = (f.ps.take j).flatMap (fun p => gpT st ++ p.data.toList) ++ (gpT st ++ f.ps[j].data.toList)) := pz_take st f.ps j hjl
          generalize f.ps[j] = pj at *
          have hgd : (gapB (pickF st 3)).data.toList = gpT st := gapB_data _
          have hgz : (gapB (pickF st 3)).size = (gpT st).length := by rw [size_len, hgd]
          have HGC : Hid (∀ w', Calls Tryd.prog 21 #[.int .i64 st] w' fun e w'' => e = .returned (.string (gapB (pickF st 3))) ∧ w'' = w') := fun w' => kGapS st w' hs1 hs2
          generalize gapB (pickF st 3) = xg at *
          have HXG : Hid (xg.data.toList = gpT st) := hgd
          have hx4 : x2.size + xg.size + pj.size ≤ 1000 := by omega
          clear hgd hgz hx3
          go_wp2_with fail
          go_quiet ((go_at_call 21; exact Calls.quiet_of_same (HGC.out _)))
          go_wp2_with fail
          go_roundw
          case rel =>
            refine ⟨j + 1, _, hjl, rfl, by go_num, ?_, hq2, hw2, below_drewN HB2.out _, ?_⟩
            · simp only [ByteArray.size_append]
              omega
            · show _ = _
              rw [HP.out, data_app, data_app, HE2.out, HXG.out]
              simp
          case measure => simp [intOf]; omega
        · have hje : j = f.ps.length := by omega
          have hd0 : decide ((j : Int) < (f.ps.length : Int)) = false := decide_eq_false (by omega)
          have hd1 : ¬ (j : Int) < (f.ps.length : Int) := by omega
          have HF2 : Hid (x2.data.toList = x.data.toList ++ (f.nm.data.toList ++ f.ps.flatMap (fun p => gpT st ++ p.data.toList))) := by
            have := HE2.out
            rw [hje, List.take_length] at this
            exact this
          have hx4 : x2.size + 1 + (gpT st).length + (lzT st (nmsB ns f.ps) 2 f.ap).length + 1 + (if tlF st then gpT st else []).length ≤ 1000 := by
            have h6 := HL2.out
            rw [size_len x2, HF2.out]
            rw [size_len x, size_len f.nm] at h6
            simp only [List.length_append] at h6 ⊢
            omega
          clear hje
          go_wp2_with fail
          refine (show Calls _ _ _ _ _ from HCB.out wr HB2.out).mono ?_
          rintro e w3 ⟨x3, rfl, hx3, hb3⟩
          clear HCB
          have hx5 : x2.size + 1 + (gpT st).length + x3.size + 1 + (if tlF st then gpT st else []).length ≤ 1000 := by rw [size_len x3, hx3]; exact hx4
          have HX3 : Hid _ := hx3
          have HB3 : Hid (Below w.heap.size w w3) := (HB.out.trans (HB2.out.mono hww)).trans (hb3.mono (by omega))
          have hs3 := HB3.out.size
          clear hx3 hb3 kb kc hx4
          go_wp2_with fail
          refine (show Calls _ _ _ _ _ from HCG.out _).mono ?_
          rintro e w4 ⟨xg, rfl, hxg, rfl⟩
          have HXG : Hid _ := hxg
          have hxgl : xg.size = (gpT st).length := by rw [size_len, hxg]
          clear hxg
          have hx6 : x2.size + 1 + xg.size + x3.size + 1 + (if tlF st then gpT st else []).length ≤ 1000 := by rw [hxgl]; exact hx5
          by_cases htl : st / 16 % 2 = 1
          · have ht : tlF st = true := by unfold tlF; exact decide_eq_true htl
            rw [ht, if_pos rfl, ← hxgl] at hx6
            have HFY : Hid (fzZ st ns f = f.nm.data.toList ++ (f.ps.flatMap (fun p => gpT st ++ p.data.toList) ++ ([61] ++ (gpT st ++ (lzT st (nmsB ns f.ps) 2 f.ap ++ ([59] ++ gpT st)))))) := by rw [HFZ.out, ht]; rfl
            clear hx5 HFZ
            have hbit : (bits BinOp.and IntKind.i64 (st / 16) 1 == 1) = true := by rw [bit_tell]; exact decide_eq_true htl
            go_wp2_with fail
            refine (show Calls _ _ _ _ _ from HCG.out _).mono ?_
            rintro e w5 ⟨xh, rfl, hxh, rfl⟩
            have HXH : Hid _ := hxh
            have hxhl : xh.size = xg.size := by rw [size_len, hxh, hxgl]
            clear hxh
            go_wp2_with fail
            go_roundw
            case rel =>
              refine ⟨i + 1, _, hil, rfl, by go_num, ?_, hs3, HB3.out, ?_⟩
              · simp only [ByteArray.size_append]
                show x2.size + 1 + xg.size + x3.size + 1 + xh.size ≤ _
                omega
              · show _ = _
                rw [HNX.out, HFY.out]
                simp only [data_app]
                rw [HF2.out, HXI.out, HX3.out, HXG.out, HXH.out]
                simp
            case measure => simp [intOf]; omega
          · have ht : tlF st = false := by unfold tlF; exact decide_eq_false htl
            rw [ht, if_neg (by simp)] at hx6
            have HFY : Hid (fzZ st ns f = f.nm.data.toList ++ (f.ps.flatMap (fun p => gpT st ++ p.data.toList) ++ ([61] ++ (gpT st ++ (lzT st (nmsB ns f.ps) 2 f.ap ++ ([59] ++ [])))))) := by rw [HFZ.out, ht]; rfl
            clear hx5 HFZ
            have hbit : (bits BinOp.and IntKind.i64 (st / 16) 1 == 1) = false := by rw [bit_tell]; exact decide_eq_false htl
            go_wp2_with fail
            go_roundw
            case rel =>
              refine ⟨i + 1, _, hil, rfl, by go_num, ?_, hs3, HB3.out, ?_⟩
              · simp only [ByteArray.size_append]
                simp only [List.length_nil] at hx6
                show x2.size + 1 + xg.size + x3.size + 1 ≤ _
                omega
              · show _ = _
                rw [HNX.out, HFY.out]
                simp only [data_app]
                rw [HF2.out, HXI.out, HX3.out, HXG.out]
                simp
            case measure => simp [intOf]; omega
    · have hie : i = l.length := by omega
      have hd0 : decide ((i : Int) < (l.length : Int)) = false := decide_eq_false (by omega)
      have hd1 : ¬ (i : Int) < (l.length : Int) := by omega
      have HF : Hid (x.data.toList = l.flatMap (fzZ st ns)) := by
        have := HE.out
        rw [hie, List.take_length] at this
        exact this
      clear hie
      go_wp2_with fail
      go_ret
      exact ⟨_, rfl, HF.out, HB.out⟩

end Go.Proofs.YtnndoagpbcacdaaDoor
namespace Go.Proofs.YtnndoagpbcacdaaDoor
open Go.RowKit

/-! A program, loosely written. -/
theorem loose_text {main : ByteArray} {ns : List ByteArray} (h : NmsB main ns) (fb : List Fb) (hl : ns.length = fb.length) (st : Int) :
    (fzOf ns fb).flatMap (fzZ st ns) = ((namedF main.data.toList fb).flatMap (lzF (styF st) (pickF st 3) (tlF st) (namedF main.data.toList fb))).flatten := by
  have hns := names_of h
  have hnames : ∀ f : Fn 2, nmsOf (namedF main.data.toList fb) f = ⟨nmL main.data.toList fb.length, f.pn⟩ := fun f => by
    unfold nmsOf; rw [namedF_names]
  rw [List.flatMap_def, List.flatMap_def, List.flatten_flatten, List.map_map]
  congr 1
  refine List.ext_getElem? (fun j => ?_)
  rw [List.getElem?_map, List.getElem?_map]
  by_cases hj : j < fb.length
  · rw [namedF_get hj]
    have hz : (fzOf ns fb)[j]? = some ⟨ns[j]'(by omega), letB.take fb[j].np, fb[j].ap⟩ := by
      unfold fzOf
      rw [List.getElem?_zipWith, List.getElem?_eq_getElem hj, List.getElem?_eq_getElem (by omega)]
    rw [hz]
    simp only [Option.map_some]
    congr 1
    have hnm : (ns[j]'(by omega)).data.toList = if j = 0 then main.data.toList else fNm j := by
      have := h j _ (List.getElem?_eq_getElem (by omega))
      cases j with
      | zero => rw [show ns[0] = main from this]; rfl
      | succ j => rw [show (ns[j + 1]'(by omega)).data.toList = fNm (j + 1) from this, if_neg (by omega)]
    have hN : nmsB ns (letB.take fb[j].np) = ⟨nmL main.data.toList fb.length, letL.take fb[j].np⟩ := by
      unfold nmsB; rw [hns, hl, letB_take]
    unfold fzZ lzF lzT gpT
    rw [Function.comp, hnames]
    simp only
    rw [hnm, hN]
    have hps : (letB.take fb[j].np).flatMap (fun p => (gapP (pickF st 3)).flatten ++ p.data.toList) = ((letL.take fb[j].np).flatMap (fun p => gapP (pickF st 3) ++ [p])).flatten := by
      rw [← letB_take]
      generalize letB.take fb[j].np = ps
      induction ps with
      | nil => rfl
      | cons p ps ih => simp [ih]
    rw [hps]
    cases tlF st <;> simp
  · rw [List.getElem?_eq_none (by rw [fzOf_len (by omega)]; omega), List.getElem?_eq_none (by rw [namedF_len]; omega)]
    rfl
theorem styNz (st : Int) (x : Wd) (h : x.1 = 1 → x.2 < 1000) : nzOk (styF st) x := fun _ h1 => h h1
theorem chk_nil {s : ByteArray} (h : (chk s).2 = 0) : (chk s).1 = 0 := by
  unfold chk at h ⊢
  split
  · rfl
  · split
    · next h2 h3 => rw [if_neg h2, if_pos h3] at h; exact absurd h h3
    · split
      · next h2 h3 h4 => rw [if_neg h2, if_neg h3, if_pos h4] at h; exact absurd h h4
      · split
        · next h2 h3 h4 h5 => rw [if_neg h2, if_neg h3, if_neg h4, if_pos h5] at h; exact absurd h h5
        · rfl
theorem loose_len {main : List UInt8} (hm : main.length ≤ 4) {fb : List Fb} (h4 : fb.length ≤ 4) (hfb : ∀ b ∈ fb, FbOk fb.length b) (st : Int) : ((namedF main fb).flatMap (lzF (styF st) (pickF st 3) (tlF st) (namedF main fb))).flatten.length ≤ 1000 := by
  have hg := (gap_sym (pickF st 3)).2.2.2
  have hnm : ∀ x ∈ nmL main fb.length, x.length ≤ 4 := by
    intro x hx
    cases hn : fb.length with
    | zero => rw [hn] at hx; simp [nmL] at hx
    | succ n =>
      rw [hn, nmL] at hx
      rcases List.mem_cons.1 hx with rfl | hx
      · exact hm
      · obtain ⟨i, hi, rfl⟩ := List.mem_map.1 hx
        have := List.mem_range.1 hi
        unfold fNm
        rw [decL_lt _ (by omega)]
        simp
  have hlet : ∀ n, ∀ p ∈ letL.take n, p.length = 1 := fun n p hp => (show ∀ p ∈ letL, p.length = 1 by decide) p (List.mem_of_mem_take hp)
  have one : ∀ f ∈ namedF main fb, (lzF (styF st) (pickF st 3) (tlF st) (namedF main fb) f).flatten.length ≤ 200 := by
    intro f hf
    obtain ⟨b, hb, n, hn, rfl⟩ := namedF_mem hf
    have ho := hfb b hb
    have hN : nmsOf (namedF main fb) (⟨n, letL.take b.np, b.ap.1, b.ap.2⟩ : Fn 2) = ⟨nmL main fb.length, letL.take b.np⟩ := by unfold nmsOf; rw [namedF_names]
    have hp4 : ∀ y ∈ letL.take b.np, y.length ≤ 4 := fun y hy => by have := hlet _ y hy; omega
    have h1 := nz_len (σ := styF st) (N := ⟨nmL main fb.length, letL.take b.np⟩) ho.hd ho.hs hnm hp4
    have h2 := (lz_len (σ := styF st) (g := pickF st 3) (N := ⟨nmL main fb.length, letL.take b.np⟩) (np := b.np) (nf := fb.length) hnm hp4 2).2 b.ap.2 (fun e he => ho.ag e he)
    have h3 := ho.ln
    have h5 := ho.un
    have h6 := hnm n hn
    have hps : ∀ ps : List (List UInt8), (∀ p ∈ ps, p.length = 1) → (ps.flatMap (fun p => gapP (pickF st 3) ++ [p])).flatten.length ≤ 4 * ps.length := by
      intro ps
      induction ps with
      | nil => intro _; simp
      | cons p ps ih =>
        intro h
        have a := ih (fun q hq => h q (by simp [hq]))
        have b := h p (by simp)
        rw [List.flatMap_cons, List.flatten_append, List.flatten_append, List.length_append, List.length_append, List.length_cons]
        simp only [List.flatten_cons, List.flatten_nil, List.append_nil]
        omega
    have h7 := hps (letL.take b.np) (hlet b.np)
    have h8 : (letL.take b.np).length ≤ 3 := by rw [List.length_take]; show min _ 3 ≤ 3; omega
    have h9 : (if tlF st then gapP (pickF st 3) else []).flatten.length ≤ 3 := by
      split
      · exact hg
      · simp
    unfold lzF
    rw [hN]
    simp only [List.flatten_cons, List.flatten_append, List.length_append, List.length_cons, List.length_nil]
    omega
  have key : ∀ l : List (Fn 2), (∀ f ∈ l, f ∈ namedF main fb) → (l.flatMap (lzF (styF st) (pickF st 3) (tlF st) (namedF main fb))).flatten.length ≤ 200 * l.length := by
    intro l
    induction l with
    | nil => intro _; simp
    | cons f l ih =>
      intro h
      have a := ih (fun g hg => h g (by simp [hg]))
      have b := one f (h f (by simp))
      rw [List.flatMap_cons, List.flatten_append, List.length_append, List.length_cons]
      omega
  have := key _ (fun _ h => h)
  have hl := namedF_len main fb
  omega
/-- A program in a style: it is one, it is shown as always, its code is the same. -/
theorem loose_ok (L : List Int) (st : Int) (main : ByteArray) (hm : main.data.toList = mainT) (x : ByteArray) (ns : List ByteArray) (hns : NmsB main ns) (hl : ns.length = (progF L).length) (hx : x.data.toList = (fzOf ns (progF L)).flatMap (fzZ st ns)) :
    x.size ≤ 1000 ∧ (chk x).2 = 0 ∧ codeOf (cAll (toksF x 0)).ds = ⟨0, (namedF mainT (progF L)).map fnCode⟩ ∧ progL (cAll (toksF x 0)).ds = (fzOf ns (progF L)).flatMap (fzS ns) := by
  obtain ⟨p1, p2, p3, p4⟩ := progF_ok L
  have ht := loose_text hns (progF L) hl st
  have ht2 := plain_text hns (progF L) hl p3 []
  rw [hm, List.append_nil] at ht2
  rw [hm] at ht
  rw [ht] at hx
  have hsz : x.size ≤ 1000 := by rw [size_len, hx]; exact loose_len (by decide) p2 p3 st
  obtain ⟨hpr, hnm⟩ := pr_more (σ := styF st) (fun x hx => styNz st x hx) (main := mainT) p3 p1 p2 [] (by simp) (nm_ok main_nam _ p2)
    (names_nd mainT [] _ p1 p2 (by decide)) (fun p hp hq => (show ∀ p ∈ letL, p ∉ mainT :: ([[102, 49], [102, 50], [102, 51]] ++ ([] : List (List UInt8))) by decide) p hp (names_in mainT [] _ p1 p2 hq)) (fun f hf => by simp at hf) (fun f hf => by simp at hf)
  rw [List.append_nil] at hpr hnm
  have hlt : 0 < (progF L).length := by omega
  have hi : (namedF mainT (progF L))[0]? = some ⟨mainT, letL.take (progF L)[0].np, (progF L)[0].ap.1, (progF L)[0].ap.2⟩ := by rw [namedF_get hlt]; rfl
  have hp0 := p4 _ (List.getElem?_eq_getElem hlt)
  have htk := lz_toks hpr hnm x hx
  obtain ⟨a, b, c⟩ := prog_ok hpr 0 _ hi rfl (by show letL.take _ = []; rw [hp0]; rfl) x hsz htk
  exact ⟨hsz, a, b, by rw [c, ht2]⟩

end Go.Proofs.YtnndoagpbcacdaaDoor
