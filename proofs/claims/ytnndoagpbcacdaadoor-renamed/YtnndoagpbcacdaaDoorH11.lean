import Derived.Test.YtnndoagpbcacdaaDoorMH9
import Derived.Test.YtnndoagpbcacdaaDoorG14
import Derived.Deep.RegionHeld3
namespace Go.Proofs.YtnndoagpbcacdaaDoor
open Go.RowKit

/-! Package redexkeep: grow.go: other. -/
def ozF (f : Fz) : Fz := ⟨rnB f.nm, qB.take f.ps.length, f.ap⟩
structure OzOk (ns : List ByteArray) (f : Fz) : Prop where
  np : f.ps.length ≤ 3
  nm : 0 < f.nm.size ∧ f.nm.size ≤ 1000
  rn : RnOk (nmsB ns f.ps) (nmsB (ns.map rnB) (qB.take f.ps.length)) f.ps f.ps.length ns.length
  al : f.ap.2.length ≤ 1000
  ln : ∀ e ∈ f.ap.2, exLn 2 e
  hd : wOk f.ps.length ns.length f.ap.1
  ag : ∀ e ∈ f.ap.2, exOk f.ps.length ns.length 2 e
theorem q_at (j : Nat) (h : j < 3) (x : ByteArray) (hx : x.data.toList = decL j) : (⟨#[113]⟩ : ByteArray) ++ x = qB[j]'h := by
  refine ba_ext ?_
  rw [data_app, hx, decL_lt _ (by omega)]
  have : j = 0 ∨ j = 1 ∨ j = 2 := by omega
  rcases this with rfl | rfl | rfl <;> rfl

set_option maxRecDepth 100000 in
set_option maxHeartbeats 8000000 in
theorem kOther (S : Nat → Prop) (ns : List ByteArray) (l : List Fz) (v : Value) (w : World) (h : FRow w S ns l v) (hl : l.length ≤ 1000) (hok : ∀ f ∈ l, OzOk ns f) :
    Calls Tryd.prog 12 #[v] w fun e w' => ∃ v', e = .returned v' ∧ Below w.heap.size w w' ∧ FRow w' (fun k => k < w'.heap.size) (ns.map rnB) (l.map ozF) v' := by
  have HFR : Hid (∀ w', Below w.heap.size w w' → FRow w' S ns l v) := fun w' hb => h.old hb
  obtain ⟨is, his, hs0, hsz1, hs2⟩ := info_parts Tryd.infoSg
  obtain ⟨ie, hie, he0, he1, he2⟩ := info_parts Tryd.infoFz
  obtain ⟨xs, h1, _, _⟩ := h
  obtain ⟨vo, vc, rfl⟩ := own_form h1
  clear h1
  go_enter Tryd.func12, Tryd.ntmps12
  go_wp2_with fail
  go_loopw [3, 4] (fun y z wr => ∃ (i : Nat) (ao : Option Addr) (ac : Nat) (ys : List Value), i ≤ l.length ∧ y = .slice ao i ac ∧ z = .int .i64 i ∧ w.heap.size ≤ wr.heap.size ∧ Hid (Below w.heap.size w wr) ∧ Hid (wr.ownsRow w.heap.size 52 3 (.slice ao i ac) i ys) ∧ Hid (FVs wr (SX w.heap.size wr (.slice ao i ac)) (ns.map rnB) ((l.take i).map ozF) ys)) (fun _ z _ => l.length - (intOf z).toNat)
  case atStart => exact ⟨0, none, 0, [], Nat.zero_le _, rfl, rfl, Nat.le_refl _, Below.refl _ _, World.ownsRow_nil _ _ _ _, by simp [Hid, FVs]⟩
  case round =>
    obtain ⟨i, ao, ac, ys, hi, rfl, rfl, hww, HB, HR, HX⟩ := hrel
    obtain ⟨wo, hwo⟩ : ∃ wo, wo = wr := ⟨wr, rfl⟩
    subst hwo
    by_cases hil : i < l.length
    · have hget : l[i]? = some l[i] := List.getElem?_eq_getElem hil
      obtain ⟨xs, hrow, hS, hF⟩ := HFR.out wo HB.out
      obtain ⟨q, cap, hqe, _, hqr⟩ := hrow.form (by omega)
      cases hqe
      obtain ⟨a, b, c, ga, gb, gc, hfv⟩ := hF.at hget
      obtain ⟨rfl, hps, _, hxa⟩ := hfv
      have ka := row_cell hrow (i * 3) _ ga
      have kb := row_cell hrow (i * 3 + 1) _ gb
      have kc := row_cell hrow (i * 3 + 2) _ gc
      have hfo := hok _ (List.getElem_mem hil)
      have HTK : Hid ((l.take (i + 1)).map ozF = (l.take i).map ozF ++ [ozF l[i]]) := by show _ = _; rw [List.take_succ_eq_append_getElem hil, List.map_append]; rfl
      generalize l[i] = f at *
      obtain ⟨po, pc, rfl⟩ := own_form hps
      have HPS : Hid (∀ w', Below wo.heap.size wo w' → w'.ownsRow 0 9 1 (.slice po f.ps.length pc) f.ps.length (sgs f.ps)) := fun w' hb => ownsRow_old hps hb
      have hvr := hxa
      obtain ⟨_, _, _, hvr, _, _⟩ := hvr
      obtain ⟨co, cc, rfl⟩ := own_form hvr
      have HXA : Hid (∀ w', Below wo.heap.size wo w' → XA (nmsB ns f.ps) w' S 2 f.ap (.slice co (f.ap.2.length + 1) cc)) := fun w' hb => XA.keep (fun k hk hlt => ⟨hk, hb.block k hlt⟩) hxa
      have HCN : Hid (Calls Tryd.prog 26 #[.string f.nm, .slice none 0 0] wo fun e w'' => e = .returned (.string (rnB f.nm)) ∧ Below wo.heap.size wo w'') := by
        refine (kRenamed f.nm [] _ wo (by simp) hfo.nm.1 hfo.nm.2 (World.ownsRow_nil _ _ _ _)).mono ?_
        rintro e w'' ⟨x3, rfl, hx3, hb3⟩
        exact ⟨by rw [ba_ext (a := x3) (b := rnB f.nm) (by rw [hx3, rnB_data])], hb3⟩
      have HKB : Hid _ := kb
      have HKC : Hid _ := kc
      have hnp := hfo.np
      clear hrow hF ga gb gc hvr hxa hps hget
      go_wp2_with fail
      refine (show Calls _ _ _ _ _ from HCN.out).mono ?_
      rintro e w4 ⟨rfl, hb4⟩
      clear HCN
      have HNM : Hid (rnB f.nm = rnB f.nm) := rfl
      generalize hnm' : rnB f.nm = nm' at *
      have HNE : Hid (rnB f.nm = nm') := hnm'
      clear hnm' HNM
      have hs4 := hb4.size
      have HB4 : Hid (Below wo.heap.size wo w4) := hb4
      have HF4 : Hid ((w4.alloc (Obj.cells #[.string nm', .slice none 0 0, .slice none 0 0] 52)).heap[w4.heap.size]? = some (.cells #[.string nm', .slice none 0 0, .slice none 0 0] 52 (0, 0))) := row_three (w := w4)
      clear hb4 ka kb kc
      go_wp2_with fail
      go_loopw [6] (fun z wr => ∃ (j : Nat) (po2 : Option Addr) (pc2 : Nat), j ≤ f.ps.length ∧ z = .int .i64 j ∧ w4.heap.size < wr.heap.size ∧ Hid (Below w4.heap.size w4 wr) ∧ Hid (wr.heap[w4.heap.size]? = some (.cells #[.string nm', .slice po2 j pc2, .slice none 0 0] 52 (0, 0))) ∧ Hid (wr.ownsRow (w4.heap.size + 1) 9 1 (.slice po2 j pc2) j (sgs (qB.take j)))) (fun z _ => f.ps.length - (intOf z).toNat)
      case atStart => exact ⟨0, none, 0, by omega, rfl, by simp, bel_al w4 _, HF4.out, World.ownsRow_nil _ _ _ _⟩
      case round =>
        obtain ⟨j, po2, pc2, hj, rfl, hfl, HBJ, HFJ, HPJ⟩ := hrel
        have HBO : Hid (Below wo.heap.size wo wr) := HB4.out.trans (HBJ.out.mono hs4)
        have hso := HBO.out.size
        have kf1 := cell_of_row wr w4.heap.size 1 _ _ _ HFJ.out
        simp only [List.getElem?_toArray, List.getElem?_cons_succ, List.getElem?_cons_zero] at kf1
        have zf1 := frozen_of_row wr w4.heap.size 1 _ _ HFJ.out
        have kb := (HBO.out.cell (p := ⟨q, i * 3 + 1, none⟩) hqr).trans HKB.out
        have kc := (HBO.out.cell (p := ⟨q, i * 3 + 2, none⟩) hqr).trans HKC.out
        by_cases hjl : j < f.ps.length
        · have hj3 : j < 3 := by omega
          have HCD : Hid (∀ w', Calls Tryd.prog 18 #[.int .i64 (j : Int)] w' fun e w'' => ∃ x : ByteArray, e = .returned (.string x) ∧ x.data.toList = decL j ∧ Below w'.heap.size w' w'') := fun w' => kDecimal j w' (by omega)
          have HLT : Hid (sgs (qB.take (j + 1)) = sgs (qB.take j) ++ [.string (qB[j]'hj3)]) := by
            show _ = _
            rw [List.take_succ_eq_append_getElem (by exact hj3)]
            simp [sgs]
          have hqs : (qB[j]'hj3).size = 2 := by
            have : j = 0 ∨ j = 1 ∨ j = 2 := by omega
            rcases this with rfl | rfl | rfl <;> rfl
          have HQA : Hid (∀ x : ByteArray, x.data.toList = decL j → (⟨#[113]⟩ : ByteArray) ++ x = qB[j]'hj3) := fun x hx => q_at j hj3 x hx
          have HXS : Hid (∀ x : ByteArray, x.data.toList = decL j → x.size ≤ 6) := fun x hx => by rw [size_len, hx]; exact decL_six j (by omega)
          generalize qB[j]'hj3 = qj at *
          go_wp2_with fail
          go_region_law ((first
            | (go_simp; go_at_call 18; refine (show Calls _ _ _ _ _ from HCD.out _).mono ?_; rintro e w5 ⟨x, rfl, hx, hb5d⟩; have hx6 := HXS.out x hx; have hcd : ¬ 9223372036854775807 < 1 + x.size := (by omega); have hce : ¬ 9223372036854775807 < ((⟨#[113]⟩ : ByteArray) ++ x).size := (by rw [ByteArray.size_append]; exact hcd); have hb5 : Below wr.heap.size wr w5 := (Below.drew (Below.refl wr.heap.size wr)).trans hb5d; have HXQ : Hid _ := HQA.out x hx; have HP5 : Hid (w5.ownsRow (w4.heap.size + 1) 9 1 (.slice po2 j pc2) j (sgs (qB.take j))) := ownsRow_old HPJ.out hb5; have HF5 : Hid (w5.heap[w4.heap.size]? = some (.cells #[.string nm', .slice po2 j pc2, .slice none 0 0] 52 (0, 0))) := (hb5.block w4.heap.size hfl).trans HFJ.out; have HB5 : Hid (Below w4.heap.size w4 w5) := HBJ.out.trans (hb5.mono (by omega)); have hs5 := hb5.size; have hfl5 : w4.heap.size < w5.heap.size := (by omega); have kc5 := (hb5.cell (p := ⟨w4.heap.size, 1, none⟩) hfl).trans kf1; have zc5 := (hb5.frozen (p := ⟨w4.heap.size, 1, none⟩) hfl).trans zf1; clear hx hb5d hb5)
            | (refine step_append_lies _ (by rfl) _ _ _ (by rfl) (w4.heap.size + 1) 9 is _ 1 16 Tryd.underlying45 his hs0 hsz1 hs2 rfl (by omega) (.slice po2 j pc2) j (sgs (qB.take j)) (by rfl) (by exact World.ownsRow.alloc HP5.out _) _ 1 _ [.string ((⟨#[113]⟩ : ByteArray) ++ x)] (by rfl) rfl (by exact World.news_of_block (heap_alloc_new w5 _)) (by simp [Value.oneCell']) (by omega) (by unfold maxLen; omega) (by omega) (by rw [World.size_alloc]; omega) _ rfl ?_; intro g5 cap5 w6 hown6 hgrow6 hat6 hlt6; have HP6 : Hid _ := hown6; have HF6 : Hid (w6.heap[w4.heap.size]? = some (.cells #[.string nm', .slice po2 j pc2, .slice none 0 0] 52 (0, 0))) := grown_type (World.ownsRow.alloc HP5.out _) hgrow6 (by decide) ((heap_alloc_old _ _ (by omega)).trans HF5.out); have HB6 : Hid (Below w4.heap.size w4 w6) := (HB5.out.alloc (by omega) _).grown hgrow6 (by rw [World.size_alloc]; omega) (fun k hk => by have := (World.ownsRow.lt HP5.out k hk).1; omega); have kc6 := cell_of_row w6 w4.heap.size 1 _ _ _ HF6.out; have zc6 := frozen_of_row w6 w4.heap.size 1 _ _ HF6.out; simp only [List.getElem?_toArray, List.getElem?_cons_succ, List.getElem?_cons_zero] at kc6; clear hown6 hgrow6 hat6 hlt6)))
          all_goals
            have hs6 : w4.heap.size < w6.heap.size := (Array.getElem?_eq_some_iff.1 HF6.out).1
            clear kf1 zf1 kc5 zc5 kc6 zc6 kb kc
            go_wp2_with fail
            go_roundw
            case rel => exact ⟨j + 1, some ⟨g5, 0, none⟩, cap5, hjl, by go_num, by rw [sz_set]; exact hs6, HB6.out.setCell (by exact Nat.le_refl _) _, blk_set _ HF6.out, by show World.ownsRow _ _ _ _ _ _ _; rw [HLT.out, ← HXQ.out]; exact ownsRow_set HP6.out HF6.out (by decide)⟩
            case measure => simp [intOf]; omega
        · have HJE : Hid (j = f.ps.length) := by show _ = _; omega
          have hd0 : decide ((j : Int) < (f.ps.length : Int)) = false := decide_eq_false (by omega)
          have hd1 : ¬ (j : Int) < (f.ps.length : Int) := by omega
          have HCO : Hid (∀ W, Below wo.heap.size wo W → Calls Tryd.prog 27 #[.slice co (f.ap.2.length + 1) cc, .slice po f.ps.length pc] W fun e w' => ∃ v', e = .returned v' ∧ Below W.heap.size W w' ∧ XA (nmsB (ns.map rnB) (qB.take f.ps.length)) w' (fun q => W.heap.size ≤ q ∧ q < w'.heap.size) 2 f.ap v') := fun W hW => kOthers _ _ f.ps _ _ hfo.rn (by omega) S 2 f.ap _ _ W (HXA.out W hW) hfo.al hfo.ln hfo.hd hfo.ag (HPS.out W hW)
          generalize hvn : f.ap.2.length + 1 = vn at *
          have HVN : Hid (f.ap.2.length + 1 = vn) := hvn
          clear hvn
          go_wp2_with fail
          go_region_law ((go_simp; go_at_call 27; refine (show Calls _ _ _ _ _ from HCO.out _ (Below.drew HBO.out)).mono ?_; rintro e w5 ⟨v5, rfl, hb5d, hxa⟩; have hb5 : Below wr.heap.size wr w5 := (Below.drew (Below.refl wr.heap.size wr)).trans hb5d; obtain ⟨vo5, vc5, rfl⟩ : ∃ vo5 vc5, v5 = .slice vo5 vn vc5 := (by obtain ⟨_, _, _, hvr, _, _⟩ := hxa; obtain ⟨vo5, vc5, e⟩ := own_form hvr; exact ⟨vo5, vc5, by rw [e, HVN.out]⟩); have hs5 := hb5.size; have HXN : Hid (XA (nmsB (ns.map rnB) (qB.take f.ps.length)) w5 (fun q => wr.heap.size ≤ q ∧ q < w5.heap.size) 2 f.ap (.slice vo5 vn vc5)) := hxa; have HP5 : Hid (w5.ownsRow (w4.heap.size + 1) 9 1 (.slice po2 j pc2) j (sgs (qB.take j))) := ownsRow_old HPJ.out hb5; have HF5 : Hid (w5.heap[w4.heap.size]? = some (.cells #[.string nm', .slice po2 j pc2, .slice none 0 0] 52 (0, 0))) := (hb5.block w4.heap.size hfl).trans HFJ.out; have hfl5 : w4.heap.size < w5.heap.size := (by omega); have HBO5 : Hid (Below wo.heap.size wo w5) := HBO.out.trans (hb5.mono hso); have zf2 := frozen_of_row w5 w4.heap.size 2 _ _ HF5.out; have kf2 := cell_of_row w5 w4.heap.size 2 _ _ _ HF5.out; simp only [List.getElem?_toArray, List.getElem?_cons_succ, List.getElem?_cons_zero] at kf2; clear hb5d hb5 hxa))
          all_goals
            have HF6 : Hid ((w5.setCell ⟨w4.heap.size, 2, none⟩ (.slice vo5 vn vc5)).heap[w4.heap.size]? = some (.cells #[.string nm', .slice po2 j pc2, .slice vo5 vn vc5] 52 (0, 0))) := blk_set _ HF5.out
            have HBO6 : Hid (Below wo.heap.size wo (w5.setCell ⟨w4.heap.size, 2, none⟩ (.slice vo5 vn vc5))) := HBO5.out.setCell (by exact hs4) _
            have HRO6 : Hid ((w5.setCell ⟨w4.heap.size, 2, none⟩ (.slice vo5 vn vc5)).ownsRow w.heap.size 52 3 (.slice ao i ac) i ys) := ownsRow_old HR.out HBO6.out
            have HPS6 : Hid ((w5.setCell ⟨w4.heap.size, 2, none⟩ (.slice vo5 vn vc5)).ownsRow (w4.heap.size + 1) 9 1 (.slice po2 j pc2) j (sgs (qB.take j))) := ownsRow_set HP5.out HF5.out (by decide)
            have ha2 := cell_of_row _ w4.heap.size 2 _ _ _ HF6.out
            have ha1 := cell_of_row _ w4.heap.size 1 _ _ _ HF6.out
            have ha0 := cell_of_row _ w4.heap.size 0 _ _ _ HF6.out
            simp only [List.getElem?_toArray, List.getElem?_cons_succ, List.getElem?_cons_zero] at ha2 ha1 ha0
            clear kf1 zf1 kb kc hd0 hd1 hjl
            go_wp2_with (at_builtin; go_must (refine wpList_append_lies _ rfl _ _ _ rfl w.heap.size 52 ie _ 3 64 Tryd.underlying23 hie he0 he1 he2 rfl (by omega) (.slice ao i ac) i ys rfl ?hownF1 _ 1 _ [.string nm', .slice po2 j pc2, .slice vo5 vn vc5] rfl rfl ?hnewsF1 ?h1F1 (by omega) ?h63F1 ?hbytesF1 ?hbaseF1 _ rfl ?_))
            case hownF1 => exact World.ownsRow.alloc HRO6.out _
            case hnewsF1 =>
              have hnw := heap_alloc_new (w5.setCell ⟨w4.heap.size, 2, none⟩ (.slice vo5 vn vc5)) (Obj.cells #[.string nm', .slice po2 j pc2, .slice vo5 vn vc5] 52)
              rw [sz_set] at hnw
              exact World.news_of_block hnw
            case h1F1 => simp [Value.oneCell']
            case h63F1 => unfold maxLen; omega
            case hbytesF1 => omega
            case hbaseF1 => first | omega | (simp; omega)
            intro g7 cap7 w7 hown7 hgrow7 hat7 hlt7
            have hal6 := bel_al (w5.setCell ⟨w4.heap.size, 2, none⟩ (.slice vo5 vn vc5)) (Obj.cells #[.string nm', .slice po2 j pc2, .slice vo5 vn vc5] 52)
            have hs7 := hgrow7.size
            rw [World.size_alloc, sz_set] at hs7
            have hat7' : (Value.slice ao i ac).ownBlock = some g7 ∨ g7 = w5.heap.size + 1 := by
              rcases hat7 with h | h
              · exact .inl h
              · right; first | exact h | (rw [h]; simp [sz_set])
            have hold : ∀ k, k < wo.heap.size → (Value.slice ao i ac).ownBlock ≠ some k → w7.heap[k]? = wo.heap[k]? := by
              intro k h1 h3
              rw [hgrow7.block k (by rw [World.size_alloc, sz_set]; omega) (fun e => h3 e.symm), hal6.block k (by rw [sz_set]; omega)]
              exact HBO6.out.block k h1
            have hmid : ∀ k, w4.heap.size < k → k < w5.heap.size → w7.heap[k]? = w5.heap[k]? := by
              intro k h1 h2
              rw [hgrow7.block k (by rw [World.size_alloc, sz_set]; omega) (fun e => by have := (World.ownsRow.lt HR.out k e.symm).2; omega), hal6.block k (by rw [sz_set]; omega), heap_set_ne _ (by omega)]
            have HBW7 : Hid (Below w.heap.size w w7) := ((HB.out.trans (HBO6.out.mono hww)).trans (hal6.mono (by rw [sz_set]; omega))).grown hgrow7 (by rw [World.size_alloc, sz_set]; omega) (fun k hk => (World.ownsRow.lt HR.out k hk).1)
            have hgn : ∀ k, k < w5.heap.size → (Value.slice ao i ac).ownBlock ≠ some k → (Value.slice (some ⟨g7, 0, none⟩) (i + 1) cap7).ownBlock ≠ some k := by
              intro k h1 h2 e
              have hg : g7 = k := by simpa [Value.ownBlock] using e
              rcases hat7' with h | h
              · exact h2 (by rw [h, hg])
              · omega
            have HXO : Hid (FVs w7 (SX w.heap.size w7 (.slice (some ⟨g7, 0, none⟩) (i + 1) cap7)) (ns.map rnB) ((l.take i).map ozF) ys) := HX.out.keep (fun k hk hlt => ⟨⟨hk.1, by omega, hgn k (by omega) hk.2.2⟩, hold k hlt hk.2.2⟩)
            have hnot : ∀ k, wo.heap.size ≤ k → (Value.slice ao i ac).ownBlock ≠ some k := fun k h1 e => by have := (World.ownsRow.lt HR.out k e).2; omega
            have hqn : (qB.take f.ps.length).length = f.ps.length := by rw [List.length_take]; show min _ 3 = _; omega
            have HNW : Hid (FV w7 (SX w.heap.size w7 (.slice (some ⟨g7, 0, none⟩) (i + 1) cap7)) (ns.map rnB) (ozF f) (.string nm') (.slice po2 j pc2) (.slice vo5 vn vc5)) := by
              refine ⟨by rw [← HNE.out]; rfl, ?_, fun k hk => ?_, XA.keep (fun k hk hlt => ?_) HXN.out⟩
              · show World.ownsRow _ _ _ _ _ (qB.take f.ps.length).length (sgs (qB.take f.ps.length))
                rw [hqn, ← HJE.out]
                refine ownsRow_base (row_keep (S := fun k => w4.heap.size < k ∧ k < w5.heap.size) HP5.out (fun k hk => ?_) (fun k hk hlt => hmid k hk.1 hk.2)) (Nat.zero_le _)
                have := World.ownsRow.lt HP5.out k hk
                omega
              · have := World.ownsRow.lt HP5.out k hk
                exact ⟨by omega, by omega, hgn k (by omega) (hnot k (by omega))⟩
              · have h1 := hk.1
                have h2 := hk.2
                exact ⟨⟨by omega, by omega, hgn k (by omega) (hnot k (by omega))⟩, hmid k (by omega) h2⟩
            have HO7 : Hid _ := hown7
            have hsw := HBW7.out.size
            clear hown7 hgrow7 hat7 hal6 hat7' hold hmid hgn hnot ha0 ha1 ha2 kf2 zf2
            go_wp2_with fail
            go_roundw
            case rel =>
              refine ⟨i + 1, some ⟨g7, 0, none⟩, cap7, _, hil, rfl, by go_num, hsw, HBW7.out, HO7.out, ?_⟩
              show FVs _ _ _ _ _
              rw [HTK.out]
              exact HXO.out.snoc HNW.out
            case measure => simp [intOf]; omega
    · have hie2 : i = l.length := by omega
      have hd0 : decide ((i : Int) < (l.length : Int)) = false := decide_eq_false (by omega)
      have hd1 : ¬ (i : Int) < (l.length : Int) := by omega
      have HF : Hid (FRow wo (fun k => k < wo.heap.size) (ns.map rnB) (l.map ozF) (.slice ao i ac)) := by
        have h1 := HR.out
        have h2 := HX.out
        rw [hie2, List.take_length] at h2
        rw [hie2] at h1 ⊢
        refine ⟨ys, ?_, fun k hk => (World.ownsRow.lt h1 k hk).2, h2.keep (fun k hk _ => ⟨hk.2.1, rfl⟩)⟩
        rw [List.length_map]
        exact ownsRow_base h1 (Nat.zero_le _)
      clear hie2
      go_wp2_with fail
      go_ret
      exact ⟨_, rfl, HB.out, HF.out⟩

end Go.Proofs.YtnndoagpbcacdaaDoor
