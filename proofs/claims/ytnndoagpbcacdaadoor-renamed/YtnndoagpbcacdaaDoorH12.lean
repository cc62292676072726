import Derived.Test.YtnndoagpbcacdaaDoorH11
import Derived.Test.YtnndoagpbcacdaaDoorH6
import Derived.Test.YtnndoagpbcacdaaDoorX13
import Derived.Test.YtnndoagpbcacdaaDoorMX9
namespace Go.Proofs.YtnndoagpbcacdaaDoor
open Go.RowKit

/-! Renamed. -/
def rgL (l : List UInt8) : List UInt8 := if l.headD 0 = 102 then 103 :: l.tail else l
theorem rnB_rg (s : ByteArray) : (rnB s).data.toList = rgL s.data.toList := by rw [rnB_data, rn_nil]; rfl
theorem other_names {main : ByteArray} (hm : main.data.toList = mainT) {ns : List ByteArray} (h : NmsB main ns) (h1 : 1 ≤ ns.length) (h4 : ns.length ≤ 4) : (ns.map rnB).map (fun s => s.data.toList) = mainT :: ([[103, 49], [103, 50], [103, 51]] : List (List UInt8)).take (ns.length - 1) := by
  have e : (ns.map rnB).map (fun s => s.data.toList) = (ns.map (fun s => s.data.toList)).map rgL := by
    rw [List.map_map, List.map_map]
    exact List.map_congr_left (fun s _ => rnB_rg s)
  rw [e, names_of h, hm, nmL_four mainT ns.length h1 h4, List.map_cons, List.map_take]
  rfl
theorem oth_gz {ns : List ByteArray} {fb : List Fb} (hfb : ∀ b ∈ fb, FbOk fb.length b) : (fzOf ns fb).map ozF = gzOf (ns.map rnB) qB fb := by
  refine List.ext_getElem? (fun j => ?_)
  unfold fzOf gzOf
  rw [List.getElem?_map, List.getElem?_zipWith, List.getElem?_zipWith, List.getElem?_map]
  cases hb : fb[j]? with
  | none => rfl
  | some b =>
    cases hn : ns[j]? with
    | none => rfl
    | some n =>
      have hnp := (hfb b (List.mem_of_getElem? hb)).np
      have e : (letB.take b.np).length = b.np := by rw [List.length_take]; show min _ 3 = _; omega
      simp only [Option.map_some, ozF, e]
theorem oz_ok {main : ByteArray} (hm : main.data.toList = mainT) {ns : List ByteArray} (h : NmsB main ns) {fb : List Fb} (hl : ns.length = fb.length) (h4 : fb.length ≤ 4) (hfb : ∀ b ∈ fb, FbOk fb.length b) : ∀ f ∈ fzOf ns fb, OzOk ns f := by
  intro f hf
  have hz := fz_ok h hm hl h4 hfb f hf
  obtain ⟨j, hj⟩ := List.mem_iff_getElem?.1 hf
  unfold fzOf at hj
  rw [List.getElem?_zipWith] at hj
  obtain ⟨b, hb0⟩ : ∃ b, fb[j]? = some b := by
    cases hq : fb[j]? with
    | none => rw [hq] at hj; simp at hj
    | some b => exact ⟨b, rfl⟩
  have hjl := (List.getElem?_eq_some_iff.1 hb0).1
  have hnj := List.getElem?_eq_getElem (show j < ns.length by omega)
  rw [hb0, hnj] at hj
  simp only [Option.some.injEq] at hj
  have hb := hfb b (List.mem_of_getElem? hb0)
  rw [← hj] at hz ⊢
  have hpl : (letB.take b.np).length = b.np := by rw [List.length_take]; have := hb.np; show min _ 3 = _; omega
  have hnh := name_head hm h hnj (by omega)
  have hr := rn_ok hm h (by omega) b.np hb.np
  refine ⟨by show (letB.take b.np).length ≤ 3; have := hb.np; omega, hnh.2, ?_, hz.al, hz.ln, hz.hd, hz.ag⟩
  show RnOk (nmsB ns (letB.take b.np)) (nmsB (ns.map rnB) (qB.take (letB.take b.np).length)) (letB.take b.np) (letB.take b.np).length ns.length
  rw [hpl]
  exact hr
theorem oth_nmg {main : ByteArray} (hm : main.data.toList = mainT) {ns : List ByteArray} (h : NmsB main ns) {fb : List Fb} (hl : ns.length = fb.length) (h1 : 1 ≤ fb.length) (h4 : fb.length ≤ 4) (hfb : ∀ b ∈ fb, FbOk fb.length b) : NmG ((ns.map rnB).map (fun s => s.data.toList)) (qB.map (fun s => s.data.toList)) fb ∧ ((ns.map rnB).map (fun s => s.data.toList))[0]? = some mainT := by
  have e := other_names hm h (by omega) (by omega)
  have hq : qB.map (fun s => s.data.toList) = [[113, 48], [113, 49], [113, 50]] := rfl
  have hsub : ∀ x ∈ mainT :: ([[103, 49], [103, 50], [103, 51]] : List (List UInt8)).take (ns.length - 1), x ∈ [mainT, [103, 49], [103, 50], [103, 51]] := fun x hx => by
    rcases List.mem_cons.1 hx with rfl | hx
    · simp
    · exact List.mem_cons_of_mem _ (List.mem_of_mem_take hx)
  have hnam : ∀ a b : UInt8, isL (n8 a) = true → isD (n8 b) = true → namP [a, b] := fun a b ha hb => ⟨a, [b], rfl, ha, by intro c hc; simp at hc; subst hc; exact .inr hb⟩
  refine ⟨⟨by rw [List.length_map, List.length_map, hl], h1, h4, hfb, ?_, ?_, rfl, by rw [hq]; decide, ?_, ?_, ?_⟩, by rw [e]; rfl⟩
  · intro x hx
    rw [e] at hx
    have := hsub x hx
    simp only [List.mem_cons, List.not_mem_nil, or_false] at this
    rcases this with rfl | rfl | rfl | rfl
    · exact main_nam
    · exact ⟨hnam _ _ (by decide) (by decide), by decide⟩
    · exact ⟨hnam _ _ (by decide) (by decide), by decide⟩
    · exact ⟨hnam _ _ (by decide) (by decide), by decide⟩
  · rw [e]
    exact (show ([mainT, [103, 49], [103, 50], [103, 51]] : List (List UInt8)).Nodup by decide).sublist (List.Sublist.cons_cons _ (List.take_sublist _ _))
  · intro p hp
    rw [hq] at hp
    rw [e]
    refine ⟨?_, fun hx => (show ∀ p ∈ ([[113, 48], [113, 49], [113, 50]] : List (List UInt8)), p ∉ ([mainT, [103, 49], [103, 50], [103, 51]] : List (List UInt8)) by decide) p hp (hsub p hx)⟩
    simp only [List.mem_cons, List.not_mem_nil, or_false] at hp
    rcases hp with rfl | rfl | rfl <;> exact ⟨hnam _ _ (by decide) (by decide), by decide⟩
  · intro x hx
    rw [e] at hx
    exact (show ∀ x ∈ ([mainT, [103, 49], [103, 50], [103, 51]] : List (List UInt8)), x.length ≤ 4 by decide) x (hsub x hx)
  · intro p hp
    rw [hq] at hp
    exact (show ∀ p ∈ ([[113, 48], [113, 49], [113, 50]] : List (List UInt8)), p.length ≤ 4 by decide) p hp

set_option maxRecDepth 100000 in
set_option maxHeartbeats 8000000 in
theorem kRenamedLaw (lv : Value) (L : List Int) (w : World) (hri : IntsRd w w.heap.size lv L) (hin : ∀ c ∈ L, -9223372036854775808 ≤ c ∧ c ≤ 9223372036854775807) (ht : Tab w) :
    Calls Tryd.prog 4 #[lv] w fun e w' => e = .returned (.bool true) ∧ Below w.heap.size w w' := by
  have HCP : Hid _ := kProgram lv L ⟨#[109, 97, 105, 110]⟩ w hri hin
  have HT : Hid (∀ w', Below w.heap.size w w' → Tab w') := fun w' hb => ht.below hb
  obtain ⟨va, vc, rfl, _, _, _⟩ := hri
  clear ht
  go_enter Tryd.func4, Tryd.ntmps4
  go_wp2_with fail
  refine (show Calls _ _ _ _ _ from HCP.out).mono ?_
  rintro e w1 ⟨pv, rfl, hbw1, ns, hns, hnl, hfr⟩
  clear HCP
  have hfr0 := hfr
  obtain ⟨_, hrow, _, _⟩ := hfr0
  obtain ⟨po, pc, rfl⟩ := own_form hrow
  clear hrow
  obtain ⟨p1, p2, p3, p4⟩ := progF_ok L
  have hfl : (fzOf ns (progF L)).length = (progF L).length := fzOf_len (by omega)
  have hpt : ((fzOf ns (progF L)).flatMap (fzS ns)).length ≤ 440 := by
    rw [plain_text hns (progF L) hnl p3 []]
    have := plain_len (main := (⟨#[109, 97, 105, 110]⟩ : ByteArray).data.toList) (by decide) p2 p3 [] (fun f hf => by simp at hf)
    omega
  obtain ⟨hng, hn0⟩ := oth_nmg (main := ⟨#[109, 97, 105, 110]⟩) rfl hns hnl p1 p2 p3
  have hgt := gen_text (ns := ns.map rnB) (pB := qB) (progF L) (by rw [List.length_map]; exact hnl)
  have hgl := gen_len hng
  have hoz := oth_gz (ns := ns) p3
  have HCL : Hid (∀ w', Below w1.heap.size w1 w' → Calls Tryd.prog 7 #[.slice po (fzOf ns (progF L)).length pc] w' fun e w'' => ∃ x : ByteArray, e = .returned (.string x) ∧ x.data.toList = (fzOf ns (progF L)).flatMap (fzS ns) ∧ Below w'.heap.size w' w'') := fun w' hb => kPlain _ ns _ _ w' (hfr.old hb) (by omega) (fz_ln p3) (by omega)
  have HCO : Hid (∀ w', Below w1.heap.size w1 w' → Calls Tryd.prog 12 #[.slice po (fzOf ns (progF L)).length pc] w' fun e w'' => ∃ oo ol oc, e = .returned (.slice oo ol oc) ∧ Below w'.heap.size w' w'' ∧ ∀ w3, Below w''.heap.size w'' w3 → Calls Tryd.prog 7 #[.slice oo ol oc] w3 fun e w'' => ∃ x : ByteArray, e = .returned (.string x) ∧ x.data.toList = (gzOf (ns.map rnB) qB (progF L)).flatMap (fzS (ns.map rnB)) ∧ Below w3.heap.size w3 w'') := fun w' hb => by
    refine (kOther _ ns _ _ w' (hfr.old hb) (by omega) (oz_ok (main := ⟨#[109, 97, 105, 110]⟩) rfl hns hnl p2 p3)).mono ?_
    rintro e w'' ⟨v', rfl, hb', hf'⟩
    rw [hoz] at hf'
    have hf0 := hf'
    obtain ⟨_, hr', _, _⟩ := hf0
    obtain ⟨oo, oc, rfl⟩ := own_form hr'
    refine ⟨oo, _, oc, rfl, hb', fun w3 hb3 => kPlain _ _ _ _ w3 (hf'.old hb3) ?_ ?_ (by rw [hgt]; omega)⟩
    · unfold gzOf; rw [List.length_zipWith]; omega
    · intro f hf
      rw [← hoz] at hf
      obtain ⟨g, hg, rfl⟩ := List.mem_map.1 hf
      have := fz_ln (ns := ns) p3 g hg
      refine ⟨?_, this.2.1, this.2.2⟩
      show (qB.take g.ps.length).length ≤ 1000
      rw [List.length_take]; show min _ 3 ≤ 1000; omega
  have HBK : Hid (∀ x : ByteArray, x.data.toList = (fzOf ns (progF L)).flatMap (fzS ns) → x.size ≤ 1000 ∧ cmpE x = 0 ∧ cmpL x = cdL ⟨0, (namedF mainT (progF L)).map fnCode⟩ ∧ goodC ⟨0, (namedF mainT (progF L)).map fnCode⟩ = true) := fun x hx => by
    obtain ⟨a, b, c, d, _⟩ := base_ok L ⟨#[109, 97, 105, 110]⟩ rfl x ns hns hnl hx
    obtain ⟨q1, q2, _⟩ := cmp_of b c d
    exact ⟨by omega, q1, q2, d⟩
  have HOK : Hid (∀ x : ByteArray, x.data.toList = (gzOf (ns.map rnB) qB (progF L)).flatMap (fzS (ns.map rnB)) → goodC ⟨0, (namedF mainT (progF L)).map fnCode⟩ = true → x.size ≤ 1000 ∧ cmpE x = 0 ∧ cmpL x = cdL ⟨0, (namedF mainT (progF L)).map fnCode⟩) := fun x hx hg => by
    rw [hgt] at hx
    obtain ⟨a, b, c⟩ := gen_ok hng hn0 p4 x hx
    obtain ⟨q1, q2, _⟩ := cmp_of b c hg
    exact ⟨a, q1, q2⟩
  have hcl : ((namedF mainT (progF L)).map fnCode).length = (fzOf ns (progF L)).length := by rw [List.length_map, namedF_len, hfl]
  have HB1 : Hid (Below w.heap.size w w1) := hbw1
  have hs1 := hbw1.size
  generalize (fzOf ns (progF L)).length = gl at *
  generalize (fzOf ns (progF L)).flatMap (fzS ns) = PT at *
  generalize (gzOf (ns.map rnB) qB (progF L)).flatMap (fzS (ns.map rnB)) = ZT at *
  generalize (namedF mainT (progF L)).map fnCode = fs at *
  clear hbw1 hfr hns hnl hpt p1 p2 p3 p4 hfl hng hn0 hgt hgl hoz
  go_wp2_with fail
  refine (show Calls _ _ _ _ _ from HCL.out _ (Below.refl _ _)).mono ?_
  rintro e w2 ⟨x, rfl, hx, hbw2⟩
  clear HCL
  obtain ⟨hxs, hce, hcl2, hgd⟩ := HBK.out x hx
  have HB2 : Hid (Below w.heap.size w w2) := HB1.out.trans (hbw2.mono hs1)
  have HCO2 : Hid _ := HCO.out w2 hbw2
  clear hbw2 HCO HB1 HBK hx
  go_wp2_with fail
  refine (show Calls _ _ _ _ _ from HCO2.out).mono ?_
  rintro e w3 ⟨oo, ol, oc, rfl, hbw3, hpl⟩
  clear HCO2
  have HCL2 : Hid _ := hpl w3 (Below.refl _ _)
  have HB3 : Hid (Below w.heap.size w w3) := HB2.out.trans (hbw3.mono HB2.out.size)
  clear hpl hbw3 HB2
  go_wp2_with fail
  refine (show Calls _ _ _ _ _ from HCL2.out).mono ?_
  rintro e w4 ⟨y, rfl, hy, hbw4⟩
  clear HCL2
  obtain ⟨hys, hye, hyl⟩ := HOK.out y hy hgd
  have HB4 : Hid (Below w.heap.size w w4) := HB3.out.trans (hbw4.mono HB3.out.size)
  obtain ⟨c, hc⟩ : ∃ c : ByteArray, c.data.toList = cdL ⟨0, fs⟩ := ⟨⟨(cdL ⟨0, fs⟩).toArray⟩, by simp⟩
  have hcmp : ∀ z : ByteArray, z.size ≤ 1000 → cmpE z = 0 → cmpL z = cdL ⟨0, fs⟩ → ∀ w', Below w.heap.size w w' → Calls Tryd.prog 11 #[.string z] w' fun e w'' => e = .returned (.tuple #[.string c, .int .i64 0]) ∧ c.size ≤ 20000 ∧ Below w'.heap.size w' w'' := fun z z1 z2 z3 w' hb => by
    refine (xCompile z w' (by unfold maxLen; omega) (HT.out w' hb)).mono ?_
    rintro e w'' ⟨u, rfl, hu, hul, hb⟩
    have hue : u = c := ba_ext (by rw [hu, z3, hc])
    rw [hue] at hul
    exact ⟨by rw [z2, hue], hul, hb⟩
  have HCM1 : Hid _ := hcmp x hxs hce hcl2
  have HCM2 : Hid _ := hcmp y hys hye hyl
  have HRD : Hid (c.size ≤ 20000 → ∀ w', Calls Tryd.prog 13 #[.string c] w' fun e w'' => ∃ mn fo fc, e = .returned (.tuple #[.agg #[.int .i64 mn, .slice fo gl fc], .int .i64 0, .int .i64 0]) ∧ Below w'.heap.size w' w'') := fun hcs w' => by
    have hrd := code_read ⟨0, fs⟩ hgd c hc
    have hn : ¬ 30000 < c.size := by omega
    have e1 : rdC c = some ⟨0, fs⟩ := by unfold rdC; rw [if_neg hn, hrd]
    have e2 : rdL c = 0 := by unfold rdL; rw [if_neg hn, hrd]; rfl
    have e3 : rdE c = 0 := by unfold rdE; rw [if_neg hn, hrd]; rfl
    refine (xRead c w' (by unfold maxLen; omega)).mono ?_
    rintro e w'' ⟨mn, fo, fl, fc, rfl, hb, _, h2⟩
    obtain ⟨_, _, ⟨ys, hr, _⟩⟩ := h2 _ e1
    obtain ⟨qo, qc, hq⟩ := own_form hr
    have hfl : fl = fs.length := by cases hq; rfl
    exact ⟨mn, fo, fc, by rw [e2, e3, hfl, hcl], hb⟩
  clear hcmp hy hc hce hcl2 hgd hye hyl hbw4 HOK HB3
  go_wp2_with fail
  refine (show Calls _ _ _ _ _ from HCM1.out _ HB4.out).mono ?_
  rintro e w5 ⟨rfl, hcs, hbw5⟩
  clear HCM1
  have HB5 : Hid (Below w.heap.size w w5) := HB4.out.trans (hbw5.mono HB4.out.size)
  have HRD2 : Hid _ := HRD.out hcs
  clear hbw5 HB4 HRD
  go_wp2_with fail
  refine (show Calls _ _ _ _ _ from HCM2.out _ HB5.out).mono ?_
  rintro e w6 ⟨rfl, _, hbw6⟩
  clear HCM2
  have HB6 : Hid (Below w.heap.size w w6) := HB5.out.trans (hbw6.mono HB5.out.size)
  clear hbw6 HB5
  go_wp2_with fail
  refine (show Calls _ _ _ _ _ from HRD2.out _).mono ?_
  rintro e w7 ⟨mn, fo, fc, rfl, hbw7⟩
  clear HRD2
  have HB7 : Hid (Below w.heap.size w w7) := HB6.out.trans (hbw7.mono HB6.out.size)
  have hs7 := HB7.out.size
  clear hbw7 HB6
  have eg : ((gl : Int) == (gl : Int)) = true := by simp
  go_wp2_with fail
  go_ret
  first
    | exact ⟨rfl, HB7.out⟩
    | exact ⟨rfl, HB7.out.alloc hs7 _⟩

end Go.Proofs.YtnndoagpbcacdaaDoor
