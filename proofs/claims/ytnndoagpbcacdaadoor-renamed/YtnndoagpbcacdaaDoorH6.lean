import Derived.Test.YtnndoagpbcacdaaDoorMH4
namespace Go.Proofs.YtnndoagpbcacdaaDoor
open Go.RowKit

/-! Spaced, walked. -/
/-- A text whose code is known: what Compile gives. -/
theorem cmp_of {s : ByteArray} {cd : Cd} (hc : (chk s).2 = 0) (hcd : codeOf (cAll (toksF s 0)).ds = cd) (hg : goodC cd = true) : cmpE s = 0 ∧ cmpL s = cdL cd ∧ cdL cd ≠ [] := by
  refine ⟨?_, ?_, ?_⟩
  · unfold cmpE; rw [if_pos hc, hcd]; unfold wrE; rw [if_pos hg]
  · unfold cmpL; rw [if_pos hc, hcd]; unfold wrL; rw [if_pos hg]
  · unfold cdL hdL; simp
theorem fz_ok {main : ByteArray} {ns : List ByteArray} (h : NmsB main ns) (hm : main.data.toList = mainT) {fb : List Fb} (hl : ns.length = fb.length) (h4 : fb.length ≤ 4) (hfb : ∀ b ∈ fb, FbOk fb.length b) : ∀ f ∈ fzOf ns fb, FzOk ns f := by
  intro f hf
  have hln := fz_ln (ns := ns) hfb f hf
  obtain ⟨j, hj⟩ := List.mem_iff_getElem?.1 hf
  unfold fzOf at hj
  rw [List.getElem?_zipWith] at hj
  obtain ⟨b, hb0⟩ : ∃ b, fb[j]? = some b := by
    cases hq : fb[j]? with
    | none => rw [hq] at hj; simp at hj
    | some b => exact ⟨b, rfl⟩
  have hjl := (List.getElem?_eq_some_iff.1 hb0).1
  rw [hb0, List.getElem?_eq_getElem (show j < ns.length by omega)] at hj
  simp only [Option.some.injEq] at hj
  have hb := hfb b (List.mem_of_getElem? hb0)
  rw [← hj] at hln ⊢
  have hpl : (letB.take b.np).length = b.np := by rw [List.length_take]; have := hb.np; show min _ 3 = _; omega
  refine ⟨⟨fun x hx => ?_, fun x hx => ?_⟩, hln.1, hln.2.1, hln.2.2, ?_, ?_⟩
  · have e : x ∈ nmL mainT fb.length := by
      have := names_of h
      rw [hm, hl] at this
      rw [← this]
      exact hx
    exact (nm_ok main_nam _ h4 x e).1
  · have e : x ∈ letL := by
      have : x ∈ (letB.take b.np).map (fun s => s.data.toList) := hx
      rw [letB_take] at this
      exact List.mem_of_mem_take this
    simp only [letL, List.mem_cons, List.not_mem_nil, or_false] at e
    rcases e with rfl | rfl | rfl
    · exact ⟨120, [], rfl, by decide, by simp⟩
    · exact ⟨121, [], rfl, by decide, by simp⟩
    · exact ⟨122, [], rfl, by decide, by simp⟩
  · simp only [hpl, hl]; exact hb.hd
  · simp only [hpl, hl]; exact fun e he => (hb.ag e he).1

set_option maxRecDepth 100000 in
set_option maxHeartbeats 8000000 in
theorem kSpaced (lv : Value) (L : List Int) (n : Int) (w : World) (hri : IntsRd w w.heap.size lv L) (hin : ∀ c ∈ L, -9223372036854775808 ≤ c ∧ c ≤ 9223372036854775807) (hn1 : -9223372036854775808 ≤ n) (hn2 : n ≤ 9223372036854775807) (ht : Tab w) :
    Calls Tryd.prog 3 #[lv, .int .i64 n] w fun e w' => e = .returned (.bool true) ∧ Below w.heap.size w w' := by
  have HCP : Hid _ := kProgram lv L ⟨#[109, 97, 105, 110]⟩ w hri hin
  have HT : Hid (∀ w', Below w.heap.size w w' → Tab w') := fun w' hb => ht.below hb
  obtain ⟨va, vc, rfl, _, _, _⟩ := hri
  clear ht
  go_enter Tryd.func3, Tryd.ntmps3
  go_wp2_with fail
  refine (show Calls _ _ _ _ _ from HCP.out).mono ?_
  rintro e w1 ⟨pv, rfl, hbw1, ns, hns, hnl, hfr⟩
  clear HCP
  have hfr0 := hfr
  obtain ⟨_, hrow, _, _⟩ := hfr0
  obtain ⟨po, pc, rfl⟩ := own_form hrow
  clear hrow
  obtain ⟨p1, p2, p3, p4⟩ := progF_ok L
  have hfl : (fzOf ns (progF L)).length = (progF L).length := fzOf_len (by omega)
  have hpt : ((fzOf ns (progF L)).flatMap (fzS ns)).length ≤ 440 := by
    rw [plain_text hns (progF L) hnl p3 []]
    have := plain_len (main := (⟨#[109, 97, 105, 110]⟩ : ByteArray).data.toList) (by decide) p2 p3 [] (fun f hf => by simp at hf)
    omega
  have hlt : ((fzOf ns (progF L)).flatMap (fzZ n ns)).length ≤ 1000 := by
    rw [loose_text hns (progF L) hnl n]
    exact loose_len (by decide) p2 p3 n
  have HCL : Hid (∀ w', Below w1.heap.size w1 w' → Calls Tryd.prog 7 #[.slice po (fzOf ns (progF L)).length pc] w' fun e w'' => ∃ x : ByteArray, e = .returned (.string x) ∧ x.data.toList = (fzOf ns (progF L)).flatMap (fzS ns) ∧ Below w'.heap.size w' w'') := fun w' hb => kPlain _ ns _ _ w' (hfr.old hb) (by omega) (fz_ln p3) (by omega)
  have HCZ : Hid (∀ w', Below w1.heap.size w1 w' → Calls Tryd.prog 8 #[.slice po (fzOf ns (progF L)).length pc, .int .i64 n] w' fun e w'' => ∃ x : ByteArray, e = .returned (.string x) ∧ x.data.toList = (fzOf ns (progF L)).flatMap (fzZ n ns) ∧ Below w'.heap.size w' w'') := fun w' hb => kLoose n hn1 hn2 _ ns _ _ w' (hfr.old hb) (by omega) (fz_ok hns rfl hnl p2 p3) hlt
  have HBK : Hid (∀ x : ByteArray, x.data.toList = (fzOf ns (progF L)).flatMap (fzS ns) → x.size ≤ 1000 ∧ (chk x).2 = 0 ∧ cmpE x = 0 ∧ cmpL x = cdL ⟨0, (namedF mainT (progF L)).map fnCode⟩ ∧ shw x = (fzOf ns (progF L)).flatMap (fzS ns)) := fun x hx => by
    obtain ⟨a, b, c, d, e⟩ := base_ok L ⟨#[109, 97, 105, 110]⟩ rfl x ns hns hnl hx
    obtain ⟨q1, q2, _⟩ := cmp_of b c d
    exact ⟨by omega, b, q1, q2, by unfold shw; rw [if_pos b, e, hx]⟩
  have HZK : Hid (∀ x : ByteArray, x.data.toList = (fzOf ns (progF L)).flatMap (fzZ n ns) → goodC ⟨0, (namedF mainT (progF L)).map fnCode⟩ = true → x.size ≤ 1000 ∧ (chk x).2 = 0 ∧ cmpE x = 0 ∧ cmpL x = cdL ⟨0, (namedF mainT (progF L)).map fnCode⟩ ∧ shw x = (fzOf ns (progF L)).flatMap (fzS ns)) := fun x hx hg => by
    obtain ⟨a, b, c, e⟩ := loose_ok L n ⟨#[109, 97, 105, 110]⟩ rfl x ns hns hnl hx
    obtain ⟨q1, q2, _⟩ := cmp_of b c hg
    exact ⟨a, b, q1, q2, by unfold shw; rw [if_pos b, e]⟩
  have HGD : Hid (∀ x : ByteArray, x.data.toList = (fzOf ns (progF L)).flatMap (fzS ns) → goodC ⟨0, (namedF mainT (progF L)).map fnCode⟩ = true) := fun x hx => (base_ok L ⟨#[109, 97, 105, 110]⟩ rfl x ns hns hnl hx).2.2.2.1
  have HNE : Hid (cdL ⟨0, (namedF mainT (progF L)).map fnCode⟩ ≠ []) := by show _ ≠ _; unfold cdL hdL; simp
  have HB1 : Hid (Below w.heap.size w w1) := hbw1
  have hs1 := hbw1.size
  generalize (fzOf ns (progF L)).length = gl at *
  generalize (fzOf ns (progF L)).flatMap (fzS ns) = PT at *
  generalize (fzOf ns (progF L)).flatMap (fzZ n ns) = ZT at *
  generalize (⟨0, (namedF mainT (progF L)).map fnCode⟩ : Cd) = cd at *
  clear hbw1 hfr hns hnl hpt hlt p1 p2 p3 p4 hfl
  go_wp2_with fail
  refine (show Calls _ _ _ _ _ from HCL.out _ (Below.refl _ _)).mono ?_
  rintro e w2 ⟨x, rfl, hx, hbw2⟩
  clear HCL
  obtain ⟨hxs, hck, hce, hcl, hsh⟩ := HBK.out x hx
  have hgd := HGD.out x hx
  have HB2 : Hid (Below w.heap.size w w2) := HB1.out.trans (hbw2.mono hs1)
  have hs2 := HB2.out.size
  have HCZ2 : Hid _ := HCZ.out w2 hbw2
  clear hbw2 HCZ HB1 HBK HGD
  go_wp2_with fail
  refine (show Calls _ _ _ _ _ from HCZ2.out).mono ?_
  rintro e w3 ⟨y, rfl, hy, hbw3⟩
  clear HCZ2
  obtain ⟨hys, hyk, hye, hyl, hyh⟩ := HZK.out y hy hgd
  have HB3 : Hid (Below w.heap.size w w3) := HB2.out.trans (hbw3.mono hs2)
  have hs3 := HB3.out.size
  have hy1 := chk_nil hyk
  have HC1 : Hid (∀ w', Calls Tryd.prog 9 #[.string y] w' fun e w'' => e = .returned (.tuple #[.int .i64 0, .int .i64 0]) ∧ Below w'.heap.size w' w'') := fun w' => by
    have h := xCheck y w' (by unfold maxLen; omega)
    rw [hy1, hyk] at h
    exact h
  have hsho : ∀ z : ByteArray, z.size ≤ 1000 → (chk z).2 = 0 → shw z = PT → ∀ w', Calls Tryd.prog 10 #[.string z] w' fun e w'' => e = .returned (.tuple #[.string x, .int .i64 0]) ∧ Below w'.heap.size w' w'' := fun z z1 z2 z3 w' => by
    refine (xShow z w' (by unfold maxLen; omega) (fun h => ⟨by have := (prog_base z h).2.2.2; omega, fun d hd => ((prog_base z h).2.2.1 d hd).1⟩)).mono ?_
    rintro e w'' ⟨u, rfl, hu, hb⟩
    refine ⟨?_, hb⟩
    rw [z2, ba_ext (a := u) (b := x) (by rw [hu, z3, hx])]
  have HSH1 : Hid _ := hsho y hys hyk hyh
  have HSH2 : Hid _ := hsho x hxs hck hsh
  have hcom : ∃ c : ByteArray, c.data.toList = cdL cd := ⟨⟨(cdL cd).toArray⟩, by simp⟩
  obtain ⟨c, hc⟩ := hcom
  have hc0 : 0 < c.size := by
    rw [size_len, hc]
    exact List.length_pos_iff.2 HNE.out
  have hcmp : ∀ z : ByteArray, z.size ≤ 1000 → cmpE z = 0 → cmpL z = cdL cd → ∀ w', Below w.heap.size w w' → Calls Tryd.prog 11 #[.string z] w' fun e w'' => e = .returned (.tuple #[.string c, .int .i64 0]) ∧ Below w'.heap.size w' w'' := fun z z1 z2 z3 w' hb => by
    refine (xCompile z w' (by unfold maxLen; omega) (HT.out w' hb)).mono ?_
    rintro e w'' ⟨u, rfl, hu, _, hb⟩
    refine ⟨?_, hb⟩
    rw [z2, ba_ext (a := u) (b := c) (by rw [hu, z3, hc])]
  have HCM1 : Hid _ := hcmp y hys hye hyl
  have HCM2 : Hid _ := hcmp x hxs hce hcl
  clear hcmp hsho hx hy hc hck hce hcl hsh hgd hyk hye hyl hyh hy1 hbw3 HZK HB2 hs2 HNE
  go_wp2_with fail
  refine (show Calls _ _ _ _ _ from HC1.out _).mono ?_
  rintro e w4 ⟨rfl, hbw4⟩
  clear HC1
  have HB4 : Hid (Below w.heap.size w w4) := HB3.out.trans (hbw4.mono hs3)
  clear hbw4 HB3 hs3
  go_wp2_with fail
  refine (show Calls _ _ _ _ _ from HSH1.out _).mono ?_
  rintro e w5 ⟨rfl, hbw5⟩
  clear HSH1
  have HB5 : Hid (Below w.heap.size w w5) := HB4.out.trans (hbw5.mono HB4.out.size)
  clear hbw5 HB4
  go_wp2_with fail
  refine (show Calls _ _ _ _ _ from HSH2.out _).mono ?_
  rintro e w6 ⟨rfl, hbw6⟩
  clear HSH2
  have HB6 : Hid (Below w.heap.size w w6) := HB5.out.trans (hbw6.mono HB5.out.size)
  clear hbw6 HB5
  go_wp2_with fail
  refine (show Calls _ _ _ _ _ from HCM1.out _ HB6.out).mono ?_
  rintro e w7 ⟨rfl, hbw7⟩
  clear HCM1
  have HB7 : Hid (Below w.heap.size w w7) := HB6.out.trans (hbw7.mono HB6.out.size)
  clear hbw7 HB6
  go_wp2_with fail
  refine (show Calls _ _ _ _ _ from HCM2.out _ HB7.out).mono ?_
  rintro e w8 ⟨rfl, hbw8⟩
  clear HCM2
  have HB8 : Hid (Below w.heap.size w w8) := HB7.out.trans (hbw8.mono HB7.out.size)
  clear hbw8 HB7
  have hc1 := nonempty_of c hc0
  go_wp2_with fail

  go_ret
  exact ⟨rfl, HB8.out⟩

end Go.Proofs.YtnndoagpbcacdaaDoor
