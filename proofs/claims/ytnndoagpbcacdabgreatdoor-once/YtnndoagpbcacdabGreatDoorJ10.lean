import Derived.Test.YtnndoagpbcacdabGreatDoorMJ8
namespace Go.Proofs.YtnndoagpbcacdabGreatDoor
open Go.RowKit

/-! Once, walked. -/
set_option maxRecDepth 100000 in
set_option maxHeartbeats 16000000 in
theorem kOnce (lv : Value) (L : List Int) (w : World) (hri : IntsRd w w.heap.size lv L) (hin : ∀ c ∈ L, -9223372036854775808 ≤ c ∧ c ≤ 9223372036854775807) (ht : Tab w) :
    Calls Tryz.prog 3 #[lv] w fun e w' => e = .returned (.bool true) ∧ Below w.heap.size w w' := by
  have HCP : Hid _ := kProgram lv L ⟨#[109, 97, 105, 110]⟩ w hri hin
  have HRI : Hid (∀ w', Below w.heap.size w w' → IntsRd w' w'.heap.size lv L) := fun w' hb => by
    obtain ⟨a, cap, h1, h2, h3, h4⟩ := hri.keep hb
    refine ⟨a, cap, h1, h2, h3, h4.imp id (fun ⟨b, off, q1, q2, q3⟩ => ⟨b, off, q1, ?_, q3⟩)⟩
    have := hb.size
    omega
  have HT : Hid (∀ w', Below w.heap.size w w' → Tab w') := fun w' hb => ht.below hb
  obtain ⟨va, vc, rfl, _, _, _⟩ := hri
  clear ht
  go_enter Tryz.func3, Tryz.ntmps3
  go_wp2_with fail
  refine (show Calls _ _ _ _ _ from HCP.out).mono ?_
  rintro e w1 ⟨pv, rfl, hbw1, ns, hns, hnl, hfr⟩
  clear HCP
  have hfr0 := hfr
  obtain ⟨_, hrow, _, _⟩ := hfr0
  obtain ⟨po, pc, rfl⟩ := own_form hrow
  clear hrow
  obtain ⟨htl, hcl⟩ := plainC L ⟨#[109, 97, 105, 110]⟩ ns po pc _ w1 hns hnl hfr (by decide)
  have HCL : Hid _ := hcl
  have HBK : Hid (∀ x : ByteArray, x.data.toList = (fzOf ns (progF L)).flatMap (fzS ns) → x.size ≤ 440 ∧ (chk x).2 = 0 ∧ codeOf (cAll (toksF x 0)).ds = ⟨0, (namedF mainT (progF L)).map fnCode⟩ ∧ goodC ⟨0, (namedF mainT (progF L)).map fnCode⟩ = true) := fun x hx => by
    obtain ⟨a, b, c, d, _⟩ := base_ok L ⟨#[109, 97, 105, 110]⟩ rfl x ns hns hnl hx
    exact ⟨a, b, c, d⟩
  have HB1 : Hid (Below w.heap.size w w1) := hbw1
  have hs1 := hbw1.size
  generalize (fzOf ns (progF L)).length = gl at *
  clear hcl hbw1 hfr hns hnl htl
  go_wp2_with fail
  refine (show Calls _ _ _ _ _ from HCL.out _ (Below.refl _ _)).mono ?_
  rintro e w2 ⟨x, rfl, hx, hbw2⟩
  clear HCL
  obtain ⟨hxs, hck, hcd, hgd⟩ := HBK.out x hx
  have HB2 : Hid (Below w.heap.size w w2) := HB1.out.trans (hbw2.mono hs1)
  have HE1 : Hid _ := xEvalI x 1997 ⟨0, (namedF mainT (progF L)).map fnCode⟩ w2 (by unfold maxLen; omega) (HT.out w2 HB2.out) hck hcd hgd (by omega) (by omega)
  have HCS : Hid _ := once_run ((namedF mainT (progF L)).map fnCode) hgd
  clear hck hcd hgd hx hbw2 HBK HB1 hxs
  have HON : Hid (∀ (x : ByteArray) (ns : List ByteArray), NmsB ⟨#[109]⟩ ns → ns.length = (progF L).length → x.data.toList = (fzOf ns (progF L)).flatMap (fzS ns) ++ onTx → _) := fun x ns a b c => on_ok L ⟨#[109]⟩ rfl x ns a b c
  generalize (namedF mainT (progF L)).map fnCode = fs at *
  simp only at HE1 HCS
  generalize runI ⟨fs, 1997, 24000⟩ 0 = r at *
  generalize htt : runI ⟨fs ++ onceB fs.length, 2000, 24000⟩ fs.length = t at *
  obtain ⟨ro, rv, rs, hr⟩ : ∃ ro rv rs, ro = r.out ∧ rv = r.val ∧ rs = r.stp := ⟨_, _, _, rfl, rfl, rfl⟩
  obtain ⟨tO, tv, ts, ht⟩ : ∃ tO tv ts, tO = t.out ∧ tv = t.val ∧ ts = t.stp := ⟨_, _, _, rfl, rfl, rfl⟩
  simp only [← hr.1, ← hr.2.1, ← hr.2.2, ← ht.1, ← ht.2.1, ← ht.2.2] at HE1 HCS
  have HTT : Hid (runI ⟨fs ++ onceB fs.length, 2000, 24000⟩ fs.length = t ∧ tO = t.out ∧ tv = t.val ∧ ts = t.stp) := ⟨htt, ht⟩
  clear hr ht htt
  go_wp2_with fail
  refine (show Calls _ _ _ _ _ from HE1.out).mono ?_
  rintro e w3 ⟨rfl, hbw3⟩
  clear HE1
  have HB3 : Hid (Below w.heap.size w w3) := HB2.out.trans (hbw3.mono HB2.out.size)
  have hs3 := HB3.out.size
  have HS3 : Hid (Rs (w3.alloc (Obj.cells #[.int .i64 ro, .int .i64 rv, .int .i64 rs] 24)) w3.heap.size ro rv rs) := Rs.new w3 ro rv rs
  have HB4 : Hid (Below w.heap.size w (w3.alloc (Obj.cells #[.int .i64 ro, .int .i64 rv, .int .i64 rs] 24))) := HB3.out.alloc hs3 _
  have HCP : Hid _ := kProgram _ L ⟨#[109]⟩ (w3.alloc (Obj.cells #[.int .i64 ro, .int .i64 rv, .int .i64 rs] 24)) (HRI.out _ HB4.out) hin
  clear hbw3 HB3 hs3 HB2
  go_wp2_with fail
  generalize w3.heap.size = k1 at *
  refine (show Calls _ _ _ _ _ from HCP.out).mono ?_
  rintro e w5 ⟨pv, rfl, hbw5, ns, hns, hnl, hfr⟩
  clear HCP
  have hfr0 := hfr
  obtain ⟨_, hrow, _, _⟩ := hfr0
  obtain ⟨qo, qc, rfl⟩ := own_form hrow
  clear hrow
  obtain ⟨htl, hcl⟩ := plainC L ⟨#[109]⟩ ns qo qc _ w5 hns hnl hfr (by decide)
  have HCL : Hid _ := hcl
  have HB5 : Hid (Below w.heap.size w w5) := HB4.out.trans (hbw5.mono HB4.out.size)
  have HS5 : Hid (Rs w5 k1 ro rv rs) := HS3.out.below hbw5
  have hs5 := HB5.out.size
  have HNS : Hid _ := hns
  have HNL : Hid _ := hnl
  have HTL : Hid _ := htl
  clear hcl hbw5 hfr hns hnl htl HB4 HS3
  generalize (fzOf ns (progF L)).length = gm at *
  go_wp2_with fail
  refine (show Calls _ _ _ _ _ from HCL.out _ (Below.refl _ _)).mono ?_
  rintro e w6 ⟨x1, rfl, hx1, hbw6⟩
  clear HCL
  have HB6 : Hid (Below w.heap.size w w6) := HB5.out.trans (hbw6.mono hs5)
  have HS6 : Hid (Rs w6 k1 ro rv rs) := HS5.out.below hbw6
  have hx1l : x1.size ≤ 440 := by rw [size_len, hx1]; exact HTL.out
  obtain ⟨S, hS⟩ : ∃ S : ByteArray, S = x1 ++ ⟨#[109, 97, 105, 110, 32, 61, 32, 100, 32, 40, 105, 32, 109, 41, 59, 32, 100, 32, 97, 32, 61, 32, 43, 32, 97, 32, 97, 59, 32, 105, 32, 97, 32, 61, 32, 97, 59]⟩ := ⟨_, rfl⟩
  have hSd : S.data.toList = (fzOf ns (progF L)).flatMap (fzS ns) ++ onTx := by
    rw [hS, data_app, hx1]
    rfl
  obtain ⟨hsz, hck, hcd, hgd⟩ := HON.out S ns HNS.out HNL.out hSd
  have HE2 : Hid _ := xEvalI S 2000 _ w6 (by unfold maxLen; omega) (HT.out w6 HB6.out) hck hcd hgd (by omega) (by omega)
  simp only at HE2
  rw [HTT.out.1, ← HTT.out.2.1, ← HTT.out.2.2.1, ← HTT.out.2.2.2, hS] at HE2
  clear hx1 hbw6 HB5 HS5 hs5 HNS HNL HTL hS hSd hsz hck hcd hgd HTT HON
  go_wp2_with fail
  refine (show Calls _ _ _ _ _ from HE2.out).mono ?_
  rintro e w7 ⟨rfl, hbw7⟩
  clear HE2
  have HB7 : Hid (Below w.heap.size w w7) := HB6.out.trans (hbw7.mono HB6.out.size)
  have hs7 := HB7.out.size
  have hS7 := HS6.out.below hbw7
  have l1 := hS7.lt
  have HS7 : Hid (Rs (w7.alloc (Obj.cells #[.int .i64 tO, .int .i64 tv, .int .i64 ts] 24)) k1 ro rv rs) := hS7.alloc _
  have HT7 : Hid (Rs (w7.alloc (Obj.cells #[.int .i64 tO, .int .i64 tv, .int .i64 ts] 24)) w7.heap.size tO tv ts) := Rs.new w7 tO tv ts
  clear hbw7 HB6 HS6
  obtain ⟨r0, r1, r2⟩ := HS7.out.cells
  obtain ⟨t0, t1, t2⟩ := HT7.out.cells
  clear hS7
  rcases HCS.out with ⟨rfl, v1, v2, rfl, rfl, rfl, rfl⟩ | ⟨rfl, v1, v2, s0, s1, hov, rfl, rfl, rfl⟩ | ⟨rfl, v1, v2, s0, s1, hov, rfl, rfl, rfl⟩ | ⟨rfl, rfl, s0, s1, rfl, rfl, rfl⟩ | ⟨rfl, rfl, rfl, rfl, rfl, rfl⟩ | ⟨h34, rfl, s0, s1, rfl, rfl, rfl⟩
  · clear HCS
    go_wp2_with fail
    go_ret
    exact ⟨rfl, (HB7.out.alloc hs7 _).alloc (by simp; omega) _⟩
  · clear HCS
    have hd : decide (2000 < rs + 4) = false := decide_eq_false (by omega)
    have hd' : ¬ 2000 < rs + 4 := by omega
    have he : (rs + 4 == rs + 4) = true := by simp
    by_cases h1 : 1000000000 < 2 * rv
    · have hd1 : decide (1000000000 < 2 * rv) = true := decide_eq_true h1
      go_wp2_with fail
      go_ret
      exact ⟨rfl, (HB7.out.alloc hs7 _).alloc (by simp; omega) _⟩
    · have hd1 : decide (1000000000 < 2 * rv) = false := decide_eq_false h1
      have h2 : 2 * rv < -1000000000 := by omega
      have hd2 : decide (2 * rv < -1000000000) = true := decide_eq_true h2
      go_wp2_with fail
      go_ret
      exact ⟨rfl, (HB7.out.alloc hs7 _).alloc (by simp; omega) _⟩
  · clear HCS
    have hd : decide (2000 < rs + 4) = false := decide_eq_false (by omega)
    have hd' : ¬ 2000 < rs + 4 := by omega
    have he : (rs + 4 == rs + 4) = true := by simp
    have hf : (2 * rv == 2 * rv) = true := by simp
    have h1 : ¬ 1000000000 < 2 * rv := by omega
    have h2 : ¬ 2 * rv < -1000000000 := by omega
    have hd1 : decide (1000000000 < 2 * rv) = false := decide_eq_false h1
    have hd2 : decide (2 * rv < -1000000000) = false := decide_eq_false h2
    go_wp2_with fail
    go_ret
    exact ⟨rfl, (HB7.out.alloc hs7 _).alloc (by simp; omega) _⟩
  · clear HCS
    have he : (rs + 3 == rs + 3) = true := by simp
    go_wp2_with fail
    go_ret
    exact ⟨rfl, (HB7.out.alloc hs7 _).alloc (by simp; omega) _⟩
  · clear HCS
    go_wp2_with fail
    go_ret
    exact ⟨rfl, (HB7.out.alloc hs7 _).alloc (by simp; omega) _⟩
  · clear HCS
    have he : (rs + 3 == rs + 3) = true := by simp
    rcases h34 with rfl | rfl
    · go_wp2_with fail
      go_ret
      exact ⟨rfl, (HB7.out.alloc hs7 _).alloc (by simp; omega) _⟩
    · go_wp2_with fail
      go_ret
      exact ⟨rfl, (HB7.out.alloc hs7 _).alloc (by simp; omega) _⟩

end Go.Proofs.YtnndoagpbcacdabGreatDoor
