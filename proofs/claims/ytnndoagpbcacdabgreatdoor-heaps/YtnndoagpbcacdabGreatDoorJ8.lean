import Derived.Test.YtnndoagpbcacdabGreatDoorMJ6
namespace Go.Proofs.YtnndoagpbcacdabGreatDoor
open Go.RowKit

/-! Heaps. -/
/-- What is known of the four runs. -/
theorem heap_cases (fs : List Tp) (mn a b : Int) (hg : goodC ⟨mn, fs⟩ = true) (_ha : 0 ≤ a) (hab : a ≤ b) (hb : b ≤ 4800) :
    let r := runI ⟨fs, 400, 24000⟩ mn
    let t := runI ⟨fs, 400, a⟩ mn
    let u := runI ⟨fs, 400, b⟩ mn
    let v := runI ⟨fs, 400, 4800⟩ mn
    (v.out = r.out ∧ v.val = r.val ∧ v.stp = r.stp) ∧ r.out ≠ 6 ∧ (((r.out = 1 ∨ (r.out = 2 ∧ r.val = 0) ∨ (r.out = 3 ∧ r.val = 0) ∨ (r.out = 4 ∧ r.val = 0)) ∧ 1 ≤ r.stp) ∨ (r.out = 5 ∧ r.val = 0 ∧ r.stp = 400)) ∧
    (((u.out = r.out ∧ u.val = r.val ∧ u.stp = r.stp) ∧ (t.out = r.out ∧ t.val = r.val ∧ t.stp = r.stp)) ∨
     ((u.out = r.out ∧ u.val = r.val ∧ u.stp = r.stp) ∧ (t.out = 6 ∧ t.val = 0 ∧ t.stp < r.stp)) ∨
     ((u.out = 6 ∧ u.val = 0 ∧ u.stp < r.stp) ∧ (t.out = 6 ∧ t.val = 0 ∧ t.stp ≤ u.stp))) := by
  intro r t u v
  obtain ⟨hmn, htg, har, _⟩ := tgo_good (bud := 400) (hp := 24000) hg
  obtain ⟨_, htv, _, _⟩ := tgo_good (bud := 400) (hp := 4800) hg
  obtain ⟨_, htt, _, _⟩ := tgo_good (bud := 400) (hp := a) hg
  obtain ⟨_, htu, _, _⟩ := tgo_good (bud := 400) (hp := b) hg
  have fr := run_fin ⟨fs, 400, 24000⟩ mn hmn htg har (by simp) (by simp)
  have fv := run_fin ⟨fs, 400, 4800⟩ mn hmn htv har (by simp) (by simp)
  have ft := run_fin ⟨fs, 400, a⟩ mn hmn htt har (by simp) (by simp)
  have fu := run_fin ⟨fs, 400, b⟩ mn hmn htu har (by simp) (by simp)
  have v6 : v.out ≠ 6 := fv.fu (by simp)
  have r6 : r.out ≠ 6 := fr.fu (by simp)
  have hvr : v = r := by
    rcases run_heap fs mn 400 4800 24000 (by omega) with e | ⟨e, _⟩
    · exact e
    · exact absurd e v6
  have h5 : r.out = 5 → r.stp = 400 := fr.sp
  have hv : r.out ≠ 1 → r.val = 0 := fr.vl
  have h1 : r.out ≠ 5 → r.out ≠ 6 → 1 ≤ r.stp := fr.one
  have tv : t.out ≠ 1 → t.val = 0 := ft.vl
  have uv : u.out ≠ 1 → u.val = 0 := fu.vl
  refine ⟨by rw [hvr]; exact ⟨rfl, rfl, rfl⟩, r6, ?_, ?_⟩
  · have hou : r.out = 1 ∨ r.out = 2 ∨ r.out = 3 ∨ r.out = 4 ∨ r.out = 5 ∨ r.out = 6 := fr.ou
    rcases hou with g | g | g | g | g | g
    · exact .inl ⟨.inl g, h1 (by omega) r6⟩
    · exact .inl ⟨.inr (.inl ⟨g, hv (by omega)⟩), h1 (by omega) r6⟩
    · exact .inl ⟨.inr (.inr (.inl ⟨g, hv (by omega)⟩)), h1 (by omega) r6⟩
    · exact .inl ⟨.inr (.inr (.inr ⟨g, hv (by omega)⟩)), h1 (by omega) r6⟩
    · exact .inr ⟨g, hv (by omega), h5 g⟩
    · exact absurd g r6
  · have hu : u = r ∨ (u.out = 6 ∧ u.stp < r.stp) := by
      have h := run_heap fs mn 400 b 4800 hb
      have h' : u = v ∨ (u.out = 6 ∧ u.stp < v.stp) := h
      rw [hvr] at h'
      exact h'
    have ht : t = u ∨ (t.out = 6 ∧ t.stp < u.stp) := run_heap fs mn 400 a b hab
    rcases hu with hu | ⟨hu, hus⟩
    · rcases ht with ht | ⟨ht, hts⟩
      · left; rw [ht, hu]; exact ⟨⟨rfl, rfl, rfl⟩, rfl, rfl, rfl⟩
      · right; left
        rw [hu] at hts ⊢
        exact ⟨⟨rfl, rfl, rfl⟩, ht, tv (by omega), hts⟩
    · right; right
      refine ⟨⟨hu, uv (by omega), hus⟩, ?_⟩
      rcases ht with ht | ⟨ht, hts⟩
      · rw [ht]; exact ⟨hu, uv (by omega), Int.le_refl _⟩
      · exact ⟨ht, tv (by omega), by omega⟩

set_option maxRecDepth 100000 in
set_option maxHeartbeats 16000000 in
theorem kHeaps (lv : Value) (L : List Int) (n m : Int) (w : World) (hri : IntsRd w w.heap.size lv L) (hin : ∀ c ∈ L, -9223372036854775808 ≤ c ∧ c ≤ 9223372036854775807) (hn1 : -9223372036854775808 ≤ n) (hn2 : n ≤ 9223372036854775807) (hm1 : -9223372036854775808 ≤ m) (hm2 : m ≤ 9223372036854775807) (ht : Tab w) :
    Calls Tryz.prog 5 #[lv, .int .i64 n, .int .i64 m] w fun e w' => e = .returned (.bool true) ∧ Below w.heap.size w w' := by
  have hbi := bentF_in n 0 60 (by omega)
  have HCA : Hid (∀ w', Calls Tryz.prog 10 #[.int .i64 n, .int .i64 0, .int .i64 60] w' fun e w'' => e = .returned (.int .i64 (bentF n 0 60)) ∧ w'' = w') := fun w' => kBent n 0 60 w' hn1 hn2 (by omega) (by omega) (by omega)
  have HCP : Hid _ := kProgram lv L ⟨#[109, 97, 105, 110]⟩ w hri hin
  have HT : Hid (∀ w', Below w.heap.size w w' → Tab w') := fun w' hb => ht.below hb
  generalize bentF n 0 60 = a at *
  obtain ⟨ha0, ha1⟩ := hbi
  have hbj := bentF_in m a 4800 (by omega)
  have HCB : Hid (∀ w', Calls Tryz.prog 10 #[.int .i64 m, .int .i64 a, .int .i64 4800] w' fun e w'' => e = .returned (.int .i64 (bentF m a 4800)) ∧ w'' = w') := fun w' => kBent m a 4800 w' hm1 hm2 (by omega) (by omega) (by omega)
  generalize bentF m a 4800 = b at *
  obtain ⟨hb0, hb1⟩ := hbj
  obtain ⟨va, vc, rfl, _, _, _⟩ := hri
  clear ht
  go_enter Tryz.func5, Tryz.ntmps5
  go_wp2_with fail
  refine (show Calls _ _ _ _ _ from HCP.out).mono ?_
  rintro e w1 ⟨pv, rfl, hbw1, ns, hns, hnl, hfr⟩
  clear HCP
  have hfr0 := hfr
  obtain ⟨_, hrow, _, _⟩ := hfr0
  obtain ⟨po, pc, rfl⟩ := own_form hrow
  clear hrow
  obtain ⟨htl, hcl⟩ := plainC L ⟨#[109, 97, 105, 110]⟩ ns po pc _ w1 hns hnl hfr (by decide)
  have HCL : Hid _ := hcl
  have HBK : Hid (∀ x : ByteArray, x.data.toList = (fzOf ns (progF L)).flatMap (fzS ns) → x.size ≤ 440 ∧ (chk x).2 = 0 ∧ codeOf (cAll (toksF x 0)).ds = ⟨0, (namedF mainT (progF L)).map fnCode⟩ ∧ goodC ⟨0, (namedF mainT (progF L)).map fnCode⟩ = true) := fun x hx => by
    obtain ⟨a, b, c, d, _⟩ := base_ok L ⟨#[109, 97, 105, 110]⟩ rfl x ns hns hnl hx
    exact ⟨a, b, c, d⟩
  have HB1 : Hid (Below w.heap.size w w1) := hbw1
  have hs1 := hbw1.size
  generalize (fzOf ns (progF L)).length = gl at *
  generalize (namedF mainT (progF L)).map fnCode = fs at *
  clear hcl hbw1 hfr hns hnl htl
  go_wp2_with fail
  refine (show Calls _ _ _ _ _ from HCL.out _ (Below.refl _ _)).mono ?_
  rintro e w2 ⟨x, rfl, hx, hbw2⟩
  clear HCL
  obtain ⟨hxs, hck, hcd, hgd⟩ := HBK.out x hx
  have HB2 : Hid (Below w.heap.size w w2) := HB1.out.trans (hbw2.mono hs1)
  have hxm : x.size ≤ maxLen := by unfold maxLen; omega
  have HCC : Hid (Calls Tryz.prog 11 #[.string x] w2 fun e w'' => ∃ y : ByteArray, e = .returned (.tuple #[.string y, .int .i64 0]) ∧ y.size ≤ 20000 ∧ (rdC y = some ⟨0, fs⟩ ∧ rdE y = 0) ∧ Below w2.heap.size w2 w'') := by
    refine (xCompile x w2 hxm (HT.out w2 HB2.out)).mono ?_
    rintro e w'' ⟨y, rfl, hy, hys, hbw⟩
    exact ⟨y, by rw [cmp_ok hck hcd hgd], hys, cmp_read hck hcd hgd hy hys, hbw⟩
  have HRR : Hid (∀ (y : ByteArray) (hp : Int), 0 ≤ hp → hp ≤ 24000 → y.size ≤ 20000 → rdC y = some ⟨0, fs⟩ → rdE y = 0 → ∀ (w' : World), Calls Tryz.prog 12 #[.string y, .int .i64 400, .int .i64 hp] w' fun e w'' => e = .returned (.tuple #[.agg #[.int .i64 (runI ⟨fs, 400, hp⟩ 0).out, .int .i64 (runI ⟨fs, 400, hp⟩ 0).val, .int .i64 (runI ⟨fs, 400, hp⟩ 0).stp], .int .i64 0]) ∧ Below w'.heap.size w' w'') := fun y hp p0 p1 h1 h2 h3 w' => xRunI y 400 hp ⟨0, fs⟩ w' (by unfold maxLen; omega) h2 h3 (by omega) (by omega) p0 p1 hgd
  have HCS : Hid _ := heap_cases fs 0 a b hgd ha0 hb0 hb1
  clear hck hcd hgd hx hbw2 HBK HB1
  go_wp2_with fail
  refine (show Calls _ _ _ _ _ from HCC.out).mono ?_
  rintro e w3 ⟨y, rfl, hys, ⟨hy1, hy2⟩, hbw3⟩
  clear HCC
  have HB3 : Hid (Below w.heap.size w w3) := HB2.out.trans (hbw3.mono HB2.out.size)
  have hs3 := HB3.out.size
  have HR1 : Hid _ := HRR.out y 24000 (by omega) (by omega) hys hy1 hy2
  have HR2 : Hid _ := HRR.out y a (by omega) (by omega) hys hy1 hy2
  have HR3 : Hid _ := HRR.out y b (by omega) (by omega) hys hy1 hy2
  have HR4 : Hid _ := HRR.out y 4800 (by omega) (by omega) hys hy1 hy2
  clear HRR hbw3 HB2 hy1 hy2
  generalize runI ⟨fs, 400, 24000⟩ 0 = r at *
  generalize runI ⟨fs, 400, a⟩ 0 = t at *
  generalize runI ⟨fs, 400, b⟩ 0 = u at *
  generalize runI ⟨fs, 400, 4800⟩ 0 = v at *
  obtain ⟨ro, rv, rs, hr⟩ : ∃ ro rv rs, ro = r.out ∧ rv = r.val ∧ rs = r.stp := ⟨_, _, _, rfl, rfl, rfl⟩
  obtain ⟨tO, tv, ts, ht⟩ : ∃ tO tv ts, tO = t.out ∧ tv = t.val ∧ ts = t.stp := ⟨_, _, _, rfl, rfl, rfl⟩
  obtain ⟨uo, uv, us, hu⟩ : ∃ uo uv us, uo = u.out ∧ uv = u.val ∧ us = u.stp := ⟨_, _, _, rfl, rfl, rfl⟩
  obtain ⟨vo, vv, vs, hv⟩ : ∃ vo vv vs, vo = v.out ∧ vv = v.val ∧ vs = v.stp := ⟨_, _, _, rfl, rfl, rfl⟩
  simp only [← hr.1, ← hr.2.1, ← hr.2.2, ← ht.1, ← ht.2.1, ← ht.2.2, ← hu.1, ← hu.2.1, ← hu.2.2, ← hv.1, ← hv.2.1, ← hv.2.2] at HR1 HR2 HR3 HR4 HCS
  clear hr ht hu hv
  go_wp2_with fail
  refine (show Calls _ _ _ _ _ from HR1.out _).mono ?_
  rintro e w4 ⟨rfl, hbw4⟩
  clear HR1
  have HB4 : Hid (Below w.heap.size w w4) := HB3.out.trans (hbw4.mono hs3)
  have hs4 := HB4.out.size
  have HS4 : Hid (Rs (w4.alloc (Obj.cells #[.int .i64 ro, .int .i64 rv, .int .i64 rs] 24)) w4.heap.size ro rv rs) := Rs.new w4 ro rv rs
  clear hbw4 HB3 hs3
  go_wp2_with fail
  refine (show Calls _ _ _ _ _ from HCA.out _).mono ?_
  rintro e w5 ⟨rfl, rfl⟩
  clear HCA
  go_wp2_with fail
  refine (show Calls _ _ _ _ _ from HCB.out _).mono ?_
  rintro e w5 ⟨rfl, rfl⟩
  clear HCB
  go_wp2_with fail
  refine (show Calls _ _ _ _ _ from HR2.out _).mono ?_
  rintro e w5 ⟨rfl, hbw5⟩
  clear HR2
  have HB5 : Hid (Below w.heap.size w w5) := (HB4.out.alloc hs4 _).trans (hbw5.mono (by simp; omega))
  have hs5 := HB5.out.size
  have HS5 : Hid (Rs (w5.alloc (Obj.cells #[.int .i64 tO, .int .i64 tv, .int .i64 ts] 24)) w4.heap.size ro rv rs) := (HS4.out.below hbw5).alloc _
  have HT5 : Hid (Rs (w5.alloc (Obj.cells #[.int .i64 tO, .int .i64 tv, .int .i64 ts] 24)) w5.heap.size tO tv ts) := Rs.new w5 tO tv ts
  generalize w4.heap.size = k1 at *
  clear hbw5 HB4 HS4 hs4
  go_wp2_with fail
  refine (show Calls _ _ _ _ _ from HR3.out _).mono ?_
  rintro e w6 ⟨rfl, hbw6⟩
  clear HR3
  have HB6 : Hid (Below w.heap.size w w6) := (HB5.out.alloc hs5 _).trans (hbw6.mono (by simp; omega))
  have hs6 := HB6.out.size
  have HS6 : Hid (Rs (w6.alloc (Obj.cells #[.int .i64 uo, .int .i64 uv, .int .i64 us] 24)) k1 ro rv rs) := (HS5.out.below hbw6).alloc _
  have HT6 : Hid (Rs (w6.alloc (Obj.cells #[.int .i64 uo, .int .i64 uv, .int .i64 us] 24)) w5.heap.size tO tv ts) := (HT5.out.below hbw6).alloc _
  have HU6 : Hid (Rs (w6.alloc (Obj.cells #[.int .i64 uo, .int .i64 uv, .int .i64 us] 24)) w6.heap.size uo uv us) := Rs.new w6 uo uv us
  generalize w5.heap.size = k2 at *
  clear hbw6 HB5 HS5 HT5 hs5
  go_wp2_with fail
  refine (show Calls _ _ _ _ _ from HR4.out _).mono ?_
  rintro e w7 ⟨rfl, hbw7⟩
  clear HR4
  have HB7 : Hid (Below w.heap.size w w7) := (HB6.out.alloc hs6 _).trans (hbw7.mono (by simp; omega))
  have hs7 := HB7.out.size
  have hS7 := HS6.out.below hbw7
  have hT7 := HT6.out.below hbw7
  have hU7 := HU6.out.below hbw7
  have lr := hS7.lt
  have lt := hT7.lt
  have lu := hU7.lt
  have HS7 : Hid (Rs (w7.alloc (Obj.cells #[.int .i64 vo, .int .i64 vv, .int .i64 vs] 24)) k1 ro rv rs) := hS7.alloc _
  have HT7 : Hid (Rs (w7.alloc (Obj.cells #[.int .i64 vo, .int .i64 vv, .int .i64 vs] 24)) k2 tO tv ts) := hT7.alloc _
  have HU7 : Hid (Rs (w7.alloc (Obj.cells #[.int .i64 vo, .int .i64 vv, .int .i64 vs] 24)) w6.heap.size uo uv us) := hU7.alloc _
  have HV7 : Hid (Rs (w7.alloc (Obj.cells #[.int .i64 vo, .int .i64 vv, .int .i64 vs] 24)) w7.heap.size vo vv vs) := Rs.new w7 vo vv vs
  generalize w6.heap.size = k3 at *
  clear hbw7 HB6 HS6 HT6 HU6 hs6 hS7 hT7 hU7
  obtain ⟨⟨rfl, rfl, rfl⟩, r6, hrt, hcs⟩ := HCS.out
  clear HCS
  have e0 : (vo == vo) = true := by simp
  have e1 : (vv == vv) = true := by simp
  have e2 : (vs == vs) = true := by simp
  have n6 : (vo == 6) = false := by simpa using r6
  have n7 : ((6 : Int) == vo) = false := by simpa using fun h => r6 h.symm
  have HTO : Hid (∀ w', ∃ bb : Bool, (Calls Tryz.prog 13 #[.agg #[.int .i64 vo, .int .i64 vv, .int .i64 vs]] w' fun e w'' => e = .returned (.bool bb) ∧ Below w'.heap.size w' w'') ∧ (bb = false → ∀ w', Calls Tryz.prog 14 #[.agg #[.int .i64 vo, .int .i64 vv, .int .i64 vs], .int .i64 400] w' fun e w'' => e = .returned (.bool true) ∧ Below w'.heap.size w' w'')) := fun w' => by
    rcases hrt with ⟨h1, h2⟩ | ⟨rfl, rfl, rfl⟩
    · exact ⟨true, kToldT vo vv vs w' h1 h2, fun h => by cases h⟩
    · exact ⟨false, kToldF 0 400 w', fun _ w' => kSpentT 400 w'⟩
  clear hrt
  have HB8 : Hid (Below w.heap.size w (w7.alloc (Obj.cells #[.int .i64 vo, .int .i64 vv, .int .i64 vs] 24))) := HB7.out.alloc hs7 _
  obtain ⟨r0, r1, r2⟩ := HS7.out.cells
  obtain ⟨v0, v1, v2⟩ := HV7.out.cells
  go_wp2_with fail
  obtain ⟨bb, hto, hsp⟩ := HTO.out (w7.alloc (Obj.cells #[.int .i64 vo, .int .i64 vv, .int .i64 vs] 24))
  refine (show Calls _ _ _ _ _ from hto).mono ?_
  rintro e w9 ⟨rfl, hbw9⟩
  have HSP : Hid _ := hsp
  have HB9 : Hid (Below w.heap.size w w9) := HB8.out.trans (hbw9.mono (by simp; omega))
  have HS9 : Hid (Rs w9 k1 vo vv vs) := HS7.out.below hbw9
  have HT9 : Hid (Rs w9 k2 tO tv ts) := HT7.out.below hbw9
  have HU9 : Hid (Rs w9 k3 uo uv us) := HU7.out.below hbw9
  have m1 := HS9.out.lt
  have m2 := HT9.out.lt
  have m3 := HU9.out.lt
  clear HTO hto hsp r0 r1 r2 v0 v1 v2 hbw9 HB7 HB8 HS7 HT7 HU7 HV7
  cases bb with
  | true =>
    clear HSP
    rcases hcs with ⟨⟨rfl, rfl, rfl⟩, rfl, rfl, rfl⟩ | ⟨⟨rfl, rfl, rfl⟩, rfl, rfl, hlt⟩ | ⟨⟨rfl, rfl, hlt⟩, rfl, rfl, hle⟩
    · obtain ⟨r0, r1, r2⟩ := HS9.out.cells
      obtain ⟨t0, t1, t2⟩ := HT9.out.cells
      obtain ⟨u0, u1, u2⟩ := HU9.out.cells
      go_wp2_with fail
      go_ret
      exact ⟨rfl, HB9.out⟩
    · obtain ⟨r0, r1, r2⟩ := HS9.out.cells
      obtain ⟨t0, t1, t2⟩ := HT9.out.cells
      obtain ⟨u0, u1, u2⟩ := HU9.out.cells
      have hd : decide (us < ts) = false := decide_eq_false (by omega)
      have hd2 : ¬ us < ts := by omega
      go_wp2_with fail
      go_ret
      exact ⟨rfl, HB9.out⟩
    · obtain ⟨r0, r1, r2⟩ := HS9.out.cells
      obtain ⟨t0, t1, t2⟩ := HT9.out.cells
      obtain ⟨u0, u1, u2⟩ := HU9.out.cells
      have hd : decide (us < ts) = false := decide_eq_false (by omega)
      have hd2 : ¬ us < ts := by omega
      have hd3 : decide (vs ≤ us) = false := decide_eq_false (by omega)
      have hd4 : ¬ vs ≤ us := by omega
      go_wp2_with fail
      go_ret
      exact ⟨rfl, HB9.out⟩
  | false =>
    have HSP2 : Hid _ := HSP.out rfl
    clear HSP
    obtain ⟨r0, r1, r2⟩ := HS9.out.cells
    go_wp2_with fail
    refine (show Calls _ _ _ _ _ from HSP2.out _).mono ?_
    rintro e wa ⟨rfl, hbwa⟩
    have HBa : Hid (Below w.heap.size w wa) := HB9.out.trans (hbwa.mono HB9.out.size)
    have HSa : Hid (Rs wa k1 vo vv vs) := HS9.out.below hbwa
    have HTa : Hid (Rs wa k2 tO tv ts) := HT9.out.below hbwa
    have HUa : Hid (Rs wa k3 uo uv us) := HU9.out.below hbwa
    have p1 := HSa.out.lt
    have p2 := HTa.out.lt
    have p3 := HUa.out.lt
    clear r0 r1 r2 HSP2 hbwa HB9 HS9 HT9 HU9
    rcases hcs with ⟨⟨rfl, rfl, rfl⟩, rfl, rfl, rfl⟩ | ⟨⟨rfl, rfl, rfl⟩, rfl, rfl, hlt⟩ | ⟨⟨rfl, rfl, hlt⟩, rfl, rfl, hle⟩
    · obtain ⟨r0, r1, r2⟩ := HSa.out.cells
      obtain ⟨t0, t1, t2⟩ := HTa.out.cells
      obtain ⟨u0, u1, u2⟩ := HUa.out.cells
      go_wp2_with fail
      go_ret
      exact ⟨rfl, HBa.out⟩
    · obtain ⟨r0, r1, r2⟩ := HSa.out.cells
      obtain ⟨t0, t1, t2⟩ := HTa.out.cells
      obtain ⟨u0, u1, u2⟩ := HUa.out.cells
      have hd : decide (us < ts) = false := decide_eq_false (by omega)
      have hd2 : ¬ us < ts := by omega
      go_wp2_with fail
      go_ret
      exact ⟨rfl, HBa.out⟩
    · obtain ⟨r0, r1, r2⟩ := HSa.out.cells
      obtain ⟨t0, t1, t2⟩ := HTa.out.cells
      obtain ⟨u0, u1, u2⟩ := HUa.out.cells
      have hd : decide (us < ts) = false := decide_eq_false (by omega)
      have hd2 : ¬ us < ts := by omega
      have hd3 : decide (vs ≤ us) = false := decide_eq_false (by omega)
      have hd4 : ¬ vs ≤ us := by omega
      go_wp2_with fail
      go_ret
      exact ⟨rfl, HBa.out⟩

end Go.Proofs.YtnndoagpbcacdabGreatDoor
