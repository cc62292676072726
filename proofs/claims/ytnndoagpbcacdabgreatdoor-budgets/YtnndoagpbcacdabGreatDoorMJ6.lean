import Derived.Test.YtnndoagpbcacdabGreatDoorMG15
import Derived.Test.YtnndoagpbcacdabGreatDoorML0
namespace Go.Proofs.YtnndoagpbcacdabGreatDoor
open Go.RowKit

/-! Package redexkeep: keeps.go: told, spent. -/
set_option maxHeartbeats 2000000 in
theorem kToldT (o v s : Int) (w : World) (h : o = 1 ∨ (o = 2 ∧ v = 0) ∨ (o = 3 ∧ v = 0) ∨ (o = 4 ∧ v = 0)) (hs : 1 ≤ s) : Calls Tryz.prog 13 #[.agg #[.int .i64 o, .int .i64 v, .int .i64 s]] w fun e w' => e = .returned (.bool true) ∧ Below w.heap.size w w' := by
  have hd : decide (1 ≤ s) = true := decide_eq_true hs
  rcases h with rfl | ⟨rfl, rfl⟩ | ⟨rfl, rfl⟩ | ⟨rfl, rfl⟩
  · go_enter Tryz.func13, Tryz.ntmps13
    go_wp2_with fail
    go_ret
    exact ⟨rfl, bel_al w _⟩
  · go_enter Tryz.func13, Tryz.ntmps13
    go_wp2_with fail
    go_ret
    exact ⟨rfl, bel_al w _⟩
  · go_enter Tryz.func13, Tryz.ntmps13
    go_wp2_with fail
    go_ret
    exact ⟨rfl, bel_al w _⟩
  · go_enter Tryz.func13, Tryz.ntmps13
    go_wp2_with fail
    go_ret
    exact ⟨rfl, bel_al w _⟩
set_option maxHeartbeats 2000000 in
theorem kToldF (v s : Int) (w : World) : Calls Tryz.prog 13 #[.agg #[.int .i64 5, .int .i64 v, .int .i64 s]] w fun e w' => e = .returned (.bool false) ∧ Below w.heap.size w w' := by
  go_enter Tryz.func13, Tryz.ntmps13
  go_wp2_with fail
  go_ret
  exact ⟨rfl, bel_al w _⟩
set_option maxHeartbeats 2000000 in
theorem kSpentT (b : Int) (w : World) : Calls Tryz.prog 14 #[.agg #[.int .i64 5, .int .i64 0, .int .i64 b], .int .i64 b] w fun e w' => e = .returned (.bool true) ∧ Below w.heap.size w w' := by
  have he : (b == b) = true := by simp
  go_enter Tryz.func14, Tryz.ntmps14
  go_wp2_with fail
  go_ret
  exact ⟨rfl, bel_al w _⟩
set_option maxHeartbeats 2000000 in
theorem kSpentF (o v s b : Int) (w : World) (h : o ≠ 5) : Calls Tryz.prog 14 #[.agg #[.int .i64 o, .int .i64 v, .int .i64 s], .int .i64 b] w fun e w' => e = .returned (.bool false) ∧ Below w.heap.size w w' := by
  have he : (o == 5) = false := by simpa using h
  go_enter Tryz.func14, Tryz.ntmps14
  go_wp2_with fail
  go_ret
  exact ⟨rfl, bel_al w _⟩

/-- A result that lies in a block of its own. -/
def Rs (w : World) (k : Nat) (o v s : Int) : Prop := w.heap[k]? = some (Obj.cells #[.int .i64 o, .int .i64 v, .int .i64 s] 24)
theorem Rs.lt {w : World} {k : Nat} {o v s : Int} (h : Rs w k o v s) : k < w.heap.size := (Array.getElem?_eq_some_iff.1 h).1
theorem Rs.below {w w' : World} {k : Nat} {o v s : Int} (h : Rs w k o v s) (hb : Below w.heap.size w w') : Rs w' k o v s := (hb.block k h.lt).trans h
theorem Rs.new (w : World) (o v s : Int) : Rs (w.alloc (Obj.cells #[.int .i64 o, .int .i64 v, .int .i64 s] 24)) w.heap.size o v s := heap_alloc_new w _
theorem Rs.alloc {w : World} {k : Nat} {o v s : Int} (h : Rs w k o v s) (x : Obj) : Rs (w.alloc x) k o v s := (heap_alloc_old w _ h.lt).trans h
theorem Rs.cells {w : World} {k : Nat} {o v s : Int} (h : Rs w k o v s) : w.cell? { block := k, off := 0 } = some (.int .i64 o) ∧ w.cell? { block := k, off := 1 } = some (.int .i64 v) ∧ w.cell? { block := k, off := 2 } = some (.int .i64 s) := by
  have r0 := cell_of_row w k 0 _ _ _ h
  have r1 := cell_of_row w k 1 _ _ _ h
  have r2 := cell_of_row w k 2 _ _ _ h
  simp only [List.getElem?_toArray, List.getElem?_cons_succ, List.getElem?_cons_zero] at r0 r1 r2
  exact ⟨r0, r1, r2⟩

/-- What is known of the two runs. -/
theorem bud_cases (fs : List Tp) (mn b : Int) (hg : goodC ⟨mn, fs⟩ = true) (hb0 : 0 ≤ b) (hb1 : b ≤ 2000) :
    let r := runI ⟨fs, 2000, 24000⟩ mn
    let t := runI ⟨fs, b, 24000⟩ mn
    ((r.out = 1 ∨ (r.out = 2 ∧ r.val = 0) ∨ (r.out = 3 ∧ r.val = 0) ∨ (r.out = 4 ∧ r.val = 0)) ∧ 1 ≤ r.stp ∧ ((r.stp ≤ b ∧ t.out = r.out ∧ t.val = r.val ∧ t.stp = r.stp) ∨ (b < r.stp ∧ t.out = 5 ∧ t.val = 0 ∧ t.stp = b))) ∨
    (r.out = 5 ∧ r.val = 0 ∧ r.stp = 2000 ∧ t.out = 5 ∧ t.val = 0 ∧ t.stp = b) := by
  intro r t
  obtain ⟨hmn, htg, har, _⟩ := tgo_good (bud := 2000) (hp := 24000) hg
  obtain ⟨_, htg2, _, _⟩ := tgo_good (bud := b) (hp := 24000) hg
  have fr := run_fin ⟨fs, 2000, 24000⟩ mn hmn htg har (by simp) (by simp)
  have ft := run_fin ⟨fs, b, 24000⟩ mn hmn htg2 har hb0 hb1
  have hbud := run_budget fs mn b 2000 24000 hmn (fun bud => (tgo_good (bud := bud) (hp := 24000) hg).2.1) hb0 hb1 (by omega) (by omega)
  have r6 : r.out ≠ 6 := fr.fu (by simp)
  have h5 : r.out = 5 → r.stp = 2000 := fr.sp
  have hv : r.out ≠ 1 → r.val = 0 := fr.vl
  have h1 : r.out ≠ 5 → r.out ≠ 6 → 1 ≤ r.stp := fr.one
  have hts : t.stp ≤ b := ft.s1
  have htv : t.out ≠ 1 → t.val = 0 := ft.vl
  by_cases ho : r.out = 5
  · right
    refine ⟨ho, hv (by omega), h5 ho, ?_⟩
    rcases hbud with e | ⟨e1, e2, _⟩
    · have e' : t = r := e
      have := h5 ho
      rw [e'] at hts ⊢
      exact ⟨ho, hv (by omega), by omega⟩
    · exact ⟨e1, htv (by have : t.out = 5 := e1; omega), e2⟩
  · left
    refine ⟨?_, h1 ho r6, ?_⟩
    · have hou : r.out = 1 ∨ r.out = 2 ∨ r.out = 3 ∨ r.out = 4 ∨ r.out = 5 ∨ r.out = 6 := fr.ou
      rcases hou with g | g | g | g | g | g
      · exact .inl g
      · exact .inr (.inl ⟨g, hv (by omega)⟩)
      · exact .inr (.inr (.inl ⟨g, hv (by omega)⟩))
      · exact .inr (.inr (.inr ⟨g, hv (by omega)⟩))
      · exact absurd g ho
      · exact absurd g r6
    · rcases hbud with e | ⟨e1, e2, e3⟩
      · have e' : t = r := e
        rw [e'] at hts ⊢
        exact .inl ⟨hts, rfl, rfl, rfl⟩
      · have e1' : t.out = 5 := e1
        exact .inr ⟨e3, e1, htv (by omega), e2⟩

end Go.Proofs.YtnndoagpbcacdabGreatDoor
namespace Go.Proofs.YtnndoagpbcacdabGreatDoor
open Go.RowKit

/-! Budgets, walked. -/
/-- A program's text: what plain gives of what program gives. -/
theorem plainC (L : List Int) (main : ByteArray) (ns : List ByteArray) (po : Option Addr) (pc : Nat) (S : Nat → Prop) (w1 : World) (hns : NmsB main ns) (hnl : ns.length = (progF L).length) (hfr : FRow w1 S ns (fzOf ns (progF L)) (.slice po (fzOf ns (progF L)).length pc)) (hm : main.data.toList.length ≤ 4) :
    ((fzOf ns (progF L)).flatMap (fzS ns)).length ≤ 440 ∧ ∀ w', Below w1.heap.size w1 w' → Calls Tryz.prog 8 #[.slice po (fzOf ns (progF L)).length pc] w' fun e w'' => ∃ x : ByteArray, e = .returned (.string x) ∧ x.data.toList = (fzOf ns (progF L)).flatMap (fzS ns) ∧ Below w'.heap.size w' w'' := by
  obtain ⟨p1, p2, p3, p4⟩ := progF_ok L
  have hfl : (fzOf ns (progF L)).length = (progF L).length := fzOf_len (by omega)
  have htx := plain_text hns (progF L) hnl p3 []
  have htl : ((fzOf ns (progF L)).flatMap (fzS ns)).length ≤ 440 := by
    rw [htx]
    have := plain_len (main := main.data.toList) hm p2 p3 [] (fun f hf => by simp at hf)
    omega
  exact ⟨htl, fun w' hb => kPlain S ns _ _ w' (hfr.old hb) (by omega) (fz_ln p3) (by omega)⟩

set_option maxRecDepth 100000 in
set_option maxHeartbeats 8000000 in
theorem kBudgets (lv : Value) (L : List Int) (n : Int) (w : World) (hri : IntsRd w w.heap.size lv L) (hin : ∀ c ∈ L, -9223372036854775808 ≤ c ∧ c ≤ 9223372036854775807) (hn1 : -9223372036854775808 ≤ n) (hn2 : n ≤ 9223372036854775807) (ht : Tab w) :
    Calls Tryz.prog 4 #[lv, .int .i64 n] w fun e w' => e = .returned (.bool true) ∧ Below w.heap.size w w' := by
  have hbi := bentF_in n 0 2000 (by omega)
  have HCB : Hid (∀ w', Calls Tryz.prog 10 #[.int .i64 n, .int .i64 0, .int .i64 2000] w' fun e w'' => e = .returned (.int .i64 (bentF n 0 2000)) ∧ w'' = w') := fun w' => kBent n 0 2000 w' hn1 hn2 (by omega) (by omega) (by omega)
  have HCP : Hid _ := kProgram lv L ⟨#[109, 97, 105, 110]⟩ w hri hin
  have HT : Hid (∀ w', Below w.heap.size w w' → Tab w') := fun w' hb => ht.below hb
  generalize bentF n 0 2000 = b at *
  obtain ⟨hb0, hb1⟩ := hbi
  obtain ⟨va, vc, rfl, _, _, _⟩ := hri
  clear ht
  go_enter Tryz.func4, Tryz.ntmps4
  go_wp2_with fail
  refine (show Calls _ _ _ _ _ from HCP.out).mono ?_
  rintro e w1 ⟨pv, rfl, hbw1, ns, hns, hnl, hfr⟩
  clear HCP
  have hfr0 := hfr
  obtain ⟨_, hrow, _, _⟩ := hfr0
  obtain ⟨po, pc, rfl⟩ := own_form hrow
  clear hrow
  obtain ⟨htl, hcl⟩ := plainC L ⟨#[109, 97, 105, 110]⟩ ns po pc _ w1 hns hnl hfr (by decide)
  have HCL : Hid _ := hcl
  have HBK : Hid (∀ x : ByteArray, x.data.toList = (fzOf ns (progF L)).flatMap (fzS ns) → x.size ≤ 440 ∧ (chk x).2 = 0 ∧ codeOf (cAll (toksF x 0)).ds = ⟨0, (namedF mainT (progF L)).map fnCode⟩ ∧ goodC ⟨0, (namedF mainT (progF L)).map fnCode⟩ = true) := fun x hx => by
    obtain ⟨a, b, c, d, _⟩ := base_ok L ⟨#[109, 97, 105, 110]⟩ rfl x ns hns hnl hx
    exact ⟨a, b, c, d⟩
  have HB1 : Hid (Below w.heap.size w w1) := hbw1
  have hs1 := hbw1.size
  generalize (fzOf ns (progF L)).length = gl at *
  generalize (namedF mainT (progF L)).map fnCode = fs at *
  clear hcl hbw1 hfr hns hnl htl
  go_wp2_with fail
  refine (show Calls _ _ _ _ _ from HCL.out _ (Below.refl _ _)).mono ?_
  rintro e w2 ⟨x, rfl, hx, hbw2⟩
  clear HCL
  obtain ⟨hxs, hck, hcd, hgd⟩ := HBK.out x hx
  have HB2 : Hid (Below w.heap.size w w2) := HB1.out.trans (hbw2.mono hs1)
  have hxm : x.size ≤ maxLen := by unfold maxLen; omega
  have HE1 : Hid (∀ (w' : World) (bud : Int), Below w.heap.size w w' → 0 ≤ bud → bud ≤ 2000 → Calls Tryz.prog 7 #[.string x, .int .i64 bud] w' fun e w'' => e = .returned (.tuple #[.agg #[.int .i64 (runI ⟨fs, bud, 24000⟩ 0).out, .int .i64 (runI ⟨fs, bud, 24000⟩ 0).val, .int .i64 (runI ⟨fs, bud, 24000⟩ 0).stp], .int .i64 0]) ∧ Below w'.heap.size w' w'') := fun w' bud hb h0 h1 => xEvalI x bud ⟨0, fs⟩ w' hxm (HT.out w' hb) hck hcd hgd h0 h1
  have HCC : Hid (∀ w', Below w.heap.size w w' → Calls Tryz.prog 11 #[.string x] w' fun e w'' => ∃ y : ByteArray, e = .returned (.tuple #[.string y, .int .i64 0]) ∧ y.size ≤ 20000 ∧ (rdC y = some ⟨0, fs⟩ ∧ rdE y = 0) ∧ Below w'.heap.size w' w'') := fun w' hb => by
    refine (xCompile x w' hxm (HT.out w' hb)).mono ?_
    rintro e w'' ⟨y, rfl, hy, hys, hbw⟩
    exact ⟨y, by rw [cmp_ok hck hcd hgd], hys, cmp_read hck hcd hgd hy hys, hbw⟩
  have HRR : Hid (∀ (y : ByteArray) (w' : World), y.size ≤ 20000 → rdC y = some ⟨0, fs⟩ → rdE y = 0 → Calls Tryz.prog 12 #[.string y, .int .i64 b, .int .i64 24000] w' fun e w'' => e = .returned (.tuple #[.agg #[.int .i64 (runI ⟨fs, b, 24000⟩ 0).out, .int .i64 (runI ⟨fs, b, 24000⟩ 0).val, .int .i64 (runI ⟨fs, b, 24000⟩ 0).stp], .int .i64 0]) ∧ Below w'.heap.size w' w'') := fun y w' h1 h2 h3 => xRunI y b 24000 ⟨0, fs⟩ w' (by unfold maxLen; omega) h2 h3 hb0 hb1 (by omega) (by omega) hgd
  have HCS : Hid _ := bud_cases fs 0 b hgd hb0 hb1
  have HE2 : Hid _ := HE1.out _ 2000 HB2.out (by omega) (by omega)
  have HE3 : Hid (∀ w', Below w.heap.size w w' → _) := fun w' hb => HE1.out w' b hb hb0 hb1
  generalize hrr : runI ⟨fs, 2000, 24000⟩ 0 = r at *
  generalize htt : runI ⟨fs, b, 24000⟩ 0 = t at *
  clear hck hcd hgd hx hbw2 HBK HB1 HE1 hrr htt
  obtain ⟨ro, rv, rs, hr⟩ : ∃ ro rv rs, ro = r.out ∧ rv = r.val ∧ rs = r.stp := ⟨_, _, _, rfl, rfl, rfl⟩
  obtain ⟨tO, tv, ts, ht⟩ : ∃ tO tv ts, tO = t.out ∧ tv = t.val ∧ ts = t.stp := ⟨_, _, _, rfl, rfl, rfl⟩
  simp only [← hr.1, ← hr.2.1, ← hr.2.2, ← ht.1, ← ht.2.1, ← ht.2.2] at HE2 HE3 HRR HCS
  clear hr ht
  go_wp2_with fail
  refine (show Calls _ _ _ _ _ from HE2.out).mono ?_
  rintro e w3 ⟨rfl, hbw3⟩
  clear HE2
  have HB3 : Hid (Below w.heap.size w w3) := HB2.out.trans (hbw3.mono HB2.out.size)
  have hs3 := HB3.out.size
  clear hbw3 HB2
  go_wp2_with fail
  refine (show Calls _ _ _ _ _ from HCB.out _).mono ?_
  rintro e w4 ⟨rfl, rfl⟩
  clear HCB
  have HS3 : Hid (Rs (w3.alloc (Obj.cells #[.int .i64 ro, .int .i64 rv, .int .i64 rs] 24)) w3.heap.size ro rv rs) := Rs.new w3 ro rv rs
  go_wp2_with fail
  refine (show Calls _ _ _ _ _ from HE3.out _ (HB3.out.alloc hs3 _)).mono ?_
  rintro e w5 ⟨rfl, hbw5⟩
  clear HE3
  have HB5 : Hid (Below w.heap.size w w5) := (HB3.out.alloc hs3 _).trans (hbw5.mono (by simp; omega))
  have HS5 : Hid (Rs w5 w3.heap.size ro rv rs) := HS3.out.below hbw5
  have hs5 := HB5.out.size
  generalize w3.heap.size = k1 at *
  clear hbw5 HB3 HS3 hs3
  have HS6 : Hid (Rs (w5.alloc (Obj.cells #[.int .i64 tO, .int .i64 tv, .int .i64 ts] 24)) k1 ro rv rs) := HS5.out.alloc _
  have HT6 : Hid (Rs (w5.alloc (Obj.cells #[.int .i64 tO, .int .i64 tv, .int .i64 ts] 24)) w5.heap.size tO tv ts) := Rs.new w5 tO tv ts
  have HB6 : Hid (Below w.heap.size w (w5.alloc (Obj.cells #[.int .i64 tO, .int .i64 tv, .int .i64 ts] 24))) := HB5.out.alloc hs5 _
  clear HS5 HB5
  go_wp2_with fail
  refine (show Calls _ _ _ _ _ from HCC.out _ HB6.out).mono ?_
  rintro e w7 ⟨y, rfl, hys, ⟨hy1, hy2⟩, hbw7⟩
  clear HCC
  have HB7 : Hid (Below w.heap.size w w7) := HB6.out.trans (hbw7.mono HB6.out.size)
  have HS7 : Hid (Rs w7 k1 ro rv rs) := HS6.out.below hbw7
  have HT7 : Hid (Rs w7 w5.heap.size tO tv ts) := HT6.out.below hbw7
  have HRR7 : Hid _ := HRR.out y w7 hys hy1 hy2
  generalize w5.heap.size = k2 at *
  clear hbw7 HB6 HS6 HT6 hs5 hy1 hy2 HRR
  go_wp2_with fail
  refine (show Calls _ _ _ _ _ from HRR7.out).mono ?_
  rintro e w8 ⟨rfl, hbw8⟩
  clear HRR7
  have HB8 : Hid (Below w.heap.size w w8) := HB7.out.trans (hbw8.mono HB7.out.size)
  have hs8 := HB8.out.size
  have hrs := (HS7.out.below hbw8).alloc (Obj.cells #[.int .i64 tO, .int .i64 tv, .int .i64 ts] 24)
  have hts := (HT7.out.below hbw8).alloc (Obj.cells #[.int .i64 tO, .int .i64 tv, .int .i64 ts] 24)
  have hus := Rs.new w8 tO tv ts
  obtain ⟨r0, r1, r2⟩ := hrs.cells
  obtain ⟨t0, t1, t2⟩ := hts.cells
  obtain ⟨u0, u1, u2⟩ := hus.cells
  have lr := (HS7.out.below hbw8).lt
  have lt := (HT7.out.below hbw8).lt
  have HRS : Hid _ := hrs
  have HTS : Hid _ := hts
  clear hrs hts hus hbw8 HB7 HS7 HT7
  have e0 : (tO == tO) = true := by simp
  have e1 : (tv == tv) = true := by simp
  have e2 : (ts == ts) = true := by simp
  have HUS : Hid _ := Rs.new w8 tO tv ts
  rcases HCS.out with ⟨ho, h1, hc | hc⟩ | ⟨rfl, rfl, rfl, rfl, rfl, rfl⟩
  · obtain ⟨hle, rfl, rfl, rfl⟩ := hc
    have hne : tO ≠ 5 := by omega
    have hd : decide (ts ≤ b) = true := decide_eq_true hle
    have HC1 : Hid (∀ w', Calls Tryz.prog 13 #[.agg #[.int .i64 tO, .int .i64 tv, .int .i64 ts]] w' fun e w'' => e = .returned (.bool true) ∧ Below w'.heap.size w' w'') := fun w' => kToldT tO tv ts w' ho h1
    have HC2 : Hid (∀ w', Calls Tryz.prog 14 #[.agg #[.int .i64 tO, .int .i64 tv, .int .i64 ts], .int .i64 2000] w' fun e w'' => e = .returned (.bool false) ∧ Below w'.heap.size w' w'') := fun w' => kSpentF tO tv ts 2000 w' hne
    clear ho
    clear HCS r0 r1 r2 t0 t1 t2 u0 u1 u2
    obtain ⟨r0, r1, r2⟩ := (Rs.cells HRS.out)
    obtain ⟨t0, t1, t2⟩ := (Rs.cells HTS.out)
    obtain ⟨u0, u1, u2⟩ := (Rs.cells HUS.out)
    go_wp2_with fail
    refine (show Calls _ _ _ _ _ from HC1.out _).mono ?_
    rintro e w9 ⟨rfl, hb9⟩
    clear HC1
    have HB9 : Hid (Below w.heap.size w w9) := (HB8.out.alloc hs8 _).trans (hb9.mono (by simp; omega))
    have HR9 : Hid _ := Rs.below HRS.out hb9
    have HT9 : Hid _ := Rs.below HTS.out hb9
    have l1 := (Rs.lt HR9.out)
    have l2 := (Rs.lt HT9.out)
    clear r0 r1 r2 t0 t1 t2 u0 u1 u2 hb9
    obtain ⟨r0, r1, r2⟩ := (Rs.cells HR9.out)
    go_wp2_with fail
    refine (show Calls _ _ _ _ _ from HC2.out _).mono ?_
    rintro e wa ⟨rfl, hba⟩
    clear HC2
    have HBa : Hid (Below w.heap.size w wa) := HB9.out.trans (hba.mono HB9.out.size)
    have HRa : Hid _ := Rs.below HR9.out hba
    have HTa : Hid _ := Rs.below HT9.out hba
    have l3 := (Rs.lt HRa.out)
    have l4 := (Rs.lt HTa.out)
    clear r0 r1 r2 hba
    obtain ⟨r0, r1, r2⟩ := (Rs.cells HRa.out)
    obtain ⟨t0, t1, t2⟩ := (Rs.cells HTa.out)
    go_wp2_with fail
    go_ret
    exact ⟨rfl, HBa.out⟩
  · obtain ⟨hle, rfl, rfl, rfl⟩ := hc
    have hne : ro ≠ 5 := by omega
    have hd : decide (rs ≤ ts) = false := decide_eq_false (by omega)
    have HC1 : Hid (∀ w', Calls Tryz.prog 13 #[.agg #[.int .i64 ro, .int .i64 rv, .int .i64 rs]] w' fun e w'' => e = .returned (.bool true) ∧ Below w'.heap.size w' w'') := fun w' => kToldT ro rv rs w' ho h1
    have HC2 : Hid (∀ w', Calls Tryz.prog 14 #[.agg #[.int .i64 ro, .int .i64 rv, .int .i64 rs], .int .i64 2000] w' fun e w'' => e = .returned (.bool false) ∧ Below w'.heap.size w' w'') := fun w' => kSpentF ro rv rs 2000 w' hne
    have HC3 : Hid (∀ w', Calls Tryz.prog 14 #[.agg #[.int .i64 5, .int .i64 0, .int .i64 ts], .int .i64 ts] w' fun e w'' => e = .returned (.bool true) ∧ Below w'.heap.size w' w'') := fun w' => kSpentT ts w'
    clear ho
    clear HCS r0 r1 r2 t0 t1 t2 u0 u1 u2
    obtain ⟨r0, r1, r2⟩ := (Rs.cells HRS.out)
    obtain ⟨t0, t1, t2⟩ := (Rs.cells HTS.out)
    obtain ⟨u0, u1, u2⟩ := (Rs.cells HUS.out)
    go_wp2_with fail
    refine (show Calls _ _ _ _ _ from HC1.out _).mono ?_
    rintro e w9 ⟨rfl, hb9⟩
    clear HC1
    have HB9 : Hid (Below w.heap.size w w9) := (HB8.out.alloc hs8 _).trans (hb9.mono (by simp; omega))
    have HR9 : Hid _ := Rs.below HRS.out hb9
    have HT9 : Hid _ := Rs.below HTS.out hb9
    have l1 := (Rs.lt HR9.out)
    have l2 := (Rs.lt HT9.out)
    clear r0 r1 r2 t0 t1 t2 u0 u1 u2 hb9
    obtain ⟨r0, r1, r2⟩ := (Rs.cells HR9.out)
    go_wp2_with fail
    refine (show Calls _ _ _ _ _ from HC2.out _).mono ?_
    rintro e wa ⟨rfl, hba⟩
    clear HC2
    have HBa : Hid (Below w.heap.size w wa) := HB9.out.trans (hba.mono HB9.out.size)
    have HRa : Hid _ := Rs.below HR9.out hba
    have HTa : Hid _ := Rs.below HT9.out hba
    have l3 := (Rs.lt HRa.out)
    have l4 := (Rs.lt HTa.out)
    clear r0 r1 r2 hba
    obtain ⟨r0, r1, r2⟩ := (Rs.cells HRa.out)
    obtain ⟨t0, t1, t2⟩ := (Rs.cells HTa.out)
    go_wp2_with fail
    refine (show Calls _ _ _ _ _ from HC3.out _).mono ?_
    rintro e wb ⟨rfl, hbb⟩
    clear HC3
    have HBb : Hid (Below w.heap.size w wb) := HBa.out.trans (hbb.mono HBa.out.size)
    clear r0 r1 r2 t0 t1 t2 hbb
    go_wp2_with fail
    go_ret
    exact ⟨rfl, HBb.out⟩
  · have HC1 : Hid (∀ w', Calls Tryz.prog 13 #[.agg #[.int .i64 5, .int .i64 0, .int .i64 2000]] w' fun e w'' => e = .returned (.bool false) ∧ Below w'.heap.size w' w'') := fun w' => kToldF 0 2000 w'
    have HC2 : Hid (∀ w', Calls Tryz.prog 14 #[.agg #[.int .i64 5, .int .i64 0, .int .i64 2000], .int .i64 2000] w' fun e w'' => e = .returned (.bool true) ∧ Below w'.heap.size w' w'') := fun w' => kSpentT 2000 w'
    have HC3 : Hid (∀ w', Calls Tryz.prog 14 #[.agg #[.int .i64 5, .int .i64 0, .int .i64 ts], .int .i64 ts] w' fun e w'' => e = .returned (.bool true) ∧ Below w'.heap.size w' w'') := fun w' => kSpentT ts w'
    clear HCS r0 r1 r2 t0 t1 t2 u0 u1 u2
    obtain ⟨r0, r1, r2⟩ := (Rs.cells HRS.out)
    obtain ⟨t0, t1, t2⟩ := (Rs.cells HTS.out)
    obtain ⟨u0, u1, u2⟩ := (Rs.cells HUS.out)
    go_wp2_with fail
    refine (show Calls _ _ _ _ _ from HC1.out _).mono ?_
    rintro e w9 ⟨rfl, hb9⟩
    clear HC1
    have HB9 : Hid (Below w.heap.size w w9) := (HB8.out.alloc hs8 _).trans (hb9.mono (by simp; omega))
    have HR9 : Hid _ := Rs.below HRS.out hb9
    have HT9 : Hid _ := Rs.below HTS.out hb9
    have l1 := (Rs.lt HR9.out)
    have l2 := (Rs.lt HT9.out)
    clear r0 r1 r2 t0 t1 t2 u0 u1 u2 hb9
    obtain ⟨r0, r1, r2⟩ := (Rs.cells HR9.out)
    go_wp2_with fail
    refine (show Calls _ _ _ _ _ from HC2.out _).mono ?_
    rintro e wa ⟨rfl, hba⟩
    clear HC2
    have HBa : Hid (Below w.heap.size w wa) := HB9.out.trans (hba.mono HB9.out.size)
    have HRa : Hid _ := Rs.below HR9.out hba
    have HTa : Hid _ := Rs.below HT9.out hba
    have l3 := (Rs.lt HRa.out)
    have l4 := (Rs.lt HTa.out)
    clear r0 r1 r2 hba
    obtain ⟨r0, r1, r2⟩ := (Rs.cells HRa.out)
    obtain ⟨t0, t1, t2⟩ := (Rs.cells HTa.out)
    go_wp2_with fail
    refine (show Calls _ _ _ _ _ from HC3.out _).mono ?_
    rintro e wb ⟨rfl, hbb⟩
    clear HC3
    have HBb : Hid (Below w.heap.size w wb) := HBa.out.trans (hbb.mono HBa.out.size)
    clear r0 r1 r2 t0 t1 t2 hbb
    go_wp2_with fail
    go_ret
    exact ⟨rfl, HBb.out⟩

end Go.Proofs.YtnndoagpbcacdabGreatDoor
