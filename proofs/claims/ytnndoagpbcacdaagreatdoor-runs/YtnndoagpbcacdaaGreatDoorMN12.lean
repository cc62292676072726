import Derived.Test.YtnndoagpbcacdaaGreatDoorN11
import Derived.Test.YtnndoagpbcacdaaGreatDoorMN2
namespace Go.Proofs.YtnndoagpbcacdaaGreatDoor
open Go.RowKit

/-! The reference's run: worth, by the number of moves; number, forced. -/
def WthC (T g : Nat) (fv : Value) (mn : Int) (c : Cf) (n : Nat) : Prop := ∀ (s U : Im) (w : World) (iv : Value), Ev c s.ks n s U → Gd c s → Sz c n s → WP w T g fv mn c s.nds s.stp 0 (bysK s.ks) (opsK s.ks) → Rd w T iv s.cur →
  Calls Tryz.prog 94 #[.pointer (some ⟨g, 0, none⟩), iv] w fun e w' => ∃ v, e = .returned v ∧ Fx T w w' ∧ WP w' T g fv mn c U.nds U.stp U.out (bysK s.ks) (opsK s.ks) ∧ ∃ l, Rd w' T v l ∧ l.length ≤ 9000000 ∧ (U.out = 0 → l = U.cur)
set_option maxRecDepth 100000 in
set_option maxHeartbeats 4000000 in
theorem rNumber (T g : Nat) (fv : Value) (mn : Int) (c : Cf) (n : Nat) (hrec : WthC T g fv mn c n) (s U : Im) (f : Kf) (ks : List Kf) (x : Int × Int) (w : World) (rv : Value) (hcur : s.cur = [x]) (hks : s.ks = f :: ks) (hf : f.k ≠ 1) (he : Ev c s.ks n s U) (hg : Gd c s) (hs : Sz c n s)
    (hw : WP w T g fv mn c s.nds s.stp 0 (bysK ks) (opsK ks)) (hr : Rd w T rv f.rs) (hun : U.out = 0 → U.cur ≠ []) :
    Calls Tryz.prog 180 #[.pointer (some ⟨g, 0, none⟩), .agg #[.int .i64 x.1, .int .i64 x.2], rv] w fun e w' => ∃ r : Int, e = .returned (.int .i64 r) ∧ Fx T w w' ∧ WP w' T g fv mn c U.nds U.stp (numO U) (bysK ks) (opsK ks) ∧ (numO U = 0 → r = (hdI U.cur).2) := by
  obtain ⟨il, hil, hl0, hl1, hl2⟩ := info_parts Tryz.infoLine
  obtain ⟨x1, x2⟩ := x
  obtain ⟨ro, rc, rfl⟩ := hr.form
  obtain ⟨av, bv, ov, vs, bs, hw⟩ := hw
  obtain ⟨bo, bc, rfl⟩ := own_form hw.rb
  have hgl := hw.lt
  have hTw := hw.hT
  have HM : Hid (∀ w', Below w.heap.size w w' → WB w' T g fv mn c s.nds s.stp 0 (bysK ks) (opsK ks) av (.slice bo (bysK ks).length bc) ov vs bs) := fun w' hb => hw.old hb
  have HR : Hid (∀ w', Below w.heap.size w w' → Rd w' T (.slice ro f.rs.length rc) f.rs) := fun w' hb => hr.old hb
  obtain ⟨_, _, _, _, _, _, c6, _, _⟩ := hw.cells
  have f6 := hw.fz 6
  have hbl : (bysK ks).length ≤ 800000 := by have := hs.ks; rw [hks] at this; simp [bysK] at this ⊢; omega
  clear hw hr
  go_enter Tryz.func180, Tryz.ntmps180
  have HAL : Hid (Below w.heap.size w ((w.alloc (Obj.cells #[.int .i64 x1, .int .i64 x2] 75)).alloc (Obj.cells #[.slice ro f.rs.length rc] 76))) := below_al2 _ _ _
  have HNB : Hid (((w.alloc (Obj.cells #[.int .i64 x1, .int .i64 x2] 75)).alloc (Obj.cells #[.slice ro f.rs.length rc] 76)).heap[w.heap.size + 1]? = some (Obj.cells #[.slice ro f.rs.length rc] 76)) := by
    have := heap_alloc_new (w.alloc (Obj.cells #[.int .i64 x1, .int .i64 x2] 75)) (Obj.cells #[.slice ro f.rs.length rc] 76)
    rw [World.size_alloc] at this
    exact this
  have HX0 : Hid (((w.alloc (Obj.cells #[.int .i64 x1, .int .i64 x2] 75)).alloc (Obj.cells #[.slice ro f.rs.length rc] 76)).heap[w.heap.size]? = some (Obj.cells #[.int .i64 x1, .int .i64 x2] 75)) := (Below.heap_alloc (w.alloc (Obj.cells #[.int .i64 x1, .int .i64 x2] 75)) (Obj.cells #[.slice ro f.rs.length rc] 76) w.heap.size (by simp)).trans (heap_alloc_new _ _)
  go_wp2_with (at_builtin; go_must (refine wpList_append_lies _ rfl _ _ _ rfl T 76 il _ 1 24 Tryz.underlying50 hil hl0 hl1 hl2 rfl (by omega) (.slice bo (bysK ks).length bc) (bysK ks).length bs rfl ?hownT _ 1 _ [.slice ro f.rs.length rc] rfl rfl ?hnewsT ?h1T (by omega) ?h63T ?hbytesT ?hbaseT _ rfl ?_))
  case hownT => exact WB.rb (HM.out _ HAL.out)
  try case hnewsT => exact World.news_of_block HNB.out
  case h1T => simp [Value.oneCell']
  case h63T => unfold maxLen; omega
  case hbytesT => omega
  case hbaseT => first | omega | (simp; omega)
  intro q5 cap5 w5 hown5 hgrow5 hat5 hlt5
  have hwA := HM.out _ HAL.out
  obtain ⟨hfx5, hw5⟩ := WB.pushB hwA (HR.out _ HAL.out) hown5 hgrow5
  have hblk5 := grown_type hwA.rb hgrow5 (by decide) hwA.blk
  have kb := cell_of_row w5 g 6 _ _ _ hblk5
  simp only [List.getElem?_toArray, List.getElem?_cons_succ, List.getElem?_cons_zero] at kb
  have kf := frozen_of_row w5 g 6 _ _ hblk5
  have HX5 : Hid (w5.heap[w.heap.size]? = some (.cells #[.int .i64 x1, .int .i64 x2] 75 (0, 0))) := grown_type hwA.rb hgrow5 (by decide) HX0.out
  have m0 := cell_of_row w5 w.heap.size 0 _ _ _ HX5.out
  have m1 := cell_of_row w5 w.heap.size 1 _ _ _ HX5.out
  simp only [List.getElem?_toArray, List.getElem?_cons_succ, List.getElem?_cons_zero] at m0 m1
  have hg5 : g < w5.heap.size := (Array.getElem?_eq_some_iff.1 hblk5).1
  have hx5 : w.heap.size < w5.heap.size := (Array.getElem?_eq_some_iff.1 HX5.out).1
  have hne5 : w.heap.size ≠ g := by omega
  have HF5 : Hid (Fx T w (w5.setCell ⟨g, 6, none⟩ (.slice (some ⟨q5, 0, none⟩) ((bysK ks).length + 1) cap5))) := (Fx.of HAL.out hTw).trans hfx5
  have HW5 : Hid _ := hw5
  clear hown5 hgrow5 hat5 hfx5 hw5 hblk5 hwA c6 f6
  have HAL6 : Hid (Below w5.heap.size (w5.setCell ⟨g, 6, none⟩ (.slice (some ⟨q5, 0, none⟩) ((bysK ks).length + 1) cap5)) ((w5.setCell ⟨g, 6, none⟩ (.slice (some ⟨q5, 0, none⟩) ((bysK ks).length + 1) cap5)).alloc (Obj.cells #[.int .i64 x1, .int .i64 x2] 75))) := by
    have := below_al (w5.setCell ⟨g, 6, none⟩ (.slice (some ⟨q5, 0, none⟩) ((bysK ks).length + 1) cap5)) (Obj.cells #[.int .i64 x1, .int .i64 x2] 75)
    rw [sz_setc] at this
    exact this
  have HRX : Hid (Rd ((w5.setCell ⟨g, 6, none⟩ (.slice (some ⟨q5, 0, none⟩) ((bysK ks).length + 1) cap5)).alloc (Obj.cells #[.int .i64 x1, .int .i64 x2] 75)) T (.slice (some ⟨w5.heap.size, 0, none⟩) 1 1) s.cur) := by
    rw [hcur]
    have := World.ownsRow_lit (w5.setCell ⟨g, 6, none⟩ (.slice (some ⟨q5, 0, none⟩) ((bysK ks).length + 1) cap5)) #[.int .i64 x1, .int .i64 x2] 1 (e := 75) (base := 0) (size := 2) (Nat.zero_le _) (by unfold maxLen; omega) rfl
    rw [sz_setc] at this
    exact Rd.own (l := [(x1, x2)]) this
  have HW6 : Hid (WP ((w5.setCell ⟨g, 6, none⟩ (.slice (some ⟨q5, 0, none⟩) ((bysK ks).length + 1) cap5)).alloc (Obj.cells #[.int .i64 x1, .int .i64 x2] 75)) T g fv mn c s.nds s.stp 0 (bysK s.ks) (opsK s.ks)) := by
    rw [hks, bysK_cons, opsK_no ks hf]
    exact WP.old ⟨_, _, _, _, _, HW5.out⟩ (by rw [sz_setc]; exact HAL6.out)
  have HC : Hid _ := hrec s U _ _ he hg hs HW6.out HRX.out
  have HF6 : Hid _ := HF5.out.trans (Fx.of (by rw [sz_setc]; exact HAL6.out) (by rw [sz_setc]; omega))
  rw [hks, bysK_cons, opsK_no ks hf] at HC
  clear HW6 HRX HAL6 HW5 HF5
  go_wp2_with fail
  refine (show Calls _ _ _ _ _ from HC.out).mono ?_
  rintro e w7 ⟨v, rfl, hf7, hw7, l7, hl7, _, hlu7⟩
  have hr7 : U.out = 0 → Rd w7 T v U.cur := fun h => by rw [← hlu7 h]; exact hl7
  clear hl7 hlu7
  clear HC
  have HF7 : Hid (Fx T w w7) := HF6.out.trans hf7
  obtain ⟨av7, bv7, ov7, vs7, bs7, hw7⟩ := hw7
  have hform := hw7.rb.form (by simp)
  obtain ⟨q7, cap7, rfl, hq7b, hq7l⟩ := hform
  have hbl7 : (bysK ks ++ [f.rs]).length = (bysK ks).length + 1 := by simp
  rw [hbl7] at hw7
  obtain ⟨_, _, _, _, _, _, d6, _, d8⟩ := hw7.cells
  have e6 := hw7.fz 6
  have e8 := hw7.fz 8
  have hg7 := hw7.lt
  have hcap7 := own_cap hw7.rb
  obtain ⟨hfx8, hw8⟩ := hw7.popB rfl
  have HF8 : Hid (Fx T w (w7.setCell ⟨g, 6, none⟩ (.slice (some ⟨q7, 0, none⟩) (bysK ks).length cap7))) := HF7.out.trans hfx8
  have HW8 : Hid _ := hw8
  by_cases hU : U.out = 0
  · have hrd := hr7 hU
    have hne := hun hU
    obtain ⟨y, l, hUc⟩ : ∃ y l, U.cur = y :: l := by
      cases hq : U.cur with
      | nil => exact absurd hq hne
      | cons a b => exact ⟨a, b, rfl⟩
    have hrd8 := Rd.keep hrd hfx8
    rw [hUc] at hrd8
    obtain ⟨vb, voff, vcap, rfl, hvb⟩ := hrd8.isSome (by simp)
    obtain ⟨y0, y1⟩ := Rd.at hrd8 0 (by simp)
    simp only [List.getElem_cons_zero, Nat.zero_mul, Nat.add_zero] at y0 y1
    have hvcap := Rd.cap hrd8
    simp only [List.length_cons] at hvcap
    rw [hU] at d8
    have HO : Hid (numO U = if y.1 = 1 then 0 else 3) := by show _ = _; unfold numO; rw [if_pos hU, hUc]; rfl
    have HY : Hid ((hdI U.cur).2 = y.2) := by show _ = _; rw [hUc]; rfl
    have HO3 : Hid _ := WB.setOut HW8.out 3
    rw [hU] at HW8
    clear hw7 hw8 hfx8 hrd hrd8 hr7 hf7
    by_cases hk1 : y.1 = 1
    · rw [hk1] at y0
      rw [if_pos hk1] at HO
      go_wp2_with fail
      go_region
      all_goals
        go_wp2_with fail
        go_ret
        exact ⟨y.2, rfl, HF8.out.drew, by rw [HO.out]; exact WP.old ⟨_, _, _, _, _, HW8.out⟩ (Below.drew (Below.refl _ _)), fun _ => HY.out.symm⟩
    · have hk2 : (y.1 == 1) = false := by simpa using hk1
      rw [if_neg hk1] at HO
      go_wp2_with fail
      go_region
      all_goals
        go_wp2_with fail
        go_ret
        exact ⟨0, rfl, (HF8.out.trans HO3.out.1).drew, by rw [HO.out]; exact WP.old ⟨_, _, _, _, _, HO3.out.2⟩ (Below.drew (Below.refl _ _)), fun h => by rw [HO.out] at h; simp at h⟩
  · have HO : Hid (numO U = U.out) := by show _ = _; unfold numO; rw [if_neg hU]
    have hU2 : (U.out == 0) = false := by simpa using hU
    clear hw7 hw8 hfx8 hr7 hf7
    go_wp2_with fail
    go_region
    all_goals
      go_wp2_with fail
      go_ret
      exact ⟨0, rfl, HF8.out.drew, by rw [HO.out]; exact WP.old ⟨_, _, _, _, _, HW8.out⟩ (Below.drew (Below.refl _ _)), fun h => by rw [HO.out] at h; exact absurd h hU⟩

end Go.Proofs.YtnndoagpbcacdaaGreatDoor
namespace Go.Proofs.YtnndoagpbcacdaaGreatDoor
open Go.RowKit

/-! The reference's run: forced. -/
theorem Tryz.infoIntN : (Tryz.prog.info? 3).map (fun i => (i.zero, i.size, i.bytes)) = some (some (.int .i64 0), 1, 8) := by kernel_rfl
set_option maxRecDepth 100000 in
set_option maxHeartbeats 4000000 in
/-- A node that is done. -/
theorem rForcedD (T g : Nat) (fv : Value) (mn : Int) (c : Cf) (nds : List (Ln × Bool)) (stp : Int) (bys : List Ln) (ops : List Int) (p : Nat) (l : Ln) (w : World) (rv : Value) (hp : nds[p]? = some (l, true)) (hw : WP w T g fv mn c nds stp 0 bys ops) (hn : nds.length ≤ 900000) (hrv : ∃ a n cp, rv = .slice a n cp) :
    Calls Tryz.prog 142 #[.pointer (some ⟨g, 0, none⟩), .int .i64 (p : Int), rv] w fun e w' => ∃ v, e = .returned v ∧ Below w.heap.size w w' ∧ Rd w' T v l := by
  obtain ⟨av, bv, ov, vs, bs, hw⟩ := hw
  obtain ⟨ra, rn, rc, rfl⟩ := hrv
  have hpl := (List.getElem?_eq_some_iff.1 hp).1
  obtain ⟨q, cap, hq, hqb, hql⟩ := hw.ra.form (by omega)
  subst hq
  have hvl : p < vs.length := by rw [hw.vl]; exact hpl
  obtain ⟨n0, n1⟩ := ncs_at vs nds p _ _ (List.getElem?_eq_getElem hvl) hp
  have k0 := row_cell hw.ra _ _ n0
  have k1 := row_cell hw.ra _ _ n1
  have hrd := hw.rv p _ _ (List.getElem?_eq_getElem hvl) hp
  obtain ⟨_, _, _, _, _, c5, _, _, _⟩ := hw.cells
  have hgl := hw.lt
  have hcap := own_cap hw.ra
  generalize vs[p] = v at *
  obtain ⟨vo, vc, rfl⟩ := hrd.form
  have HRD : Hid _ := hrd
  clear hw hrd
  simp only at k1
  go_enter Tryz.func142, Tryz.ntmps142
  go_wp2_with fail
  go_ret
  exact ⟨_, rfl, Below.refl _ _, HRD.out⟩
set_option maxRecDepth 100000 in
set_option maxHeartbeats 4000000 in
theorem rForced (T g : Nat) (fv : Value) (mn : Int) (c : Cf) (n : Nat) (hrec : WthC T g fv mn c n) (s U : Im) (ks : List Kf) (p : Nat) (l r : Ln) (w : World) (rv : Value) (hp : s.nds[p]? = some (l, false)) (hcur : s.cur = l) (hks : s.ks = ⟨1, (p : Int), 0, 0, r⟩ :: ks) (he : Ev c s.ks n s U) (hg : Gd c s) (hs : Sz c n s) (hb2k : c.bud ≤ 2000)
    (hw : WP w T g fv mn c s.nds s.stp 0 (bysK ks) (opsK ks)) (hr : Rd w T rv r) (hul : U.out = 0 → p < U.nds.length ∧ U.nds.length ≤ 900000) :
    Calls Tryz.prog 142 #[.pointer (some ⟨g, 0, none⟩), .int .i64 (p : Int), rv] w fun e w' => ∃ v, e = .returned v ∧ Fx T w w' ∧ WP w' T g fv mn c (frcN p U) U.stp U.out (bysK ks) (opsK ks) ∧ ∃ l, Rd w' T v l ∧ l.length ≤ 9000000 ∧ (U.out = 0 → l = U.cur) := by
  obtain ⟨il, hil, hl0, hl1, hl2⟩ := info_parts Tryz.infoLine
  obtain ⟨ii, hii, hn0, hn1, hn2⟩ := info_parts Tryz.infoIntN
  obtain ⟨ro, rc, rfl⟩ := hr.form
  obtain ⟨av, bv, ov, vs, bs, hw⟩ := hw
  obtain ⟨bo, bc, rfl⟩ := own_form hw.rb
  obtain ⟨oo, oc, rfl⟩ := own_form hw.ro
  have hpl := (List.getElem?_eq_some_iff.1 hp).1
  have hnd : s.nds.length ≤ 24000 := by have := hs.nd; have := hs.sb; omega
  obtain ⟨q, cap, hq, hqb, hql⟩ := hw.ra.form (by omega)
  subst hq
  have hvl : p < vs.length := by rw [hw.vl]; exact hpl
  obtain ⟨n0, n1⟩ := ncs_at vs s.nds p _ _ (List.getElem?_eq_getElem hvl) hp
  have k0 := row_cell hw.ra _ _ n0
  have k1 := row_cell hw.ra _ _ n1
  have hcap := own_cap hw.ra
  have hgl := hw.lt
  have hTw := hw.hT
  have hTg := hw.lo
  have hvsl := hw.vl
  obtain ⟨_, _, _, _, _, c5, c6, c7, _⟩ := hw.cells
  have f6 := hw.fz 6
  have f7 := hw.fz 7
  have hbl : (bysK ks).length ≤ 800000 := by have := hs.ks; rw [hks] at this; simp [bysK] at this ⊢; omega
  have hol : (opsK ks).length ≤ 800000 := by have := opens_len ks; have := hs.ks; rw [hks] at this; simp [opsK] at this ⊢; omega
  have HM : Hid (∀ w', Below w.heap.size w w' → WB w' T g fv mn c s.nds s.stp 0 (bysK ks) (opsK ks) (.slice (some ⟨q, 0, none⟩) s.nds.length cap) (.slice bo (bysK ks).length bc) (.slice oo (opsK ks).length oc) vs bs) := fun w' hb => hw.old hb
  have HR : Hid (∀ w', Below w.heap.size w w' → Rd w' T (.slice ro r.length rc) r) := fun w' hb => hr.old hb
  have HP : Hid (s.nds[p]? = some (l, false)) := hp
  clear hw hr n0 n1 hp
  simp only at k1
  have HAL : Hid (Below w.heap.size w (w.alloc (Obj.cells #[.slice ro r.length rc] 76))) := below_al _ _
  have HNB : Hid _ := heap_alloc_new w (Obj.cells #[.slice ro r.length rc] 76)
  go_enter Tryz.func142, Tryz.ntmps142
  go_wp2_with (at_builtin; go_must (refine wpList_append_lies _ rfl _ _ _ rfl T 76 il _ 1 24 Tryz.underlying50 hil hl0 hl1 hl2 rfl (by omega) (.slice bo (bysK ks).length bc) (bysK ks).length bs rfl ?hownT _ 1 _ [.slice ro r.length rc] rfl rfl ?hnewsT ?h1T (by omega) ?h63T ?hbytesT ?hbaseT _ rfl ?_))
  case hownT => exact WB.rb (HM.out _ HAL.out)
  try case hnewsT => exact World.news_of_block HNB.out
  case h1T => simp [Value.oneCell']
  case h63T => unfold maxLen; omega
  case hbytesT => omega
  case hbaseT => first | omega | (simp; omega)
  intro q5 cap5 w5 hown5 hgrow5 hat5 hlt5
  have hwA := HM.out _ HAL.out
  obtain ⟨hfx5, hw5⟩ := WB.pushB hwA (HR.out _ HAL.out) hown5 hgrow5
  have hblk5 := grown_type hwA.rb hgrow5 (by decide) hwA.blk
  have kb := cell_of_row w5 g 6 _ _ _ hblk5
  have kc := cell_of_row w5 g 7 _ _ _ hblk5
  have kd := cell_of_row w5 g 5 _ _ _ hblk5
  simp only [List.getElem?_toArray, List.getElem?_cons_succ, List.getElem?_cons_zero] at kb kc kd
  have kf := frozen_of_row w5 g 6 _ _ hblk5
  have kg := frozen_of_row w5 g 7 _ _ hblk5
  have hg5 : g < w5.heap.size := (Array.getElem?_eq_some_iff.1 hblk5).1
  obtain ⟨W6, hW6⟩ : ∃ W6, W6 = w5.setCell ⟨g, 6, none⟩ (.slice (some ⟨q5, 0, none⟩) ((bysK ks).length + 1) cap5) := ⟨_, rfl⟩
  have HF6 : Hid (Fx T w W6) := by rw [hW6]; exact (Fx.of HAL.out hTw).trans hfx5
  have HW6 : Hid (WB W6 T g fv mn c s.nds s.stp 0 (bysK ks ++ [r]) (opsK ks) (.slice (some ⟨q, 0, none⟩) s.nds.length cap) (.slice (some ⟨q5, 0, none⟩) ((bysK ks).length + 1) cap5) (.slice oo (opsK ks).length oc) vs (bs ++ [.slice ro r.length rc])) := by rw [hW6]; exact hw5
  clear hown5 hgrow5 hat5 hfx5 hw5 hblk5 hwA c6 f6 c5 c7 f7 k0 k1
  have HAL7 : Hid (Below W6.heap.size W6 (W6.alloc (Obj.cells #[.int .i64 (p : Int)] 3))) := below_al _ _
  have HNB7 : Hid _ := heap_alloc_new W6 (Obj.cells #[.int .i64 (p : Int)] 3)
  have hs6 : W6.heap.size = w5.heap.size := by rw [hW6, sz_setc]
  rw [hs6] at HNB7
  rw [hW6] at HNB7 HAL7
  have HW6' := HW6
  have HF6' := HF6
  rw [hW6] at HW6' HF6'
  clear HW6 HF6 hs6 hW6 W6
  go_wp2_with (at_builtin; go_must (refine wpList_append_lies _ rfl _ _ _ rfl T 3 ii _ 1 8 Tryz.underlying35 hii hn0 hn1 hn2 rfl (by omega) (.slice oo (opsK ks).length oc) (opsK ks).length (ints (opsK ks)) rfl ?hownU _ 1 _ [.int .i64 (p : Int)] rfl rfl ?hnewsU ?h1U (by omega) ?h63U ?hbytesU ?hbaseU _ rfl ?_))
  case hownU => exact WB.ro (WB.old HW6'.out HAL7.out)
  try case hnewsU => exact World.news_of_block HNB7.out
  case h1U => simp [Value.oneCell']
  case h63U => unfold maxLen; omega
  case hbytesU => omega
  case hbaseU => first | omega | (simp; omega)
  intro q8 cap8 w8 hown8 hgrow8 hat8 hlt8
  have hwB := WB.old HW6'.out HAL7.out
  obtain ⟨hfx9, hw9⟩ := WB.pushO hwB hown8 hgrow8
  have hblk8 := grown_type hwB.ro hgrow8 (by decide) hwB.blk
  have ka := cell_of_row w8 g 7 _ _ _ hblk8
  have ke := cell_of_row w8 g 5 _ _ _ hblk8
  simp only [List.getElem?_toArray, List.getElem?_cons_succ, List.getElem?_cons_zero] at ka ke
  have kh := frozen_of_row w8 g 7 _ _ hblk8
  have hg8 : g < w8.heap.size := (Array.getElem?_eq_some_iff.1 hblk8).1
  have HF9 : Hid (Fx T w (w8.setCell ⟨g, 7, none⟩ (.slice (some ⟨q8, 0, none⟩) ((opsK ks).length + 1) cap8))) := (HF6'.out.trans (Fx.of HAL7.out (by rw [sz_setc]; omega))).trans hfx9
  obtain ⟨n0, n1⟩ := ncs_at vs s.nds p _ _ (List.getElem?_eq_getElem hvl) HP.out
  have k0 := row_cell hw9.ra _ _ n0
  have hrd9 := hw9.rv p _ _ (List.getElem?_eq_getElem hvl) HP.out
  have hq9 : q < w8.heap.size := by
    obtain ⟨cs, hh⟩ := rowB hw9.ra
    have := (Array.getElem?_eq_some_iff.1 hh).1
    rw [sz_setc] at this; exact this
  have hqg : q ≠ g := by
    intro e
    obtain ⟨cs, hh⟩ := rowB hw9.ra
    rw [e, hw9.blk] at hh
    simp at hh
  generalize hvv : vs[p] = v at *
  obtain ⟨vo, vc, hvf⟩ := hrd9.form
  have HVV : Hid _ := hvv
  subst hvf
  have HC : Hid _ := hrec s U _ _ he hg hs (by rw [hks, bysK_cons, opsK_yes ks rfl]; exact ⟨_, _, _, _, _, hw9⟩) (by rw [hcur]; exact hrd9)
  rw [hks, bysK_cons, opsK_yes ks rfl] at HC
  simp only at k0 HC
  rw [cell_set_other (by exact hqg)] at k0
  clear hown8 hgrow8 hat8 hfx9 hw9 hblk8 hwB kb kc kd kf kg n0 n1 hrd9 hvv
  go_wp2_with fail
  refine (show Calls _ _ _ _ _ from HC.out).mono ?_
  rintro e w10 ⟨v, rfl, hf10, hw10, l10, hl10, hll10, hlu10⟩
  have hr10 : U.out = 0 → Rd w10 T v U.cur := fun h => by rw [← hlu10 h]; exact hl10
  clear HC
  have HF10 : Hid (Fx T w w10) := HF9.out.trans hf10
  obtain ⟨av10, bv10, ov10, vs10, bs10, hw10⟩ := hw10
  obtain ⟨qb, capb, rfl, hqbb, hqbl⟩ := hw10.rb.form (by simp)
  obtain ⟨qo, capo, rfl, hqob, hqol⟩ := hw10.ro.form (by simp)
  have hbl7 : (bysK ks ++ [r]).length = (bysK ks).length + 1 := by simp
  have hol7 : (opsK ks ++ [(p : Int)]).length = (opsK ks).length + 1 := by simp
  rw [hbl7, hol7] at hw10
  obtain ⟨_, _, _, _, _, d5, d6, d7, d8⟩ := hw10.cells
  have e6 := hw10.fz 6
  have e7 := hw10.fz 7
  have hg10 := hw10.lt
  have hcap6 := own_cap hw10.rb
  have hcap7 := own_cap hw10.ro
  obtain ⟨hfx11, hw11⟩ := hw10.popB rfl
  obtain ⟨hfx12, hw12⟩ := hw11.popO rfl
  have HF12 : Hid _ := (HF10.out.trans hfx11).trans hfx12
  have HW12 : Hid _ := hw12
  by_cases hU : U.out = 0
  · have hrd12 := Rd.keep (Rd.keep (hr10 hU) hfx11) hfx12
    obtain ⟨hpU, hnU⟩ := hul hU
    rw [hU] at d8
    obtain ⟨qa, capa, hqa, hqab, hqal⟩ := hw12.ra.form (by omega)
    subst hqa
    have hcapa := own_cap hw12.ra
    have hvl12 : p < vs10.length := by rw [hw12.vl]; exact hpU
    obtain ⟨o0, o1⟩ := ncs_at vs10 U.nds p _ _ (List.getElem?_eq_getElem hvl12) (List.getElem?_eq_getElem hpU)
    have y0 := row_cell hw12.ra _ _ o0
    have y1 := row_cell hw12.ra _ _ o1
    have z0 := rowF hw12.ra (p * 2)
    have z1 := rowF hw12.ra (p * 2 + 1)
    obtain ⟨hfx13, hw13⟩ := hw12.layN (b := true) rfl hrd12 hpU
    have HRD13 : Hid _ := Rd.keep hrd12 hfx13
    have HF13 : Hid _ := HF12.out.trans hfx13
    have HN13 : Hid (frcN p U = U.nds.set p (U.cur, true)) := if_pos hU
    obtain ⟨vo2, vc2, rfl⟩ := hrd12.form
    rw [hU] at hw13
    have HW13 : Hid _ := hw13
    clear hw10 hw11 hw12 hfx11 hfx12 hfx13 hw13 o0 o1 hr10 hf10 hrd12
    go_wp2_with fail
    go_region
    go_wp2_with fail
    go_region
    go_wp2_with fail
    go_ret
    refine ⟨_, rfl, HF13.out.drew.drew, ?_, U.cur, Rd.old HRD13.out (Below.drew (Below.drew (Below.refl _ _))), by rw [← hlu10 hU]; exact hll10, fun _ => rfl⟩
    rw [HN13.out, hU]
    exact WP.old ⟨_, _, _, _, _, HW13.out⟩ (Below.drew (Below.drew (Below.refl _ _)))
  · have hU2 : (U.out == 0) = false := by simpa using hU
    have HN13 : Hid (frcN p U = U.nds) := if_neg hU
    have HL12 : Hid _ := Rd.keep (Rd.keep hl10 hfx11) hfx12
    obtain ⟨vo2, vc2, rfl⟩ := hl10.form
    clear hw10 hw11 hw12 hfx11 hfx12 hr10 hf10 hl10
    go_wp2_with fail
    go_region
    go_wp2_with fail
    go_region
    go_wp2_with fail
    go_ret
    exact ⟨_, rfl, HF12.out.drew.drew, by rw [HN13.out]; exact WP.old ⟨_, _, _, _, _, HW12.out⟩ (Below.drew (Below.drew (Below.refl _ _))), l10, Rd.old HL12.out (Below.drew (Below.drew (Below.refl _ _))), hll10, fun h => absurd h hU⟩

end Go.Proofs.YtnndoagpbcacdaaGreatDoor
