import Derived.Test.YtnndoagpbcacdaaGreatDoorM8
namespace Go.Proofs.YtnndoagpbcacdaaGreatDoor
open Go.RowKit

/-! Package machine: room.go, to its end. -/
section
variable {w w' w2 : World} {B mb T : Nat} {fv : Value} {c : Cf} {s : Ms} {K : Nat → Prop} {sv rv nv ev : Value} {vs : List Value}
theorem MSt.nilE (h : MSt w B mb fv c s K sv rv nv ev vs) : MSt (w.setCell ⟨mb, 6, none⟩ (.slice none 0 0)) B mb fv c { s with fre := [] } K sv rv nv (.slice none 0 0) vs :=
  ⟨blk_set _ h.blk, h.lo, ownsRow_set h.rs h.blk (by decide), ownsRow_set h.rr h.blk (by decide), ownsRow_set h.rn h.blk (by decide), World.ownsRow_nil _ _ _ _, h.vl,
    fun j hj => by obtain ⟨v, h1, h2, h3⟩ := h.rows j hj; exact ⟨v, h1, ownsRow_set h2 h.blk (by decide), h3⟩, fun k hk => by have := h.klt k hk; rw [size_set]; exact this, fun k hk => by obtain ⟨a, b, d, e, _⟩ := h.sep k hk; exact ⟨a, b, d, e, by simp [Value.ownBlock]⟩⟩
/-- A list of numbers that is not the machine's grows. -/
theorem MSt.grownI {Bx n : Nat} {pv : Value} {ys : List Value} (h : MSt w B mb fv c s K sv rv nv ev vs) (hr : w.ownsRow Bx 3 1 pv n ys) (hg : w.grownBy w2 pv.ownBlock) (hne : ∀ k, ev.ownBlock = some k → pv.ownBlock ≠ some k) : MSt w2 B mb fv c s K sv rv nv ev vs := by
  refine ⟨grown_type hr hg (by decide) h.blk, h.lo, own_grown_type hr hg (by decide) h.rs, own_grown_type hr hg (by decide) h.rr, own_grown_type hr hg (by decide) h.rn, h.re.kept hg ?_, h.vl, fun j hj => ?_, fun k hk => Nat.lt_of_lt_of_le (h.klt k hk) hg.size, h.sep⟩
  · cases hq : ev.ownBlock with
    | none => exact .inl rfl
    | some k => right; exact fun e => hne k hq e.symm
  · obtain ⟨v, h1, h2, h3⟩ := h.rows j hj
    exact ⟨v, h1, own_grown_type hr hg (by decide) h2, h3⟩
end

set_option maxHeartbeats 2000000 in
theorem mFreeNodes (B mb : Nat) (fv : Value) (c : Cf) (s : Ms) (K : Nat → Prop) (w : World) (h : MP w B mb fv c s K) (hl1 : s.nds.length ≤ 1099511627770) (hl2 : s.stk.length ≤ 1099511627770) (hl3 : s.frs.length ≤ 1099511627770) (hl4 : ∀ n ∈ s.nds, n.1.length ≤ 1099511627770) :
    Calls Tryz.prog 161 #[.pointer (some ⟨mb, 0, none⟩)] w fun e w' => (∃ v, e = .returned v) ∧ Below B w w' ∧ Kept K w w' ∧ MP w' B mb fv c (freeM s) K := by
  obtain ⟨sv, rv, nv, ev, vs, h⟩ := h
  obtain ⟨ii, hi, hz0, hz1, hz2⟩ := info_parts Tryz.infoIntM
  have hB0 : B ≤ w.heap.size := by have := h.lt; have := h.lo; omega
  have hlo := h.lo
  have HC : Hid _ := mNeeded B mb fv c s K sv rv nv ev vs w h hl1 hl2 hl3 hl4
  have HT : Hid _ := h.mlt
  have HM : Hid _ := h
  clear h
  go_enter Tryz.func161, Tryz.ntmps161
  go_wp2_with fail
  refine (show Calls _ _ _ _ _ from HC.out).mono ?_
  rintro e w1 ⟨v, rfl, hb1, hr1⟩
  clear HC
  have hm1 := (HM.out.old hb1).fromT HT.out
  have HV : Hid (∀ k, v.ownBlock = some k → (K k ∨ (w.heap.size ≤ k ∧ k < w1.heap.size))) := fun k hk => .inr (hr1.lt k hk)
  obtain ⟨vo, vc, rfl⟩ := own_form hr1
  have HR1 : Hid _ := hr1
  have hs1 := hb1.size
  have c6 := hm1.c6
  have f6 := hm1.fz 6
  have hmb := hm1.lt
  have HM1 : Hid (MP (w1.setCell ⟨mb, 6, none⟩ (.slice none 0 0)) B mb fv c { s with fre := [] } (fun k => K k ∨ (w.heap.size ≤ k ∧ k < w1.heap.size))) := ⟨_, _, _, _, _, hm1.nilE⟩
  have HB1 : Hid (Below B w (w1.setCell ⟨mb, 6, none⟩ (.slice none 0 0))) := (hb1.mono hB0).setCell (by exact hlo) _
  have HK1 : Hid (Kept (fun k => K k ∨ (w.heap.size ≤ k ∧ k < w1.heap.size)) w1 (w1.setCell ⟨mb, 6, none⟩ (.slice none 0 0))) := Kept.set hm1.noK
  have HK0 : Hid (Kept K w w1) := Kept.old hb1
  have HLN : Hid ((needM s).1.length = s.nds.length) := by
    obtain ⟨h, _⟩ := need_ok (s := s) (R := fun _ => True) (fun _ _ _ _ _ => trivial) (fun _ _ _ => trivial) (fun _ _ _ => trivial)
    exact h.len
  clear hm1 hr1 hb1 HM HT
  go_wp2_with fail
  clear c6 f6
  have HFE : Hid (freeM s = { s with fre := offs 0 (needM s).1 [] }) := rfl
  generalize hL : (needM s).1 = L at *
  clear hL
  go_loopw [12] (fun y wr => ∃ (i : Nat) (F : List Int), i ≤ s.nds.length ∧ F.length ≤ i ∧ y = .int .i64 i ∧ mb < wr.heap.size ∧ w1.heap.size ≤ wr.heap.size ∧ Hid (Below B w wr) ∧ Hid (Kept (fun k => K k ∨ (w.heap.size ≤ k ∧ k < w1.heap.size)) w1 wr) ∧ Hid (MP wr B mb fv c { s with fre := F } (fun k => K k ∨ (w.heap.size ≤ k ∧ k < w1.heap.size))) ∧ Hid (offs i (L.drop i) F = offs 0 L [])) (fun y _ => s.nds.length - (intOf y).toNat)
  case atStart => exact ⟨0, [], Nat.zero_le _, Nat.le_refl _, rfl, by rw [size_set]; exact hmb, by rw [size_set]; exact Nat.le_refl _, HB1.out, HK1.out, HM1.out, rfl⟩
  case round =>
    clear HB1 HK1 HM1 hmb
    obtain ⟨i, F, hi', hF, rfl, hmb, hsz, HB, HK, HM, HE⟩ := hrel
    by_cases hil : i < s.nds.length
    · have hrow := own_kept HR1.out HK.out HV.out
      obtain ⟨q, cap', hq, hqB, hqlt⟩ := hrow.form (by omega)
      cases hq
      have hiL : i < L.length := by rw [HLN.out]; exact hil
      have n0 := row_cell hrow i _ (bools_at L i hiL)
      have HE2 : Hid (offs (i + 1) (L.drop (i + 1)) (if L[i] then F else (i : Int) :: F) = offs 0 L []) := by rw [← HE.out, List.drop_eq_getElem_cons hiL]; rfl
      clear hrow
      cases hb : L[i] with
      | true =>
        rw [hb] at n0 HE2
        clear hb
        go_wp2_with fail
        go_roundw
        case rel => exact ⟨i + 1, F, hil, by omega, by go_num, hmb, hsz, HB.out, HK.out, HM.out, HE2.out⟩
        case measure => simp [intOf]; omega
      | false =>
        rw [hb] at n0 HE2
        clear hb
        obtain ⟨sv, rv, nv, ev, vs, hm⟩ := HM.out
        obtain ⟨eo, ec, rfl⟩ := own_form hm.re
        have c6 := hm.c6
        have HMX : Hid _ := hm
        simp only at c6
        clear hm
        go_wp2_with (at_builtin; go_must (refine wpList_append_lies _ rfl _ _ _ rfl B 3 ii _ 1 8 Tryz.underlying35 hi hz0 hz1 hz2 rfl (by omega) (.slice eo F.length ec) F.length (ints F.reverse) rfl ?hown _ 1 _ [.int .i64 (i : Int)] rfl rfl ?hnews ?h1 (by omega) ?h63 ?hbytes ?hbase _ rfl ?_))
        case hown => exact World.ownsRow.alloc HMX.out.re _
        try case hnews => exact World.news_of_block (heap_alloc_new wr _)
        case h1 => simp [Value.oneCell']
        case h63 => unfold maxLen; omega
        case hbytes => omega
        case hbase => first | omega | (simp; omega)
        intro g cap2 w2 hown2 hgrow2 hat2 hlt2
        have hmA := HMX.out.old (below_al _ (Obj.cells #[.int .i64 (i : Int)] 3))
        have HP : Hid _ := MSt.pushE (x := (i : Int)) hmA hown2 hgrow2 (by rw [World.size_alloc]; exact hat2)
        have hb2 := grown_type hmA.re hgrow2 (by decide) hmA.blk
        have k6 := cell_of_row w2 mb 6 _ _ _ hb2
        simp only [List.getElem?_toArray, List.getElem?_cons_succ, List.getElem?_cons_zero] at k6
        have f6 := frozen_of_row w2 mb 6 _ _ hb2
        have hmb2 : mb < w2.heap.size := (Array.getElem?_eq_some_iff.1 hb2).1
        have hs2 : wr.heap.size ≤ w2.heap.size := by have := hgrow2.size; simp at this; omega
        have hBr : B ≤ wr.heap.size := by omega
        clear hown2 hgrow2 hat2 hlt2 hmA hb2 c6
        go_wp2_with fail
        go_roundw
        case rel => exact ⟨i + 1, (i : Int) :: F, hil, by simp; omega, by go_num, by rw [size_set]; exact hmb2, by rw [size_set]; omega, (HB.out.alloc hBr _).trans HP.out.1, (HK.out.trans (Kept.old (below_al _ _)) hsz).trans HP.out.2.1 (by simp; omega), ⟨_, _, _, _, _, HP.out.2.2⟩, HE2.out⟩
        case measure => simp [intOf]; omega
    · have hd : decide ((i : Int) < (s.nds.length : Int)) = false := by simp; omega
      have hd2 : ¬ (i : Int) < (s.nds.length : Int) := by omega
      have HF : Hid (F = offs 0 L []) := by rw [← HE.out, show L.drop i = [] from List.drop_eq_nil_of_le (by rw [HLN.out]; omega)]; rfl
      go_wp2_with fail
      exact bodyPost_end (v := .tuple #[]) (by simp [results, Tryz.results161, go_sem]) rfl ⟨⟨_, rfl⟩, HB.out, HK0.out.trans (HK.out.less fun k hk => .inl hk) hs1, by rw [HFE.out, ← HF.out]; exact MP.less HM.out fun k hk => .inl hk⟩

set_option maxHeartbeats 2000000 in
theorem mMakeRoom (n : Int) (B mb : Nat) (fv : Value) (c : Cf) (s : Ms) (K : Nat → Prop) (w : World) (h : MP w B mb fv c s K) (hl1 : s.nds.length ≤ 1099511627770) (hl2 : s.stk.length ≤ 1099511627770) (hl3 : s.frs.length ≤ 1099511627770) (hl4 : ∀ n ∈ s.nds, n.1.length ≤ 1099511627770) (hl5 : s.fre.length ≤ 1099511627770) (hl6 : (freeM s).fre.length ≤ 1099511627770) (hh1 : 0 ≤ c.hp) (hh2 : c.hp ≤ 1099511627770) :
    Calls Tryz.prog 117 #[.pointer (some ⟨mb, 0, none⟩), .int .i64 n] w fun e w' => e = .returned (.bool (decide (n ≤ roomM c (makeM c n s)))) ∧ Below B w w' ∧ Kept K w w' ∧ MP w' B mb fv c (makeM c n s) K := by
  have HC1 : Hid _ := mRoom B mb fv c s K w h hl1 hl5 hh1 hh2
  have HM : Hid (∀ m, MP (w.drewN m) B mb fv c s K) := fun m => h.old (below_drewN (Below.refl _ _) m)
  by_cases hr : roomM c s < n
  · have hd : decide (roomM c s < n) = true := by simpa using hr
    have HE : Hid (makeM c n s = freeM s) := if_pos hr
    rw [HE.out]
    have HC2 : Hid (∀ m, Calls Tryz.prog 161 #[.pointer (some ⟨mb, 0, none⟩)] (w.drewN m) fun e w' => (∃ v, e = .returned v) ∧ Below B (w.drewN m) w' ∧ Kept K (w.drewN m) w' ∧ MP w' B mb fv c (freeM s) K) := fun m => mFreeNodes B mb fv c s K _ (HM.out m) hl1 hl2 hl3 hl4
    generalize hrs : roomM c s = rs at *
    clear h HE hrs
    go_enter Tryz.func117, Tryz.ntmps117
    go_wp2_with fail
    refine (show Calls _ _ _ _ _ from HC1.out).mono ?_
    rintro e w1 ⟨rfl, m, rfl⟩
    clear HC1
    go_wp2_with fail
    refine (show Calls _ _ _ _ _ from HC2.out m).mono ?_
    rintro e w2 ⟨⟨v2, rfl⟩, hb2, hk2, hm2⟩
    have HC3 : Hid _ := mRoom B mb fv c (freeM s) K w2 hm2 hl1 hl6 hh1 hh2
    have HB2 : Hid (Below B w w2) := (below_drewN (Below.refl B w) m).trans hb2
    have HK2 : Hid (Kept K w w2) := (Kept.old (below_drewN (Below.refl _ w) m)).trans hk2 (Nat.le_refl _)
    have HM2 : Hid (∀ m, MP (w2.drewN m) B mb fv c (freeM s) K) := fun m => hm2.old (below_drewN (Below.refl _ _) m)
    clear HC2 hb2 hk2 hm2
    go_wp2_with fail
    refine (show Calls _ _ _ _ _ from HC3.out).mono ?_
    rintro e w3 ⟨rfl, m3, rfl⟩
    clear HC3
    go_wp2_with fail
    go_ret
    exact ⟨rfl, below_drewN HB2.out m3, HK2.out.trans (Kept.old (below_drewN (Below.refl _ w2) m3)) HB2.out.size, HM2.out m3⟩
  · have hd : decide (roomM c s < n) = false := by simpa using hr
    have HE : Hid (makeM c n s = s) := if_neg hr
    rw [HE.out]
    generalize hrs : roomM c s = rs at *
    clear h HE hrs
    go_enter Tryz.func117, Tryz.ntmps117
    go_wp2_with fail
    refine (show Calls _ _ _ _ _ from HC1.out).mono ?_
    rintro e w1 ⟨rfl, m, rfl⟩
    clear HC1
    have hd3 : decide (n ≤ rs) = true := by simp; omega
    go_wp2_with fail
    go_ret
    exact ⟨by rw [hd3]; rfl, below_drewN (Below.refl B w) m, Kept.old (below_drewN (Below.refl _ w) m), HM.out m⟩

set_option maxHeartbeats 2000000 in
theorem mTakePlace (B mb : Nat) (fv : Value) (c : Cf) (s : Ms) (K : Nat → Prop) (sv rv nv ev : Value) (vs : List Value) (w : World) (h : MSt w B mb fv c s K sv rv nv ev vs) (hl1 : s.nds.length ≤ 1099511627770) (hl2 : s.fre.length ≤ 1099511627770) :
    Calls Tryz.prog 162 #[.pointer (some ⟨mb, 0, none⟩)] w fun e w' => e = .returned (.int .i64 (takeP s)) ∧ Below B w w' ∧ Kept K w w' ∧ ∃ nv' ev' vs', MSt w' B mb fv c (takeM s) K sv rv nv' ev' vs' ∧ ev'.ownBlock = ev.ownBlock := by
  obtain ⟨eo, ec, rfl⟩ := own_form h.re
  have c6 := h.c6
  have hmb := h.lt
  have hlo := h.lo
  cases hf : s.fre with
  | nil =>
    obtain ⟨ii, hi, hz0, hz1, hz2⟩ := info_parts Tryz.infoNode
    obtain ⟨no, nc, rfl⟩ := own_form h.rn
    have HP0 : Hid (takeP s = s.nds.length) := by show _ = _; unfold takeP; rw [hf]
    have HE : Hid (takeM s = { s with nds := s.nds ++ [([], false)] }) := by show _ = _; unfold takeM; rw [hf]
    rw [HP0.out, HE.out]
    have HM : Hid _ := h
    have c5 := h.c5
    rw [hf] at c6
    simp only [List.length_nil] at c6
    have HL : Hid (s.fre.length = 0) := by rw [hf]; rfl
    clear h hf HE HP0
    go_enter Tryz.func162, Tryz.ntmps162
    go_wp2_with (at_builtin; go_must (refine wpList_append_lies _ rfl _ _ _ rfl B 188 ii _ 2 32 Tryz.underlying91 hi hz0 hz1 hz2 rfl (by omega) (.slice no s.nds.length nc) s.nds.length (ncs vs s.nds) rfl ?hown _ 1 _ [.slice none 0 0, .bool false] rfl rfl ?hnews ?h1 (by omega) ?h63 ?hbytes ?hbase _ rfl ?_))
    case hown => exact World.ownsRow.alloc HM.out.rn _
    try case hnews => exact World.news_of_block (heap_alloc_new w _)
    case h1 => simp [Value.oneCell']
    case h63 => unfold maxLen; omega
    case hbytes => omega
    case hbase => first | omega | (simp; omega)
    intro g cap2 w2 hown2 hgrow2 hat2 hlt2
    have hmA := HM.out.old (below_al _ (Obj.cells #[.slice none 0 0, .bool false] 188))
    have HP : Hid _ := MSt.pushN hmA hown2 hgrow2 (by rw [World.size_alloc]; exact hat2)
    have hb2 := grown_type hmA.rn hgrow2 (by decide) hmA.blk
    have k6 := cell_of_row w2 mb 5 _ _ _ hb2
    simp only [List.getElem?_toArray, List.getElem?_cons_succ, List.getElem?_cons_zero] at k6
    have f6 := frozen_of_row w2 mb 5 _ _ hb2
    have hmb2 : mb < w2.heap.size := (Array.getElem?_eq_some_iff.1 hb2).1
    have hBr : B ≤ w.heap.size := by omega
    clear hown2 hgrow2 hat2 hlt2 hmA hb2 c6 c5
    go_wp2_with fail
    go_ret
    exact ⟨by go_num, ((Below.refl B w).alloc hBr _).trans HP.out.1, (Kept.old (below_al _ _)).trans HP.out.2.1 (by simp), _, _, _, HP.out.2.2, by rw [HL.out]⟩
  | cons x r =>
    have hl : s.fre.length = r.length + 1 := by rw [hf]; rfl
    obtain ⟨q, cap', hq, hqB, hqlt⟩ := h.re.form (by omega)
    cases hq
    have HP0 : Hid (takeP s = x) := by show _ = _; unfold takeP; rw [hf]
    have HE : Hid (takeM s = { s with fre := r }) := by show _ = _; unfold takeM; rw [hf]
    rw [HP0.out, HE.out]
    have k0 := row_cell h.re r.length (.int .i64 x) (by rw [hf, ints_revc, List.getElem?_append_right (by simp [ints])]; simp [ints])
    have hfz := h.fz 6
    have hcap := own_capM h.re
    have hqm := own_ne_blk h.re h.blk (by decide) q rfl
    rw [hl] at c6 hl2 hcap
    have HM : Hid (MSt (w.setCell ⟨mb, 6, none⟩ (.slice (some ⟨q, 0, none⟩) r.length ec)) B mb fv c { s with fre := r } K sv rv nv (.slice (some ⟨q, 0, none⟩) r.length ec) vs) := MSt.popE (by rw [hl] at h; exact h) hf
    have HK : Hid (¬ K mb) := h.noK
    clear h hf HP0 HE hl
    go_enter Tryz.func162, Tryz.ntmps162
    go_wp2_with fail
    go_ret
    exact ⟨rfl, (Below.refl B w).setCell (by exact hlo) _, Kept.set HK.out, _, _, _, HM.out, rfl⟩

end Go.Proofs.YtnndoagpbcacdaaGreatDoor
