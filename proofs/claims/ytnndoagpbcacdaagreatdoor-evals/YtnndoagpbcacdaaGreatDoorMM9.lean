import Derived.Test.YtnndoagpbcacdaaGreatDoorM8
namespace Go.Proofs.YtnndoagpbcacdaaGreatDoor
open Go.RowKit

/-! Package machine: room.go, to its end. -/
section
variable {w w' w2 : World} {B mb T : Nat} {fv : Value} {c : Cf} {s : Ms} {K : Nat → Prop} {sv rv nv ev : Value} {vs : List Value}
theorem MSt.nilE (h : MSt w B mb fv c s K sv rv nv ev vs) : MSt (w.setCell ⟨mb, 6, none⟩ (.slice none 0 0)) B mb fv c { s with fre := [] } K sv rv nv (.slice none 0 0) vs :=
  ⟨blk_set _ h.blk, h.lo, ownsRow_set h.rs h.blk (by decide), ownsRow_set h.rr h.blk (by decide), ownsRow_set h.rn h.blk (by decide), World.ownsRow_nil _ _ _ _, h.vl,
    fun j hj => by obtain ⟨v, h1, h2, h3⟩ := h.rows j hj; exact ⟨v, h1, ownsRow_set h2 h.blk (by decide), h3⟩, fun k hk => by have := h.klt k hk; rw [size_set]; exact this, fun k hk => by obtain ⟨a, b, d, e, _⟩ := h.sep k hk; exact ⟨a, b, d, e, by simp [Value.ownBlock]⟩⟩
/-- A list of numbers that is not the machine's grows. -/
theorem MSt.grownI {Bx n : Nat} {pv : Value} {ys : List Value} (h : MSt w B mb fv c s K sv rv nv ev vs) (hr : w.ownsRow Bx 3 1 pv n ys) (hg : w.grownBy w2 pv.ownBlock) (hne : ∀ k, ev.ownBlock = some k → pv.ownBlock ≠ some k) : MSt w2 B mb fv c s K sv rv nv ev vs := by
  refine ⟨grown_type hr hg (by decide) h.blk, h.lo, own_grown_type hr hg (by decide) h.rs, own_grown_type hr hg (by decide) h.rr, own_grown_type hr hg (by decide) h.rn, h.re.kept hg ?_, h.vl, fun j hj => ?_, fun k hk => Nat.lt_of_lt_of_le (h.klt k hk) hg.size, h.sep⟩
  · cases hq : ev.ownBlock with
    | none => exact .inl rfl
    | some k => right; exact fun e => hne k hq e.symm
  · obtain ⟨v, h1, h2, h3⟩ := h.rows j hj
    exact ⟨v, h1, own_grown_type hr hg (by decide) h2, h3⟩
end

set_option maxHeartbeats 2000000 in
theorem mFreeNodes (B mb : Nat) (fv : Value) (c : Cf) (s : Ms) (K : Nat → Prop) (w : World) (h : MP w B mb fv c s K) (hl1 : s.nds.length ≤ 1099511627770) (hl2 : s.stk.length ≤ 1099511627770) (hl3 : s.frs.length ≤ 1099511627770) (hl4 : ∀ n ∈ s.nds, n.1.length ≤ 1099511627770) :
    Calls Tryz.prog 161 #[.pointer (some ⟨mb, 0, none⟩)] w fun e w' => (∃ v, e = .returned v) ∧ Below B w w' ∧ Kept K w w' ∧ MP w' B mb fv c (freeM s) K := by
  obtain ⟨sv, rv, nv, ev, vs, h⟩ := h
  obtain ⟨ii, hi, hz0, hz1, hz2⟩ := info_parts Tryz.infoIntM
  have hB0 : B ≤ w.heap.size := by have := h.lt; have := h.lo; omega
  have hlo := h.lo
  have HC : Hid _ := mNeeded B mb fv c s K sv rv nv ev vs w h hl1 hl2 hl3 hl4
  have HT : Hid _ := h.mlt
  have HM : Hid _ := h
  clear h
  go_enter Tryz.func161, Tryz.ntmps161
  go_wp2_with fail
  refine (show Calls _ _ _ _ _ from HC.out).mono ?_
  rintro e w1 ⟨v, rfl, hb1, hr1⟩
  clear HC
  have hm1 := (HM.out.old hb1).fromT HT.out
  have HV : Hid (∀ k, v.ownBlock = some k → (K k ∨ (w.heap.size ≤ k ∧ k < w1.heap.size))) := fun k hk => .inr (hr1.lt k hk)
  obtain ⟨vo, vc, rfl⟩ := own_form hr1
  have HR1 : Hid _ := hr1
  have hs1 := hb1.size
  have c6 := hm1.c6
  have f6 := hm1.fz 6
  have hmb := hm1.lt
  have HM1 : Hid (MP (w1.setCell ⟨mb, 6, none⟩ (.slice none 0 0)) B mb fv c { s with fre := [] } (fun k => K k ∨ (w.heap.size ≤ k ∧ k < w1.heap.size))) := ⟨_, _, _, _, _, hm1.nilE⟩
  have HB1 : Hid (Below B w (w1.setCell ⟨mb, 6, none⟩ (.slice none 0 0))) := (hb1.mono hB0).setCell (by exact hlo) _
  have HK1 : Hid (Kept (fun k => K k ∨ (w.heap.size ≤ k ∧ k < w1.heap.size)) w1 (w1.setCell ⟨mb, 6, none⟩ (.slice none 0 0))) := Kept.set hm1.noK
  have HK0 : Hid (Kept K w w1) := Kept.old hb1
  have HLN : Hid ((needM s).1.length = s.nds.length) := by
    obtain ⟨h, _⟩ := need_ok (s := s) (R := fun _ => True) (fun _ _ _ _ _ => trivial) (fun _ _ _ => trivial) (fun _ _ _ => trivial)
    exact h.len
  clear hm1 hr1 hb1 HM HT
  go_wp2_with fail
  clear c6 f6
  have HFE : Hid (freeM s = { s with fre := offs 0 (needM s).1 [] }) := rfl
  generalize hL : (needM s).1 = L at *
  clear hL
  go_loopw [12] (fun y wr => ∃ (i : Nat) (F : List Int), i ≤ s.nds.length ∧ F.length ≤ i ∧ y = .int .i64 i ∧ mb < wr.heap.size ∧ w1.heap.size ≤ wr.heap.size ∧ Hid (Below B w wr) ∧ Hid (Kept (fun k => K k ∨ (w.heap.size ≤ k ∧ k < w1.heap.size)) w1 wr) ∧ Hid (MP wr B mb fv c { s with fre := F } (fun k => K k ∨ (w.heap.size ≤ k ∧ k < w1.heap.size))) ∧ Hid (offs i (L.drop i) F = offs 0 L [])) (fun y _ => s.nds.length - (intOf y).toNat)
  case atStart => exact ⟨0, [], Nat.zero_le _, Nat.le_refl _, rfl, by rw [size_set]; exact hmb, by rw [size_set]; exact Nat.le_refl _, HB1.out, HK1.out, HM1.out, rfl⟩
  case round =>
    clear HB1 HK1 HM1 hmb
    obtain ⟨i, F, hi', hF, rfl, hmb, hsz, HB, HK, HM, HE⟩ := hrel
    by_cases hil : i < s.nds.length
    · have hrow := own_kept HR1.out HK.out HV.out
      obtain ⟨q, cap', hq, hqB, hqlt⟩ := hrow.form (by omega)
      cases hq
      have hiL : i < L.length := by rw [HLN.out]; exact hil
      have n0 := row_cell hrow i _ (bools_at L i hiL)
      have HE2 : Hid (offs (i + 1) (L.drop (i + 1)) (if L[i] then F else (i : Int) :: F) = offs 0 L []) := by rw [← HE.out, List.drop_eq_getElem_cons hiL]; rfl
      clear hrow
      cases hb : L[i] with
      | true =>
        rw [hb] at n0 HE2
        clear hb
        go_wp2_with fail
        go_roundw
        case rel => exact ⟨i + 1, F, hil, by omega, by go_num, hmb, hsz, HB.out, HK.out, HM.out, HE2.out⟩
        case measure => simp [intOf]; omega
      | false =>
        rw [hb] at n0 HE2
        clear hb
        obtain ⟨sv, rv, nv, ev, vs, hm⟩ := HM.out
        obtain ⟨eo, ec, rfl⟩ := own_form hm.re
        have c6 := hm.c6
        have HMX : Hid _ := hm
        simp only at c6
        clear hm
        go_wp2_with (at_builtin; go_must (refine wpList_append_lies _ rfl _ _ _ rfl B 3 ii _ 1 8 Tryz.underlying35 hi hz0 hz1 hz2 rfl (by omega) (.slice eo F.length ec) F.length (ints F.reverse) rfl ?hown _ 1 _ [.int .i64 (i : Int)] rfl rfl ?hnews ?h1 (by omega) ?h63 ?hbytes ?hbase _ rfl ?_))
        case hown => exact World.ownsRow.alloc HMX.out.re _
        try case hnews => exact World.news_of_block (heap_alloc_new wr _)
        case h1 => simp [Value.oneCell']
        case h63 => unfold maxLen; omega
        case hbytes => omega
        case hbase => first | omega | (simp; omega)
        intro g cap2 w2 hown2 hgrow2 hat2 hlt2
        have hmA := HMX.out.old (below_al _ (Obj.cells #[.int .i64 (i : Int)] 3))
        have HP : Hid _ := MSt.pushE (x := (i : Int)) hmA hown2 hgrow2 (by rw [World.size_alloc]; exact hat2)
        have hb2 := grown_type hmA.re hgrow2 (by decide) hmA.blk
        have k6 := cell_of_row w2 mb 6 _ _ _ hb2
        simp only [List.getElem?_toArray, List.getElem?_cons_succ, List.getElem?_cons_zero] at k6
        have f6 := frozen_of_row w2 mb 6 _ _ hb2
        have hmb2 : mb < w2.heap.size := (Array.getElem?_eq_some_iff.1 hb2).1
        have hs2 : wr.heap.size ≤ w2.heap.size := by have := hgrow2.size; simp at this; omega
        have hBr : B ≤ wr.heap.size := by omega
        clear hown2 hgrow2 hat2 hlt2 hmA hb2 c6
        go_wp2_with fail
        go_roundw
        case rel => exact ⟨i + 1, (i : Int) :: F, hil, by simp; omega, by go_num, by rw [size_set]; exact hmb2, by rw [size_set]; omega, (HB.out.alloc hBr _).trans HP.out.1, (HK.out.trans (Kept.old (below_al _ _)) hsz).trans HP.out.2.1 (by simp; omega), ⟨_, _, _, _, _, HP.out.2.2⟩, HE2.out⟩
        case measure => simp [intOf]; omega
    · have hd : decide ((i : Int) < (s.nds.length : Int)) = false := by simp; omega
      have hd2 : ¬ (i : Int) < (s.nds.length : Int) := by omega
      have HF : Hid (F = offs 0 L []) := by rw [← HE.out, show L.drop i = [] from List.drop_eq_nil_of_le (by rw [HLN.out]; omega)]; rfl
      go_wp2_with fail
      exact bodyPost_end (v := .tuple #[]) (by simp [results, Tryz.results161, go_sem]) rfl ⟨⟨_, rfl⟩, HB.out, HK0.out.trans (HK.out.less fun k hk => .inl hk) hs1, by rw [HFE.out, ← HF.out]; exact MP.less HM.out fun k hk => .inl hk⟩

set_option maxHeartbeats 2000000 in
theorem mMakeRoom (n : Int) (B mb : Nat) (fv : Value) (c : Cf) (s : Ms) (K : Nat → Prop) (w : World) (h : MP w B mb fv c s K) (hl1 : s.nds.length ≤ 1099511627770) (hl2 : s.stk.length ≤ 1099511627770) (hl3 : s.frs.length ≤ 1099511627770) (hl4 : ∀ n ∈ s.nds, n.1.length ≤ 1099511627770) (hl5 : s.fre.length ≤ 1099511627770) (hl6 : (freeM s).fre.length ≤ 1099511627770) (hh1 : 0 ≤ c.hp) (hh2 : c.hp ≤ 1099511627770) :
    Calls Tryz.prog 117 #[.pointer (some ⟨mb, 0, none⟩), .int .i64 n] w fun e w' => e = .returned (.bool (decide (n ≤ roomM c (makeM c n s)))) ∧ Below B w w' ∧ Kept K w w' ∧ MP w' B mb fv c (makeM c n s) K := by
  have HC1 : Hid _ := mRoom B mb fv c s K w h hl1 hl5 hh1 hh2
  have HM : Hid (∀ m, MP (w.drewN m) B mb fv c s K) := fun m => h.old (below_drewN (Below.refl _ _) m)
  by_cases hr : roomM c s < n
  · have hd : decide (roomM c s < n) = true := by simpa using hr
    have HE : Hid (makeM c n s = freeM s) := if_pos hr
    rw [HE.out]
    have HC2 : Hid (∀ m, Calls Tryz.prog 161 #[.pointer (some ⟨mb, 0, none⟩)] (w.drewN m) fun e w' => (∃ v, e = .returned v) ∧ Below B (w.drewN m) w' ∧ Kept K (w.drewN m) w' ∧ MP w' B mb fv c (freeM s) K) := fun m => mFreeNodes B mb fv c s K _ (HM.out m) hl1 hl2 hl3 hl4
    generalize hrs : roomM c s = rs at *
    clear h HE hrs
    go_enter Tryz.func117, Tryz.ntmps117
    go_wp2_with fail
    refine (show Calls _ _ _ _ _ from HC1.out).mono ?_
    rintro e w1 ⟨rfl, m, rfl⟩
    clear HC1
    go_wp2_with fail
    refine (show Calls _ _ _ _ _ from HC2.out m).mono ?_
    rintro e w2 ⟨⟨v2, rfl⟩, hb2, hk2, hm2⟩
    have HC3 : Hid _ := mRoom B mb fv c (freeM s) K w2 hm2 hl1 hl6 hh1 hh2
    have HB2 : Hid (Below B w w2) := (below_drewN (Below.refl B w) m).trans hb2
    have HK2 : Hid (Kept K w w2) := (Kept.old (below_drewN (Below.refl _ w) m)).trans hk2 (Nat.le_refl _)
    have HM2 : Hid (∀ m, MP (w2.drewN m) B mb fv c (freeM s) K) := fun m => hm2.old (below_drewN (Below.refl _ _) m)
    clear HC2 hb2 hk2 hm2
    go_wp2_with fail
    refine (show Calls _ _ _ _ _ from HC3.out).mono ?_
    rintro e w3 ⟨rfl, m3, rfl⟩
    clear HC3
    go_wp2_with fail
    go_ret
    exact ⟨rfl, below_drewN HB2.out m3, HK2.out.trans (Kept.old (below_drewN (Below.refl _ w2) m3)) HB2.out.size, HM2.out m3⟩
  · have hd : decide (roomM c s < n) = false := by simpa using hr
    have HE : Hid (makeM c n s = s) := if_neg hr
    rw [HE.out]
    generalize hrs : roomM c s = rs at *
    clear h HE hrs
    go_enter Tryz.func117, Tryz.ntmps117
    go_wp2_with fail
    refine (show Calls _ _ _ _ _ from HC1.out).mono ?_
    rintro e w1 ⟨rfl, m, rfl⟩
    clear HC1
    have hd3 : decide (n ≤ rs) = true := by simp; omega
    go_wp2_with fail
    go_ret
    exact ⟨by rw [hd3]; rfl, below_drewN (Below.refl B w) m, Kept.old (below_drewN (Below.refl _ w) m), HM.out m⟩

set_option maxHeartbeats 2000000 in
theorem mTakePlace (B mb : Nat) (fv : Value) (c : Cf) (s : Ms) (K : Nat → Prop) (sv rv nv ev : Value) (vs : List Value) (w : World) (h : MSt w B mb fv c s K sv rv nv ev vs) (hl1 : s.nds.length ≤ 1099511627770) (hl2 : s.fre.length ≤ 1099511627770) :
    Calls Tryz.prog 162 #[.pointer (some ⟨mb, 0, none⟩)] w fun e w' => e = .returned (.int .i64 (takeP s)) ∧ Below B w w' ∧ Kept K w w' ∧ ∃ nv' ev' vs', MSt w' B mb fv c (takeM s) K sv rv nv' ev' vs' ∧ ev'.ownBlock = ev.ownBlock := by
  obtain ⟨eo, ec, rfl⟩ := own_form h.re
  have c6 := h.c6
  have hmb := h.lt
  have hlo := h.lo
  cases hf : s.fre with
  | nil =>
    obtain ⟨ii, hi, hz0, hz1, hz2⟩ := info_parts Tryz.infoNode
    obtain ⟨no, nc, rfl⟩ := own_form h.rn
    have HP0 : Hid (takeP s = s.nds.length) := by show _ = _; unfold takeP; rw [hf]
    have HE : Hid (takeM s = { s with nds := s.nds ++ [([], false)] }) := by show _ = _; unfold takeM; rw [hf]
    rw [HP0.out, HE.out]
    have HM : Hid _ := h
    have c5 := h.c5
    rw [hf] at c6
    simp only [List.length_nil] at c6
    have HL : Hid (s.fre.length = 0) := by rw [hf]; rfl
    clear h hf HE HP0
    go_enter Tryz.func162, Tryz.ntmps162
    go_wp2_with (at_builtin; go_must (refine wpList_append_lies _ rfl _ _ _ rfl B 188 ii _ 2 32 Tryz.underlying91 hi hz0 hz1 hz2 rfl (by omega) (.slice no s.nds.length nc) s.nds.length (ncs vs s.nds) rfl ?hown _ 1 _ [.slice none 0 0, .bool false] rfl rfl ?hnews ?h1 (by omega) ?h63 ?hbytes ?hbase _ rfl ?_))
    case hown => exact World.ownsRow.alloc HM.out.rn _
    try case hnews => exact World.news_of_block (heap_alloc_new w _)
    case h1 => simp [Value.oneCell']
    case h63 => unfold maxLen; omega
    case hbytes => omega
    case hbase => first | omega | (simp; omega)
    intro g cap2 w2 hown2 hgrow2 hat2 hlt2
    have hmA := HM.out.old (below_al _ (Obj.cells #[.slice none 0 0, .bool false] 188))
    have HP : Hid _ := MSt.pushN hmA hown2 hgrow2 (by rw [World.size_alloc]; exact hat2)
    have hb2 := grown_type hmA.rn hgrow2 (by decide) hmA.blk
    have k6 := cell_of_row w2 mb 5 _ _ _ hb2
    simp only [List.getElem?_toArray, List.getElem?_cons_succ, List.getElem?_cons_zero] at k6
    have f6 := frozen_of_row w2 mb 5 _ _ hb2
    have hmb2 : mb < w2.heap.size := (Array.getElem?_eq_some_iff.1 hb2).1
    have hBr : B ≤ w.heap.size := by omega
    clear hown2 hgrow2 hat2 hlt2 hmA hb2 c6 c5
    go_wp2_with fail
    go_ret
    exact ⟨by go_num, ((Below.refl B w).alloc hBr _).trans HP.out.1, (Kept.old (below_al _ _)).trans HP.out.2.1 (by simp), _, _, _, HP.out.2.2, by rw [HL.out]⟩
  | cons x r =>
    have hl : s.fre.length = r.length + 1 := by rw [hf]; rfl
    obtain ⟨q, cap', hq, hqB, hqlt⟩ := h.re.form (by omega)
    cases hq
    have HP0 : Hid (takeP s = x) := by show _ = _; unfold takeP; rw [hf]
    have HE : Hid (takeM s = { s with fre := r }) := by show _ = _; unfold takeM; rw [hf]
    rw [HP0.out, HE.out]
    have k0 := row_cell h.re r.length (.int .i64 x) (by rw [hf, ints_revc, List.getElem?_append_right (by simp [ints])]; simp [ints])
    have hfz := h.fz 6
    have hcap := own_capM h.re
    have hqm := own_ne_blk h.re h.blk (by decide) q rfl
    rw [hl] at c6 hl2 hcap
    have HM : Hid (MSt (w.setCell ⟨mb, 6, none⟩ (.slice (some ⟨q, 0, none⟩) r.length ec)) B mb fv c { s with fre := r } K sv rv nv (.slice (some ⟨q, 0, none⟩) r.length ec) vs) := MSt.popE (by rw [hl] at h; exact h) hf
    have HK : Hid (¬ K mb) := h.noK
    clear h hf HP0 HE hl
    go_enter Tryz.func162, Tryz.ntmps162
    go_wp2_with fail
    go_ret
    exact ⟨rfl, (Below.refl B w).setCell (by exact hlo) _, Kept.set HK.out, _, _, _, HM.out, rfl⟩

end Go.Proofs.YtnndoagpbcacdaaGreatDoor
namespace Go.Proofs.YtnndoagpbcacdaaGreatDoor
open Go.RowKit

/-! Package machine: new places; a line's items; a value is delivered. -/
theorem takeN_snoc : ∀ (n : Nat) (s : Ms), takeN (n + 1) s = takeM (takeN n s)
  | 0, _ => rfl
  | n + 1, s => by rw [takeN, takeN_snoc n (takeM s)]; rfl
theorem takeL_snoc : ∀ (n : Nat) (s : Ms), takeL (n + 1) s = takeL n s ++ [takeP (takeN n s)]
  | 0, _ => rfl
  | n + 1, s => by rw [takeL, takeL_snoc n (takeM s)]; rfl
theorem takeL_len : ∀ (n : Nat) (s : Ms), (takeL n s).length = n
  | 0, _ => rfl
  | n + 1, s => by simp [takeL, takeL_len n]
theorem takeN_len : ∀ (n : Nat) (s : Ms), (takeN n s).nds.length ≤ s.nds.length + n ∧ (takeN n s).fre.length ≤ s.fre.length
  | 0, _ => ⟨Nat.le_refl _, Nat.le_refl _⟩
  | n + 1, s => by
    have h := takeN_len n (takeM s)
    have h2 : (takeM s).nds.length ≤ s.nds.length + 1 ∧ (takeM s).fre.length ≤ s.fre.length := by
      unfold takeM
      split
      · simp
      · rename_i h; rw [h]; simp
    rw [takeN]
    omega

set_option maxHeartbeats 2000000 in
theorem mTakePlaces (n : Nat) (B mb : Nat) (fv : Value) (c : Cf) (s : Ms) (K : Nat → Prop) (sv rv nv ev : Value) (vs : List Value) (w : World) (h : MSt w B mb fv c s K sv rv nv ev vs) (hn : n ≤ 100) (hl1 : s.nds.length ≤ 1099511627000) (hl2 : s.fre.length ≤ 1099511627770) :
    Calls Tryz.prog 119 #[.pointer (some ⟨mb, 0, none⟩), .int .i64 n] w fun e w' => ∃ v, e = .returned v ∧ Below B w w' ∧ Kept K w w' ∧ w'.ownsRow w.heap.size 3 1 v n (ints (takeL n s)) ∧ MP w' B mb fv c (takeN n s) (fun k => K k ∨ v.ownBlock = some k) := by
  obtain ⟨ii, hi, hz0, hz1, hz2⟩ := info_parts Tryz.infoIntM
  have hBw : B ≤ w.heap.size := by have := h.lo; have := h.lt; omega
  have HT : Hid (∀ k, ev.ownBlock = some k → k < w.heap.size) := h.mlt.e
  have HM : Hid (MSt w B mb fv c s K sv rv nv ev vs) := h
  have HKL : Hid (∀ k, K k → k < w.heap.size) := h.klt
  clear h
  go_enter Tryz.func119, Tryz.ntmps119
  go_wp2_with fail
  go_loopw [5, 6] (fun y z wr => ∃ j : Nat, j ≤ n ∧ z = .int .i64 j ∧ w.heap.size ≤ wr.heap.size ∧ Hid (Below B w wr) ∧ Hid (Kept K w wr) ∧ (∃ yo yc, y = .slice yo j yc) ∧ Hid (wr.ownsRow w.heap.size 3 1 y j (ints (takeL j s))) ∧ Hid (∃ nv' ev' vs', MSt wr B mb fv c (takeN j s) K sv rv nv' ev' vs' ∧ ev'.ownBlock = ev.ownBlock)) (fun _ z _ => n - (intOf z).toNat)
  case atStart => exact ⟨0, by omega, rfl, Nat.le_refl _, Below.refl _ _, Kept.refl _ _, ⟨none, 0, rfl⟩, World.ownsRow_nil _ _ _ _, nv, ev, vs, HM.out, rfl⟩
  case round =>
    clear HM
    obtain ⟨j, hj, rfl, hsz, HB, HK, ⟨yo, yc, rfl⟩, HR, HX⟩ := hrel
    by_cases hlt : j < n
    · obtain ⟨nv1, ev1, vs1, hm1, ho1⟩ := HX.out
      have HO1 : Hid (ev1.ownBlock = ev.ownBlock) := ho1
      have hln := takeN_len j s
      have HC : Hid _ := mTakePlace B mb fv c (takeN j s) (fun k => K k ∨ (Value.slice yo j yc).ownBlock = some k) sv rv nv1 ev1 vs1 wr (hm1.moreK fun k hk => by
        rcases hk with hk | hk
        · exact .inl hk
        · exact .inr ⟨(HR.out.lt k hk).2, own_ne_blk HR.out hm1.blk (by decide) k hk, own_ne_type HR.out hm1.rs (by decide) k hk, own_ne_type HR.out hm1.rr (by decide) k hk, own_ne_type HR.out hm1.rn (by decide) k hk, fun e => by
            rw [ho1] at e
            have := HT.out k e
            have := (HR.out.lt k hk).1
            omega⟩) (by omega) (by omega)
      have HS : Hid (ints (takeL (j + 1) s) = ints (takeL j s) ++ [.int .i64 (takeP (takeN j s))]) := by show _ = _; rw [takeL_snoc, ints_snoc]
      have HP : Hid (takeM (takeN j s) = takeN (j + 1) s) := (takeN_snoc j s).symm
      rw [HP.out] at HC
      clear hm1 ho1 HX hln
      generalize takeP (takeN j s) = p at *
      go_wp2_with fail
      refine (show Calls _ _ _ _ _ from HC.out).mono ?_
      rintro e w1 ⟨rfl, hb1, hk1, nv2, ev2, vs2, hm2, ho2⟩
      clear HC
      have HB1 : Hid (Below B w w1) := HB.out.trans hb1
      have hs1 := hb1.size
      have HK1 : Hid (Kept K w w1) := HK.out.trans (fun k hk hl => hk1 k (.inl hk) hl) hsz
      have HR1 : Hid (w1.ownsRow w.heap.size 3 1 (.slice yo j yc) j (ints (takeL j s))) := own_kept HR.out hk1 (fun k hk => .inr hk)
      have HM2 : Hid (MSt w1 B mb fv c (takeN (j + 1) s) K sv rv nv2 ev2 vs2) := hm2.moreK (fun k hk => .inl (.inl hk))
      have HO2 : Hid (ev2.ownBlock = ev.ownBlock) := ho2.trans HO1.out
      clear hb1 hk1 hm2 ho2 HB HK HR
      go_wp2_with (at_builtin; go_must (refine wpList_append_lies _ rfl _ _ _ rfl w.heap.size 3 ii _ 1 8 Tryz.underlying35 hi hz0 hz1 hz2 rfl (by omega) (.slice yo j yc) j (ints (takeL j s)) rfl ?hown _ 1 _ [.int .i64 p] rfl rfl ?hnews ?h1 (by omega) ?h63 ?hbytes ?hbase _ rfl ?_))
      case hown => exact World.ownsRow.alloc HR1.out _
      try case hnews => exact World.news_of_block (heap_alloc_new w1 _)
      case h1 => simp [Value.oneCell']
      case h63 => unfold maxLen; omega
      case hbytes => omega
      case hbase => first | omega | (simp; omega)
      intro g cap2 w2 hown2 hgrow2 hat2 hlt2
      have hAl := below_al w1 (Obj.cells #[.int .i64 p] 3)
      have HMA : Hid (MSt w2 B mb fv c (takeN (j + 1) s) K sv rv nv2 ev2 vs2) := MSt.grownI (HM2.out.old hAl) (ownsRow_old HR1.out hAl) hgrow2 (fun k hk e => by
        rw [HO2.out] at hk
        have := HT.out k hk
        have := (HR1.out.lt k e).1
        omega)
      have HA2 : Hid (Below w.heap.size w1 w2) := (hAl.mono (by omega)).grown hgrow2 (by simp; omega) (fun k hk => ((HR1.out.lt k hk).1))
      have HR2 : Hid (w2.ownsRow w.heap.size 3 1 (.slice (some ⟨g, 0, none⟩) (j + 1) cap2) (j + 1) (ints (takeL (j + 1) s))) := by rw [HS.out]; exact hown2
      clear hown2 hgrow2 hat2 hlt2
      have hs2 := HA2.out.size
      go_wp2_with fail
      go_roundw
      case rel => exact ⟨j + 1, hlt, by go_num, by omega, HB1.out.trans (HA2.out.mono hBw), HK1.out.trans (fun k hk _ => HA2.out.block k (HKL.out k hk)) (by omega), ⟨_, _, rfl⟩, HR2.out, nv2, ev2, vs2, HMA.out, HO2.out⟩
      case measure => simp [intOf]; omega
    · have hjn : j = n := by omega
      have hd : decide ((j : Int) < (n : Int)) = false := by simp; omega
      have hd2 : ¬ (j : Int) < (n : Int) := by omega
      have HJ : Hid (j = n) := hjn
      have HFin : Hid (MP wr B mb fv c (takeN j s) (fun k => K k ∨ (Value.slice yo j yc).ownBlock = some k)) := by
        obtain ⟨nv1, ev1, vs1, hm1, ho1⟩ := HX.out
        exact ⟨_, _, _, _, _, hm1.moreK fun k hk => by
          rcases hk with hk | hk
          · exact .inl hk
          · exact .inr ⟨(HR.out.lt k hk).2, own_ne_blk HR.out hm1.blk (by decide) k hk, own_ne_type HR.out hm1.rs (by decide) k hk, own_ne_type HR.out hm1.rr (by decide) k hk, own_ne_type HR.out hm1.rn (by decide) k hk, fun e => by
              rw [ho1] at e
              have := HT.out k e
              have := (HR.out.lt k hk).1
              omega⟩⟩
      clear hjn
      go_wp2_with fail
      go_ret
      exact ⟨_, rfl, HB.out, HK.out, by rw [← HJ.out]; exact HR.out, by rw [← HJ.out]; exact HFin.out⟩

theorem instM_snoc (l : Ln) (j : Nat) (h : j < l.length) (ar : Ln) (ps : List Int) : instM (l.take (j + 1)) ar ps = instM (l.take j) ar ps ++ [instA ar ps l[j]] := by
  unfold instM
  rw [List.take_succ_eq_append_getElem h, List.map_append]; rfl

set_option maxRecDepth 100000 in
set_option maxHeartbeats 2000000 in
theorem mInst (l ar : Ln) (ps : List Int) (lv av pv : Value) (T Ba Bp : Nat) (w : World) (hT : T ≤ w.heap.size) (hlv : AtomsRd w T lv l) (hav : w.ownsRow Ba 96 2 av ar.length (acs ar)) (hpv : w.ownsRow Bp 3 1 pv ps.length (ints ps)) (hl : l.length ≤ 1000) (hla : ar.length ≤ 1000) (hlp : ps.length ≤ 1000) :
    Calls Tryz.prog 120 #[lv, av, pv] w fun e w' => ∃ v, e = .returned v ∧ Below w.heap.size w w' ∧ w'.ownsRow w.heap.size 96 2 v l.length (acs (instM l ar ps)) := by
  obtain ⟨ii, hi, hz0, hz1, hz2⟩ := info_parts Tryz.infoItem
  obtain ⟨lo, lc, rfl, hlc1, hlc2, hcs⟩ := hlv
  obtain ⟨ao, ac, rfl⟩ := own_form hav
  obtain ⟨po, pc, rfl⟩ := own_form hpv
  have HAV : Hid _ := hav
  have HPV : Hid _ := hpv
  unfold maxLen at hlc2
  clear hav hpv
  go_enter Tryz.func120, Tryz.ntmps120
  go_wp2_with fail
  go_loopw [7, 13] (fun y z wr => ∃ j : Nat, j ≤ l.length ∧ z = .int .i64 j ∧ Hid (Below w.heap.size w wr) ∧ (∃ yo yc, y = .slice yo j yc) ∧ Hid (wr.ownsRow w.heap.size 96 2 y j (acs (instM (l.take j) ar ps)))) (fun _ z _ => l.length - (intOf z).toNat)
  case atStart => exact ⟨0, by omega, rfl, Below.refl _ _, ⟨none, 0, rfl⟩, World.ownsRow_nil _ _ _ _⟩
  case round =>
    obtain ⟨j, hj, rfl, HB, ⟨yo, yc, rfl⟩, HR⟩ := hrel
    have hsz := HB.out.size
    by_cases hjl : j < l.length
    · rcases hcs with hz | ⟨b, off, rfl, hbT, hcell⟩
      · omega
      obtain ⟨k0, k1⟩ := hcell j hjl
      rw [← HB.out.cell (p := ⟨b, off + j * 2, none⟩) (show b < _ by omega)] at k0
      rw [← HB.out.cell (p := ⟨b, off + j * 2 + 1, none⟩) (show b < _ by omega)] at k1
      have hblt : b < wr.heap.size := by omega
      have HS : Hid (acs (instM (l.take (j + 1)) ar ps) = acs (instM (l.take j) ar ps) ++ [.int .i64 (instA ar ps l[j]).1, .int .i64 (instA ar ps l[j]).2]) := by show _ = _; rw [instM_snoc l j hjl, acs_snoc]
      have hI : ∃ x : Int × Int, x = instA ar ps l[j] := ⟨_, rfl⟩
      generalize l[j] = a at *
      obtain ⟨a1, a2⟩ := a
      obtain ⟨x, hx⟩ := hI
      rw [← hx] at HS
      obtain ⟨x1, x2⟩ := x
      simp only at *
      have HX : Hid ((x1, x2) = instA ar ps (a1, a2)) := hx
      clear hx hcell
      have HNB : Hid (((((wr.alloc (Obj.cells #[.int .i64 a1, .int .i64 a2] 75)).alloc (Obj.cells #[.int .i64 x1, .int .i64 x2] 96)).alloc (Obj.cells #[.int .i64 x1, .int .i64 x2] 96))).heap[wr.heap.size + 1 + 1]? = some (Obj.cells #[.int .i64 x1, .int .i64 x2] 96)) := by
        have := heap_alloc_new ((wr.alloc (Obj.cells #[.int .i64 a1, .int .i64 a2] 75)).alloc (Obj.cells #[.int .i64 x1, .int .i64 x2] 96)) (Obj.cells #[.int .i64 x1, .int .i64 x2] 96)
        rw [World.size_alloc, World.size_alloc] at this
        exact this
      have HB3 : Hid (Below w.heap.size w (((wr.alloc (Obj.cells #[.int .i64 a1, .int .i64 a2] 75)).alloc (Obj.cells #[.int .i64 x1, .int .i64 x2] 96)).alloc (Obj.cells #[.int .i64 x1, .int .i64 x2] 96))) := ((HB.out.alloc hsz _).alloc (by simp; omega) _).alloc (by simp; omega) _
      by_cases h5 : a1 = 5
      · subst h5
        by_cases h0 : 0 ≤ a2
        · obtain ⟨m, rfl⟩ := Int.eq_ofNat_of_zero_le h0
          have hd0 : decide ((0 : Int) ≤ (m : Int)) = true := by simp
          by_cases hm : m < ps.length
          · have hd1 : decide ((m : Int) < (ps.length : Int)) = true := by simp; omega
            have hmi : (m : Int) < (ps.length : Int) := by omega
            have hrow := ownsRow_old HPV.out HB.out
            obtain ⟨q, cap', hq, hqB, hqlt⟩ := hrow.form (by omega)
            cases hq
            have n0 := row_cell hrow m _ (ints_at ps m hm)
            have HXX : x1 = 5 ∧ x2 = ps[m] := by
              have e : instA ar ps (5, (m : Int)) = (5, ps[m]) := by unfold instA; rw [if_pos ⟨rfl, h0, hmi⟩]; simp [hm]
              have := HX.out
              rw [e] at this
              simpa using this
            generalize ps[m] = pm at *
            obtain ⟨e1, e2⟩ := HXX
            subst e1
            subst e2
            clear hrow HX
            go_wp2_with (at_builtin; go_must (refine wpList_append_lies _ rfl _ _ _ rfl w.heap.size 96 ii _ 2 16 Tryz.underlying89 hi hz0 hz1 hz2 rfl (by omega) (.slice yo j yc) j (acs (instM (l.take j) ar ps)) rfl ?hownA _ 1 _ [.int .i64 5, .int .i64 x2] rfl rfl ?hnewsA ?h1A (by omega) ?h63A ?hbytesA ?hbaseA _ rfl ?_))
            case hownA => exact ((World.ownsRow.alloc HR.out _).alloc _).alloc _
            try case hnewsA => exact World.news_of_block HNB.out
            case h1A => simp [Value.oneCell']
            case h63A => unfold maxLen; omega
            case hbytesA => omega
            case hbaseA => first | omega | (simp; omega)
            intro g cap2 w2 hown2 hgrow2 hat2 hlt2
            have HB2 : Hid (Below w.heap.size w w2) := (HB3.out).grown hgrow2 (by simp; omega) (fun k hk => ((HR.out.lt k hk).1))
            have HR2 : Hid (w2.ownsRow w.heap.size 96 2 (.slice (some ⟨g, 0, none⟩) (j + 1) cap2) (j + 1) (acs (instM (l.take (j + 1)) ar ps))) := by rw [HS.out]; exact hown2
            clear hown2 hgrow2 hat2 hlt2
            go_wp2_with fail
            go_roundw
            case rel => exact ⟨j + 1, hjl, by go_num, HB2.out, ⟨_, _, rfl⟩, HR2.out⟩
            case measure => simp [intOf]; omega
          · have hd1 : decide ((m : Int) < (ps.length : Int)) = false := by simp; omega
            have hmi : ¬ (m : Int) < (ps.length : Int) := by omega
            have HXX : x1 = 5 ∧ x2 = (m : Int) := by
              have e : instA ar ps (5, (m : Int)) = (5, (m : Int)) := by unfold instA; rw [if_neg (fun h => hmi h.2.2), if_neg (fun h => by simp at h)]
              have := HX.out
              rw [e] at this
              simpa using this
            obtain ⟨e1, e2⟩ := HXX
            subst e1
            subst e2
            clear HX
            go_wp2_with (at_builtin; go_must (refine wpList_append_lies _ rfl _ _ _ rfl w.heap.size 96 ii _ 2 16 Tryz.underlying89 hi hz0 hz1 hz2 rfl (by omega) (.slice yo j yc) j (acs (instM (l.take j) ar ps)) rfl ?hownB _ 1 _ [.int .i64 5, .int .i64 (m : Int)] rfl rfl ?hnewsB ?h1B (by omega) ?h63B ?hbytesB ?hbaseB _ rfl ?_))
            case hownB => exact ((World.ownsRow.alloc HR.out _).alloc _).alloc _
            try case hnewsB => exact World.news_of_block HNB.out
            case h1B => simp [Value.oneCell']
            case h63B => unfold maxLen; omega
            case hbytesB => omega
            case hbaseB => first | omega | (simp; omega)
            intro g cap2 w2 hown2 hgrow2 hat2 hlt2
            have HB2 : Hid (Below w.heap.size w w2) := (HB3.out).grown hgrow2 (by simp; omega) (fun k hk => ((HR.out.lt k hk).1))
            have HR2 : Hid (w2.ownsRow w.heap.size 96 2 (.slice (some ⟨g, 0, none⟩) (j + 1) cap2) (j + 1) (acs (instM (l.take (j + 1)) ar ps))) := by rw [HS.out]; exact hown2
            clear hown2 hgrow2 hat2 hlt2
            go_wp2_with fail
            go_roundw
            case rel => exact ⟨j + 1, hjl, by go_num, HB2.out, ⟨_, _, rfl⟩, HR2.out⟩
            case measure => simp [intOf]; omega
        · have hd0 : decide ((0 : Int) ≤ a2) = false := by simpa using h0
          have HXX : x1 = 5 ∧ x2 = a2 := by
            have e : instA ar ps (5, a2) = (5, a2) := by unfold instA; rw [if_neg (fun h => h0 h.2.1), if_neg (fun h => by simp at h)]
            have := HX.out
            rw [e] at this
            simpa using this
          obtain ⟨e1, e2⟩ := HXX
          subst e1
          subst e2
          clear HX
          go_wp2_with (at_builtin; go_must (refine wpList_append_lies _ rfl _ _ _ rfl w.heap.size 96 ii _ 2 16 Tryz.underlying89 hi hz0 hz1 hz2 rfl (by omega) (.slice yo j yc) j (acs (instM (l.take j) ar ps)) rfl ?hownC _ 1 _ [.int .i64 5, .int .i64 x2] rfl rfl ?hnewsC ?h1C (by omega) ?h63C ?hbytesC ?hbaseC _ rfl ?_))
          case hownC => exact ((World.ownsRow.alloc HR.out _).alloc _).alloc _
          try case hnewsC => exact World.news_of_block HNB.out
          case h1C => simp [Value.oneCell']
          case h63C => unfold maxLen; omega
          case hbytesC => omega
          case hbaseC => first | omega | (simp; omega)
          intro g cap2 w2 hown2 hgrow2 hat2 hlt2
          have HB2 : Hid (Below w.heap.size w w2) := (HB3.out).grown hgrow2 (by simp; omega) (fun k hk => ((HR.out.lt k hk).1))
          have HR2 : Hid (w2.ownsRow w.heap.size 96 2 (.slice (some ⟨g, 0, none⟩) (j + 1) cap2) (j + 1) (acs (instM (l.take (j + 1)) ar ps))) := by rw [HS.out]; exact hown2
          clear hown2 hgrow2 hat2 hlt2
          go_wp2_with fail
          go_roundw
          case rel => exact ⟨j + 1, hjl, by go_num, HB2.out, ⟨_, _, rfl⟩, HR2.out⟩
          case measure => simp [intOf]; omega
      · have h5b : (a1 == 5) = false := by simpa using h5
        by_cases h2 : a1 = 2
        · subst h2
          by_cases h0 : 0 ≤ a2
          · obtain ⟨m, rfl⟩ := Int.eq_ofNat_of_zero_le h0
            have hd0 : decide ((0 : Int) ≤ (m : Int)) = true := by simp
            by_cases hm : m < ar.length
            · have hd1 : decide ((m : Int) < (ar.length : Int)) = true := by simp; omega
              have hmi : (m : Int) < (ar.length : Int) := by omega
              have hrow := ownsRow_old HAV.out HB.out
              obtain ⟨q, cap', hq, hqB, hqlt⟩ := hrow.form (by omega)
              cases hq
              have n0 := row_cell hrow (m * 2) _ (acs_at' ar m hm).1
              have n1 := row_cell hrow (m * 2 + 1) _ (acs_at' ar m hm).2
              have HXX : Hid ((x1, x2) = ar[m]) := by
                have e : instA ar ps (2, (m : Int)) = ar[m] := by unfold instA; rw [if_neg (fun h => by simp at h), if_pos ⟨rfl, h0, hmi⟩]; simp [hm]
                rw [← e]; exact HX.out
              rw [← HXX.out] at n0 n1
              simp only at n0 n1
              clear hrow HX
              go_wp2_with (at_builtin; go_must (refine wpList_append_lies _ rfl _ _ _ rfl w.heap.size 96 ii _ 2 16 Tryz.underlying89 hi hz0 hz1 hz2 rfl (by omega) (.slice yo j yc) j (acs (instM (l.take j) ar ps)) rfl ?hownD _ 1 _ [.int .i64 x1, .int .i64 x2] rfl rfl ?hnewsD ?h1D (by omega) ?h63D ?hbytesD ?hbaseD _ rfl ?_))
              case hownD => exact ((World.ownsRow.alloc HR.out _).alloc _).alloc _
              try case hnewsD => exact World.news_of_block HNB.out
              case h1D => simp [Value.oneCell']
              case h63D => unfold maxLen; omega
              case hbytesD => omega
              case hbaseD => first | omega | (simp; omega)
              intro g cap2 w2 hown2 hgrow2 hat2 hlt2
              have HB2 : Hid (Below w.heap.size w w2) := (HB3.out).grown hgrow2 (by simp; omega) (fun k hk => ((HR.out.lt k hk).1))
              have HR2 : Hid (w2.ownsRow w.heap.size 96 2 (.slice (some ⟨g, 0, none⟩) (j + 1) cap2) (j + 1) (acs (instM (l.take (j + 1)) ar ps))) := by rw [HS.out]; exact hown2
              clear hown2 hgrow2 hat2 hlt2
              go_wp2_with fail
              go_roundw
              case rel => exact ⟨j + 1, hjl, by go_num, HB2.out, ⟨_, _, rfl⟩, HR2.out⟩
              case measure => simp [intOf]; omega
            · have hd1 : decide ((m : Int) < (ar.length : Int)) = false := by simp; omega
              have hmi : ¬ (m : Int) < (ar.length : Int) := by omega
              have HXX : x1 = 2 ∧ x2 = (m : Int) := by
                have e : instA ar ps (2, (m : Int)) = (2, (m : Int)) := by unfold instA; rw [if_neg (fun h => by simp at h), if_neg (fun h => hmi h.2.2)]
                have := HX.out
                rw [e] at this
                simpa using this
              obtain ⟨e1, e2⟩ := HXX
              subst e1
              subst e2
              clear HX
              go_wp2_with (at_builtin; go_must (refine wpList_append_lies _ rfl _ _ _ rfl w.heap.size 96 ii _ 2 16 Tryz.underlying89 hi hz0 hz1 hz2 rfl (by omega) (.slice yo j yc) j (acs (instM (l.take j) ar ps)) rfl ?hownE _ 1 _ [.int .i64 2, .int .i64 (m : Int)] rfl rfl ?hnewsE ?h1E (by omega) ?h63E ?hbytesE ?hbaseE _ rfl ?_))
              case hownE => exact ((World.ownsRow.alloc HR.out _).alloc _).alloc _
              try case hnewsE => exact World.news_of_block HNB.out
              case h1E => simp [Value.oneCell']
              case h63E => unfold maxLen; omega
              case hbytesE => omega
              case hbaseE => first | omega | (simp; omega)
              intro g cap2 w2 hown2 hgrow2 hat2 hlt2
              have HB2 : Hid (Below w.heap.size w w2) := (HB3.out).grown hgrow2 (by simp; omega) (fun k hk => ((HR.out.lt k hk).1))
              have HR2 : Hid (w2.ownsRow w.heap.size 96 2 (.slice (some ⟨g, 0, none⟩) (j + 1) cap2) (j + 1) (acs (instM (l.take (j + 1)) ar ps))) := by rw [HS.out]; exact hown2
              clear hown2 hgrow2 hat2 hlt2
              go_wp2_with fail
              go_roundw
              case rel => exact ⟨j + 1, hjl, by go_num, HB2.out, ⟨_, _, rfl⟩, HR2.out⟩
              case measure => simp [intOf]; omega
          · have hd0 : decide ((0 : Int) ≤ a2) = false := by simpa using h0
            have HXX : x1 = 2 ∧ x2 = a2 := by
              have e : instA ar ps (2, a2) = (2, a2) := by unfold instA; rw [if_neg (fun h => by simp at h), if_neg (fun h => h0 h.2.1)]
              have := HX.out
              rw [e] at this
              simpa using this
            obtain ⟨e1, e2⟩ := HXX
            subst e1
            subst e2
            clear HX
            go_wp2_with (at_builtin; go_must (refine wpList_append_lies _ rfl _ _ _ rfl w.heap.size 96 ii _ 2 16 Tryz.underlying89 hi hz0 hz1 hz2 rfl (by omega) (.slice yo j yc) j (acs (instM (l.take j) ar ps)) rfl ?hownF _ 1 _ [.int .i64 2, .int .i64 x2] rfl rfl ?hnewsF ?h1F (by omega) ?h63F ?hbytesF ?hbaseF _ rfl ?_))
            case hownF => exact ((World.ownsRow.alloc HR.out _).alloc _).alloc _
            try case hnewsF => exact World.news_of_block HNB.out
            case h1F => simp [Value.oneCell']
            case h63F => unfold maxLen; omega
            case hbytesF => omega
            case hbaseF => first | omega | (simp; omega)
            intro g cap2 w2 hown2 hgrow2 hat2 hlt2
            have HB2 : Hid (Below w.heap.size w w2) := (HB3.out).grown hgrow2 (by simp; omega) (fun k hk => ((HR.out.lt k hk).1))
            have HR2 : Hid (w2.ownsRow w.heap.size 96 2 (.slice (some ⟨g, 0, none⟩) (j + 1) cap2) (j + 1) (acs (instM (l.take (j + 1)) ar ps))) := by rw [HS.out]; exact hown2
            clear hown2 hgrow2 hat2 hlt2
            go_wp2_with fail
            go_roundw
            case rel => exact ⟨j + 1, hjl, by go_num, HB2.out, ⟨_, _, rfl⟩, HR2.out⟩
            case measure => simp [intOf]; omega
        · have h2b : (a1 == 2) = false := by simpa using h2
          have HXX : x1 = a1 ∧ x2 = a2 := by
            have e : instA ar ps (a1, a2) = (a1, a2) := by unfold instA; rw [if_neg (fun h => h5 h.1), if_neg (fun h => h2 h.1)]
            have := HX.out
            rw [e] at this
            simpa using this
          obtain ⟨e1, e2⟩ := HXX
          subst e1
          subst e2
          clear HX
          go_wp2_with (at_builtin; go_must (refine wpList_append_lies _ rfl _ _ _ rfl w.heap.size 96 ii _ 2 16 Tryz.underlying89 hi hz0 hz1 hz2 rfl (by omega) (.slice yo j yc) j (acs (instM (l.take j) ar ps)) rfl ?hownG _ 1 _ [.int .i64 x1, .int .i64 x2] rfl rfl ?hnewsG ?h1G (by omega) ?h63G ?hbytesG ?hbaseG _ rfl ?_))
          case hownG => exact ((World.ownsRow.alloc HR.out _).alloc _).alloc _
          try case hnewsG => exact World.news_of_block HNB.out
          case h1G => simp [Value.oneCell']
          case h63G => unfold maxLen; omega
          case hbytesG => omega
          case hbaseG => first | omega | (simp; omega)
          intro g cap2 w2 hown2 hgrow2 hat2 hlt2
          have HB2 : Hid (Below w.heap.size w w2) := (HB3.out).grown hgrow2 (by simp; omega) (fun k hk => ((HR.out.lt k hk).1))
          have HR2 : Hid (w2.ownsRow w.heap.size 96 2 (.slice (some ⟨g, 0, none⟩) (j + 1) cap2) (j + 1) (acs (instM (l.take (j + 1)) ar ps))) := by rw [HS.out]; exact hown2
          clear hown2 hgrow2 hat2 hlt2
          go_wp2_with fail
          go_roundw
          case rel => exact ⟨j + 1, hjl, by go_num, HB2.out, ⟨_, _, rfl⟩, HR2.out⟩
          case measure => simp [intOf]; omega
    · have hd : decide ((j : Int) < (l.length : Int)) = false := by simp; omega
      have hd2 : ¬ (j : Int) < (l.length : Int) := by omega
      have HJ : Hid (j = l.length) := by show _ = _; omega
      have HJ2 : Hid (l.take j = l) := List.take_of_length_le (by omega)
      go_wp2_with fail
      go_ret
      exact ⟨_, rfl, HB.out, by have h := HR.out; rw [HJ2.out] at h; rw [← HJ.out]; exact h⟩

end Go.Proofs.YtnndoagpbcacdaaGreatDoor
