import Derived.Test.YtnndoagpbcacdaaGreatDoorM7
import Derived.Test.YtnndoagpbcacdaaGreatDoorMM6
namespace Go.Proofs.YtnndoagpbcacdaaGreatDoor
open Go.RowKit

/-! Package machine: room.go: what is needed. -/
theorem Tryz.infoBool : (Tryz.prog.info? 4).map (fun i => (i.zero, i.size, i.bytes)) = some (some (.bool false), 1, 1) := by kernel_rfl
theorem Tryz.infoIntM : (Tryz.prog.info? 3).map (fun i => (i.zero, i.size, i.bytes)) = some (some (.int .i64 0), 1, 8) := by kernel_rfl
def bools (l : List Bool) : List Value := l.map Value.bool
structure SSt (w : World) (T sb : Nat) (x : List Bool × List Int) (nv rv : Value) : Prop where
  blk : w.heap[sb]? = some (.cells #[nv, rv] 264 (0, 0))
  lo : T ≤ sb
  rn : w.ownsRow T 4 1 nv x.1.length (bools x.1)
  rr : w.ownsRow T 3 1 rv x.2.length (ints x.2)
def SP (w : World) (T sb : Nat) (x : List Bool × List Int) : Prop := ∃ nv rv, SSt w T sb x nv rv
theorem SSt.old {w w' : World} {T sb : Nat} {x : List Bool × List Int} {nv rv : Value} (h : SSt w T sb x nv rv) (hb : Below w.heap.size w w') : SSt w' T sb x nv rv :=
  ⟨(hb.block sb (Array.getElem?_eq_some_iff.1 h.blk).1).trans h.blk, h.lo, ownsRow_old h.rn hb, ownsRow_old h.rr hb⟩
theorem SP.old {w w' : World} {T sb : Nat} {x : List Bool × List Int} (h : SP w T sb x) (hb : Below w.heap.size w w') : SP w' T sb x := by
  obtain ⟨nv, rv, h⟩ := h; exact ⟨_, _, h.old hb⟩
theorem ints_at (l : List Int) (j : Nat) (h : j < l.length) : (ints l)[j]? = some (.int .i64 l[j]) := by simp [ints, h]
theorem bools_at (l : List Bool) (j : Nat) (h : j < l.length) : (bools l)[j]? = some (.bool l[j]) := by simp [bools, h]
theorem bools_set (l : List Bool) (j : Nat) (b : Bool) : (bools l).set j (.bool b) = bools (l.set j b) := by simp [bools, List.map_set]
theorem ints_snoc (l : List Int) (x : Int) : ints (l ++ [x]) = ints l ++ [.int .i64 x] := by simp [ints]

set_option maxHeartbeats 4000000 in
theorem mReach (p : Int) (T sb : Nat) (x : List Bool × List Int) (w : World) (h : SP w T sb x) (hl1 : x.1.length ≤ 1099511627770) (hl2 : x.2.length ≤ 1099511627770) :
    Calls Tryz.prog 205 #[.pointer (some ⟨sb, 0, none⟩), .int .i64 p] w fun e w' => (∃ v, e = .returned v) ∧ Below T w w' ∧ SP w' T sb (rch p x) := by
  obtain ⟨nv, rv, h⟩ := h
  obtain ⟨i, hi, hz0, hz1, hz2⟩ := info_parts Tryz.infoIntM
  obtain ⟨no, nc, rfl⟩ := own_form h.rn
  obtain ⟨ro, rc, rfl⟩ := own_form h.rr
  obtain ⟨k0, k1⟩ := cells_of2 h.blk
  have hsb : sb < w.heap.size := (Array.getElem?_eq_some_iff.1 h.blk).1
  have hlo := h.lo
  have HM : Hid _ := h
  by_cases hp : p < 0
  · have hd : decide (p < 0) = true := by simpa using hp
    have HE : Hid (rch p x = x) := by show _ = _; unfold rch; exact if_pos (.inl hp)
    rw [HE.out]
    clear h HE
    go_enter Tryz.func205, Tryz.ntmps205
    go_wp2_with fail
    exact bodyPost_ret (v := .tuple #[]) (by simp [results, Tryz.results205, go_sem]) rfl ⟨⟨_, rfl⟩, Below.refl _ _, _, _, HM.out⟩
  · have hd : decide (p < 0) = false := by simpa using hp
    obtain ⟨j, rfl⟩ := Int.eq_ofNat_of_zero_le (show 0 ≤ p by omega)
    by_cases hj : x.1.length ≤ j
    · have hd2 : decide ((x.1.length : Int) ≤ (j : Int)) = true := by simp; omega
      have HE : Hid (rch (j : Int) x = x) := by show _ = _; unfold rch; exact if_pos (.inr (.inl (by omega)))
      rw [HE.out]
      clear h HE
      go_enter Tryz.func205, Tryz.ntmps205
      go_wp2_with fail
      exact bodyPost_ret (v := .tuple #[]) (by simp [results, Tryz.results205, go_sem]) rfl ⟨⟨_, rfl⟩, Below.refl _ _, _, _, HM.out⟩
    · have hjl : j < x.1.length := by omega
      have hd2 : decide ((x.1.length : Int) ≤ (j : Int)) = false := by simp; omega
      have hd3 : ¬ (x.1.length : Int) ≤ (j : Int) := by omega
      obtain ⟨q, cap', hq, hqB, hqlt⟩ := h.rn.form (by omega)
      cases hq
      have n0 := row_cell h.rn j _ (bools_at x.1 j hjl)
      have f0 := own_frozen h.rn j
      cases hbj : x.1[j] with
      | true =>
        rw [hbj] at n0
        have HE : Hid (rch (j : Int) x = x) := by show _ = _; unfold rch; exact if_pos (.inr (.inr (by simp [hjl, hbj])))
        rw [HE.out]
        clear h HE
        go_enter Tryz.func205, Tryz.ntmps205
        go_wp2_with fail
        exact bodyPost_ret (v := .tuple #[]) (by simp [results, Tryz.results205, go_sem]) rfl ⟨⟨_, rfl⟩, Below.refl _ _, _, _, HM.out⟩
      | false =>
        rw [hbj] at n0
        have HE : Hid (rch (j : Int) x = (x.1.set j true, x.2 ++ [(j : Int)])) := by show _ = _; unfold rch; exact if_neg (by simp [hjl, hbj])
        rw [HE.out]
        have hqs : q ≠ sb := own_ne_blk h.rn h.blk (by decide) q rfl
        have hqblk : ∃ cs, w.heap[q]? = some (.cells cs 4 (0, 0)) := by
          rcases h.rn.2 with ⟨h0, _⟩ | ⟨g', cap', cur, h0, hg, hh, _⟩
          · cases h0
          · cases h0; exact ⟨cur, hh⟩
        obtain ⟨cs, hqc⟩ := hqblk
        have hm1 : SSt (w.setCell ⟨q, j, none⟩ (.bool true)) T sb (x.1.set j true, x.2) (.slice (some ⟨q, 0, none⟩) x.1.length nc) (.slice ro x.2.length rc) := by
          refine ⟨(heap_set_ne _ (fun e => hqs e.symm)).trans h.blk, h.lo, ?_, ownsRow_set h.rr hqc (by decide)⟩
          show World.ownsRow _ _ _ _ _ (x.1.set j true).length (bools (x.1.set j true))
          rw [← bools_set, List.length_set]
          exact own_store h.rn _ _
        have HM1 : Hid _ := hm1
        have HB1 : Hid (Below T w (w.setCell ⟨q, j, none⟩ (.bool true))) := (Below.refl T w).setCell (by exact hqB) _
        have hs1 : (w.setCell ⟨q, j, none⟩ (.bool true)).heap.size = w.heap.size := size_set _ _ _
        clear h HE hbj hqc hm1
        go_enter Tryz.func205, Tryz.ntmps205
        go_wp2_with (at_builtin; go_must (refine wpList_append_lies _ rfl _ _ _ rfl T 3 i _ 1 8 Tryz.underlying35 hi hz0 hz1 hz2 rfl (by omega) (.slice ro x.2.length rc) x.2.length (ints x.2) rfl ?hown _ 1 _ [.int .i64 (j : Int)] rfl rfl ?hnews ?h1 (by omega) ?h63 ?hbytes ?hbase _ rfl ?_))
        case hown => exact World.ownsRow.alloc HM1.out.rr _
        case h1 => simp [Value.oneCell']
        case h63 => unfold maxLen; omega
        case hbytes => omega
        case hbase => first | omega | (simp [World.setCell]; omega)
        intro g cap2 w2 hown2 hgrow2 hat2 hlt2
        have hmA := HM1.out.old (below_al _ (Obj.cells #[.int .i64 (j : Int)] 3))
        have hb2 := grown_type hmA.rr hgrow2 (by decide) hmA.blk
        obtain ⟨q0, q1⟩ := cells_of2 hb2
        have fz := frozen_of_row w2 sb 1 _ _ hb2
        have hsb2 : sb < w2.heap.size := (Array.getElem?_eq_some_iff.1 hb2).1
        have HF : Hid (SSt (w2.setCell ⟨sb, 1, none⟩ (.slice (some ⟨g, 0, none⟩) (x.2.length + 1) cap2)) T sb (x.1.set j true, x.2 ++ [(j : Int)]) (.slice (some ⟨q, 0, none⟩) x.1.length nc) (.slice (some ⟨g, 0, none⟩) (x.2.length + 1) cap2)) := by
          refine ⟨blk_set _ hb2, hlo, ownsRow_set (own_grown_type hmA.rr hgrow2 (by decide) hmA.rn) hb2 (by decide), ?_⟩
          show World.ownsRow _ _ _ _ _ (x.2 ++ [(j : Int)]).length (ints (x.2 ++ [(j : Int)]))
          rw [ints_snoc, List.length_append]
          exact ownsRow_set hown2 hb2 (by decide)
        have HB2 : Hid (Below T w (w2.setCell ⟨sb, 1, none⟩ (.slice (some ⟨g, 0, none⟩) (x.2.length + 1) cap2))) := (((HB1.out.alloc (by rw [hs1]; omega) _).grown hgrow2 (by simp [World.setCell]; omega) (fun k hk => (HM1.out.rr.lt k hk).1))).setCell (by exact hlo) _
        clear hown2 hgrow2 hat2 hlt2 hmA hb2 k0 k1 n0 f0
        go_wp2_with fail
        exact bodyPost_end (v := .tuple #[]) (by simp [results, Tryz.results205, go_sem]) rfl ⟨⟨_, rfl⟩, HB2.out, _, _, HF.out⟩

set_option maxHeartbeats 4000000 in
theorem mReachAll (l : Ln) (v : Value) (Bx T sb : Nat) (x : List Bool × List Int) (w : World) (h : SP w T sb x) (hv : w.ownsRow Bx 96 2 v l.length (acs l)) (hvT : ∀ k, v.ownBlock = some k → k < T) (n : Nat) (hri : RI n x) (hn : n ≤ 1099511627770) (hl : l.length ≤ 1099511627770) :
    Calls Tryz.prog 204 #[.pointer (some ⟨sb, 0, none⟩), v] w fun e w' => (∃ v, e = .returned v) ∧ Below T w w' ∧ SP w' T sb (rchA l x) := by
  obtain ⟨vo, vc, rfl⟩ := own_form hv
  have HV : Hid (∀ w', Below T w w' → w'.ownsRow Bx 96 2 (.slice vo l.length vc) l.length (acs l)) := fun w' hb => ownsRow_below hv hb hvT
  have HM : Hid (SP w T sb x) := h
  have HRI : Hid (RI n x) := hri
  have hTw : T ≤ w.heap.size := by obtain ⟨_, _, h⟩ := h; have := h.lo; have := (Array.getElem?_eq_some_iff.1 h.blk).1; omega
  clear h hv hvT hri
  go_enter Tryz.func204, Tryz.ntmps204
  go_wp2_with fail
  go_loopw [8] (fun y wr => ∃ (j : Nat) (z : List Bool × List Int), j ≤ l.length ∧ y = .int .i64 j ∧ Hid (Below T w wr) ∧ Hid (SP wr T sb z) ∧ Hid (RI n z) ∧ Hid (rchA (l.drop j) z = rchA l x)) (fun y _ => l.length - (intOf y).toNat)
  case atStart => exact ⟨0, x, Nat.zero_le _, rfl, Below.refl _ _, HM.out, HRI.out, rfl⟩
  case round =>
    clear HM HRI
    obtain ⟨j, z, hj, rfl, HB, HM, HRI, HE⟩ := hrel
    have hsz := HB.out.size
    by_cases hjl : j < l.length
    · have hrow := HV.out wr HB.out
      obtain ⟨q, cap', hq, hqB, hqlt⟩ := hrow.form (by omega)
      cases hq
      have k0 := row_cell hrow (j * 2) _ (acs_at' l j hjl).1
      have k1 := row_cell hrow (j * 2 + 1) _ (acs_at' l j hjl).2
      have HE2 : Hid (rchA (l.drop (j + 1)) (if l[j].1 = 5 then rch l[j].2 z else z) = rchA l x) := by rw [← HE.out, List.drop_eq_getElem_cons hjl]; rfl
      clear hrow
      generalize l[j] = a at *
      obtain ⟨a1, a2⟩ := a
      simp only at *
      have hz1 : z.1.length ≤ 1099511627770 := by rw [HRI.out.len]; exact hn
      have hz2 : z.2.length ≤ 1099511627770 := Nat.le_trans HRI.out.le hn
      by_cases h5 : a1 = 5
      · subst h5
        rw [if_pos rfl] at HE2
        have HC : Hid _ := mReach a2 T sb z _ (SP.old HM.out (below_al wr (Obj.cells #[.int .i64 5, .int .i64 a2] 96))) hz1 hz2
        go_wp2_with fail
        refine (show Calls _ _ _ _ _ from HC.out).mono ?_
        rintro e w1 ⟨⟨v1, rfl⟩, hb1, hm1⟩
        have HM1 : Hid _ := hm1
        have HB1 : Hid (Below T w w1) := (HB.out.alloc (by omega) _).trans hb1
        clear HC hm1 hb1 k0 k1
        go_wp2_with fail
        go_roundw
        case rel => exact ⟨j + 1, _, hjl, by go_num, HB1.out, HM1.out, (HRI.out.rch a2).1, HE2.out⟩
        case measure => simp [intOf]; omega
      · have hd : (a1 == 5) = false := by simpa using h5
        rw [if_neg h5] at HE2
        go_wp2_with fail
        go_roundw
        case rel => exact ⟨j + 1, z, hjl, by go_num, HB.out.alloc (by omega) _, SP.old HM.out (below_al _ _), HRI.out, HE2.out⟩
        case measure => simp [intOf]; omega
    · have hd : decide ((j : Int) < (l.length : Int)) = false := by simp; omega
      have hd2 : ¬ (j : Int) < (l.length : Int) := by omega
      have HF : Hid (z = rchA l x) := by rw [← HE.out, show l.drop j = [] from List.drop_eq_nil_of_le (by omega)]; rfl
      go_wp2_with fail
      exact bodyPost_end (v := .tuple #[]) (by simp [results, Tryz.results204, go_sem]) rfl ⟨⟨_, rfl⟩, HB.out, by rw [← HF.out]; exact HM.out⟩

set_option maxHeartbeats 4000000 in
theorem mRoom (B mb : Nat) (fv : Value) (c : Cf) (s : Ms) (K : Nat → Prop) (w : World) (h : MP w B mb fv c s K) (hl1 : s.nds.length ≤ 1099511627770) (hl2 : s.fre.length ≤ 1099511627770) (hh1 : 0 ≤ c.hp) (hh2 : c.hp ≤ 1099511627770) :
    Calls Tryz.prog 160 #[.pointer (some ⟨mb, 0, none⟩)] w fun e w' => e = .returned (.int .i64 (roomM c s)) ∧ ∃ m, w' = w.drewN m := by
  obtain ⟨sv, rv, nv, ev, vs, h⟩ := h
  obtain ⟨no, nc, rfl⟩ := own_form h.rn
  obtain ⟨eo, ec, rfl⟩ := own_form h.re
  have c2 := h.c2
  have c5 := h.c5
  have c6 := h.c6
  have hmb := h.lt
  unfold roomM
  clear h
  generalize c.hp = hp at *
  have hw1 := wrap_in (hp - (s.nds.length : Int)) (by omega) (by omega)
  have hw2 := wrap_in (hp - (s.nds.length : Int) + (s.fre.length : Int)) (by omega) (by omega)
  go_enter Tryz.func160, Tryz.ntmps160
  go_wp2_with fail
  go_quiet (fail)
  go_wp2_with fail
  go_ret
  exact ⟨rfl, _, rfl⟩

theorem fcs_at (l : List Fr) (j : Nat) (h : j < l.length) (i : Nat) (u : Value) (hu : (fcell l[j])[i]? = some u) (hi : i < 5) : (fcs l)[j * 5 + i]? = some u := by
  induction l generalizing j with
  | nil => simp at h
  | cons a l ih =>
    cases j with
    | zero =>
      rw [show (0 : Nat) * 5 + i = i by omega]
      show (fcell a ++ fcs l)[i]? = some u
      rw [List.getElem?_append_left (by simp [fcell]; omega)]
      exact hu
    | succ j =>
      show (fcell a ++ fcs l)[(j + 1) * 5 + i]? = some u
      rw [List.getElem?_append_right (by simp [fcell]; omega)]
      rw [show (j + 1) * 5 + i - (fcell a).length = j * 5 + i by simp [fcell]; omega]
      exact ih j (by simpa using h) (by simpa using hu)

theorem made_bools (n : Nat) : (madeCells #[Value.bool false] n).toList = bools (List.replicate n false) := by
  rw [toList_madeCells_one]; simp [bools]

theorem MSt.node2 {w : World} {B mb T : Nat} {fv : Value} {c : Cf} {s : Ms} {K : Nat → Prop} {sv rv nv ev : Value} {vs : List Value} (h : MSt w B mb fv c s K sv rv nv ev vs) (hT : MLt T mb sv rv nv ev vs) (j : Nat) (hj : j < s.nds.length) :
    ∃ q nc vo vc, w.cell? ⟨mb, 5, none⟩ = some (.slice (some ⟨q, 0, none⟩) s.nds.length nc) ∧ q < w.heap.size ∧ s.nds.length ≤ nc ∧ nc ≤ 9223372036854775807 ∧ w.cell? ⟨q, j * 2, none⟩ = some (.slice vo s.nds[j].1.length vc) ∧ w.cell? ⟨q, j * 2 + 1, none⟩ = some (.bool s.nds[j].2) ∧
      w.ownsRow B 96 2 (.slice vo s.nds[j].1.length vc) s.nds[j].1.length (acs s.nds[j].1) ∧ ∀ k, (Value.slice vo s.nds[j].1.length vc).ownBlock = some k → k < T := by
  obtain ⟨q, nc, rfl, hqB, hqlt⟩ := h.rn.form (by omega)
  obtain ⟨v, hv, hrow, hsep⟩ := h.rows j hj
  obtain ⟨n0, n1⟩ := ncs_at vs s.nds j v _ hv (List.getElem?_eq_getElem hj)
  obtain ⟨vo, vc, rfl⟩ := own_form hrow
  have hcap := own_capM h.rn
  exact ⟨q, nc, vo, vc, h.c5, hqlt, hcap.1, hcap.2, row_cell h.rn _ _ n0, row_cell h.rn _ _ n1, hrow, hT.v _ (List.mem_of_getElem? hv)⟩

set_option maxRecDepth 100000 in
set_option maxHeartbeats 2000000 in
theorem mNeeded (B mb : Nat) (fv : Value) (c : Cf) (s : Ms) (K : Nat → Prop) (sv rv nv ev : Value) (vs : List Value) (w : World) (h : MSt w B mb fv c s K sv rv nv ev vs) (hl1 : s.nds.length ≤ 1099511627770) (hl2 : s.stk.length ≤ 1099511627770) (hl3 : s.frs.length ≤ 1099511627770) (hl4 : ∀ n ∈ s.nds, n.1.length ≤ 1099511627770) :
    Calls Tryz.prog 193 #[.pointer (some ⟨mb, 0, none⟩)] w fun e w' => ∃ v, e = .returned v ∧ Below w.heap.size w w' ∧ w'.ownsRow w.heap.size 4 1 v s.nds.length (bools (needM s).1) := by
  obtain ⟨ib, hib, hb0, hb1, hb2⟩ := info_parts Tryz.infoBool
  have HT : Hid (MLt w.heap.size mb sv rv nv ev vs) := h.mlt
  have HM : Hid (∀ w', Below w.heap.size w w' → MSt w' B mb fv c s K sv rv nv ev vs) := fun w' hb => h.old hb
  obtain ⟨no, nc, rfl⟩ := own_form h.rn
  obtain ⟨so, sc, rfl⟩ := own_form h.rs
  obtain ⟨ro, rc, rfl⟩ := own_form h.rr
  have c5 := h.c5
  have hmb := h.lt
  clear h
  go_enter Tryz.func193, Tryz.ntmps193
  go_wp2_with (at_make; go_must (refine wpList_make_full _ rfl _ _ 250 rfl w.heap.size 4 ib _ 1 Tryz.underlying250 hib hb0 hb1 _ _ _ _ s.nds.length rfl rfl (by simp) (by simp) ?mb ?ml ?mbase ?_))
  case mb => rw [hb2]; omega
  case ml => unfold maxLen; omega
  case mbase => omega
  intro w1 hown1 hgrow1
  have HB1 : Hid (Below w.heap.size w w1) := (Below.refl _ _).grown (row := none) hgrow1 (Nat.le_refl _) (fun k hk => by cases hk)
  have hs1 := HB1.out.size
  have HR1 : Hid (w1.ownsRow w.heap.size 4 1 (.slice (some ⟨w.heap.size, 0, none⟩) s.nds.length s.nds.length) s.nds.length (bools (List.replicate s.nds.length false))) := by
    have e : (madeCells #[Value.bool false] s.nds.length).toList = bools (List.replicate s.nds.length false) := made_bools _
    rw [← e]; exact hown1
  clear hown1 hgrow1
  have HA : Hid _ := below_al w1 (Obj.cells #[.slice (some ⟨w.heap.size, 0, none⟩) s.nds.length s.nds.length, .slice none 0 0] 264)
  have HB2 : Hid (Below w.heap.size w (w1.alloc (Obj.cells #[.slice (some ⟨w.heap.size, 0, none⟩) s.nds.length s.nds.length, .slice none 0 0] 264))) := HB1.out.trans (HA.out.mono hs1)
  have HS2 : Hid (SP (w1.alloc (Obj.cells #[.slice (some ⟨w.heap.size, 0, none⟩) s.nds.length s.nds.length, .slice none 0 0] 264)) w.heap.size w1.heap.size (List.replicate s.nds.length false, [])) :=
    ⟨_, _, heap_alloc_new _ _, hs1, by simpa using ownsRow_old HR1.out HA.out, World.ownsRow_nil _ _ _ _⟩
  have hm2 := HM.out _ HB2.out
  have HRI0 : Hid (RI s.nds.length (List.replicate s.nds.length false, [])) := RI.init _
  have HC : Hid _ := mReachAll s.stk.reverse (.slice so s.stk.length sc) B w.heap.size w1.heap.size _ _ HS2.out (by rw [List.length_reverse]; exact hm2.rs) HT.out.s _ HRI0.out hl1 (by rw [List.length_reverse]; exact hl2)
  have c3 := hm2.c3
  have hmb2 := hm2.lt
  clear hm2 c5
  go_wp2_with fail
  refine (show Calls _ _ _ _ _ from HC.out).mono ?_
  rintro e w3 ⟨⟨v3, rfl⟩, hb3, hS3⟩
  have HB3 : Hid (Below w.heap.size w w3) := HB2.out.trans hb3
  have HS3 : Hid _ := hS3
  have HRI3 : Hid (RI s.nds.length (rchA s.stk.reverse (List.replicate s.nds.length false, []))) := ((rchA_mr (R := fun _ => True) s.stk.reverse _ HRI0.out (fun _ _ _ => trivial)).1).ri
  have HN : Hid (needM s = bfs s s.nds.length 0 (rchF s.frs.reverse (rchA s.stk.reverse (List.replicate s.nds.length false, [])))) := rfl
  generalize hx3 : rchA s.stk.reverse (List.replicate s.nds.length false, []) = x3 at *
  clear hx3 HC hb3 hS3 HRI0 HS2 HB2 HA HR1 HB1 c3 hmb2
  have hm3 := HM.out _ HB3.out
  have c4 := hm3.c4
  have hmb3 := hm3.lt
  clear hm3
  have hSBl : w1.heap.size < w3.heap.size := by obtain ⟨_, _, h⟩ := HS3.out; exact (Array.getElem?_eq_some_iff.1 h.blk).1
  go_wp2_with fail
  clear c4 hmb3
  generalize hXF : rchF s.frs.reverse x3 = XF at *
  have HXF : Hid (rchF s.frs.reverse x3 = XF) := hXF
  clear hXF
  go_loopw [25] (fun y wr => ∃ (j : Nat) (z : List Bool × List Int), j ≤ s.frs.length ∧ y = .int .i64 j ∧ w1.heap.size < wr.heap.size ∧ Hid (Below w.heap.size w wr) ∧ Hid (SP wr w.heap.size w1.heap.size z) ∧ Hid (RI s.nds.length z) ∧ Hid (rchF (s.frs.reverse.drop j) z = XF)) (fun y _ => s.frs.length - (intOf y).toNat)
  case atStart => exact ⟨0, x3, Nat.zero_le _, rfl, hSBl, HB3.out, HS3.out, HRI3.out, HXF.out⟩
  case round =>
    clear HS3 HRI3 HXF HB3 hSBl
    obtain ⟨j, z, hj, rfl, hSBl, HB, HS, HRI, HE⟩ := hrel
    have hsz := HB.out.size
    by_cases hjl : j < s.frs.length
    · have hm := HM.out _ HB.out
      obtain ⟨q, cap', hq, hqB, hqlt⟩ := hm.rr.form (by omega)
      cases hq
      have hjr : j < s.frs.reverse.length := by rw [List.length_reverse]; exact hjl
      have k0 := row_cell hm.rr (j * 5 + 0) _ (fcs_at _ j hjr 0 _ rfl (by omega))
      have k1 := row_cell hm.rr (j * 5 + 1) _ (fcs_at _ j hjr 1 _ rfl (by omega))
      have k2 := row_cell hm.rr (j * 5 + 2) _ (fcs_at _ j hjr 2 _ rfl (by omega))
      have k3 := row_cell hm.rr (j * 5 + 3) _ (fcs_at _ j hjr 3 _ rfl (by omega))
      have k4 := row_cell hm.rr (j * 5 + 4) _ (fcs_at _ j hjr 4 _ rfl (by omega))
      rw [Nat.add_zero] at k0
      have HE2 : Hid (rchF (s.frs.reverse.drop (j + 1)) (if s.frs.reverse[j].k = 1 then rch s.frs.reverse[j].nd z else z) = XF) := by rw [← HE.out, List.drop_eq_getElem_cons hjr]; rfl
      clear hm
      generalize s.frs.reverse[j] = f at *
      obtain ⟨fk, fh, fnd, fpr, fnu⟩ := f
      simp only at *
      have hz1 : z.1.length ≤ 1099511627770 := by rw [HRI.out.len]; exact hl1
      have hz2 : z.2.length ≤ 1099511627770 := Nat.le_trans HRI.out.le hl1
      by_cases h1 : fk = 1
      · subst h1
        rw [if_pos rfl] at HE2
        have HC : Hid _ := mReach fnd w.heap.size w1.heap.size z _ (SP.old HS.out (below_al wr (Obj.cells #[.int .i64 1, .int .i64 (fh : Int), .int .i64 fnd, .int .i64 fpr, .int .i64 fnu] 191))) hz1 hz2
        go_wp2_with fail
        refine (show Calls _ _ _ _ _ from HC.out).mono ?_
        rintro e w4 ⟨⟨v4, rfl⟩, hb4, hS4⟩
        have HS4 : Hid _ := hS4
        have HB4 : Hid (Below w.heap.size w w4) := (HB.out.alloc hsz _).trans hb4
        have hs4 := hb4.size
        have hSB4 : w1.heap.size < w4.heap.size := by simp at hs4; omega
        clear HC hS4 hb4 k0 k1 k2 k3 k4 hs4
        go_wp2_with fail
        go_roundw
        case rel => exact ⟨j + 1, _, hjl, by go_num, hSB4, HB4.out, HS4.out, (HRI.out.rch fnd).1, HE2.out⟩
        case measure => simp [intOf]; omega
      · have hd : (fk == 1) = false := by simpa using h1
        rw [if_neg h1] at HE2
        go_wp2_with fail
        go_roundw
        case rel => exact ⟨j + 1, z, hjl, by go_num, by simp; omega, HB.out.alloc hsz _, SP.old HS.out (below_al _ _), HRI.out, HE2.out⟩
        case measure => simp [intOf]; omega
    · have hd : decide ((j : Int) < (s.frs.length : Int)) = false := by simp; omega
      have hd2 : ¬ (j : Int) < (s.frs.length : Int) := by omega
      have HF : Hid (z = XF) := by rw [← HE.out, show s.frs.reverse.drop j = [] from List.drop_eq_nil_of_le (by rw [List.length_reverse]; omega)]; rfl
      have HRI2 : Hid (RI s.nds.length XF) := by rw [← HF.out]; exact HRI.out
      have HS2 : Hid (SP wr w.heap.size w1.heap.size XF) := by rw [← HF.out]; exact HS.out
      clear HS HRI HE HF
      go_wp2_with fail
      clear hd hd2 hj hjl
      go_loopw [6] (fun y wx => ∃ (i : Nat) (z : List Bool × List Int), i ≤ z.2.length ∧ y = .int .i64 i ∧ w1.heap.size < wx.heap.size ∧ Hid (Below w.heap.size w wx) ∧ Hid (SP wx w.heap.size w1.heap.size z) ∧ Hid (RI s.nds.length z) ∧ Hid (bfs s (s.nds.length - i) i z = needM s)) (fun y _ => s.nds.length + 1 - (intOf y).toNat)
      case atStart => exact ⟨0, XF, Nat.zero_le _, rfl, hSBl, HB.out, HS2.out, HRI2.out, by rw [HN.out]; rfl⟩
      case round =>
        clear HS2 HRI2 HB hSBl hsz
        obtain ⟨i, z, hi, rfl, hSBl, HB, HS, HRI, HE⟩ := hrel
        have hsz := HB.out.size
        have hzl := HRI.out.le
        obtain ⟨nv2, rv2, hss⟩ := HS.out
        obtain ⟨no2, nc2, rfl⟩ := own_form hss.rn
        obtain ⟨ro2, rc2, rfl⟩ := own_form hss.rr
        obtain ⟨b0, b1⟩ := cells_of2 hss.blk
        by_cases hil : i < z.2.length
        · obtain ⟨q2, cap2, hq2, hq2B, hq2lt⟩ := hss.rr.form (by omega)
          cases hq2
          have n0 := row_cell hss.rr i _ (ints_at z.2 i hil)
          have hval := HRI.out.val (List.getElem_mem hil)
          have HE2 : Hid (bfs s (s.nds.length - (i + 1)) (i + 1) (rchA (ndA s z.2[i]).1 z) = needM s) := by
            rw [← HE.out, show s.nds.length - i = (s.nds.length - (i + 1)) + 1 by omega, bfs, if_pos hil]
            simp only [List.getElem?_eq_getElem hil, Option.getD_some, if_pos hval]
            rfl
          clear hss
          generalize z.2[i] = p at *
          obtain ⟨j2, rfl⟩ := Int.eq_ofNat_of_zero_le hval.1
          have hj2 : j2 < s.nds.length := by omega
          have hnd : ndA s (j2 : Int) = s.nds[j2] := by unfold ndA; simp [hj2]
          rw [hnd] at HE2
          have hln := hl4 s.nds[j2] (List.getElem_mem hj2)
          have hmx := HM.out _ HB.out
          obtain ⟨q, nc', vo, vc, c5, hq, hnc1, hnc2, m0, m1, hrow, hvT'⟩ := MSt.node2 hmx HT.out j2 hj2
          have hmb5 := hmx.lt
          have hvT : ∀ k, (Value.slice vo s.nds[j2].1.length vc).ownBlock = some k → k < w.heap.size := hvT'
          have HC : Hid _ := mReachAll s.nds[j2].1 (.slice vo s.nds[j2].1.length vc) B w.heap.size w1.heap.size z wr HS.out hrow hvT _ HRI.out hl1 hln
          have hd1 : decide ((0 : Int) ≤ (j2 : Int)) = true := by simp
          have hd2 : decide ((j2 : Int) < (s.nds.length : Int)) = true := by simp; omega
          have HRI2 : Hid (RI s.nds.length (rchA s.nds[j2].1 z)) := ((rchA_mr (R := fun _ => True) s.nds[j2].1 _ HRI.out (fun _ _ _ => trivial)).1).ri
          have HPL : Hid (i + 1 ≤ (rchA s.nds[j2].1 z).2.length) := by
            obtain ⟨l, e, _⟩ := ((rchA_mr (R := fun _ => True) s.nds[j2].1 _ HRI.out (fun _ _ _ => trivial)).1).pre
            show _ ≤ _
            rw [e, List.length_append]; omega
          clear hmx hrow hvT hnd hval
          go_wp2_with fail
          refine (show Calls _ _ _ _ _ from HC.out).mono ?_
          rintro e w4 ⟨⟨v4, rfl⟩, hb4, hS4⟩
          have HS4 : Hid _ := hS4
          have HB4 : Hid (Below w.heap.size w w4) := HB.out.trans hb4
          have hs4 := hb4.size
          have hSB4 : w1.heap.size < w4.heap.size := by omega
          clear HC hS4 hb4 hs4 m0 m1 c5 n0 b0 b1
          go_wp2_with fail
          go_roundw
          case rel => exact ⟨i + 1, _, HPL.out, by go_num, hSB4, HB4.out, HS4.out, HRI2.out, HE2.out⟩
          case measure => simp [intOf]; omega
        · have hd : decide ((i : Int) < (z.2.length : Int)) = false := by simp; omega
          have hd2 : ¬ (i : Int) < (z.2.length : Int) := by omega
          have HF : Hid (z = needM s) := by
            rw [← HE.out]
            cases s.nds.length - i with
            | zero => rfl
            | succ m => show z = _; rw [bfs, if_neg hil]
          have HL : Hid (z.1.length = s.nds.length) := HRI.out.len
          have HRN : Hid _ := hss.rn
          clear hss
          go_wp2_with fail
          go_ret
          exact ⟨_, rfl, HB.out, by rw [← HF.out, ← HL.out]; exact HRN.out⟩

end Go.Proofs.YtnndoagpbcacdaaGreatDoor
