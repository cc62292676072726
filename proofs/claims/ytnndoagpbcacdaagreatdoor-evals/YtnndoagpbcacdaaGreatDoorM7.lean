import Derived.Test.YtnndoagpbcacdaaGreatDoorM5
import Derived.Test.YtnndoagpbcacdaaGreatDoorMB0
namespace Go.Proofs.YtnndoagpbcacdaaGreatDoor
open Go.RowKit

/-! Package machine: heap.go. -/
set_option maxHeartbeats 4000000 in
theorem mLay (p : Int) (v : Value) (l : Ln) (bb : Bool) (B mb : Nat) (fv : Value) (c : Cf) (s : Ms) (K : Nat → Prop) (w : World) (h : MP w B mb fv c s K) (hv : w.ownsRow B 96 2 v l.length (acs l)) (hK : ∀ k, v.ownBlock = some k → K k) (hl : s.nds.length ≤ 1099511627770) :
    Calls Tryz.prog 121 #[.pointer (some ⟨mb, 0, none⟩), .int .i64 p, .agg #[v, .bool bb]] w fun e w' => (∃ v, e = .returned v) ∧ Below B w w' ∧ Kept K w w' ∧ MP w' B mb fv c (layM p (l, bb) s) K := by
  obtain ⟨sv, rv, nv, ev, vs, h⟩ := h
  obtain ⟨no, nc, rfl⟩ := own_form h.rn
  obtain ⟨vo, vc, rfl⟩ := own_form hv
  have c5 := h.c5
  have hmb := h.lt
  have hlo := h.lo
  by_cases hp : 0 ≤ p ∧ p < s.nds.length
  · have HE : Hid (layM p (l, bb) s = { s with nds := s.nds.set p.toNat (l, bb) }) := if_pos hp
    rw [HE.out]
    obtain ⟨hp0, hp1⟩ := hp
    obtain ⟨j, rfl⟩ := Int.eq_ofNat_of_zero_le hp0
    have hj : j < s.nds.length := by omega
    obtain ⟨q, cap', hq, hqB, hqlt⟩ := h.rn.form (by omega)
    cases hq
    obtain ⟨u, hu, _, _⟩ := h.rows j hj
    obtain ⟨n0, n1⟩ := ncs_at vs s.nds j u _ hu (List.getElem?_eq_getElem hj)
    have k0 := row_cell h.rn (j * 2) _ n0
    have k1 := row_cell h.rn (j * 2 + 1) _ n1
    have f0 := own_frozen h.rn (j * 2)
    have f1 := own_frozen h.rn (j * 2 + 1)
    have hB0 : B ≤ w.heap.size := by omega
    have hqn : q ≠ w.heap.size := by omega
    have HL : Hid _ := MSt.layN (b := bb) h hj hv (fun k hk => (h.sep k (hK k hk)).2.1)
    clear h hv hK HE n0 n1 hu
    have hd : decide ((0 : Int) ≤ (j : Int)) = true := by simp
    have hd2 : decide ((j : Int) < (s.nds.length : Int)) = true := by simp; omega
    go_enter Tryz.func121, Tryz.ntmps121
    go_wp2_with fail
    go_region
    all_goals
      go_wp2_with fail
      refine bodyPost_end (v := .tuple #[]) (by simp [results, Tryz.results121, go_sem]) rfl ⟨⟨_, rfl⟩, Below.drew (HL.out.1.alloc (by rw [size_set, size_set]; exact hB0) _), ?_, _, _, _, _, _, HL.out.2.2.old (Below.drew (below_al _ _))⟩
      exact HL.out.2.1.trans (Kept.old (Below.drew (below_al _ _))) (by rw [size_set, size_set]; exact Nat.le_refl _)
  · have HE : Hid (layM p (l, bb) s = s) := if_neg hp
    rw [HE.out]
    have HM : Hid _ := h
    have hB0 : B ≤ w.heap.size := by omega
    clear h hv hK HE
    by_cases h0 : 0 ≤ p
    · have hd : decide (0 ≤ p) = true := by simpa using h0
      have hd2 : decide (p < (s.nds.length : Int)) = false := by simp; omega
      go_enter Tryz.func121, Tryz.ntmps121
      go_wp2_with fail
      exact bodyPost_end (v := .tuple #[]) (by simp [results, Tryz.results121, go_sem]) rfl ⟨⟨_, rfl⟩, (Below.refl B w).alloc hB0 _, Kept.old (below_al w _), _, _, _, _, _, HM.out.old (below_al w _)⟩
    · have hd : decide (0 ≤ p) = false := by simpa using h0
      go_enter Tryz.func121, Tryz.ntmps121
      go_wp2_with fail
      exact bodyPost_end (v := .tuple #[]) (by simp [results, Tryz.results121, go_sem]) rfl ⟨⟨_, rfl⟩, (Below.refl B w).alloc hB0 _, Kept.old (below_al w _), _, _, _, _, _, HM.out.old (below_al w _)⟩

set_option maxHeartbeats 4000000 in
theorem mUpdate (fk fh nd fpr fnu : Int) (B mb : Nat) (fv : Value) (c : Cf) (s : Ms) (K : Nat → Prop) (w : World) (h : MP w B mb fv c s K) (hl : s.stk.length ≤ 1099511627770) (hl2 : s.frs.length ≤ 1099511627770) (hl3 : s.nds.length ≤ 1099511627770) (hf : flr s ≤ s.stk.length) :
    Calls Tryz.prog 123 #[.pointer (some ⟨mb, 0, none⟩), .agg #[.int .i64 fk, .int .i64 fh, .int .i64 nd, .int .i64 fpr, .int .i64 fnu]] w fun e w' => (∃ v, e = .returned v) ∧ Below B w w' ∧ Kept K w w' ∧ MP w' B mb fv c (updM nd s) K := by
  obtain ⟨sv, rv, nv, ev, vs, h⟩ := h
  have hB0 : B ≤ w.heap.size := by have := h.lt; have := h.lo; omega
  have HA0 : Hid _ := below_al w (Obj.cells #[.int .i64 fk, .int .i64 fh, .int .i64 nd, .int .i64 fpr, .int .i64 fnu] 191)
  have HM0 : Hid _ := h.old HA0.out
  have HT0 : Hid _ := h.mlt
  have HX0 : Hid _ := heap_alloc_new w (Obj.cells #[.int .i64 fk, .int .i64 fh, .int .i64 nd, .int .i64 fpr, .int .i64 fnu] 191)
  have hs0 : w.heap.size + 1 = (w.alloc (Obj.cells #[.int .i64 fk, .int .i64 fh, .int .i64 nd, .int .i64 fpr, .int .i64 fnu] 191)).heap.size := by simp
  have HC1 : Hid _ := mActive B mb fv c s K sv rv nv ev vs _ HM0.out (by omega) (by omega) hf
  have HE : Hid (updM nd s = layM nd (actM s, true) (dropM s)) := rfl
  rw [HE.out]
  clear h HE
  go_enter Tryz.func123, Tryz.ntmps123
  go_wp2_with fail
  generalize hw0 : w.alloc (Obj.cells #[.int .i64 fk, .int .i64 fh, .int .i64 nd, .int .i64 fpr, .int .i64 fnu] 191) = w0 at *
  refine (show Calls _ _ _ _ _ from HC1.out).mono ?_
  rintro e w1 ⟨v, rfl, hb1, hr1⟩
  clear HC1
  have HB1 : Hid (Below w.heap.size w w1) := HA0.out.trans (hb1.mono (by omega))
  have HX1 : Hid _ := (hb1.block w.heap.size (by omega)).trans HX0.out
  have HM1 : Hid (MSt w1 B mb fv c s (fun k => K k ∨ (w.heap.size ≤ k ∧ k < w1.heap.size)) sv rv nv ev vs) := (HM0.out.old hb1).fromT HT0.out
  have HR1 : Hid (w1.ownsRow w0.heap.size 96 2 v (actM s).length (acs (actM s))) := hr1
  have hs1 := hb1.size
  have HV : Hid (∀ k, v.ownBlock = some k → (K k ∨ (w.heap.size ≤ k ∧ k < w1.heap.size))) := fun k hk => .inr ⟨by have := (hr1.lt k hk).1; omega, (hr1.lt k hk).2⟩
  obtain ⟨vo, vc, rfl⟩ := own_form hr1
  have HC2 : Hid _ := mDrop B mb fv c s _ w1 ⟨_, _, _, _, _, HM1.out⟩ (by omega)
  clear hr1 hb1 HM0 HA0
  go_wp2_with fail
  refine (show Calls _ _ _ _ _ from HC2.out).mono ?_
  rintro e w2 ⟨⟨v2, rfl⟩, hb2, hk2, hm2⟩
  clear HC2
  have hX2 := hk2.blk (.inr ⟨Nat.le_refl _, by omega⟩) HX1.out
  have hlt2 : w.heap.size < w2.heap.size := (Array.getElem?_eq_some_iff.1 hX2).1
  obtain ⟨_, _, p2, _, _⟩ := cells_of5 hX2
  have HR2 : Hid (w2.ownsRow B 96 2 (.slice vo (actM s).length vc) (actM s).length (acs (actM s))) := ownsRow_base (own_kept HR1.out hk2 HV.out) (by omega)
  have HC3 : Hid _ := mLay nd (.slice vo (actM s).length vc) (actM s) true B mb fv c (dropM s) _ w2 hm2 HR2.out HV.out (by show s.nds.length ≤ _; omega)
  have HB2 : Hid (Below B w w2) := (HB1.out.mono hB0).trans hb2
  have HK2 : Hid (Kept K w w2) := (Kept.old HB1.out).trans (hk2.less fun k hk => .inl hk) HB1.out.size
  clear hb2 hk2 hm2 hX2
  go_wp2_with fail
  refine (show Calls _ _ _ _ _ from HC3.out).mono ?_
  rintro e w3 ⟨⟨v3, rfl⟩, hb3, hk3, hm3⟩
  clear HC3
  have HM3 : Hid (MP w3 B mb fv c (layM nd (actM s, true) (dropM s)) K) := hm3.less fun k hk => .inl hk
  have HB3 : Hid (Below B w w3) := HB2.out.trans hb3
  have HK3 : Hid (Kept K w w3) := HK2.out.trans (hk3.less fun k hk => .inl hk) HB2.out.size
  clear hb3 hk3 hm3 p2
  go_wp2_with fail
  exact bodyPost_end (v := .tuple #[]) (by simp [results, Tryz.results123, go_sem]) rfl ⟨⟨_, rfl⟩, HB3.out, HK3.out, HM3.out⟩

set_option maxHeartbeats 1000000 in
theorem mWanted (p : Int) (w : World) : Calls Tryz.prog 79 #[.int .i64 p] w fun e w' => e = .returned (.int .i64 (wantM p)) ∧ w' = w := by
  unfold wantM
  by_cases h3 : p = 3
  · subst h3
    go_enter Tryz.func79, Tryz.ntmps79
    go_wp2_with fail
    go_ret
    exact ⟨rfl, rfl⟩
  · by_cases h4 : p = 4
    · subst h4
      go_enter Tryz.func79, Tryz.ntmps79
      go_wp2_with fail
      go_ret
      exact ⟨rfl, rfl⟩
    · have g3 : (p == 3) = false := by simpa using h3
      have g4 : (p == 4) = false := by simpa using h4
      rw [if_neg (by omega)]
      go_enter Tryz.func79, Tryz.ntmps79
      go_wp2_with fail
      go_ret
      exact ⟨rfl, rfl⟩

/-- A node's items, to be read. -/
theorem MP.node {w : World} {B mb : Nat} {fv : Value} {c : Cf} {s : Ms} {K : Nat → Prop} (h : MP w B mb fv c s K) (j : Nat) (hj : j < s.nds.length) :
    ∃ q nc vo vc, w.cell? ⟨mb, 5, none⟩ = some (.slice (some ⟨q, 0, none⟩) s.nds.length nc) ∧ q < w.heap.size ∧ s.nds.length ≤ nc ∧ nc ≤ 9223372036854775807 ∧ w.cell? ⟨q, j * 2, none⟩ = some (.slice vo s.nds[j].1.length vc) ∧ w.cell? ⟨q, j * 2 + 1, none⟩ = some (.bool s.nds[j].2) ∧
      w.ownsRow B 96 2 (.slice vo s.nds[j].1.length vc) s.nds[j].1.length (acs s.nds[j].1) ∧ MP w B mb fv c s (fun k => K k ∨ (Value.slice vo s.nds[j].1.length vc).ownBlock = some k) := by
  obtain ⟨sv, rv, nv, ev, vs, h⟩ := h
  obtain ⟨q, nc, rfl, hqB, hqlt⟩ := h.rn.form (by omega)
  obtain ⟨v, hv, hrow, hsep⟩ := h.rows j hj
  obtain ⟨n0, n1⟩ := ncs_at vs s.nds j v _ hv (List.getElem?_eq_getElem hj)
  obtain ⟨vo, vc, rfl⟩ := own_form hrow
  have hcap := own_capM h.rn
  refine ⟨q, nc, vo, vc, h.c5, hqlt, hcap.1, hcap.2, row_cell h.rn _ _ n0, row_cell h.rn _ _ n1, hrow, _, _, _, _, _, h.moreK fun k hk => ?_⟩
  rcases hk with hk | hk
  · exact .inl hk
  · exact .inr ⟨(hrow.lt k hk).2, own_ne_blk hrow h.blk (by decide) k hk, hsep k hk, own_ne_type hrow h.rr (by decide) k hk, own_ne_type hrow h.rn (by decide) k hk, own_ne_type hrow h.re (by decide) k hk⟩

set_option maxHeartbeats 4000000 in
theorem mEnter (B mb : Nat) (fv : Value) (c : Cf) (s : Ms) (K : Nat → Prop) (w : World) (h : MP w B mb fv c s K) (hl : s.stk.length ≤ 1099511627770) (hl2 : s.frs.length ≤ 1099511627770) (_hl3 : s.nds.length ≤ 1099511627770) (hl4 : ∀ n ∈ s.nds, n.1.length + s.stk.length ≤ 1099511627770) :
    Calls Tryz.prog 75 #[.pointer (some ⟨mb, 0, none⟩)] w fun e w' => (∃ v, e = .returned v) ∧ Below B w w' ∧ Kept K w w' ∧ MP w' B mb fv c (enterM s) K := by
  have HC1 : Hid _ := mPop B mb fv c s K w h (by omega)
  clear h
  generalize hx : hdI s.stk = x at *
  obtain ⟨x1, p⟩ := x
  simp only at HC1
  go_enter Tryz.func75, Tryz.ntmps75
  go_wp2_with fail
  refine (show Calls _ _ _ _ _ from HC1.out).mono ?_
  rintro e w1 ⟨rfl, hb1, hk1, hm1⟩
  clear HC1
  have HA1 : Hid _ := below_al w1 (Obj.cells #[.int .i64 x1, .int .i64 p] 96)
  have HM1 : Hid _ := hm1.old HA1.out
  have hB1 : B ≤ w1.heap.size := by have := hm1.lt; have := hm1.lo; omega
  have HB1 : Hid (Below B w (w1.alloc (Obj.cells #[.int .i64 x1, .int .i64 p] 96))) := hb1.trans (HA1.out.mono hB1)
  have HK1 : Hid (Kept K w (w1.alloc (Obj.cells #[.int .i64 x1, .int .i64 p] 96))) := hk1.trans (Kept.old HA1.out) hb1.size
  clear hm1 hb1 hk1
  by_cases hp : 0 ≤ p ∧ p < s.nds.length
  · obtain ⟨hp0, hp1⟩ := hp
    obtain ⟨j, rfl⟩ := Int.eq_ofNat_of_zero_le hp0
    have hj : j < s.nds.length := by omega
    have HE : Hid (enterM s = putM s.nds[j].1 (if s.nds[j].2 then popM s else waitM 1 (j : Int) 0 0 (popM s))) := by
      show _ = _
      unfold enterM
      rw [hx, if_pos ⟨hp0, hp1⟩]
      simp [hj]
    have hn := hl4 s.nds[j] (List.getElem_mem hj)
    have hd1 : decide ((j : Int) < 0) = false := by simp
    have hd2 : decide ((s.nds.length : Int) ≤ (j : Int)) = false := by simp; omega
    have hd3 : ¬ (s.nds.length : Int) ≤ (j : Int) := by omega
    have hmb : mb < (w1.alloc (Obj.cells #[.int .i64 x1, .int .i64 (j : Int)] 96)).heap.size := MP.lt HM1.out
    obtain ⟨q, nc, vo, vc, c5, hq, hnc1, hnc2, n0, n1, hrow, hmk⟩ := MP.node HM1.out j hj
    have hpn : (popM s).nds = s.nds := rfl
    simp only [hpn] at c5 n0 n1 hrow hmk hnc1
    cases hdn : s.nds[j].2
    · rw [hdn] at n1
      have HE2 : Hid (enterM s = putM s.nds[j].1 (waitM 1 (j : Int) 0 0 (popM s))) := by rw [HE.out, hdn]; rfl
      have HC2 : Hid _ := mWait 1 0 (j : Int) 0 0 B mb fv c (popM s) K _ HM1.out (by show s.frs.length ≤ _; omega) (by show s.stk.tail.length ≤ _; rw [List.length_tail]; omega)
      clear hrow hmk HM1 HE hdn
      go_wp2_with fail
      refine (show Calls _ _ _ _ _ from HC2.out).mono ?_
      rintro e w2 ⟨⟨v2, rfl⟩, hb2, hk2, hm2⟩
      clear c5 n0 n1 hq hmb HC2 hnc1 hnc2
      have hmb := hm2.lt
      obtain ⟨q, nc, vo, vc, c5, hq, hnc1, hnc2, n0, n1, hrow, hmk⟩ := hm2.node j hj
      have hpn : (waitM 1 (j : Int) 0 0 (popM s)).nds = s.nds := rfl
      simp only [hpn] at c5 n0 n1 hrow hmk hnc1
      have HC3 : Hid _ := mPut s.nds[j].1 _ B B mb fv c _ _ w2 hmk hrow (fun k hk => .inr hk) (by show _ + s.stk.tail.length ≤ _; rw [List.length_tail]; omega)
      have HB2 : Hid (Below B w w2) := HB1.out.trans hb2
      have HK2 : Hid (Kept K w w2) := HK1.out.trans hk2 HB1.out.size
      clear hrow hmk hb2 hk2 hm2
      go_wp2_with fail
      refine (show Calls _ _ _ _ _ from HC3.out).mono ?_
      rintro e w3 ⟨⟨v3, rfl⟩, hb3, hk3, hm3⟩
      have HM3 : Hid (MP w3 B mb fv c (enterM s) K) := by rw [HE2.out]; exact hm3.less fun k hk => .inl hk
      have HB3 : Hid (Below B w w3) := HB2.out.trans hb3
      have HK3 : Hid (Kept K w w3) := HK2.out.trans (hk3.less fun k hk => .inl hk) HB2.out.size
      clear HC3 hb3 hk3 hm3 n0 n1 c5
      go_wp2_with fail
      exact bodyPost_end (v := .tuple #[]) (by simp [results, Tryz.results75, go_sem]) rfl ⟨⟨_, rfl⟩, HB3.out, HK3.out, HM3.out⟩
    · rw [hdn] at n1
      have HE2 : Hid (enterM s = putM s.nds[j].1 (popM s)) := by rw [HE.out, hdn]; rfl
      have HC3 : Hid _ := mPut s.nds[j].1 _ B B mb fv c _ _ _ hmk hrow (fun k hk => .inr hk) (by show _ + s.stk.tail.length ≤ _; rw [List.length_tail]; omega)
      clear hrow hmk HM1 HE hdn
      go_wp2_with fail
      refine (show Calls _ _ _ _ _ from HC3.out).mono ?_
      rintro e w3 ⟨⟨v3, rfl⟩, hb3, hk3, hm3⟩
      have HM3 : Hid (MP w3 B mb fv c (enterM s) K) := by rw [HE2.out]; exact hm3.less fun k hk => .inl hk
      have HB3 : Hid (Below B w w3) := HB1.out.trans hb3
      have HK3 : Hid (Kept K w w3) := HK1.out.trans (hk3.less fun k hk => .inl hk) HB1.out.size
      clear HC3 hb3 hk3 hm3 n0 n1 c5
      go_wp2_with fail
      exact bodyPost_end (v := .tuple #[]) (by simp [results, Tryz.results75, go_sem]) rfl ⟨⟨_, rfl⟩, HB3.out, HK3.out, HM3.out⟩
  · have HE : Hid (enterM s = popM s) := by show _ = _; unfold enterM; rw [hx]; exact if_neg hp
    have HM2 : Hid (MP (w1.alloc (Obj.cells #[.int .i64 x1, .int .i64 p] 96)) B mb fv c (enterM s) K) := by rw [HE.out]; exact HM1.out
    obtain ⟨sv, rv, nv, ev, vs, hm⟩ := HM1.out
    obtain ⟨no, nc, rfl⟩ := own_form hm.rn
    have c5 := hm.c5
    have hmb := hm.lt
    have hpn : (popM s).nds = s.nds := rfl
    rw [hpn] at c5
    clear hm HM1 HE
    by_cases h0 : 0 ≤ p
    · have hd1 : decide (p < 0) = false := by simp; omega
      have hd2 : decide ((s.nds.length : Int) ≤ p) = true := by simp; omega
      go_wp2_with fail
      exact bodyPost_ret (v := .tuple #[]) (by simp [results, Tryz.results75, go_sem]) rfl ⟨⟨_, rfl⟩, HB1.out, HK1.out, HM2.out⟩
    · have hd1 : decide (p < 0) = true := by simp; omega
      go_wp2_with fail
      exact bodyPost_ret (v := .tuple #[]) (by simp [results, Tryz.results75, go_sem]) rfl ⟨⟨_, rfl⟩, HB1.out, HK1.out, HM2.out⟩

set_option maxHeartbeats 4000000 in
theorem mTemplate (n : Int) (T B mb : Nat) (fv : Value) (c : Cf) (s : Ms) (K : Nat → Prop) (w : World) (h : MP w B mb fv c s K) (hT : T ≤ w.heap.size) (hf : FunsRd w T fv c.fs) :
    Calls Tryz.prog 76 #[.pointer (some ⟨mb, 0, none⟩), .int .i64 n] w fun e w' => ∃ lo lc, e = .returned (.agg #[.int .i64 (tplM c n).ar, .slice lo (tplM c n).ls.length lc]) ∧ Below w.heap.size w w' ∧ LinesRd w T (.slice lo (tplM c n).ls.length lc) (tplM c n).ls := by
  obtain ⟨sv, rv, nv, ev, vs, h⟩ := h
  have hmb := h.lt
  have c0 := h.c0
  obtain ⟨fo, fc, rfl, hfc1, hfc2, hcs⟩ := hf
  unfold maxLen at hfc2
  clear h
  by_cases hn : 0 ≤ n ∧ n < c.fs.length
  · obtain ⟨h0, h1⟩ := hn
    obtain ⟨j, rfl⟩ := Int.eq_ofNat_of_zero_le h0
    have hj : j < c.fs.length := by omega
    have HE : Hid (tplM c (j : Int) = c.fs[j]) := by show _ = _; unfold tplM; rw [if_pos ⟨h0, h1⟩]; simp [hj]
    rw [HE.out]
    rcases hcs with hz | ⟨b, off, rfl, hbT, hcell⟩
    · omega
    obtain ⟨lv, k0, k1, hlr⟩ := hcell j hj
    have hblt : b < w.heap.size := by omega
    have HL : Hid _ := hlr
    generalize c.fs[j] = t at *
    obtain ⟨ar, ls⟩ := t
    simp only at *
    obtain ⟨lo, lc, rfl, hlc1, hlc2, _⟩ := hlr
    have hd1 : decide ((j : Int) < 0) = false := by simp
    have hd2 : decide ((c.fs.length : Int) ≤ (j : Int)) = false := by simp; omega
    have hd3 : ¬ (c.fs.length : Int) ≤ (j : Int) := by omega
    clear hcell HE
    go_enter Tryz.func76, Tryz.ntmps76
    go_wp2_with fail
    refine bodyPost_ret (v := .agg #[.int .i64 ar, .slice lo ls.length lc]) (by simp [results, Tryz.results76, go_sem]) rfl ⟨lo, lc, rfl, ?_, HL.out⟩
    exact below_al _ _
  · have HE : Hid (tplM c n = ⟨0, []⟩) := by show _ = _; unfold tplM; exact if_neg hn
    rw [HE.out]
    clear HE hcs
    by_cases h0 : 0 ≤ n
    · have hd1 : decide (n < 0) = false := by simp; omega
      have hd2 : decide ((c.fs.length : Int) ≤ n) = true := by simp; omega
      go_enter Tryz.func76, Tryz.ntmps76
      go_wp2_with fail
      exact bodyPost_ret (v := .agg #[.int .i64 0, .slice none 0 0]) (by simp [results, Tryz.results76, go_sem]) rfl ⟨none, 0, rfl, below_al _ _, none, 0, rfl, Nat.le_refl _, by unfold maxLen; omega, .inl rfl⟩
    · have hd1 : decide (n < 0) = true := by simp; omega
      go_enter Tryz.func76, Tryz.ntmps76
      go_wp2_with fail
      exact bodyPost_ret (v := .agg #[.int .i64 0, .slice none 0 0]) (by simp [results, Tryz.results76, go_sem]) rfl ⟨none, 0, rfl, below_al _ _, none, 0, rfl, Nat.le_refl _, by unfold maxLen; omega, .inl rfl⟩

end Go.Proofs.YtnndoagpbcacdaaGreatDoor
