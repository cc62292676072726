import Derived.Test.YtnndoagpbcacdaaGreatDoorMG12
import Derived.Test.YtnndoagpbcacdaaGreatDoorG9
namespace Go.Proofs.YtnndoagpbcacdaaGreatDoor
open Go.RowKit

/-! Package redexkeep: grow.go: program: its names. -/
theorem Tryz.infoSg : (Tryz.prog.info? 9).map (fun i => (i.zero, i.size, i.bytes)) = some (some (.string ByteArray.empty), 1, 16) := by kernel_rfl
theorem Tryz.infoFz : (Tryz.prog.info? 66).map (fun i => (i.zero, i.size, i.bytes)) = some (some (.agg #[.string ByteArray.empty, .slice none 0 0, .slice none 0 0]), 3, 64) := by kernel_rfl
def letB : List ByteArray := [⟨#[120]⟩, ⟨#[121]⟩, ⟨#[122]⟩]
def fzOf (ns : List ByteArray) (fb : List Fb) : List Fz := fb.zipWith (fun f n => ⟨n, letB.take f.np, f.ap⟩) ns
theorem fzOf_snoc {ns : List ByteArray} {fb : List Fb} {f : Fb} (h : fb.length < ns.length) : fzOf ns (fb ++ [f]) = fzOf ns fb ++ [⟨ns[fb.length], letB.take f.np, f.ap⟩] := by
  unfold fzOf
  have e : ns = ns.take fb.length ++ ns[fb.length] :: ns.drop (fb.length + 1) := by rw [List.getElem_cons_drop, List.take_append_drop]
  have h1 : (ns.take fb.length).length = fb.length := by rw [List.length_take]; omega
  have h2 : fb.zipWith (fun f n => (⟨n, letB.take f.np, f.ap⟩ : Fz)) ns = fb.zipWith (fun f n => ⟨n, letB.take f.np, f.ap⟩) (ns.take fb.length) := by
    refine List.ext_getElem? (fun j => ?_)
    rw [List.getElem?_zipWith, List.getElem?_zipWith]
    by_cases hj : j < fb.length
    · rw [List.getElem?_take_of_lt hj]
    · rw [List.getElem?_eq_none (by omega : fb.length ≤ j)]
  rw [h2]
  conv => lhs; rw [e]
  rw [List.zipWith_append h1.symm]
  rfl
theorem fzOf_len {ns : List ByteArray} {fb : List Fb} (h : fb.length ≤ ns.length) : (fzOf ns fb).length = fb.length := by
  unfold fzOf; rw [List.length_zipWith]; omega
/-- A name more. -/
theorem GB.pushN {w w2 : World} {T g q cap : Nat} {lv nv : Value} {L : List Int} {k i : Nat} {ns : List ByteArray} {x : ByteArray} (h : GB w T g lv nv (.slice none 0 0) L k i ns []) (hown : w2.ownsRow T 9 1 (.slice (some ⟨q, 0, none⟩) (ns.length + 1) cap) (ns.length + 1) (sgs ns ++ [.string x])) (hgr : w.grownBy w2 nv.ownBlock) :
    Below T w (w2.setCell ⟨g, 2, none⟩ (.slice (some ⟨q, 0, none⟩) (ns.length + 1) cap)) ∧ GB (w2.setCell ⟨g, 2, none⟩ (.slice (some ⟨q, 0, none⟩) (ns.length + 1) cap)) T g lv (.slice (some ⟨q, 0, none⟩) (ns.length + 1) cap) (.slice none 0 0) L k i (ns ++ [x]) [] := by
  have hb2 := grown_type h.rn hgr (by decide) h.blk
  have hbel : Below T w (w2.setCell ⟨g, 2, none⟩ (.slice (some ⟨q, 0, none⟩) (ns.length + 1) cap)) := ((Below.refl T w).grown hgr (by have := h.lt; have := h.lo; omega) (fun k hk => (h.rn.lt k hk).1)).setCell (by exact h.lo) _
  refine ⟨hbel, blk_set _ hb2, h.lo, h.ri.keep hbel, h.kl, ?_, World.ownsRow_nil _ _ _ _⟩
  have e : sgs (ns ++ [x]) = sgs ns ++ [.string x] := by simp [sgs]
  rw [e, List.length_append]
  exact ownsRow_set hown hb2 (by decide)
def nmB (main : ByteArray) : Nat → ByteArray → Prop
  | 0, x => x = main
  | n + 1, x => x.data.toList = fNm (n + 1)
def NmsB (main : ByteArray) (ns : List ByteArray) : Prop := ∀ j x, ns[j]? = some x → nmB main j x
theorem NmsB.snoc {main x : ByteArray} {ns : List ByteArray} (h : NmsB main ns) (hx : nmB main ns.length x) : NmsB main (ns ++ [x]) := by
  intro j y hy
  by_cases hj : j < ns.length
  · rw [List.getElem?_append_left hj] at hy; exact h j y hy
  · by_cases he : j = ns.length
    · subst he; simp at hy; subst hy; exact hx
    · rw [List.getElem?_eq_none (by simp; omega)] at hy; cases hy

theorem But.new {b i q : Nat} {w w' : World} {v : Value} (h : But b w w') (hq : w.heap.size ≤ q) (hb : b ≤ w.heap.size) : But b w (w'.setCell ⟨q, i, none⟩ v) :=
  ⟨h.bel.setCell (by show b ≤ q; omega) _, fun k hk hn => (heap_set_ne _ (by omega)).trans (h.oth k hk hn)⟩
theorem But.two {b f : Nat} {w w1 w2 : World} (h : But b w w1) (h2 : But f w1 w2) (hf : w.heap.size ≤ f) (hb : b ≤ f) : But b w w2 :=
  ⟨h.bel.trans (h2.bel.mono hb), fun k hk hn => (h2.oth k (Nat.lt_of_lt_of_le hk h.size) (by omega)).trans (h.oth k hk hn)⟩
theorem GB.but {w w' : World} {T g f : Nat} {lv nv pv : Value} {L : List Int} {k i : Nat} {ns ps : List ByteArray} {cs : Array Value} (h : GB w T g lv nv pv L k i ns ps) (hb : But f w w') (hf : w.heap[f]? = some (.cells cs 66 (0, 0))) (hT : T ≤ f) : GB w' T g lv nv pv L k i ns ps :=
  ⟨(hb.oth g h.lt (fun e => by subst e; have := h.blk; rw [hf] at this; simp at this)).trans h.blk, h.lo, h.ri.keep (hb.bel.mono hT), h.kl, row_but h.rn hb hf (by decide), row_but h.rp hb hf (by decide)⟩
theorem GB.setP {w : World} {T g : Nat} {lv nv pv pv' : Value} {L : List Int} {k i : Nat} {ns ps ps' : List ByteArray} (h : GB w T g lv nv pv L k i ns ps) (hp : w.ownsRow T 9 1 pv' ps'.length (sgs ps')) : GB (w.setCell ⟨g, 3, none⟩ pv') T g lv nv pv' L k i ns ps' :=
  ⟨blk_set _ h.blk, h.lo, h.ri.keep ((Below.refl T w).setCell (by exact h.lo) _), h.kl, ownsRow_set h.rn h.blk (by decide), ownsRow_set hp h.blk (by decide)⟩
theorem new_1d (w : World) (o : Obj) : (w.alloc o).drew.heap[w.heap.size]? = some o := heap_alloc_new w o
theorem below_1d (w : World) (o : Obj) : Below w.heap.size w (w.alloc o).drew := Below.drew (bel_al w o)
theorem let_at (j : Nat) (h : j < 3) : ((⟨#[120, 121, 122]⟩ : ByteArray).extract j (j + 1)) = letB[j]'h := by
  have : j = 0 ∨ j = 1 ∨ j = 2 := by omega
  rcases this with rfl | rfl | rfl <;> rfl
theorem row_three {w : World} {a b c : Value} {t : TypeId} : (w.alloc (Obj.cells #[a, b, c] t)).heap[w.heap.size]? = some (.cells #[a, b, c] t (0, 0)) := heap_alloc_new w _

set_option maxRecDepth 100000 in
set_option maxHeartbeats 8000000 in
theorem kProgram (lv : Value) (L : List Int) (main : ByteArray) (w : World) (hri : IntsRd w w.heap.size lv L) (hin : ∀ c ∈ L, -9223372036854775808 ≤ c ∧ c ≤ 9223372036854775807) :
    Calls Tryz.prog 20 #[lv, .string main] w fun e w' => ∃ v, e = .returned v ∧ Below w.heap.size w w' ∧ ∃ ns, NmsB main ns ∧ ns.length = (progF L).length ∧ FRow w' (fun k => k < w'.heap.size) ns (fzOf ns (progF L)) v := by
  have hL : L.length ≤ maxLen := by obtain ⟨_, _, _, h1, h2, _⟩ := hri; omega
  obtain ⟨is, his, hs0, hsz1, hs2⟩ := info_parts Tryz.infoSg
  obtain ⟨ie, hie, he0, he1, he2⟩ := info_parts Tryz.infoFz
  have HG0 : Hid (GB (w.alloc (Obj.cells #[lv, .int .i64 0, .slice none 0 0, .slice none 0 0, .int .i64 0] 39)) w.heap.size w.heap.size lv (.slice none 0 0) (.slice none 0 0) L 0 0 [] []) :=
    ⟨heap_alloc_new w _, Nat.le_refl _, hri.keep (bel_al w _), Nat.zero_le _, World.ownsRow_nil _ _ _ _, World.ownsRow_nil _ _ _ _⟩
  have HC1 : Hid _ := kNext 4 w.heap.size w.heap.size lv (.slice none 0 0) (.slice none 0 0) L 0 0 [] [] _ HG0.out hin hL (by omega) (by omega)
  have hvf := hri
  obtain ⟨va, vc, rfl, _, _, _⟩ := hvf
  have HPF : Hid (progF L = fnsF ((nxF 4 L).1 + 1) ((nxF 4 L).1 + 1) 0 (nxF 4 L).2) := rfl
  have hn4 := nxF_lt 4 L (by omega)
  rw [List.drop_zero] at HC1
  generalize hz : nxF 4 L = z at *
  obtain ⟨n0, l1⟩ := z
  simp only at HPF HC1 hn4
  clear hz hri HG0
  go_enter Tryz.func20, Tryz.ntmps20
  go_wp2_with fail
  refine (show Calls _ _ _ _ _ from HC1.out).mono ?_
  rintro e w1 ⟨rfl, hb1, k1, hk1, hg1⟩
  clear HC1
  have HBW1 : Hid (Below w.heap.size w w1) := (bel_al w _).trans (hb1.below (Nat.le_refl _))
  have hs1 := HBW1.out.size
  have hgl1 := hg1.lt
  have HK1 : Hid (l1 = L.drop k1) := hk1
  have HG1 : Hid _ := hg1
  clear hb1 hk1 hg1
  go_wp2_with fail
  go_loopw [7] (fun z wr => ∃ (i : Nat) (ns : List ByteArray) (nv : Value), i ≤ n0 + 1 ∧ z = .int .i64 i ∧ Hid (ns.length = i) ∧ w.heap.size < wr.heap.size ∧ Hid (Below w.heap.size w wr) ∧ Hid (GB wr w.heap.size w.heap.size (.slice va L.length vc) nv (.slice none 0 0) L k1 0 ns []) ∧ Hid (NmsB main ns)) (fun z _ => n0 + 1 - (intOf z).toNat)
  case atStart => exact ⟨0, [], _, by omega, rfl, rfl, hgl1, HBW1.out, HG1.out, fun j x hx => by simp at hx⟩
  case round =>
    obtain ⟨i, ns, nv, hi, rfl, HLN, hwl, HB, HG, HN⟩ := hrel
    have hnl : ns.length ≤ 10 := by rw [HLN.out]; omega
    by_cases hil : i < n0 + 1
    · have HCD : Hid _ := kDecimal i wr (by omega)
      have hd0 : decide ((i : Int) < (1 : Int) + (n0 : Int)) = true := decide_eq_true (by omega)
      go_wp2_with fail
      refine (show Calls _ _ _ _ _ from HCD.out).mono ?_
      rintro e w2 ⟨x, rfl, hx, hb2⟩
      clear HCD
      have hsw2 := hb2.size
      have HG2 : Hid _ := HG.out.old hb2
      have HB2 : Hid (Below w.heap.size w w2) := HB.out.trans (hb2.mono (by omega))
      have HXD : Hid (x.data.toList = decL i) := hx
      have hxl : x.size ≤ 10 := by rw [size_len, hx]; have := decL_three i (by omega); omega
      clear hx hb2 HG HB
      by_cases hi0 : i = 0
      · subst hi0
        have HNM : Hid (nmB main ns.length main) := by show nmB main ns.length main; rw [HLN.out]; rfl
        have hgl2 := HG2.out.lt
        have c2 := HG2.out.c2
        obtain ⟨no, nc, rfl⟩ := own_form HG2.out.rn
        go_wp2_with (at_builtin; go_must (refine wpList_append_lies _ rfl _ _ _ rfl w.heap.size 9 is _ 1 16 Tryz.underlying37 his hs0 hsz1 hs2 rfl (by omega) (.slice no ns.length nc) ns.length (sgs ns) rfl ?hownP0 _ 1 _ [.string main] rfl rfl ?hnewsP0 ?h1P0 (by omega) ?h63P0 ?hbytesP0 ?hbaseP0 _ rfl ?_))
        case hownP0 => exact World.ownsRow.alloc HG2.out.rn _
        try case hnewsP0 => exact World.news_of_block (heap_alloc_new w2 _)
        case h1P0 => simp [Value.oneCell']
        case h63P0 => unfold maxLen; omega
        case hbytesP0 => omega
        case hbaseP0 => first | omega | (simp; omega)
        intro g5 cap5 w5 hown5 hgrow5 hat5 hlt5
        have hal := bel_al w2 (Obj.cells #[.string main] 9)
        have HGA : Hid _ := HG2.out.old hal
        have HP : Hid _ := GB.pushN HGA.out hown5 hgrow5
        have hb5 := grown_type HGA.out.rn hgrow5 (by decide) HGA.out.blk
        have kf := frozen_of_row w5 w.heap.size 2 _ _ hb5
        have kc := cell_of_row w5 w.heap.size 2 _ _ _ hb5
        simp only [List.getElem?_toArray, List.getElem?_cons_succ, List.getElem?_cons_zero] at kc
        have hs5 : w.heap.size < w5.heap.size := (Array.getElem?_eq_some_iff.1 hb5).1
        have HBF : Hid (Below w.heap.size w (w5.setCell ⟨w.heap.size, 2, none⟩ (.slice (some ⟨g5, 0, none⟩) (ns.length + 1) cap5))) := (HB2.out.trans (hal.mono (by omega))).trans HP.out.1
        clear hown5 hgrow5 hat5 hal hb5 c2 HGA
        go_wp2_with fail
        go_roundw
        case rel => exact ⟨0 + 1, ns ++ [main], _, hil, by go_num, by show _ = _; rw [List.length_append, HLN.out]; rfl, by rw [sz_set]; exact hs5, HBF.out, HP.out.2, HN.out.snoc HNM.out⟩
        case measure => simp [intOf]
      · have hin0 : ¬ (i : Int) = 0 := by omega
        have hin1 : ((i : Int) == 0) = false := by simpa using hin0
        obtain ⟨j, rfl⟩ : ∃ j, i = j + 1 := ⟨i - 1, by omega⟩
        have HFX : Hid (((⟨#[102]⟩ : ByteArray) ++ x).data.toList = fNm (j + 1)) := by show _ = _; rw [data_app, HXD.out]; rfl
        have HNM : Hid (nmB main ns.length ((⟨#[102]⟩ : ByteArray) ++ x)) := by show nmB main ns.length ((⟨#[102]⟩ : ByteArray) ++ x); rw [HLN.out]; exact HFX.out
        have hgl2 := HG2.out.lt
        have c2 := HG2.out.c2
        obtain ⟨no, nc, rfl⟩ := own_form HG2.out.rn
        go_wp2_with (at_builtin; go_must (refine wpList_append_lies _ rfl _ _ _ rfl w.heap.size 9 is _ 1 16 Tryz.underlying37 his hs0 hsz1 hs2 rfl (by omega) (.slice no ns.length nc) ns.length (sgs ns) rfl ?hownP1 _ 1 _ [.string ((⟨#[102]⟩ : ByteArray) ++ x)] rfl rfl ?hnewsP1 ?h1P1 (by omega) ?h63P1 ?hbytesP1 ?hbaseP1 _ rfl ?_))
        case hownP1 => exact World.ownsRow.alloc HG2.out.rn _
        try case hnewsP1 => exact World.news_of_block (heap_alloc_new w2 _)
        case h1P1 => simp [Value.oneCell']
        case h63P1 => unfold maxLen; omega
        case hbytesP1 => omega
        case hbaseP1 => first | omega | (simp; omega)
        intro g5 cap5 w5 hown5 hgrow5 hat5 hlt5
        have hal := bel_al w2 (Obj.cells #[.string ((⟨#[102]⟩ : ByteArray) ++ x)] 9)
        have HGA : Hid _ := HG2.out.old hal
        have HP : Hid _ := GB.pushN HGA.out hown5 hgrow5
        have hb5 := grown_type HGA.out.rn hgrow5 (by decide) HGA.out.blk
        have kf := frozen_of_row w5 w.heap.size 2 _ _ hb5
        have kc := cell_of_row w5 w.heap.size 2 _ _ _ hb5
        simp only [List.getElem?_toArray, List.getElem?_cons_succ, List.getElem?_cons_zero] at kc
        have hs5 : w.heap.size < w5.heap.size := (Array.getElem?_eq_some_iff.1 hb5).1
        have HBF : Hid (Below w.heap.size w (w5.setCell ⟨w.heap.size, 2, none⟩ (.slice (some ⟨g5, 0, none⟩) (ns.length + 1) cap5))) := (HB2.out.trans (hal.mono (by omega))).trans HP.out.1
        clear hown5 hgrow5 hat5 hal hb5 c2 HGA
        go_wp2_with fail
        go_roundw
        case rel => exact ⟨j + 1 + 1, ns ++ [((⟨#[102]⟩ : ByteArray) ++ x)], _, hil, by go_num, by show _ = _; rw [List.length_append, HLN.out]; rfl, by rw [sz_set]; exact hs5, HBF.out, HP.out.2, HN.out.snoc HNM.out⟩
        case measure => simp [intOf]; omega
    · have hie0 : i = n0 + 1 := by omega
      have hd0 : decide ((i : Int) < (1 : Int) + (n0 : Int)) = false := decide_eq_false (by omega)
      have hd1 : ¬ (i : Int) < (1 : Int) + (n0 : Int) := by omega
      have HLNN : Hid (ns.length = n0 + 1) := by show _ = _; rw [HLN.out]; omega
      have hi2 : (i : Int) = (n0 : Int) + 1 := by omega
      clear hie0
      obtain ⟨w3, hw3⟩ : ∃ w3, w3 = wr := ⟨wr, rfl⟩
      subst hw3
      obtain ⟨no, nc, rfl⟩ := own_form HG.out.rn
      have HN3 : Hid _ := HN.out
      have HB3 : Hid _ := HB.out
      have HG3 : Hid _ := HG.out
      clear HB HG HN
      go_wp2_with fail
      clear hd0 hd1 hil hi hi2 HG1 HBW1 hs1 hgl1
      go_loopw [9, 10] (fun y z wr => ∃ (i k' ik : Nat) (db : List Fb) (xs : List Value) (pv : Value) (ps : List ByteArray) (oo : Option Addr) (oc : Nat), i ≤ n0 + 1 ∧ z = .int .i64 i ∧ y = .slice oo i oc ∧ Hid (db.length = i) ∧ w.heap.size < wr.heap.size ∧ Hid (Below w.heap.size w wr) ∧ Hid (GB wr w.heap.size w.heap.size (.slice va L.length vc) (.slice no ns.length nc) pv L k' ik ns ps) ∧ Hid (fnsF (n0 + 1) (n0 + 1) 0 l1 = db ++ fnsF (n0 + 1) (n0 + 1 - i) i (L.drop k')) ∧ Hid (wr.ownsRow w.heap.size 66 3 (.slice oo i oc) i xs) ∧ Hid (FVs wr (SX (w.heap.size + 1) wr (.slice oo i oc)) ns (fzOf ns db) xs)) (fun _ z _ => n0 + 1 - (intOf z).toNat)
      case atStart => exact ⟨0, k1, 0, [], [], _, _, none, 0, by omega, rfl, rfl, rfl, hwl, HB3.out, HG3.out, by show _ = _; rw [HK1.out]; rfl, World.ownsRow_nil _ _ _ _, rfl⟩
      case round =>
        obtain ⟨i2, k2, ik, db, xs, pv, ps, oo, oc, hi2, rfl, rfl, HDL, hwl2, HB, HG, HFN, HRO, HFV⟩ := hrel
        by_cases hil : i2 < n0 + 1
        · have hd0 : decide ((i2 : Int) < (1 : Int) + (n0 : Int)) = true := decide_eq_true (by omega)
          have hd1 : (i2 : Int) < (1 : Int) + (n0 : Int) := by omega
          have c2 := HG.out.c2
          have hi2n : i2 < ns.length := by rw [HLNN.out]; exact hil
          obtain ⟨nq, ncap, hne, _, hnq⟩ := HG.out.rn.form (by omega)
          cases hne
          have kn := row_cell HG.out.rn i2 _ (sgs_at ns i2 hi2n)
          have HNI : Hid (ns[i2]? = some ns[i2]) := List.getElem?_eq_getElem hi2n
          generalize ns[i2] = nm at *
          obtain ⟨wo, hwo⟩ : ∃ wo, wo = wr := ⟨wr, rfl⟩
          subst hwo
          have hal := bel_al wo (Obj.cells #[.string nm, .slice none 0 0, .slice none 0 0] 66)
          have HCN : Hid _ := kNext 4 w.heap.size w.heap.size _ _ pv L k2 ik ns ps (wo.alloc (Obj.cells #[.string nm, .slice none 0 0, .slice none 0 0] 66)) (HG.out.old hal) hin hL (by omega) (by omega)
          have HB0 : Hid (But w.heap.size wo (wo.alloc (Obj.cells #[.string nm, .slice none 0 0, .slice none 0 0] 66))) := But.of hal (by omega)
          have HGK : Hid _ := HG.out.blk
          obtain ⟨m, hm⟩ : ∃ m, n0 + 1 - i2 = m + 1 := ⟨n0 - i2, by omega⟩
          have HM : Hid (n0 + 1 - i2 = m + 1) := hm
          have HMI : Hid (m = n0 + 1 - (i2 + 1)) := by show _ = _; omega
          rw [hm] at HFN
          have HFE : Hid (fnsF (n0 + 1) (m + 1) i2 (L.drop k2) = ⟨if i2 = 0 then 0 else (nxF 4 (L.drop k2)).1, (appF (if i2 = 0 then 0 else (nxF 4 (L.drop k2)).1) (n0 + 1) 2 1 0 (nxF 4 (L.drop k2)).2).1⟩ :: fnsF (n0 + 1) m (i2 + 1) (appF (if i2 = 0 then 0 else (nxF 4 (L.drop k2)).1) (n0 + 1) 2 1 0 (nxF 4 (L.drop k2)).2).2.2) := rfl
          have hq4 := nxF_lt 4 (L.drop k2) (by omega)
          generalize hz4 : nxF 4 (L.drop k2) = z4 at *
          obtain ⟨kq, l4⟩ := z4
          simp only at HCN HFE hq4
          clear hil hm hz4 hal HG
          go_wp2_with fail
          refine (show Calls _ _ _ _ _ from HCN.out).mono ?_
          rintro e w4 ⟨rfl, hb4, k4, hk4, hg4⟩
          clear HCN
          have hs4 := hb4.size
          rw [World.size_alloc] at hs4
          have HF4 : Hid (w4.heap[wo.heap.size]? = some (.cells #[.string nm, .slice none 0 0, .slice none 0 0] 66 (0, 0))) := (hb4.oth wo.heap.size (by simp) (by omega)).trans (row_three (w := wo))
          have HK4 : Hid (l4 = L.drop k4) := hk4
          have HB4 : Hid (But w.heap.size wo w4) := HB0.out.trans hb4
          have HG4 : Hid _ := hg4
          obtain ⟨np, hnp⟩ : ∃ np, np = if i2 = 0 then 0 else kq := ⟨_, rfl⟩
          have HNP : Hid ((if i2 = 0 then 0 else kq) = np) := hnp.symm
          have hnp3 : np ≤ 3 := by rw [hnp]; split <;> omega
          have HJ : Hid (∀ j : Nat, j < np ↔ ((j : Int) < (kq : Int) ∧ (0 : Int) < (i2 : Int))) := by
            intro j
            rw [hnp]
            split
            · omega
            · omega
          clear hb4 hk4 hg4 HB0 hnp c2 kn
          go_wp2_with fail
          go_loopw [13] (fun z wr => ∃ (j : Nat) (po : Option Addr) (pc : Nat), j ≤ np ∧ z = .int .i64 j ∧ wo.heap.size < wr.heap.size ∧ w4.heap.size ≤ wr.heap.size ∧ Hid (But wo.heap.size w4 wr) ∧ Hid (wr.heap[wo.heap.size]? = some (.cells #[.string nm, .slice po j pc, .slice none 0 0] 66 (0, 0))) ∧ Hid (wr.ownsRow w4.heap.size 9 1 (.slice po j pc) j (sgs (letB.take j)))) (fun z _ => np - (intOf z).toNat)
          case atStart => exact ⟨0, none, 0, by omega, rfl, by omega, Nat.le_refl _, But.refl _ _, HF4.out, World.ownsRow_nil _ _ _ _⟩
          case round =>
            obtain ⟨j, po, pc, hj, rfl, hfl, hw4, HBJ, HFJ, HPJ⟩ := hrel
            have kf1 := cell_of_row wr wo.heap.size 1 _ _ _ HFJ.out
            simp only [List.getElem?_toArray, List.getElem?_cons_succ, List.getElem?_cons_zero] at kf1
            have zf1 := frozen_of_row wr wo.heap.size 1 _ _ HFJ.out
            by_cases hjl : j < np
            · obtain ⟨q1, q2⟩ := (HJ.out j).1 hjl
              have hd2 : decide ((j : Int) < (kq : Int)) = true := decide_eq_true q1
              have hd3 : decide ((0 : Int) < (i2 : Int)) = true := decide_eq_true q2
              have hj3 : j < 3 := by omega
              have hj4 : (j : Int) + 1 ≤ 3 := by omega
              have hj5 : j + 1 ≤ 3 := by omega
              have hj6 : ((j : Int) + 1).toNat = j + 1 := by omega
              have hj7 : IntKind.i64.wrap ((j : Int) + 1) = (j : Int) + 1 := Go.IntWalk.i64_in _ (by omega)
              have hj8 : 0 ≤ (j : Int) + 1 := by omega
              have hj9 : (j : Int) ≤ (j : Int) + 1 := by omega
              have HLJ : Hid (((⟨#[120, 121, 122]⟩ : ByteArray).extract j (j + 1)) = letB[j]'hj3) := let_at j hj3
              have HLT : Hid (sgs (letB.take (j + 1)) = sgs (letB.take j) ++ [.string ((⟨#[120, 121, 122]⟩ : ByteArray).extract j (j + 1))]) := by
                show _ = _
                rw [HLJ.out, List.take_succ_eq_append_getElem (by exact hj3)]
                simp [sgs]
              have HA : Hid _ := below_1d wr (Obj.cells #[.string ((⟨#[120, 121, 122]⟩ : ByteArray).extract j (j + 1))] 9)
              have HN : Hid _ := new_1d wr (Obj.cells #[.string ((⟨#[120, 121, 122]⟩ : ByteArray).extract j (j + 1))] 9)
              go_wp2_with fail
              go_region_law ((refine step_append_lies _ (by rfl) _ _ _ (by rfl) w4.heap.size 9 is _ 1 16 Tryz.underlying37 his hs0 hsz1 hs2 rfl (by omega) (.slice po j pc) j (sgs (letB.take j)) (by rfl) (by exact ownsRow_old HPJ.out HA.out) _ 1 _ [.string ((⟨#[120, 121, 122]⟩ : ByteArray).extract j (j + 1))] (by rfl) rfl (by exact World.news_of_block HN.out) (by simp [Value.oneCell']) (by omega) (by unfold maxLen; omega) (by omega) (by have := HA.out.size; omega) _ rfl ?_; intro g5 cap5 w5 hown5 hgrow5 hat5 hlt5; have HPA : Hid _ := hown5; have HFA : Hid _ := grown_type (ownsRow_old HPJ.out HA.out) hgrow5 (by decide) ((HA.out.block wo.heap.size hfl).trans HFJ.out); have HBA : Hid _ := ((HBJ.out.trans (But.of HA.out (by omega))).grown (ownsRow_old HPJ.out HA.out) hgrow5 (Nat.le_refl _) (by omega)); have kb := cell_of_row w5 wo.heap.size 1 _ _ _ HFA.out; simp only [List.getElem?_toArray, List.getElem?_cons_succ, List.getElem?_cons_zero] at kb; have kf := frozen_of_row w5 wo.heap.size 1 _ _ HFA.out; clear hown5 hgrow5 hat5 hlt5))
              all_goals
                have hs5 : wo.heap.size < w5.heap.size := (Array.getElem?_eq_some_iff.1 HFA.out).1
                have hs6 := HBA.out.size
                clear kb kf kf1 zf1 HA HN
                go_wp2_with fail
                go_roundw
                case rel => exact ⟨j + 1, some ⟨g5, 0, none⟩, cap5, hjl, by go_num, by rw [sz_set]; exact hs5, by rw [sz_set]; exact hs6, HBA.out.set, blk_set _ HFA.out, by show World.ownsRow _ _ _ _ _ _ _; rw [HLT.out]; exact ownsRow_set HPA.out HFA.out (by decide)⟩
                case measure => simp [intOf]; omega
            · have HJE : Hid (j = np) := by show _ = _; omega
              have hnj : ¬ ((j : Int) < (kq : Int) ∧ (0 : Int) < (i2 : Int)) := fun e => hjl ((HJ.out j).2 e)
              have HFZ : Hid (HFJ.out = HFJ.out) := rfl
              have hsp : (¬ (j : Int) < (kq : Int)) ∨ ((j : Int) < (kq : Int) ∧ ¬ (0 : Int) < (i2 : Int)) := by omega
              -- the state behind the loop
              have HBO : Hid (But w.heap.size wo wr) := HB4.out.two HBJ.out (Nat.le_refl _) (by omega)
              have HGJ : Hid (GB wr w.heap.size w.heap.size (.slice va L.length vc) (.slice (some ⟨nq, 0, none⟩) ns.length nc) pv L k4 ik ns ps) := HG4.out.but HBJ.out HF4.out (by omega)
              have HPN : Hid (wr.ownsRow w.heap.size 9 1 (.slice po j pc) (letB.take j).length (sgs (letB.take j))) := by
                have : (letB.take j).length = j := by rw [List.length_take]; show min j 3 = j; omega
                show World.ownsRow _ _ _ _ _ _ _
                rw [this]
                exact ownsRow_base HPJ.out (by omega)
              have HGA : Hid _ := (HGJ.out.setP HPN.out).setI 0
              have g3 := HGJ.out.fz 3
              have hgl := HGJ.out.lt
              have gc3 := HGJ.out.c3
              have gc4 := HGJ.out.c4
              have g4 := HGJ.out.fz 4
              have hpl3 : (letB.take j).length ≤ 3 := by rw [List.length_take]; show min j 3 ≤ 3; omega
              have HCA : Hid _ := kApp w.heap.size w.heap.size (.slice va L.length vc) (.slice (some ⟨nq, 0, none⟩) ns.length nc) (.slice po j pc) L ns (letB.take j) hin hL (by omega) (by rw [HLNN.out]; omega) hpl3 2 (by omega) 1 0 k4 _ HGA.out (.inl rfl) (by omega)
              clear hjl HFZ hnj
              rcases hsp with hs | ⟨hs, hsi⟩
              · have hd2 : decide ((j : Int) < (kq : Int)) = false := decide_eq_false hs
                go_wp2_with fail
                refine (show Calls _ _ _ _ _ from HCA.out).mono ?_
                rintro e w5 ⟨v5, rfl, hb5, ⟨k5, hk5, hg5⟩, hxa⟩
                clear HCA
                have hv5 := hxa
                obtain ⟨_, _, _, hvr, _, _⟩ := hv5
                obtain ⟨vo, vc5, rfl⟩ := own_form hvr
                have hs5 := hb5.size
                simp only [sz_set] at hs5 hxa
                have HF5 : Hid (w5.heap[wo.heap.size]? = some (.cells #[.string nm, .slice po j pc, .slice none 0 0] 66 (0, 0))) := by
                  show _ = _
                  rw [hb5.oth wo.heap.size (by simp only [sz_set]; exact hfl) (by omega), heap_set_ne _ (by omega), heap_set_ne _ (by omega)]
                  exact HFJ.out
                have HBO5 : Hid (But w.heap.size wo w5) := (HBO.out.set.set).trans hb5
                have HP5 : Hid (w5.ownsRow w.heap.size 9 1 (.slice po j pc) (letB.take j).length (sgs (letB.take j))) := hg5.rp
                have HAP : Hid (appF (letB.take j).length ns.length 2 1 0 (L.drop k4) = appF (if i2 = 0 then 0 else kq) (n0 + 1) 2 1 0 l4) := by
                  show _ = _
                  have e1 : (letB.take j).length = j := by rw [List.length_take]; show min j 3 = j; omega
                  rw [e1, HLNN.out, HNP.out, HJE.out, HK4.out]
                have HK5 : Hid _ := hk5
                have HG5 : Hid _ := hg5
                have HXA : Hid _ := hxa
                have hfl5 : wo.heap.size < w5.heap.size := (Array.getElem?_eq_some_iff.1 HF5.out).1
                generalize hvn : (appF (letB.take j).length ns.length 2 1 0 (L.drop k4)).1.2.length + 1 = vn at *
                have kf2 := cell_of_row w5 wo.heap.size 2 _ _ _ HF5.out
                have kf1' := cell_of_row w5 wo.heap.size 1 _ _ _ HF5.out
                have kf0 := cell_of_row w5 wo.heap.size 0 _ _ _ HF5.out
                simp only [List.getElem?_toArray, List.getElem?_cons_succ, List.getElem?_cons_zero] at kf2 kf1' kf0
                have zf2 := frozen_of_row w5 wo.heap.size 2 _ _ HF5.out
                have HF6 : Hid ((w5.setCell ⟨wo.heap.size, 2, none⟩ (.slice vo vn vc5)).heap[wo.heap.size]? = some (.cells #[.string nm, .slice po j pc, .slice vo vn vc5] 66 (0, 0))) := blk_set _ HF5.out
                have HBO6 : Hid (But w.heap.size wo (w5.setCell ⟨wo.heap.size, 2, none⟩ (.slice vo vn vc5))) := HBO5.out.new (Nat.le_refl _) (by omega)
                have HRO6 : Hid ((w5.setCell ⟨wo.heap.size, 2, none⟩ (.slice vo vn vc5)).ownsRow w.heap.size 66 3 (.slice oo i2 oc) i2 xs) := row_but HRO.out HBO6.out HGK.out (by decide)
                have ha2 := cell_of_row _ wo.heap.size 2 _ _ _ HF6.out
                have ha1 := cell_of_row _ wo.heap.size 1 _ _ _ HF6.out
                have ha0 := cell_of_row _ wo.heap.size 0 _ _ _ HF6.out
                simp only [List.getElem?_toArray, List.getElem?_cons_succ, List.getElem?_cons_zero] at ha2 ha1 ha0
                clear hvn hvr hb5 hk5 hg5 hxa kf1 zf1 gc3 gc4 g3 g4 HGA HGJ
                go_wp2_with (at_builtin; go_must (refine wpList_append_lies _ rfl _ _ _ rfl w.heap.size 66 ie _ 3 64 Tryz.underlying46 hie he0 he1 he2 rfl (by omega) (.slice oo i2 oc) i2 xs rfl ?hownF1 _ 1 _ [.string nm, .slice po j pc, .slice vo vn vc5] rfl rfl ?hnewsF1 ?h1F1 (by omega) ?h63F1 ?hbytesF1 ?hbaseF1 _ rfl ?_))
                case hownF1 => exact World.ownsRow.alloc HRO6.out _
                case hnewsF1 =>
                  have hnw := heap_alloc_new (w5.setCell ⟨wo.heap.size, 2, none⟩ (.slice vo vn vc5)) (Obj.cells #[.string nm, .slice po j pc, .slice vo vn vc5] 66)
                  rw [sz_set] at hnw
                  exact World.news_of_block hnw
                case h1F1 => simp [Value.oneCell']
                case h63F1 => unfold maxLen; omega
                case hbytesF1 => omega
                case hbaseF1 => first | omega | (simp; omega)
                intro g7 cap7 w7 hown7 hgrow7 hat7 hlt7
                have hal6 := bel_al (w5.setCell ⟨wo.heap.size, 2, none⟩ (.slice vo vn vc5)) (Obj.cells #[.string nm, .slice po j pc, .slice vo vn vc5] 66)
                have hrow6 := HRO6.out.alloc (Obj.cells #[.string nm, .slice po j pc, .slice vo vn vc5] 66)
                have hs7 := hgrow7.size
                rw [World.size_alloc, sz_set] at hs7
                have hat7' : (Value.slice oo i2 oc).ownBlock = some g7 ∨ g7 = w5.heap.size + 1 := by
                  rcases hat7 with h | h
                  · exact .inl h
                  · right; first | exact h | (rw [h]; simp [sz_set])
                -- what an old block holds
                have hold : ∀ k, k < wo.heap.size → k ≠ w.heap.size → (Value.slice oo i2 oc).ownBlock ≠ some k → w7.heap[k]? = wo.heap[k]? := by
                  intro k h1 h2 h3
                  rw [hgrow7.block k (by rw [World.size_alloc, sz_set]; omega) (fun e => h3 e.symm), hal6.block k (by rw [sz_set]; omega)]
                  exact HBO6.out.oth k h1 h2
                have hmid : ∀ k, wo.heap.size < k → k < w5.heap.size → w7.heap[k]? = w5.heap[k]? := by
                  intro k h1 h2
                  rw [hgrow7.block k (by rw [World.size_alloc, sz_set]; omega) (fun e => by have := (HRO.out.lt k e.symm).2; omega), hal6.block k (by rw [sz_set]; omega), heap_set_ne _ (by omega)]
                have HBW7 : Hid (Below w.heap.size w w7) := ((HB.out.trans (HBO6.out.below (Nat.le_refl _))).trans (hal6.mono (by rw [sz_set]; omega))).grown hgrow7 (by rw [World.size_alloc, sz_set]; omega) (fun k hk => (HRO.out.lt k hk).1)
                have HG7 : Hid (GB w7 w.heap.size w.heap.size (.slice va L.length vc) (.slice (some ⟨nq, 0, none⟩) ns.length nc) (.slice po j pc) L k5 (appF (letB.take j).length ns.length 2 1 0 (L.drop k4)).2.1 ns (letB.take j)) := by
                  have h1 := (HG5.out.but ((But.refl wo.heap.size w5).set (i := 2) (v := .slice vo vn vc5)) HF5.out (by omega)).old hal6
                  exact ⟨grown_type hrow6 hgrow7 (by decide) h1.blk, h1.lo, h1.ri.keep ((Below.refl _ _).grown hgrow7 (by rw [World.size_alloc, sz_set]; omega) (fun k hk => (hrow6.lt k hk).1)), h1.kl, own_grown_type hrow6 hgrow7 (by decide) h1.rn, own_grown_type hrow6 hgrow7 (by decide) h1.rp⟩
                have HNW : Hid (FV w7 (SX (w.heap.size + 1) w7 (.slice (some ⟨g7, 0, none⟩) (i2 + 1) cap7)) ns ⟨nm, letB.take j, (appF (letB.take j).length ns.length 2 1 0 (L.drop k4)).1⟩ (.string nm) (.slice po j pc) (.slice vo vn vc5)) := by
                  have hpq : ∀ k, (Value.slice po j pc).ownBlock = some k → w4.heap.size ≤ k ∧ k < wr.heap.size := fun k hk => HPJ.out.lt k hk
                  refine ⟨rfl, ownsRow_base HG7.out.rp (Nat.zero_le _), fun k hk => ?_, XA.keep (fun k hk hlt => ?_) HXA.out⟩
                  · have := hpq k hk
                    refine ⟨by omega, by omega, fun e => ?_⟩
                    have : g7 = k := by simpa [Value.ownBlock] using e
                    rcases hat7' with h | h
                    · have := (HRO.out.lt g7 h).2; omega
                    · omega
                  · have h1 := hk.1
                    have h2 := hk.2
                    refine ⟨⟨by omega, by omega, fun e => ?_⟩, hmid k (by omega) (by omega)⟩
                    have : g7 = k := by simpa [Value.ownBlock] using e
                    rcases hat7' with h | h
                    · have := (HRO.out.lt g7 h).2; omega
                    · omega
                have HFV7 : Hid (FVs w7 (SX (w.heap.size + 1) w7 (.slice (some ⟨g7, 0, none⟩) (i2 + 1) cap7)) ns (fzOf ns db) xs) := HFV.out.keep (fun k hk hlt => by
                  have h1 := hk.1
                  refine ⟨⟨h1, by omega, fun e => ?_⟩, hold k hlt (by omega) hk.2.2⟩
                  have hgk : g7 = k := by simpa [Value.ownBlock] using e
                  rcases hat7' with h | h
                  · exact hk.2.2 (by rw [h, hgk])
                  · omega)
                have HO7 : Hid (w7.ownsRow w.heap.size 66 3 (.slice (some ⟨g7, 0, none⟩) (i2 + 1) cap7) (i2 + 1) (xs ++ [.string nm, .slice po j pc, .slice vo vn vc5])) := hown7
                have hwl7 : w.heap.size < w7.heap.size := by omega
                clear hown7 hgrow7 hat7 hal6 hrow6 hold hmid ha0 ha1 ha2 kf0 kf1' kf2 zf2
                go_wp2_with fail
                go_roundw
                case rel =>
                  refine ⟨i2 + 1, k5, _, db ++ [⟨if i2 = 0 then 0 else kq, (appF (if i2 = 0 then 0 else kq) (n0 + 1) 2 1 0 l4).1⟩], xs ++ ([Value.string nm, Value.slice po j pc, Value.slice vo vn vc5] : List Value), _, _, some ⟨g7, 0, none⟩, cap7, by omega, by go_num, rfl, by show _ = _; rw [List.length_append, HDL.out]; rfl, hwl7, HBW7.out, HG7.out, ?_, HO7.out, ?_⟩
                  · show _ = _
                    rw [HFN.out, HFE.out, ← HMI.out, ← HK5.out, HAP.out]
                    simp
                  · show FVs _ _ _ _ _
                    have hdl : db.length < ns.length := by rw [HDL.out]; exact hi2n
                    have hni : ns[db.length] = nm := by
                      have := HNI.out
                      rw [← HDL.out, List.getElem?_eq_getElem hdl] at this
                      exact Option.some.inj this
                    rw [fzOf_snoc hdl, hni]
                    have hnw := HNW.out
                    rw [HAP.out] at hnw
                    have hjj : letB.take j = letB.take (if i2 = 0 then 0 else kq) := by rw [HJE.out]; have := HNP.out; first | rw [this] | (rw [show np = 0 by simpa using this.symm, if_pos rfl])
                    rw [hjj] at hnw
                    exact HFV7.out.snoc hnw
                case measure => simp [intOf] <;> omega
              · obtain rfl : i2 = 0 := by omega
                have hd2 : decide ((j : Int) < (kq : Int)) = true := decide_eq_true hs
                go_wp2_with fail
                refine (show Calls _ _ _ _ _ from HCA.out).mono ?_
                rintro e w5 ⟨v5, rfl, hb5, ⟨k5, hk5, hg5⟩, hxa⟩
                clear HCA
                have hv5 := hxa
                obtain ⟨_, _, _, hvr, _, _⟩ := hv5
                obtain ⟨vo, vc5, rfl⟩ := own_form hvr
                have hs5 := hb5.size
                simp only [sz_set] at hs5 hxa
                have HF5 : Hid (w5.heap[wo.heap.size]? = some (.cells #[.string nm, .slice po j pc, .slice none 0 0] 66 (0, 0))) := by
                  show _ = _
                  rw [hb5.oth wo.heap.size (by simp only [sz_set]; exact hfl) (by omega), heap_set_ne _ (by omega), heap_set_ne _ (by omega)]
                  exact HFJ.out
                have HBO5 : Hid (But w.heap.size wo w5) := (HBO.out.set.set).trans hb5
                have HP5 : Hid (w5.ownsRow w.heap.size 9 1 (.slice po j pc) (letB.take j).length (sgs (letB.take j))) := hg5.rp
                have HAP : Hid (appF (letB.take j).length ns.length 2 1 0 (L.drop k4) = appF (if 0 = 0 then 0 else kq) (n0 + 1) 2 1 0 l4) := by
                  show _ = _
                  have e1 : (letB.take j).length = j := by rw [List.length_take]; show min j 3 = j; omega
                  have e0 : np = 0 := by have := HNP.out; simpa using this.symm
                  rw [e1, HLNN.out, if_pos rfl, HJE.out, e0, HK4.out]
                have HK5 : Hid _ := hk5
                have HG5 : Hid _ := hg5
                have HXA : Hid _ := hxa
                have hfl5 : wo.heap.size < w5.heap.size := (Array.getElem?_eq_some_iff.1 HF5.out).1
                generalize hvn : (appF (letB.take j).length ns.length 2 1 0 (L.drop k4)).1.2.length + 1 = vn at *
                have kf2 := cell_of_row w5 wo.heap.size 2 _ _ _ HF5.out
                have kf1' := cell_of_row w5 wo.heap.size 1 _ _ _ HF5.out
                have kf0 := cell_of_row w5 wo.heap.size 0 _ _ _ HF5.out
                simp only [List.getElem?_toArray, List.getElem?_cons_succ, List.getElem?_cons_zero] at kf2 kf1' kf0
                have zf2 := frozen_of_row w5 wo.heap.size 2 _ _ HF5.out
                have HF6 : Hid ((w5.setCell ⟨wo.heap.size, 2, none⟩ (.slice vo vn vc5)).heap[wo.heap.size]? = some (.cells #[.string nm, .slice po j pc, .slice vo vn vc5] 66 (0, 0))) := blk_set _ HF5.out
                have HBO6 : Hid (But w.heap.size wo (w5.setCell ⟨wo.heap.size, 2, none⟩ (.slice vo vn vc5))) := HBO5.out.new (Nat.le_refl _) (by omega)
                have HRO6 : Hid ((w5.setCell ⟨wo.heap.size, 2, none⟩ (.slice vo vn vc5)).ownsRow w.heap.size 66 3 (.slice oo 0 oc) 0 xs) := row_but HRO.out HBO6.out HGK.out (by decide)
                have ha2 := cell_of_row _ wo.heap.size 2 _ _ _ HF6.out
                have ha1 := cell_of_row _ wo.heap.size 1 _ _ _ HF6.out
                have ha0 := cell_of_row _ wo.heap.size 0 _ _ _ HF6.out
                simp only [List.getElem?_toArray, List.getElem?_cons_succ, List.getElem?_cons_zero] at ha2 ha1 ha0
                clear hvn hvr hb5 hk5 hg5 hxa kf1 zf1 gc3 gc4 g3 g4 HGA HGJ
                go_wp2_with (at_builtin; go_must (refine wpList_append_lies _ rfl _ _ _ rfl w.heap.size 66 ie _ 3 64 Tryz.underlying46 hie he0 he1 he2 rfl (by omega) (.slice oo 0 oc) 0 xs rfl ?hownF2 _ 1 _ [.string nm, .slice po j pc, .slice vo vn vc5] rfl rfl ?hnewsF2 ?h1F2 (by omega) ?h63F2 ?hbytesF2 ?hbaseF2 _ rfl ?_))
                case hownF2 => exact World.ownsRow.alloc HRO6.out _
                case hnewsF2 =>
                  have hnw := heap_alloc_new (w5.setCell ⟨wo.heap.size, 2, none⟩ (.slice vo vn vc5)) (Obj.cells #[.string nm, .slice po j pc, .slice vo vn vc5] 66)
                  rw [sz_set] at hnw
                  exact World.news_of_block hnw
                case h1F2 => simp [Value.oneCell']
                case h63F2 => unfold maxLen; omega
                case hbytesF2 => omega
                case hbaseF2 => first | omega | (simp; omega)
                intro g7 cap7 w7 hown7 hgrow7 hat7 hlt7
                have hal6 := bel_al (w5.setCell ⟨wo.heap.size, 2, none⟩ (.slice vo vn vc5)) (Obj.cells #[.string nm, .slice po j pc, .slice vo vn vc5] 66)
                have hrow6 := HRO6.out.alloc (Obj.cells #[.string nm, .slice po j pc, .slice vo vn vc5] 66)
                have hs7 := hgrow7.size
                rw [World.size_alloc, sz_set] at hs7
                have hat7' : (Value.slice oo 0 oc).ownBlock = some g7 ∨ g7 = w5.heap.size + 1 := by
                  rcases hat7 with h | h
                  · exact .inl h
                  · right; first | exact h | (rw [h]; simp [sz_set])
                -- what an old block holds
                have hold : ∀ k, k < wo.heap.size → k ≠ w.heap.size → (Value.slice oo 0 oc).ownBlock ≠ some k → w7.heap[k]? = wo.heap[k]? := by
                  intro k h1 h2 h3
                  rw [hgrow7.block k (by rw [World.size_alloc, sz_set]; omega) (fun e => h3 e.symm), hal6.block k (by rw [sz_set]; omega)]
                  exact HBO6.out.oth k h1 h2
                have hmid : ∀ k, wo.heap.size < k → k < w5.heap.size → w7.heap[k]? = w5.heap[k]? := by
                  intro k h1 h2
                  rw [hgrow7.block k (by rw [World.size_alloc, sz_set]; omega) (fun e => by have := (HRO.out.lt k e.symm).2; omega), hal6.block k (by rw [sz_set]; omega), heap_set_ne _ (by omega)]
                have HBW7 : Hid (Below w.heap.size w w7) := ((HB.out.trans (HBO6.out.below (Nat.le_refl _))).trans (hal6.mono (by rw [sz_set]; omega))).grown hgrow7 (by rw [World.size_alloc, sz_set]; omega) (fun k hk => (HRO.out.lt k hk).1)
                have HG7 : Hid (GB w7 w.heap.size w.heap.size (.slice va L.length vc) (.slice (some ⟨nq, 0, none⟩) ns.length nc) (.slice po j pc) L k5 (appF (letB.take j).length ns.length 2 1 0 (L.drop k4)).2.1 ns (letB.take j)) := by
                  have h1 := (HG5.out.but ((But.refl wo.heap.size w5).set (i := 2) (v := .slice vo vn vc5)) HF5.out (by omega)).old hal6
                  exact ⟨grown_type hrow6 hgrow7 (by decide) h1.blk, h1.lo, h1.ri.keep ((Below.refl _ _).grown hgrow7 (by rw [World.size_alloc, sz_set]; omega) (fun k hk => (hrow6.lt k hk).1)), h1.kl, own_grown_type hrow6 hgrow7 (by decide) h1.rn, own_grown_type hrow6 hgrow7 (by decide) h1.rp⟩
                have HNW : Hid (FV w7 (SX (w.heap.size + 1) w7 (.slice (some ⟨g7, 0, none⟩) (0 + 1) cap7)) ns ⟨nm, letB.take j, (appF (letB.take j).length ns.length 2 1 0 (L.drop k4)).1⟩ (.string nm) (.slice po j pc) (.slice vo vn vc5)) := by
                  have hpq : ∀ k, (Value.slice po j pc).ownBlock = some k → w4.heap.size ≤ k ∧ k < wr.heap.size := fun k hk => HPJ.out.lt k hk
                  refine ⟨rfl, ownsRow_base HG7.out.rp (Nat.zero_le _), fun k hk => ?_, XA.keep (fun k hk hlt => ?_) HXA.out⟩
                  · have := hpq k hk
                    refine ⟨by omega, by omega, fun e => ?_⟩
                    have : g7 = k := by simpa [Value.ownBlock] using e
                    rcases hat7' with h | h
                    · have := (HRO.out.lt g7 h).2; omega
                    · omega
                  · have h1 := hk.1
                    have h2 := hk.2
                    refine ⟨⟨by omega, by omega, fun e => ?_⟩, hmid k (by omega) (by omega)⟩
                    have : g7 = k := by simpa [Value.ownBlock] using e
                    rcases hat7' with h | h
                    · have := (HRO.out.lt g7 h).2; omega
                    · omega
                have HFV7 : Hid (FVs w7 (SX (w.heap.size + 1) w7 (.slice (some ⟨g7, 0, none⟩) (0 + 1) cap7)) ns (fzOf ns db) xs) := HFV.out.keep (fun k hk hlt => by
                  have h1 := hk.1
                  refine ⟨⟨h1, by omega, fun e => ?_⟩, hold k hlt (by omega) hk.2.2⟩
                  have hgk : g7 = k := by simpa [Value.ownBlock] using e
                  rcases hat7' with h | h
                  · exact hk.2.2 (by rw [h, hgk])
                  · omega)
                have HO7 : Hid (w7.ownsRow w.heap.size 66 3 (.slice (some ⟨g7, 0, none⟩) (0 + 1) cap7) (0 + 1) (xs ++ [.string nm, .slice po j pc, .slice vo vn vc5])) := hown7
                have hwl7 : w.heap.size < w7.heap.size := by omega
                clear hown7 hgrow7 hat7 hal6 hrow6 hold hmid ha0 ha1 ha2 kf0 kf1' kf2 zf2
                go_wp2_with fail
                go_roundw
                case rel =>
                  refine ⟨0 + 1, k5, _, db ++ [⟨if 0 = 0 then 0 else kq, (appF (if 0 = 0 then 0 else kq) (n0 + 1) 2 1 0 l4).1⟩], xs ++ ([Value.string nm, Value.slice po j pc, Value.slice vo vn vc5] : List Value), _, _, some ⟨g7, 0, none⟩, cap7, by omega, by go_num, rfl, by show _ = _; rw [List.length_append, HDL.out]; rfl, hwl7, HBW7.out, HG7.out, ?_, HO7.out, ?_⟩
                  · show _ = _
                    rw [HFN.out, HFE.out, ← HMI.out, ← HK5.out, HAP.out]
                    simp
                  · show FVs _ _ _ _ _
                    have hdl : db.length < ns.length := by rw [HDL.out]; exact hi2n
                    have hni : ns[db.length] = nm := by
                      have := HNI.out
                      rw [← HDL.out, List.getElem?_eq_getElem hdl] at this
                      exact Option.some.inj this
                    rw [fzOf_snoc hdl, hni]
                    have hnw := HNW.out
                    rw [HAP.out] at hnw
                    have hjj : letB.take j = letB.take (if 0 = 0 then 0 else kq) := by rw [HJE.out]; have := HNP.out; first | rw [this] | (rw [show np = 0 by simpa using this.symm, if_pos rfl])
                    rw [hjj] at hnw
                    exact HFV7.out.snoc hnw
                case measure => simp [intOf] <;> omega
        · have hd0 : decide ((i2 : Int) < (1 : Int) + (n0 : Int)) = false := decide_eq_false (by omega)
          have hd1 : ¬ (i2 : Int) < (1 : Int) + (n0 : Int) := by omega
          have HI2 : Hid (i2 = n0 + 1) := by show _ = _; omega
          have HPE : Hid (progF L = db) := by show _ = _; rw [HPF.out, HFN.out, HI2.out, Nat.sub_self]; simp [fnsF]
          clear hil
          go_wp2_with fail
          go_ret
          refine ⟨_, rfl, HB.out, ns, HN3.out, by rw [HPE.out, HDL.out, HI2.out]; exact HLNN.out, ?_⟩
          rw [HPE.out]
          refine ⟨xs, ?_, fun k hk => (HRO.out.lt k hk).2, HFV.out.keep (fun k hk _ => ⟨hk.2.1, rfl⟩)⟩
          rw [fzOf_len (by rw [HDL.out, HI2.out, HLNN.out]; omega), HDL.out]
          exact ownsRow_base HRO.out (Nat.zero_le _)

end Go.Proofs.YtnndoagpbcacdaaGreatDoor
