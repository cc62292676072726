import Derived.Test.YtnndoagpbcacdaaGreatDoorMG6
import Derived.Deep.LoopGhost
namespace Go.Proofs.YtnndoagpbcacdaaGreatDoor
open Go.RowKit

/-! Package redexkeep: grow.go: application. -/
theorem Tryz.infoEx : (Tryz.prog.info? 99).map (fun i => (i.zero, i.size, i.bytes)) = some (some (.agg #[.string ByteArray.empty, .slice none 0 0]), 2, 40) := by kernel_rfl
/-- Where the rows of what is grown lie: behind B, not in the row that grows. -/
def SX (B : Nat) (w : World) (v : Value) (k : Nat) : Prop := B ≤ k ∧ k < w.heap.size ∧ v.ownBlock ≠ some k
def AppC (T g : Nat) (lv nv pv : Value) (L : List Int) (ns ps : List ByteArray) (d : Nat) : Prop := ∀ (least i k : Nat) (w : World), GB w T g lv nv pv L k i ns ps → (least = 1 ∨ least = 2) → i ≤ 3 →
  Calls Tryz.prog 28 #[.pointer (some ⟨g, 0, none⟩), .int .i64 least, .int .i64 d] w fun e w' => ∃ v, e = .returned v ∧ But g w w' ∧ (∃ k', (appF ps.length ns.length d least i (L.drop k)).2.2 = L.drop k' ∧ GB w' T g lv nv pv L k' (appF ps.length ns.length d least i (L.drop k)).2.1 ns ps) ∧ XA (nmsB ns ps) w' (fun q => w.heap.size ≤ q ∧ q < w'.heap.size) d (appF ps.length ns.length d least i (L.drop k)).1 v
/-- The row that grows by an element: what lies elsewhere is left alone. -/
theorem xls_grown {N : Nms} {B n d : Nat} {w w1 w2 : World} {v : Value} {ys : List Value} {l : List (Ex d)} {xs : List Value} {q cap m : Nat} (hb : Below w.heap.size w w1) (_hr : w1.ownsRow B 99 2 v n ys) (hg : w1.grownBy w2 v.ownBlock) (hat : v.ownBlock = some q ∨ q = w1.heap.size) (h : XLs (XE N w (SX B w v) d) l xs) : XLs (XE N w2 (SX B w2 (.slice (some ⟨q, 0, none⟩) m cap)) d) l xs := by
  refine h.map (XE.keep (fun k hk hlt => ?_) d)
  have hs1 := hb.size
  have hs2 := hg.size
  refine ⟨⟨hk.1, by omega, fun e => ?_⟩, ?_⟩
  · have hqk : q = k := by simpa [Value.ownBlock] using e
    rcases hat with hat | hat
    · exact hk.2.2 (by rw [hat, hqk])
    · omega
  · rw [hg.block k (by omega) (fun e => hk.2.2 e.symm), hb.block k hlt]

theorem GB.grown {w w' : World} {T g : Nat} {lv nv pv : Value} {L : List Int} {k i : Nat} {ns ps : List ByteArray} {base n : Nat} {v : Value} {ys : List Value} (h : GB w T g lv nv pv L k i ns ps) (hr : w.ownsRow base 99 2 v n ys) (hg : w.grownBy w' v.ownBlock) (hT : T ≤ base) : GB w' T g lv nv pv L k i ns ps :=
  ⟨grown_type hr hg (by decide) h.blk, h.lo, h.ri.keep ((Below.refl T w).grown hg (by have := h.lt; have := h.lo; omega) (fun k hk => by have := (hr.lt k hk).1; omega)), h.kl, own_grown_type hr hg (by decide) h.rn, own_grown_type hr hg (by decide) h.rp⟩
theorem step_word {np nf d i : Nat} {l : List Int} (h : ¬ ((nxF 3 l).1 = 1 ∧ 0 < d ∧ i < 3)) (N : Nms) (w : World) (S : Nat → Prop) : ∃ e : Ex d, stepF np nf d i l = (e, i, (wordF np nf (nxF 3 l).2).2) ∧ ∀ a b, XW N (wordF np nf (nxF 3 l).2).1 a b → XE N w S d e a b := by
  cases d with
  | zero => exact ⟨_, rfl, fun _ _ h => h⟩
  | succ d =>
    refine ⟨.inl (wordF np nf (nxF 3 l).2).1, ?_, fun _ _ h => h⟩
    rw [stepF, if_neg (fun e => h ⟨e.1, by omega, e.2⟩)]
theorem xls_but {N : Nms} {B g d : Nat} {w w' : World} {v : Value} {l : List (Ex d)} {xs : List Value} (hg : g < B) (hb : But g w w') (h : XLs (XE N w (SX B w v) d) l xs) : XLs (XE N w' (SX B w' v) d) l xs := by
  refine h.map (XE.keep (fun k hk hlt => ?_) d)
  have := hb.size
  exact ⟨⟨hk.1, by omega, hk.2.2⟩, hb.oth k hlt (by have := hk.1; omega)⟩
theorem xls_old {N : Nms} {B d : Nat} {w w' : World} {v : Value} {l : List (Ex d)} {xs : List Value} (hb : Below w.heap.size w w') (h : XLs (XE N w (SX B w v) d) l xs) : XLs (XE N w' (SX B w' v) d) l xs := by
  refine h.map (XE.keep (fun k hk hlt => ?_) d)
  have := hb.size
  exact ⟨⟨hk.1, by omega, hk.2.2⟩, hb.block k hlt⟩

set_option maxRecDepth 100000 in
set_option maxHeartbeats 4000000 in
theorem kApp_step (T g : Nat) (lv nv pv : Value) (L : List Int) (ns ps : List ByteArray) (hin : ∀ c ∈ L, -9223372036854775808 ≤ c ∧ c ≤ 9223372036854775807) (hL : L.length ≤ maxLen) (hns : 0 < ns.length) (hn4 : ns.length ≤ 4) (hp3 : ps.length ≤ 3) (d : Nat) (hd : d ≤ 2) (hrec : ∀ d', d = d' + 1 → AppC T g lv nv pv L ns ps d') : AppC T g lv nv pv L ns ps d := by
  intro least i k w h hle hi3
  obtain ⟨dI, hdI⟩ : ∃ dI : Int, dI = (d : Int) := ⟨_, rfl⟩
  rw [← hdI]
  have HDI : Hid (dI = (d : Int)) := hdI
  have hdI0 : 0 ≤ dI := by omega
  have hdI2 : dI ≤ 2 := by omega
  clear hdI
  obtain ⟨ii, hi, hz0, hz1, hz2⟩ := info_parts Tryz.infoEx
  have hlt := h.lt
  have HC1 : Hid _ := kWord T g lv nv pv L k i ns ps w h hin hL hns hn4 hp3
  have HAF : Hid (appF ps.length ns.length d least i (L.drop k) = appG ps.length ns.length (stepF ps.length ns.length d) least i (L.drop k)) := rfl
  rw [HAF.out]
  unfold appG
  generalize wordF ps.length ns.length (L.drop k) = z0 at *
  obtain ⟨hw, l1⟩ := z0
  simp only at HC1 ⊢
  clear HAF h
  go_enter Tryz.func28, Tryz.ntmps28
  go_wp2_with fail
  refine (show Calls _ _ _ _ _ from HC1.out).mono ?_
  rintro e w1 ⟨x, rfl, hx, hb1, k1, hk1, hg1⟩
  clear HC1
  subst hk1
  have hs1 := hb1.size
  have hal := bel_al w1 (Obj.cells #[.string x, .slice none 0 0] 99)
  have HC2 : Hid _ := kNext (5 - least) T g lv nv pv L k1 i ns ps (w1.alloc (Obj.cells #[.string x, .slice none 0 0] 99)) (hg1.old hal) hin hL (by omega) (by omega)
  have HXW : Hid (x.data.toList = wdT (nmsB ns ps) hw) := hx
  have hgl1 := hg1.lt
  have HB1 : Hid (But g w (w1.alloc (Obj.cells #[.string x, .slice none 0 0] 99))) := hb1.trans (But.of hal (by omega))
  have HR1 : Hid (World.ownsRow (w1.alloc (Obj.cells #[.string x, .slice none 0 0] 99)) w.heap.size 99 2 (.slice (some ⟨w1.heap.size, 0, none⟩) 1 1) 1 [.string x, .slice none 0 0]) := row_one (w := w1) (B := w.heap.size) (a := .string x) (b := .slice none 0 0) (t := 99) hs1
  have HGX : Hid ((w1.alloc (Obj.cells #[.string x, .slice none 0 0] 99)).heap[g]? = some (.cells #[lv, .int .i64 k1, nv, pv, .int .i64 i] 39 (0, 0))) := (hal.block g hgl1).trans hg1.blk
  have e5 : ((5 - least : Nat) : Int) = (5 : Int) - (least : Int) := by omega
  rw [e5] at HC2
  have hnx := nxF_lt (5 - least) (L.drop k1) (by omega)
  generalize hz : nxF (5 - least) (L.drop k1) = z at *
  have HZ : Hid (nxF (5 - least) (L.drop k1) = z) := hz
  obtain ⟨nn, l2⟩ := z
  simp only at HC2 hnx
  clear hg1 hb1 hal hx hz
  go_wp2_with fail
  refine (show Calls _ _ _ _ _ from HC2.out).mono ?_
  rintro e w2 ⟨rfl, hb2, k2, hk2, hg2⟩
  clear HC2
  have hs2 := hb2.size
  have HB2 : Hid (But g w w2) := HB1.out.trans hb2
  have HR2 : Hid (World.ownsRow w2 w.heap.size 99 2 (.slice (some ⟨w1.heap.size, 0, none⟩) 1 1) 1 [.string x, .slice none 0 0]) := row_but HR1.out hb2 HGX.out (by decide)
  have HG2 : Hid _ := hg2
  have HK2 : Hid (l2 = L.drop k2) := hk2
  have HM : Hid (least + nn - 1 = least + nn - 1) := rfl
  obtain ⟨M, hM⟩ : ∃ M, M = least + nn - 1 := ⟨_, rfl⟩
  have HME : Hid (M = least + nn - 1) := hM
  have hM4 : M ≤ 3 := by omega
  have en : ((least : Int) + (nn : Int)) = ((M + 1 : Nat) : Int) := by omega
  clear hb2 hg2 hM hk2 HB1 HR1 HM
  obtain ⟨F, hF⟩ : ∃ F, F = stepF ps.length ns.length d := ⟨_, rfl⟩
  have HF : Hid (F = stepF ps.length ns.length d) := hF
  clear hF
  go_wp2_with fail
  go_loopg [7, 8] M (fun m y z wr => ∃ (done : List (Ex d)) (i' k' : Nat) (xx : ByteArray) (xs : List Value) (q cap : Nat), y = .string xx ∧ z = .slice (some ⟨q, 0, none⟩) (done.length + 1) cap ∧ done.length + m = M ∧ i' ≤ 3 ∧ g < wr.heap.size ∧ w.heap.size ≤ wr.heap.size ∧ Hid (But g w wr) ∧ Hid (GB wr T g lv nv pv L k' i' ns ps) ∧ Hid (argsF F M i (L.drop k2) = (done ++ (argsF F m i' (L.drop k')).1, (argsF F m i' (L.drop k')).2)) ∧ Hid (wr.ownsRow w.heap.size 99 2 (.slice (some ⟨q, 0, none⟩) (done.length + 1) cap) (done.length + 1) (.string x :: .slice none 0 0 :: xs)) ∧ Hid (XLs (XE (nmsB ns ps) wr (SX w.heap.size wr (.slice (some ⟨q, 0, none⟩) (done.length + 1) cap)) d) done xs))
  case atStart => exact ⟨[], i, k2, x, [], w1.heap.size, 1, rfl, rfl, by simp, hi3, HG2.out.lt, HB2.out.size, HB2.out, HG2.out, by simp [Hid], HR2.out, rfl⟩
  case round =>
    clear HB2 HG2 HR2
    obtain ⟨done, i', k', xx, xs, q, cap, rfl, rfl, hdm, hi', hgw, hww, HB, HG, HE, HR, HX⟩ := hrel
    by_cases hgk : gk = 0
    · subst hgk
      have hd0 : decide (((done.length : Int) + 1) < ((M + 1 : Nat) : Int)) = false := decide_eq_false (by omega)
      have hd1 : ¬ ((done.length : Int) + 1) < ((M + 1 : Nat) : Int) := by omega
      have HFin : Hid (argsF (stepF ps.length ns.length d) (least + (nxF (5 - least) (L.drop k1)).1 - 1) i (nxF (5 - least) (L.drop k1)).2 = (done, i', L.drop k')) := by
        show _ = _
        rw [HZ.out, ← HF.out]
        simp only
        rw [← HME.out, HK2.out, HE.out]
        simp [argsF]
      go_wp2_with fail
      go_ret
      refine ⟨_, rfl, HB.out, ⟨k', by rw [HFin.out], by rw [HFin.out]; exact HG.out⟩, ?_⟩
      rw [HFin.out]
      refine ⟨x, xs, HXW.out, ownsRow_base HR.out (Nat.zero_le _), fun q hq => HR.out.lt q hq, HX.out.map (XE.keep (fun q hq _ => ⟨⟨hq.1, hq.2.1⟩, rfl⟩) d)⟩
    · obtain ⟨m, rfl⟩ : ∃ m, gk = m + 1 := ⟨gk - 1, by omega⟩
      have hd0 : decide (((done.length : Int) + 1) < ((M + 1 : Nat) : Int)) = true := decide_eq_true (by omega)
      have HC3 : Hid _ := kNext 3 T g lv nv pv L k' i' ns ps wr HG.out hin hL (by omega) (by omega)
      have HBLK : Hid _ := HG.out.blk
      have HSE : Hid (argsF F (m + 1) i' (L.drop k') = ((F i' (L.drop k')).1 :: (argsF F m (F i' (L.drop k')).2.1 (F i' (L.drop k')).2.2).1, (argsF F m (F i' (L.drop k')).2.1 (F i' (L.drop k')).2.2).2)) := rfl
      have HFE : Hid (F i' (L.drop k') = stepF ps.length ns.length d i' (L.drop k')) := by show _ = _; rw [HF.out]
      have hn3 := nxF_lt 3 (L.drop k') (by omega)
      generalize hz3 : nxF 3 (L.drop k') = z3 at *
      have HZ3 : Hid (nxF 3 (L.drop k') = z3) := hz3
      obtain ⟨q3, l3⟩ := z3
      simp only at HC3 hn3
      clear hz3
      go_wp2_with fail
      refine (show Calls _ _ _ _ _ from HC3.out).mono ?_
      rintro e w3 ⟨rfl, hb3, k3, hk3, hg3⟩
      clear HC3
      have HK3 : Hid (l3 = L.drop k3) := hk3
      have hs3 := hb3.size
      have hgl3 := hg3.lt
      have HB3 : Hid (But g w w3) := HB.out.trans hb3
      have HR3 : Hid (w3.ownsRow w.heap.size 99 2 (.slice (some ⟨q, 0, none⟩) (done.length + 1) cap) (done.length + 1) (.string x :: .slice none 0 0 :: xs)) := row_but HR.out hb3 HBLK.out (by decide)
      have HX3 : Hid (XLs (XE (nmsB ns ps) w3 (SX w.heap.size w3 (.slice (some ⟨q, 0, none⟩) (done.length + 1) cap)) d) done xs) := xls_but hlt hb3 HX.out
      have c4 := hg3.c4
      have f4 := hg3.fz 4
      have HG3 : Hid _ := hg3
      clear hb3 hk3 hg3 HB HG HR HX HBLK
      by_cases hca : q3 = 1 ∧ 0 < d ∧ i' < 3
      · obtain ⟨hq1, hd0', hi'3⟩ := hca
        subst hq1
        obtain ⟨d', hd'⟩ : ∃ d', d = d' + 1 := ⟨d - 1, by omega⟩
        subst hd'
        have hqp : (0 : Int) < dI := by rw [HDI.out]; omega
        have hqb : decide ((0 : Int) < dI) = true := decide_eq_true hqp
        have hqm : decide ((i' : Int) < 3) = true := decide_eq_true (by omega)
        have hqi : (i' : Int) < 3 := by omega
        have HCA : Hid _ := hrec d' rfl 2 (i' + 1) k3 (w3.setCell ⟨g, 4, none⟩ (.int .i64 ((i' + 1 : Nat) : Int))) (HG3.out.setI (i' + 1)) (.inr rfl) (by omega)
        have HDJ : Hid ((d' : Int) = dI - 1) := by show _ = _; rw [HDI.out]; omega
        have ei : ((i' + 1 : Nat) : Int) = (i' : Int) + 1 := by omega
        rw [HDJ.out, ei] at HCA
        have HST : Hid (stepF ps.length ns.length (d' + 1) i' (L.drop k') = (.inr (appF ps.length ns.length d' 2 (i' + 1) (L.drop k3)).1, (appF ps.length ns.length d' 2 (i' + 1) (L.drop k3)).2)) := by
          show _ = _
          rw [stepF, HZ3.out, if_pos ⟨rfl, hi'3⟩]
          simp only
          rw [HK3.out]; rfl
        have hle3 : (appF ps.length ns.length d' 2 (i' + 1) (L.drop k3)).2.1 ≤ 3 := (appG_ok hns (stepF_ok ps.length ns.length hns d') 2 (i' + 1) (by omega) (by omega) (L.drop k3)).2.2.2.2.2.2 (by omega)
        generalize appF ps.length ns.length d' 2 (i' + 1) (L.drop k3) = za at *
        obtain ⟨pa, ia, l4⟩ := za
        simp only at HCA HST hle3
        have HBS : Hid (But g w3 (w3.setCell ⟨g, 4, none⟩ (.int .i64 ((i' : Int) + 1)))) := (But.refl g w3).set
        have HBL : Hid ((w3.setCell ⟨g, 4, none⟩ (.int .i64 ((i' : Int) + 1))).heap[g]? = some (.cells #[lv, .int .i64 k3, nv, pv, .int .i64 ((i' : Int) + 1)] 39 (0, 0))) := blk_set _ HG3.out.blk
        have HRS : Hid ((w3.setCell ⟨g, 4, none⟩ (.int .i64 ((i' : Int) + 1))).ownsRow w.heap.size 99 2 (.slice (some ⟨q, 0, none⟩) (done.length + 1) cap) (done.length + 1) (.string x :: .slice none 0 0 :: xs)) := ownsRow_set HR3.out HG3.out.blk (by decide)
        have HXS : Hid (XLs (XE (nmsB ns ps) (w3.setCell ⟨g, 4, none⟩ (.int .i64 ((i' : Int) + 1))) (SX w.heap.size (w3.setCell ⟨g, 4, none⟩ (.int .i64 ((i' : Int) + 1))) (.slice (some ⟨q, 0, none⟩) (done.length + 1) cap)) (d' + 1)) done xs) := xls_but hlt HBS.out HX3.out
        clear HZ3
        go_wp2_with fail
        refine (show Calls _ _ _ _ _ from HCA.out).mono ?_
        rintro e w4 ⟨v4, rfl, hb4, ⟨k4, hk4, hg4⟩, hxa⟩
        clear HCA
        have hv4 := hxa
        obtain ⟨_, _, _, hvr, _, _⟩ := hv4
        obtain ⟨vo, vc, rfl⟩ := own_form hvr
        clear hvr
        generalize hvn : pa.2.length + 1 = vn at *
        clear hvn
        have hs4 := hb4.size
        simp only [sz_set] at hs4 hxa
        have hgl4 := hg4.lt
        have HK4 : Hid (l4 = L.drop k4) := hk4
        have HB4 : Hid (But g w w4) := (HB3.out.trans HBS.out).trans hb4
        have HR4 : Hid (w4.ownsRow w.heap.size 99 2 (.slice (some ⟨q, 0, none⟩) (done.length + 1) cap) (done.length + 1) (.string x :: .slice none 0 0 :: xs)) := row_but HRS.out hb4 HBL.out (by decide)
        have HX4 : Hid (XLs (XE (nmsB ns ps) w4 (SX w.heap.size w4 (.slice (some ⟨q, 0, none⟩) (done.length + 1) cap)) (d' + 1)) done xs) := xls_but hlt hb4 HXS.out
        have HG4 : Hid _ := hg4
        have hq3 : q < w3.heap.size := (HR3.out.lt q rfl).2
        have HXA : Hid (XA (nmsB ns ps) w4 (SX w.heap.size w4 (.slice (some ⟨q, 0, none⟩) (done.length + 1) cap)) d' pa (.slice vo vn vc)) := XA.keep (fun k hk hl => ⟨⟨by have := hk.1; omega, hk.2, fun e => by
          have : q = k := by simpa [Value.ownBlock] using e
          have := hk.1; omega⟩, rfl⟩) hxa
        clear hb4 hk4 hg4 hxa HB3 HR3 HX3 HG3 c4 f4 HBS HBL HRS HXS
        go_wp2_with (at_builtin; go_must (refine wpList_append_lies _ rfl _ _ _ rfl w.heap.size 99 ii _ 2 40 Tryz.underlying64 hi hz0 hz1 hz2 rfl (by omega) (.slice (some ⟨q, 0, none⟩) (done.length + 1) cap) (done.length + 1) (.string x :: .slice none 0 0 :: xs) rfl ?hownA _ 1 _ [.string ByteArray.empty, .slice vo vn vc] rfl rfl ?hnewsA ?h1A (by omega) ?h63A ?hbytesA ?hbaseA _ rfl ?_))
        case hownA => exact World.ownsRow.alloc HR4.out _
        try case hnewsA => exact World.news_of_block (heap_alloc_new w4 _)
        case h1A => simp [Value.oneCell']
        case h63A => unfold maxLen; omega
        case hbytesA => omega
        case hbaseA => first | omega | (simp; omega)
        intro g5 cap5 w5 hown5 hgrow5 hat5 hlt5
        have hal4 := bel_al w4 (Obj.cells #[.string ByteArray.empty, .slice vo vn vc] 99)
        have HX5 : Hid (XLs (XE (nmsB ns ps) w5 (SX w.heap.size w5 (.slice (some ⟨g5, 0, none⟩) (done.length + 1 + 1) cap5)) (d' + 1)) done xs) := xls_grown hal4 (HR4.out.alloc _) hgrow5 (by rw [World.size_alloc]; exact hat5) HX4.out
        have HXB : Hid (XE (nmsB ns ps) w5 (SX w.heap.size w5 (.slice (some ⟨g5, 0, none⟩) (done.length + 1 + 1) cap5)) (d' + 1) (.inr pa) (.string ByteArray.empty) (.slice vo vn vc)) := by
          have h0 : XLs (XE (nmsB ns ps) w4 (SX w.heap.size w4 (.slice (some ⟨q, 0, none⟩) (done.length + 1) cap)) (d' + 1)) [.inr pa] [.string ByteArray.empty, .slice vo vn vc] := ⟨_, _, [], rfl, ⟨rfl, HXA.out⟩, rfl⟩
          obtain ⟨a, b, r, e, h1, _⟩ := xls_grown (q := g5) (cap := cap5) (m := done.length + 1 + 1) hal4 (HR4.out.alloc _) hgrow5 (by rw [World.size_alloc]; exact hat5) h0
          simp only [List.cons.injEq] at e
          obtain ⟨rfl, rfl, _⟩ := e
          exact h1
        have HO5 : Hid _ := hown5
        have HBU : Hid (But g w w5) := (HB4.out.trans (But.of hal4 (by omega))).grown (HR4.out.alloc _) hgrow5 (Nat.le_refl _) (by omega)
        have HG5 : Hid (GB w5 T g lv nv pv L k4 ia ns ps) := (HG4.out.old hal4).grown (HR4.out.alloc _) hgrow5 (by have := HG4.out.lo; omega)
        have hs5 := HBU.out.size
        have hg5 := HG5.out.lt
        clear hown5 hgrow5 hat5 hal4
        go_wp2_with fail
        go_roundg m
        case measure => omega
        case rel =>
          have hlen : (done ++ [(show Ex (d' + 1) from .inr pa)]).length = done.length + 1 := by rw [List.length_append]; rfl
          refine ⟨done ++ [(show Ex (d' + 1) from .inr pa)], ia, k4, xx, xs ++ [.string ByteArray.empty, .slice vo vn vc], g5, cap5, rfl, by rw [hlen], by rw [hlen]; omega, hle3, hg5, hs5, HBU.out, HG5.out, ?_, by rw [hlen]; exact HO5.out, ?_⟩
          · show _ = _
            rw [HE.out, HSE.out, HFE.out, HST.out, HK4.out]
            simp
            rfl
          · rw [hlen]
            exact HX5.out.snoc HXB.out
      · have HCW : Hid _ := kWord T g lv nv pv L k3 i' ns ps w3 HG3.out hin hL hns hn4 hp3
        have HSW : Hid _ := fun (w' : World) (S : Nat → Prop) => step_word (np := ps.length) (nf := ns.length) (d := d) (i := i') (l := L.drop k') (by rw [HZ3.out]; exact hca) (nmsB ns ps) w' S
        rw [HZ3.out] at HSW
        simp only [HK3.out] at HSW
        generalize wordF ps.length ns.length (L.drop k3) = zw at *
        obtain ⟨ww, l4⟩ := zw
        simp only at HCW HSW
        have hcases : q3 ≠ 1 ∨ (q3 = 1 ∧ d = 0) ∨ (q3 = 1 ∧ 0 < d ∧ ¬ i' < 3) := by omega
        rcases hcases with hq | ⟨rfl, hq⟩ | ⟨rfl, hq1, hq2⟩
        · have hqb : ((q3 : Int) == 1) = false := by simpa using (show ¬ (q3 : Int) = 1 by omega)
          have hqn : ¬ (q3 : Int) = 1 := by omega
          go_wp2_with fail
          refine (show Calls _ _ _ _ _ from HCW.out).mono ?_
          rintro e w4 ⟨x4, rfl, hx4, hb4, k4, hk4, hg4⟩
          clear HCW
          have hs4 := hb4.size
          have hgl4 := hg4.lt
          have HK4 : Hid (l4 = L.drop k4) := hk4
          have HX4W : Hid (x4.data.toList = wdT (nmsB ns ps) ww) := hx4
          have HB4 : Hid (But g w w4) := HB3.out.trans hb4
          have HR4 : Hid (w4.ownsRow w.heap.size 99 2 (.slice (some ⟨q, 0, none⟩) (done.length + 1) cap) (done.length + 1) (.string x :: .slice none 0 0 :: xs)) := row_but HR3.out hb4 HG3.out.blk (by decide)
          have HX4 : Hid (XLs (XE (nmsB ns ps) w4 (SX w.heap.size w4 (.slice (some ⟨q, 0, none⟩) (done.length + 1) cap)) d) done xs) := xls_but hlt hb4 HX3.out
          have HG4 : Hid _ := hg4
          clear hb4 hk4 hg4 hx4 HB3 HR3 HX3 HG3 c4 f4
          go_wp2_with (at_builtin; go_must (refine wpList_append_lies _ rfl _ _ _ rfl w.heap.size 99 ii _ 2 40 Tryz.underlying64 hi hz0 hz1 hz2 rfl (by omega) (.slice (some ⟨q, 0, none⟩) (done.length + 1) cap) (done.length + 1) (.string x :: .slice none 0 0 :: xs) rfl ?hownW1 _ 1 _ [.string x4, .slice none 0 0] rfl rfl ?hnewsW1 ?h1W1 (by omega) ?h63W1 ?hbytesW1 ?hbaseW1 _ rfl ?_))
          case hownW1 => exact World.ownsRow.alloc HR4.out _
          try case hnewsW1 => exact World.news_of_block (heap_alloc_new w4 _)
          case h1W1 => simp [Value.oneCell']
          case h63W1 => unfold maxLen; omega
          case hbytesW1 => omega
          case hbaseW1 => first | omega | (simp; omega)
          intro g5 cap5 w5 hown5 hgrow5 hat5 hlt5
          have hal4 := bel_al w4 (Obj.cells #[.string x4, .slice none 0 0] 99)
          have HX5 : Hid (XLs (XE (nmsB ns ps) w5 (SX w.heap.size w5 (.slice (some ⟨g5, 0, none⟩) (done.length + 1 + 1) cap5)) d) done xs) := xls_grown hal4 (HR4.out.alloc _) hgrow5 (by rw [World.size_alloc]; exact hat5) HX4.out
          have HO5 : Hid _ := hown5
          have HBU : Hid (But g w w5) := (HB4.out.trans (But.of hal4 (by omega))).grown (HR4.out.alloc _) hgrow5 (Nat.le_refl _) (by omega)
          have HG5 : Hid (GB w5 T g lv nv pv L k4 i' ns ps) := (HG4.out.old hal4).grown (HR4.out.alloc _) hgrow5 (by have := HG4.out.lo; omega)
          have hs5 := HBU.out.size
          have hg5 := HG5.out.lt
          clear hown5 hgrow5 hat5 hal4
          go_wp2_with fail
          go_roundg m
          case measure => omega
          case rel =>
            obtain ⟨e0, he0, hxe⟩ := HSW.out w5 (SX w.heap.size w5 (.slice (some ⟨g5, 0, none⟩) (done.length + 1 + 1) cap5))
            have hlen : (done ++ [e0]).length = done.length + 1 := by simp
            refine ⟨done ++ [e0], i', k4, x4, xs ++ [.string x4, .slice none 0 0], g5, cap5, rfl, by rw [hlen], by rw [hlen]; omega, hi', hg5, hs5, HBU.out, HG5.out, ?_, by rw [hlen]; exact HO5.out, ?_⟩
            · show _ = _
              rw [HE.out, HSE.out, HFE.out, he0, HK4.out]
              simp
            · rw [hlen]
              exact HX5.out.snoc (hxe _ _ ⟨x4, rfl, HX4W.out, rfl⟩)
        · have hqn : ¬ (0 : Int) < dI := by rw [HDI.out]; omega
          have hqb : decide ((0 : Int) < dI) = false := decide_eq_false hqn
          clear hq hca
          go_wp2_with fail
          refine (show Calls _ _ _ _ _ from HCW.out).mono ?_
          rintro e w4 ⟨x4, rfl, hx4, hb4, k4, hk4, hg4⟩
          clear HCW
          have hs4 := hb4.size
          have hgl4 := hg4.lt
          have HK4 : Hid (l4 = L.drop k4) := hk4
          have HX4W : Hid (x4.data.toList = wdT (nmsB ns ps) ww) := hx4
          have HB4 : Hid (But g w w4) := HB3.out.trans hb4
          have HR4 : Hid (w4.ownsRow w.heap.size 99 2 (.slice (some ⟨q, 0, none⟩) (done.length + 1) cap) (done.length + 1) (.string x :: .slice none 0 0 :: xs)) := row_but HR3.out hb4 HG3.out.blk (by decide)
          have HX4 : Hid (XLs (XE (nmsB ns ps) w4 (SX w.heap.size w4 (.slice (some ⟨q, 0, none⟩) (done.length + 1) cap)) d) done xs) := xls_but hlt hb4 HX3.out
          have HG4 : Hid _ := hg4
          clear hb4 hk4 hg4 hx4 HB3 HR3 HX3 HG3 c4 f4
          go_wp2_with (at_builtin; go_must (refine wpList_append_lies _ rfl _ _ _ rfl w.heap.size 99 ii _ 2 40 Tryz.underlying64 hi hz0 hz1 hz2 rfl (by omega) (.slice (some ⟨q, 0, none⟩) (done.length + 1) cap) (done.length + 1) (.string x :: .slice none 0 0 :: xs) rfl ?hownW2 _ 1 _ [.string x4, .slice none 0 0] rfl rfl ?hnewsW2 ?h1W2 (by omega) ?h63W2 ?hbytesW2 ?hbaseW2 _ rfl ?_))
          case hownW2 => exact World.ownsRow.alloc HR4.out _
          try case hnewsW2 => exact World.news_of_block (heap_alloc_new w4 _)
          case h1W2 => simp [Value.oneCell']
          case h63W2 => unfold maxLen; omega
          case hbytesW2 => omega
          case hbaseW2 => first | omega | (simp; omega)
          intro g5 cap5 w5 hown5 hgrow5 hat5 hlt5
          have hal4 := bel_al w4 (Obj.cells #[.string x4, .slice none 0 0] 99)
          have HX5 : Hid (XLs (XE (nmsB ns ps) w5 (SX w.heap.size w5 (.slice (some ⟨g5, 0, none⟩) (done.length + 1 + 1) cap5)) d) done xs) := xls_grown hal4 (HR4.out.alloc _) hgrow5 (by rw [World.size_alloc]; exact hat5) HX4.out
          have HO5 : Hid _ := hown5
          have HBU : Hid (But g w w5) := (HB4.out.trans (But.of hal4 (by omega))).grown (HR4.out.alloc _) hgrow5 (Nat.le_refl _) (by omega)
          have HG5 : Hid (GB w5 T g lv nv pv L k4 i' ns ps) := (HG4.out.old hal4).grown (HR4.out.alloc _) hgrow5 (by have := HG4.out.lo; omega)
          have hs5 := HBU.out.size
          have hg5 := HG5.out.lt
          clear hown5 hgrow5 hat5 hal4
          go_wp2_with fail
          go_roundg m
          case measure => omega
          case rel =>
            obtain ⟨e0, he0, hxe⟩ := HSW.out w5 (SX w.heap.size w5 (.slice (some ⟨g5, 0, none⟩) (done.length + 1 + 1) cap5))
            have hlen : (done ++ [e0]).length = done.length + 1 := by simp
            refine ⟨done ++ [e0], i', k4, x4, xs ++ [.string x4, .slice none 0 0], g5, cap5, rfl, by rw [hlen], by rw [hlen]; omega, hi', hg5, hs5, HBU.out, HG5.out, ?_, by rw [hlen]; exact HO5.out, ?_⟩
            · show _ = _
              rw [HE.out, HSE.out, HFE.out, he0, HK4.out]
              simp
            · rw [hlen]
              exact HX5.out.snoc (hxe _ _ ⟨x4, rfl, HX4W.out, rfl⟩)
        · have hqp : (0 : Int) < dI := by rw [HDI.out]; omega
          have hqb : decide ((0 : Int) < dI) = true := decide_eq_true hqp
          have hqn : ¬ (i' : Int) < 3 := by omega
          have hqm : decide ((i' : Int) < 3) = false := decide_eq_false (by omega)
          go_wp2_with fail
          refine (show Calls _ _ _ _ _ from HCW.out).mono ?_
          rintro e w4 ⟨x4, rfl, hx4, hb4, k4, hk4, hg4⟩
          clear HCW
          have hs4 := hb4.size
          have hgl4 := hg4.lt
          have HK4 : Hid (l4 = L.drop k4) := hk4
          have HX4W : Hid (x4.data.toList = wdT (nmsB ns ps) ww) := hx4
          have HB4 : Hid (But g w w4) := HB3.out.trans hb4
          have HR4 : Hid (w4.ownsRow w.heap.size 99 2 (.slice (some ⟨q, 0, none⟩) (done.length + 1) cap) (done.length + 1) (.string x :: .slice none 0 0 :: xs)) := row_but HR3.out hb4 HG3.out.blk (by decide)
          have HX4 : Hid (XLs (XE (nmsB ns ps) w4 (SX w.heap.size w4 (.slice (some ⟨q, 0, none⟩) (done.length + 1) cap)) d) done xs) := xls_but hlt hb4 HX3.out
          have HG4 : Hid _ := hg4
          clear hb4 hk4 hg4 hx4 HB3 HR3 HX3 HG3 c4 f4
          go_wp2_with (at_builtin; go_must (refine wpList_append_lies _ rfl _ _ _ rfl w.heap.size 99 ii _ 2 40 Tryz.underlying64 hi hz0 hz1 hz2 rfl (by omega) (.slice (some ⟨q, 0, none⟩) (done.length + 1) cap) (done.length + 1) (.string x :: .slice none 0 0 :: xs) rfl ?hownW3 _ 1 _ [.string x4, .slice none 0 0] rfl rfl ?hnewsW3 ?h1W3 (by omega) ?h63W3 ?hbytesW3 ?hbaseW3 _ rfl ?_))
          case hownW3 => exact World.ownsRow.alloc HR4.out _
          try case hnewsW3 => exact World.news_of_block (heap_alloc_new w4 _)
          case h1W3 => simp [Value.oneCell']
          case h63W3 => unfold maxLen; omega
          case hbytesW3 => omega
          case hbaseW3 => first | omega | (simp; omega)
          intro g5 cap5 w5 hown5 hgrow5 hat5 hlt5
          have hal4 := bel_al w4 (Obj.cells #[.string x4, .slice none 0 0] 99)
          have HX5 : Hid (XLs (XE (nmsB ns ps) w5 (SX w.heap.size w5 (.slice (some ⟨g5, 0, none⟩) (done.length + 1 + 1) cap5)) d) done xs) := xls_grown hal4 (HR4.out.alloc _) hgrow5 (by rw [World.size_alloc]; exact hat5) HX4.out
          have HO5 : Hid _ := hown5
          have HBU : Hid (But g w w5) := (HB4.out.trans (But.of hal4 (by omega))).grown (HR4.out.alloc _) hgrow5 (Nat.le_refl _) (by omega)
          have HG5 : Hid (GB w5 T g lv nv pv L k4 i' ns ps) := (HG4.out.old hal4).grown (HR4.out.alloc _) hgrow5 (by have := HG4.out.lo; omega)
          have hs5 := HBU.out.size
          have hg5 := HG5.out.lt
          clear hown5 hgrow5 hat5 hal4
          go_wp2_with fail
          go_roundg m
          case measure => omega
          case rel =>
            obtain ⟨e0, he0, hxe⟩ := HSW.out w5 (SX w.heap.size w5 (.slice (some ⟨g5, 0, none⟩) (done.length + 1 + 1) cap5))
            have hlen : (done ++ [e0]).length = done.length + 1 := by simp
            refine ⟨done ++ [e0], i', k4, x4, xs ++ [.string x4, .slice none 0 0], g5, cap5, rfl, by rw [hlen], by rw [hlen]; omega, hi', hg5, hs5, HBU.out, HG5.out, ?_, by rw [hlen]; exact HO5.out, ?_⟩
            · show _ = _
              rw [HE.out, HSE.out, HFE.out, he0, HK4.out]
              simp
            · rw [hlen]
              exact HX5.out.snoc (hxe _ _ ⟨x4, rfl, HX4W.out, rfl⟩)

theorem kApp (T g : Nat) (lv nv pv : Value) (L : List Int) (ns ps : List ByteArray) (hin : ∀ c ∈ L, -9223372036854775808 ≤ c ∧ c ≤ 9223372036854775807) (hL : L.length ≤ maxLen) (hns : 0 < ns.length) (hn4 : ns.length ≤ 4) (hp3 : ps.length ≤ 3) : ∀ d, d ≤ 2 → AppC T g lv nv pv L ns ps d
  | 0, h => kApp_step T g lv nv pv L ns ps hin hL hns hn4 hp3 0 h (fun d' e => by omega)
  | d + 1, h => kApp_step T g lv nv pv L ns ps hin hL hns hn4 hp3 (d + 1) h (fun d' e => by
      have : d' = d := by omega
      subst this
      exact kApp T g lv nv pv L ns ps hin hL hns hn4 hp3 d' (by omega))

end Go.Proofs.YtnndoagpbcacdaaGreatDoor
