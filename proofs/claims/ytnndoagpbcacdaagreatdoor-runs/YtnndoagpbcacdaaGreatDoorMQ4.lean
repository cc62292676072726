import Derived.Test.YtnndoagpbcacdaaGreatDoorMQ1
import Derived.Test.YtnndoagpbcacdaaGreatDoorMC1
import Derived.Test.YtnndoagpbcacdaaGreatDoorMX5
import Derived.Deep.DeepCutAuto
namespace Go.Proofs.YtnndoagpbcacdaaGreatDoor
open Go.RowKit

/-! The reference: lined. -/
def zz : Ln := [(1, 0), (1, 0)]
theorem zz_good (nf : Nat) (ar : Int) (nl i : Nat) : goodL nf ar nl i zz = true := by
  simp [goodL, goodA, zz, boundF]
theorem goodLs_rep (nf : Nat) (ar : Int) (nl : Nat) : ∀ (m i : Nat), goodLs nf ar nl i (List.replicate m zz) = true
  | 0, _ => rfl
  | m + 1, i => by rw [List.replicate_succ, goodLs, zz_good, goodLs_rep nf ar nl m (i + 1)]; rfl
theorem goodLs_set (nf : Nat) (ar : Int) (nl : Nat) (l : Ln) : ∀ (m j i : Nat), j < m → goodLs nf ar nl i ((List.replicate m zz).set j l) = goodL nf ar nl (i + j) l
  | 0, _, _, h => by omega
  | m + 1, 0, i, _ => by rw [List.replicate_succ, List.set_cons_zero, goodLs, goodLs_rep, Bool.and_true, Nat.add_zero]
  | m + 1, j + 1, i, h => by
    rw [List.replicate_succ, List.set_cons_succ, goodLs, zz_good, Bool.true_and, goodLs_set nf ar nl l m j (i + 1) (by omega)]
    congr 1
    omega
theorem goodT_set (nf : Nat) (ar : Int) (nl j : Nat) (l : Ln) (h0 : 0 ≤ ar) (h6 : ar ≤ 6) (h13 : nl ≤ 13) (hj : j < nl) : goodT nf ⟨ar, (List.replicate nl zz).set j l⟩ = goodL nf ar nl j l := by
  have hl : ((List.replicate nl zz).set j l).length = nl := by simp
  simp only [goodT, hl]
  rw [goodLs_set nf ar nl l nl j 0 hj, Nat.zero_add]
  simp [h0, h6, h13, show 1 ≤ nl by omega]

theorem AtomsRd.upQ {w : World} {T T' : Nat} {v : Value} {l : Ln} (h : AtomsRd w T v l) (hT : T ≤ T') : AtomsRd w T' v l := by
  obtain ⟨a, cap, h1, h2, h3, h4⟩ := h
  refine ⟨a, cap, h1, h2, h3, ?_⟩
  rcases h4 with h4 | ⟨b, off, rfl, hbl, hc⟩
  · exact .inl h4
  · exact .inr ⟨b, off, rfl, by omega, hc⟩
theorem own_block2 {w : World} {B b : Nat} {e : TypeId} {n size : Nat} {cs : Array Value} (h : w.heap[b]? = some (.cells cs e (0, 0))) (hs : cs.size = n * size) (hn : n ≤ maxLen) (hB : B ≤ b) : w.ownsRow B e size (.slice (some ⟨b, 0, none⟩) n n) n cs.toList :=
  ⟨by rw [Array.length_toList]; exact hs, .inr ⟨b, n, cs, rfl, hB, h, Nat.le_refl _, hn, hs, List.take_of_length_le (by rw [Array.length_toList]; omega)⟩⟩

set_option maxRecDepth 100000 in
set_option maxHeartbeats 4000000 in
theorem rLined (l : Ln) (v : Value) (j nl nf : Nat) (ar : Int) (w : World) (hv : AtomsRd w w.heap.size v l) (h0 : 0 ≤ ar) (h6 : ar ≤ 6) (h13 : nl ≤ 13) (hj : j < nl) (hf : nf ≤ 16) :
    Calls Tryz.prog 137 #[v, .int .i64 j, .int .i64 ar, .int .i64 nl, .int .i64 nf] w fun e w' => e = .returned (.bool (goodL nf ar nl j l)) ∧ Below w.heap.size w w' := by
  have HG : Hid _ := goodT_set nf ar nl j l h0 h6 h13 hj
  obtain ⟨i2, hi2, hy0, hy1, hy2⟩ := info_parts Tryz.infoLine
  obtain ⟨o, cap, hov, hc1, hc2, hcs⟩ := id hv
  subst hov
  go_enter Tryz.func137, Tryz.ntmps137
  obtain ⟨it, hit, ht0, ht1, ht2⟩ := info_parts Tryz.infoTemplate
  have HAT : Hid (AtomsRd w w.heap.size (.slice o l.length cap) l) := hv
  clear hv hcs
  unfold maxLen at hc2
  go_wp2_with (at_make; go_must (refine wpList_make_full _ rfl _ _ 55 rfl w.heap.size 78 it _ 2 Tryz.underlying55 hit ht0 ht1 _ _ _ _ nf rfl rfl rfl rfl ?mb ?ml ?mbase ?_))
  case mb => rw [ht2]; omega
  case ml => unfold maxLen; omega
  case mbase => exact Nat.le_refl _
  intro w1 hown1 hgrow1
  have hb1 : Below w.heap.size w w1 := (Below.refl _ _).grown (row := none) hgrow1 (Nat.le_refl _) (fun k hk => by cases hk)
  have hb1s := hb1.size
  clear hown1 hgrow1
  obtain ⟨CB, hCB⟩ : ∃ CB, CB = w1.heap.size := ⟨_, rfl⟩
  have HB : Hid ((((w1.alloc (Obj.cells #[.int .i64 0, .slice (some ⟨w.heap.size, 0, none⟩) nf nf] 57)).alloc (Obj.cells #[.int .i64 ar, .slice none 0 0] 78))).heap[CB]? = some (.cells #[.int .i64 0, .slice (some ⟨w.heap.size, 0, none⟩) nf nf] 57 (0, 0)) ∧ (((w1.alloc (Obj.cells #[.int .i64 0, .slice (some ⟨w.heap.size, 0, none⟩) nf nf] 57)).alloc (Obj.cells #[.int .i64 ar, .slice none 0 0] 78))).heap[CB + 1]? = some (.cells #[.int .i64 ar, .slice none 0 0] 78 (0, 0))) := by rw [hCB]; exact two_later (Below.refl _ _)
  have HBB : Hid (Below w.heap.size w ((w1.alloc (Obj.cells #[.int .i64 0, .slice (some ⟨w.heap.size, 0, none⟩) nf nf] 57)).alloc (Obj.cells #[.int .i64 ar, .slice none 0 0] 78))) := (hb1.alloc hb1s _).alloc (by simp; omega) _
  have hCw : w.heap.size ≤ CB := by omega
  go_wp2_with fail
  rw [← hCB]
  clear hCB
  go_loopw [13] (fun y wr => ∃ (k : Nat) (lv : Value), k ≤ nl ∧ y = .int .i64 k ∧ Below w.heap.size w wr ∧ wr.heap[CB]? = some (.cells #[.int .i64 0, .slice (some ⟨w.heap.size, 0, none⟩) nf nf] 57 (0, 0)) ∧ wr.heap[CB + 1]? = some (.cells #[.int .i64 ar, lv] 78 (0, 0)) ∧ LinesB wr (CB + 1 + 1) lv (List.replicate k zz)) (fun y _ => nl - (intOf y).toNat)
  case atStart => exact ⟨0, .slice none 0 0, Nat.zero_le _, rfl, HBB.out, HB.out.1, HB.out.2, [], World.ownsRow_nil _ _ _ _, fun j hj => by simp at hj⟩
  case round =>
    clear HB HBB
    obtain ⟨k, lv, hk, rfl, hb, hCC, hTT, hLB⟩ := hrel
    have hbs := hb.size
    have hTl : CB + 1 < wr.heap.size := (Array.getElem?_eq_some_iff.1 hTT).1
    have hCl : CB < wr.heap.size := by omega
    obtain ⟨vs, hlr, hrw⟩ := hLB
    rw [List.length_replicate] at hlr
    obtain ⟨lo, lcap, rfl⟩ := own_form hlr
    obtain ⟨t0, t1, ft0, ft1⟩ := two_cells hTT
    by_cases hlt : k < nl
    · have hA : Below wr.heap.size wr ((wr.alloc (Obj.cells #[.int .i64 1, .int .i64 0, .int .i64 1, .int .i64 0] 75)).alloc (Obj.cells #[.slice (some ⟨wr.heap.size, 0, none⟩) 2 2] 76)) := ((Below.refl _ _).alloc (Nat.le_refl _) _).alloc (by simp) _
      have HZ : Hid _ := own_block2 (B := CB + 1 + 1) ((two_later (Below.refl _ ((wr.alloc (Obj.cells #[.int .i64 1, .int .i64 0, .int .i64 1, .int .i64 0] 75)).alloc (Obj.cells #[.slice (some ⟨wr.heap.size, 0, none⟩) 2 2] 76)))).1) (n := 2) (size := 2) rfl (by unfold maxLen; omega) (by omega)
      go_wp2_with (at_builtin; go_must (refine wpList_append_lies _ rfl _ _ _ rfl (CB + 1 + 1) 76 i2 _ 1 24 Tryz.underlying50 hi2 hy0 hy1 hy2 rfl (by omega) (.slice lo k lcap) k vs rfl ?hown _ 1 _ [.slice (some ⟨wr.heap.size, 0, none⟩) 2 2] rfl rfl ?hnews ?h1 (by omega) ?h63 ?hbytes ?hbase _ rfl ?_))
      case hown => exact (hlr.alloc _).alloc _
      try case hnews => exact World.news_of_block (by have := heap_alloc_new (wr.alloc (Obj.cells #[.int .i64 1, .int .i64 0, .int .i64 1, .int .i64 0] 75)) (Obj.cells #[.slice (some ⟨wr.heap.size, 0, none⟩) 2 2] 76); simpa using this)
      case h1 => simp [Value.oneCell']
      case h63 => unfold maxLen; omega
      case hbytes => omega
      case hbase => first | omega | (simp; omega)
      intro g cap2 w5 hown5 hgrow5 hat5 hlt5
      have hC5 := grown_type ((hlr.alloc _).alloc _) hgrow5 (by decide) ((hA.block _ hCl).trans hCC)
      have hT5 := grown_type ((hlr.alloc _).alloc _) hgrow5 (by decide) ((hA.block _ hTl).trans hTT)
      have hb5 : Below w.heap.size w w5 := (hb.trans (hA.mono hbs)).grown hgrow5 (by simp; omega) (fun k hk => Nat.le_trans (by omega) (hlr.lt k hk).1)
      have hLB5 : LinesB w5 (CB + 1 + 1) (.slice (some ⟨g, 0, none⟩) (k + 1) cap2) (List.replicate (k + 1) zz) := by
        rw [List.replicate_succ']
        refine ⟨vs ++ [.slice (some ⟨wr.heap.size, 0, none⟩) 2 2], by rw [List.length_append, List.length_replicate]; exact hown5, RowsAt.app (by have := hlr.1; simpa using this) ((hrw.old hA (fun _ _ h => h)).type ((hlr.alloc _).alloc _) hgrow5 (fun _ h => h)) ?_⟩
        intro q hq
        have hq0 : q = 0 := by simpa using hq
        subst hq0
        exact ⟨_, rfl, own_grown_type ((hlr.alloc _).alloc _) hgrow5 (by decide) HZ.out, fun _ _ => trivial⟩
      obtain ⟨z0, z1, _, fz1⟩ := two_cells hT5
      have hT5l : CB + 1 < w5.heap.size := (Array.getElem?_eq_some_iff.1 hT5).1
      clear hgrow5 hat5 t0 t1 ft0 ft1
      go_wp2_with fail
      go_roundw
      case rel => exact ⟨k + 1, _, hlt, by go_num, hb5.setCell (by show w.heap.size ≤ CB + 1; omega) _, (heap_set_ne _ (by omega)).trans hC5, blk_set _ hT5, hLB5.set hT5⟩
      case measure => simp [intOf]; omega
    · have hk2 : k = nl := by omega
      subst hk2
      have hle : ¬ (k : Int) < (k : Int) := by omega
      obtain ⟨g, cap', hg, _, hglt⟩ := hlr.form (by omega)
      cases hg
      obtain ⟨c0, c1, _, _⟩ := two_cells hCC
      have hgB : CB + 1 + 1 ≤ g := (hlr.lt g rfl).1
      have hne1 : CB ≠ g := by omega
      have hne2 : CB + 1 ≠ g := by omega
      have hjl : j < vs.length := by have := hlr.1; omega
      have cj : wr.cell? ⟨g, j, none⟩ = some vs[j] := row_cell hlr j _ (List.getElem?_eq_getElem hjl)
      obtain ⟨cur, hgb⟩ : ∃ cur, wr.heap[g]? = some (.cells cur 76 (0, 0)) := by
        rcases hlr.2 with ⟨h, _⟩ | ⟨g', cap2, cur, h, _, hh, _⟩
        · cases h
        · cases h; exact ⟨cur, hh⟩
      have fj := frozen_of_row wr g j _ _ hgb
      have hst := ownsRow_store (j := j) (.slice o l.length cap) hlr
      have hsz : (wr.setCell ⟨g, j, none⟩ (.slice o l.length cap)).heap.size = wr.heap.size := by simp [World.setCell]
      have hbW : Below w.heap.size w (wr.setCell ⟨g, j, none⟩ (.slice o l.length cap)) := hb.setCell (by show w.heap.size ≤ g; omega) _
      have hLR : LinesRd (wr.setCell ⟨g, j, none⟩ (.slice o l.length cap)) wr.heap.size (.slice (some ⟨g, 0, none⟩) k lcap) ((List.replicate k zz).set j l) := by
        have hkl : ((List.replicate k zz).set j l).length = k := by simp
        have hcap : k ≤ lcap ∧ lcap ≤ maxLen := by
          rcases hlr.2 with ⟨h, _⟩ | ⟨g', cap2, cur, h, _, _, h1, h2, _⟩
          · cases h
          · cases h; exact ⟨h1, h2⟩
        refine ⟨some ⟨g, 0, none⟩, lcap, by rw [hkl], by rw [hkl]; exact hcap.1, hcap.2, .inr ⟨g, 0, rfl, hglt, fun q hq => ?_⟩⟩
        rw [hkl] at hq
        by_cases hqj : q = j
        · subst hqj
          refine ⟨.slice o l.length cap, by rw [Nat.zero_add]; exact row_cell hst q _ (by rw [List.getElem?_set_self hjl]), ?_⟩
          rw [List.getElem_set_self]
          exact ((AtomsRd.keep HAT.out hbW)).upQ (by omega)
        · obtain ⟨u, e1, e2, _⟩ := hrw q (by rw [List.length_replicate]; exact hq)
          refine ⟨u, by rw [Nat.zero_add]; exact row_cell hst q _ (by rw [List.getElem?_set_ne (fun h => hqj h.symm)]; exact e1), ?_⟩
          rw [List.getElem_set_ne (fun h => hqj h.symm)]
          have := atomsRd_of (ownsRow_set (i := j) (u := .slice o l.length cap) e2 hgb (by decide))
          rw [hsz] at this
          exact this
      have HC : Hid _ := rTemplate ⟨ar, (List.replicate k zz).set j l⟩ 0 (some ⟨w.heap.size, 0, none⟩) nf nf (.slice (some ⟨g, 0, none⟩) k lcap) wr.heap.size (wr.setCell ⟨g, j, none⟩ (.slice o l.length cap)) (by rw [hsz]; exact Nat.le_refl _) (by unfold maxLen; omega) hLR
      rw [HG.out] at HC
      have HBW : Hid _ := hbW
      clear hLR hst hbW hgb hrw hsz
      go_wp2_with fail
      refine (show Calls _ _ _ _ _ from HC.out).mono ?_
      rintro e w6 ⟨rfl, hb6⟩
      have hb6w : Below w.heap.size w w6 := HBW.out.trans (hb6.mono HBW.out.size)
      go_wp2_with fail
      go_ret
      exact ⟨rfl, hb6w⟩

end Go.Proofs.YtnndoagpbcacdaaGreatDoor
namespace Go.Proofs.YtnndoagpbcacdaaGreatDoor
open Go.RowKit

/-! Lines of a text, as the reference splits them, and as the reader goes along them: plain. -/
theorem wrd_spl (r : ByteArray) : ∀ (n i b : Nat) (acc : List ByteArray), r.size - i = n → b ≤ i → i ≤ r.size → ∀ x rest, spL 10 (r.data.toList.drop i) = x :: rest →
    (rest = [] → wrd r b i acc = none) ∧ (rest ≠ [] → wrd r b i acc = some (acc ++ (preL ((r.data.toList.drop b).take (i - b)) (spL 32 x)).map ba, i + x.length + 1) ∧ spL 10 (r.data.toList.drop (i + x.length + 1)) = rest ∧ i + x.length + 1 ≤ r.size) := by
  have hsl := size_len r
  intro n
  induction n with
  | zero =>
    intro i b acc hn hb hi x rest h
    rw [List.drop_eq_nil_of_le (by omega)] at h
    simp only [spL, List.cons.injEq] at h
    obtain ⟨rfl, rfl⟩ := h
    exact ⟨fun _ => wrd_end r b i acc (by omega), fun h => absurd rfl h⟩
  | succ n ih =>
    intro i b acc hn hb hi x rest h
    have hlt : i < r.size := by omega
    have hll : i < r.data.toList.length := by omega
    have hbt := bt_get r i hll
    by_cases h10 : r.data.toList[i] = 10
    · rw [spL_hit 10 _ i hll h10, List.cons.injEq] at h
      obtain ⟨rfl, rfl⟩ := h
      refine ⟨fun e => absurd e (spL_ne _ _), fun _ => ⟨?_, rfl, by simp; omega⟩⟩
      rw [wrd_nl r b i acc hlt (by rw [hbt, h10]; rfl), ba_of (ext_cut r b i)]
      simp [spL, preL]
    · have hb10 : bt r i ≠ 10 := by
        rw [hbt]; intro e; exact h10 (UInt8.toNat_inj.1 (by show _ = 10; omega))
      rw [spL_miss 10 _ i hll h10] at h
      cases hy : spL 10 (r.data.toList.drop (i + 1)) with
      | nil => exact absurd hy (spL_ne _ _)
      | cons y rest' =>
        rw [hy] at h
        simp only [preL, List.cons.injEq, List.singleton_append] at h
        obtain ⟨rfl, rfl⟩ := h
        by_cases h32 : r.data.toList[i] = 32
        · have hb32 : bt r i = 32 := by rw [hbt, h32]; rfl
          have := ih (i + 1) (i + 1) (acc ++ [r.extract b i]) (by omega) (Nat.le_refl _) (by omega) y rest' hy
          rw [← wrd_sp r b i acc hlt hb32] at this
          refine ⟨this.1, fun hr => ?_⟩
          obtain ⟨e1, e2, e3⟩ := this.2 hr
          refine ⟨?_, ?_, by simp; omega⟩
          · rw [e1, Nat.sub_self, List.take_zero, preL_nil (spL_ne _ _), spL, if_pos h32, ba_of (ext_cut r b i)]
            simp [preL]; omega
          · rw [show i + (r.data.toList[i] :: y).length + 1 = i + 1 + y.length + 1 by simp; omega]; exact e2
        · have hb32 : bt r i ≠ 32 := by
            rw [hbt]; intro e; exact h32 (UInt8.toNat_inj.1 (by show _ = 32; omega))
          have := ih (i + 1) b acc (by omega) (by omega) (by omega) y rest' hy
          rw [← wrd_go r b i acc hlt hb10 hb32] at this
          refine ⟨this.1, fun hr => ?_⟩
          obtain ⟨e1, e2, e3⟩ := this.2 hr
          refine ⟨?_, ?_, by simp; omega⟩
          · rw [e1, spL, if_neg h32, preL_pre, cut_snoc _ b i hb hll]
            simp; omega
          · rw [show i + (r.data.toList[i] :: y).length + 1 = i + 1 + y.length + 1 by simp; omega]; exact e2
theorem wrd_line {r : ByteArray} {x : List UInt8} {rest : List (List UInt8)} (h : spL 10 r.data.toList = x :: rest) :
    (rest = [] → wrd r 0 0 [] = none) ∧ (rest ≠ [] → wrd r 0 0 [] = some (wsB (ba x), x.length + 1) ∧ spL 10 (restF r).data.toList = rest) := by
  have h0 := wrd_spl r (r.size - 0) 0 0 [] rfl (Nat.le_refl _) (Nat.zero_le _) x rest (by simpa using h)
  refine ⟨h0.1, fun hr => ?_⟩
  obtain ⟨e1, e2, e3⟩ := h0.2 hr
  have e4 : wrd r 0 0 [] = some (wsB (ba x), x.length + 1) := by
    rw [e1]
    simp [preL_nil (spL_ne _ _), wsB, ba_toL]
  refine ⟨e4, ?_⟩
  unfold restF
  rw [e4]
  simp only
  rw [ext_cut]
  rw [show 0 + x.length + 1 = x.length + 1 by omega] at e2
  have : (r.data.toList.drop (x.length + 1)).take (r.size - (x.length + 1)) = r.data.toList.drop (x.length + 1) := by
    rw [List.take_of_length_le]
    rw [List.length_drop, size_len]
    exact Nat.le_refl _
  rw [this]
  exact e2
theorem pair_no {r : ByteArray} {x : List UInt8} (c : UInt8) (h : spL 10 r.data.toList = [x]) : pairOk c r = false := by
  unfold pairOk
  rw [(wrd_line h).1 rfl]
theorem pair_hd {r : ByteArray} {x : List UInt8} {rest : List (List UInt8)} (c : UInt8) (h : spL 10 r.data.toList = x :: rest) (hr : rest ≠ []) :
    pairOk c r = hdOk c (wsB (ba x)) ∧ (hdOk c (wsB (ba x)) = true → pairA c r = hdA c (wsB (ba x)) ∧ pairB c r = hdB c (wsB (ba x))) ∧ spL 10 (restF r).data.toList = rest := by
  obtain ⟨e1, e2⟩ := (wrd_line h).2 hr
  refine ⟨by unfold pairOk hdOk; rw [e1], fun ho => ?_, e2⟩
  unfold hdOk at ho
  simp only [Bool.and_eq_true] at ho
  obtain ⟨o1, o2, o3, o4⟩ := ho
  unfold pairA pairB hdA hdB
  rw [e1]
  simp only [o1, o2, o3, Bool.and_self, if_true, decV, o4]
  exact ⟨trivial, trivial⟩
theorem atR_atK {s : ByteArray} (h : atR s = true) : atK s = true := by
  simp only [atR, Bool.and_eq_true] at h
  simp only [atK, Bool.and_eq_true]
  exact ⟨h.1, h.2.2⟩
theorem goodA_kind {nf : Nat} {ar : Int} {nl j : Nat} {a : Int × Int} (h : goodA nf ar nl j a = true) : a.1 ≠ 0 := by
  intro e
  simp only [goodA, Bool.and_eq_true, decide_eq_true_eq] at h
  have := h.2.1
  rw [e] at this
  simp [boundF] at this
  omega
/-- A line of atoms that may stand: as the reader has it, and as the reference has it. -/
theorem atoms_same {r : ByteArray} {x : List UInt8} {rest : List (List UInt8)} (nf : Nat) (ar : Int) (nl j : Nat) (h : spL 10 r.data.toList = x :: rest) (hr : rest ≠ []) :
    (atomsOk r && goodL nf ar nl j (atomsL r)) = (atsOk (wsB (ba x)) && goodL nf ar nl j ((wsB (ba x)).map atV)) ∧ (atsOk (wsB (ba x)) = true → atomsL r = (wsB (ba x)).map atV) ∧ spL 10 (restF r).data.toList = rest := by
  obtain ⟨e1, e2⟩ := (wrd_line h).2 hr
  have hk : atsOk (wsB (ba x)) = true → (wsB (ba x)).all atK = true := fun h => by
    simp only [atsOk, Bool.and_eq_true, List.all_eq_true] at h
    rw [List.all_eq_true]
    exact fun s hs => atR_atK (h.2 s hs)
  have hL : atomsOk r = (wsB (ba x)).all atK := by unfold atomsOk; rw [e1]
  have hM : atomsL r = if (wsB (ba x)).all atK then (wsB (ba x)).map atV else [] := by unfold atomsL; rw [e1]
  refine ⟨?_, fun h => by rw [hM, if_pos (hk h)], e2⟩
  cases ho : atsOk (wsB (ba x))
  · rw [Bool.false_and, hL, hM]
    cases hq : (wsB (ba x)).all atK
    · rfl
    · rw [if_pos rfl, Bool.true_and]
      cases hg : goodL nf ar nl j ((wsB (ba x)).map atV)
      · rfl
      · exfalso
        simp only [goodL, Bool.and_eq_true, decide_eq_true_eq, List.length_map, List.all_eq_true] at hg
        obtain ⟨h8, _, _, _, hall⟩ := hg
        rw [List.all_eq_true] at hq
        have : atsOk (wsB (ba x)) = true := by
          simp only [atsOk, Bool.and_eq_true, decide_eq_true_eq, List.all_eq_true]
          refine ⟨h8, fun s hs => ?_⟩
          have hk1 := hq s hs
          have hg1 := goodA_kind (hall (atV s) (List.mem_map_of_mem hs))
          simp only [atK, Bool.and_eq_true, decide_eq_true_eq] at hk1
          simp only [atR, Bool.and_eq_true, decide_eq_true_eq]
          refine ⟨hk1.1, ?_, hk1.2⟩
          simpa [atV, hk1.1] using hg1
        rw [ho] at this
        cases this
  · rw [Bool.true_and, hL, hM, hk ho, if_pos rfl, Bool.true_and]
theorem atoms_no {r : ByteArray} {x : List UInt8} (nf : Nat) (ar : Int) (nl j : Nat) (h : spL 10 r.data.toList = [x]) : (atomsOk r && goodL nf ar nl j (atomsL r)) = false := by
  unfold atomsOk atomsL
  rw [(wrd_line h).1 rfl]
  simp [goodL]
theorem size_zero {r : ByteArray} {x : List UInt8} {rest : List (List UInt8)} (h : spL 10 r.data.toList = x :: rest) : r.size = 0 ↔ (rest = [] ∧ x = []) := by
  constructor
  · intro h0
    have : r.data.toList = [] := List.length_eq_zero_iff.1 (by rw [← size_len]; exact h0)
    rw [this] at h
    simp only [spL, List.cons.injEq] at h
    exact ⟨h.2.symm, h.1.symm⟩
  · rintro ⟨rfl, rfl⟩
    cases hl : r.data.toList with
    | nil => rw [size_len, hl]; rfl
    | cons a l =>
      rw [hl] at h
      unfold spL at h
      split at h
      · simp only [List.cons.injEq, true_and] at h
        exact absurd h (spL_ne _ _)
      · cases hs : spL 10 l with
        | nil => exact absurd hs (spL_ne _ _)
        | cons y t => rw [hs] at h; simp [preL] at h

end Go.Proofs.YtnndoagpbcacdaaGreatDoor
namespace Go.Proofs.YtnndoagpbcacdaaGreatDoor
open Go.RowKit

/-! The reference: read. -/
theorem drop_at {α : Type} (l : List α) (i : Nat) (h : i < l.length) : l.drop i = l[i] :: l.drop (i + 1) := List.drop_eq_getElem_cons h
/-- May the first line stand, by the reference? -/
def head0 (LS : List (List UInt8)) (h : 0 < LS.length) : Bool := decide (2 ≤ LS.length) && (hdOk 77 (wsB (ba LS[0])) && begins (hdA 77 (wsB (ba LS[0]))) (hdB 77 (wsB (ba LS[0]))))
theorem code_bad {r : ByteArray} {LS : List (List UInt8)} (hls : spL 10 r.data.toList = LS) (h : 0 < LS.length) (hb : head0 LS h = false) : codeR r = (none, 1) := by
  have e := drop_at LS 0 h
  rw [List.drop_zero] at e
  have hls' : spL 10 r.data.toList = LS[0] :: LS.drop 1 := by rw [hls]; exact e
  unfold codeR
  by_cases h2 : 2 ≤ LS.length
  · have hne : LS.drop 1 ≠ [] := by intro e1; have := congrArg List.length e1; simp at this; omega
    obtain ⟨p1, p2, _⟩ := pair_hd 77 hls' hne
    rw [p1]
    cases ho : hdOk 77 (wsB (ba LS[0]))
    · rfl
    · obtain ⟨p3, p4⟩ := p2 ho
      rw [p3, p4]
      simp only [head0, h2, ho, decide_true, Bool.true_and] at hb
      rw [hb]; rfl
  · have hn : LS.drop 1 = [] := List.drop_eq_nil_of_le (by omega)
    rw [hn] at hls'
    rw [pair_no 77 hls']; rfl
theorem code_good {r : ByteArray} {LS : List (List UInt8)} (hls : spL 10 r.data.toList = LS) (h : 0 < LS.length) (hb : head0 LS h = true) :
    codeR r = (match (funsR (hdB 77 (wsB (ba LS[0]))).toNat (hdA 77 (wsB (ba LS[0]))) (hdB 77 (wsB (ba LS[0]))).toNat 0 (restF r)).1 with
    | none => (none, (funsR (hdB 77 (wsB (ba LS[0]))).toNat (hdA 77 (wsB (ba LS[0]))) (hdB 77 (wsB (ba LS[0]))).toNat 0 (restF r)).2.2 + 1)
    | some F => (if (funsR (hdB 77 (wsB (ba LS[0]))).toNat (hdA 77 (wsB (ba LS[0]))) (hdB 77 (wsB (ba LS[0]))).toNat 0 (restF r)).2.1.size = 0 then some ⟨hdA 77 (wsB (ba LS[0])), F⟩ else none, (funsR (hdB 77 (wsB (ba LS[0]))).toNat (hdA 77 (wsB (ba LS[0]))) (hdB 77 (wsB (ba LS[0]))).toNat 0 (restF r)).2.2 + 2)) ∧
    spL 10 (restF r).data.toList = LS.drop 1 ∧ 2 ≤ LS.length ∧ begins (hdA 77 (wsB (ba LS[0]))) (hdB 77 (wsB (ba LS[0]))) = true := by
  have e := drop_at LS 0 h
  rw [List.drop_zero] at e
  have hls' : spL 10 r.data.toList = LS[0] :: LS.drop 1 := by rw [hls]; exact e
  simp only [head0, Bool.and_eq_true, decide_eq_true_eq] at hb
  obtain ⟨h2, ho, hbg⟩ := hb
  have hne : LS.drop 1 ≠ [] := by intro e1; have := congrArg List.length e1; simp at this; omega
  obtain ⟨p1, p2, p3⟩ := pair_hd 77 hls' hne
  obtain ⟨p4, p5⟩ := p2 ho
  refine ⟨?_, p3, h2, hbg⟩
  unfold codeR
  rw [p1, ho, p4, p5, hbg]
  rfl
/-- May the line in place k stand as a template's first one, by the reference? -/
def headF (LS : List (List UInt8)) (k : Nat) (h : k < LS.length) (m : Bool) : Bool := decide (k + 1 < LS.length) && (hdOk 70 (wsB (ba LS[k])) && stand (hdA 70 (wsB (ba LS[k]))) (hdB 70 (wsB (ba LS[k]))) m)
theorem tmpl_bad {r : ByteArray} {LS : List (List UInt8)} {k : Nat} {m : Bool} (nf : Nat) (h : k < LS.length) (hls : spL 10 r.data.toList = LS.drop k) (hb : headF LS k h m = false) : tmplR nf m r = (none, restF r, 1) := by
  rw [drop_at LS k h] at hls
  unfold tmplR
  by_cases h2 : k + 1 < LS.length
  · have hne : LS.drop (k + 1) ≠ [] := by intro e1; have := congrArg List.length e1; simp at this; omega
    obtain ⟨p1, p2, _⟩ := pair_hd 70 hls hne
    rw [p1]
    cases ho : hdOk 70 (wsB (ba LS[k]))
    · rfl
    · obtain ⟨p3, p4⟩ := p2 ho
      rw [p3, p4]
      simp only [headF, h2, ho, decide_true, Bool.true_and] at hb
      rw [hb]; rfl
  · have hn : LS.drop (k + 1) = [] := List.drop_eq_nil_of_le (by omega)
    rw [hn] at hls
    rw [pair_no 70 hls]; rfl
theorem tmpl_good {r : ByteArray} {LS : List (List UInt8)} {k : Nat} {m : Bool} (nf : Nat) (h : k < LS.length) (hls : spL 10 r.data.toList = LS.drop k) (hb : headF LS k h m = true) :
    tmplR nf m r = ((linesR nf (hdA 70 (wsB (ba LS[k]))) ((hdB 70 (wsB (ba LS[k]))).toNat + 1) ((hdB 70 (wsB (ba LS[k]))).toNat + 1) 0 (restF r)).1.map (fun L => ⟨hdA 70 (wsB (ba LS[k])), L⟩), (linesR nf (hdA 70 (wsB (ba LS[k]))) ((hdB 70 (wsB (ba LS[k]))).toNat + 1) ((hdB 70 (wsB (ba LS[k]))).toNat + 1) 0 (restF r)).2.1, (linesR nf (hdA 70 (wsB (ba LS[k]))) ((hdB 70 (wsB (ba LS[k]))).toNat + 1) ((hdB 70 (wsB (ba LS[k]))).toNat + 1) 0 (restF r)).2.2 + 1) ∧
    spL 10 (restF r).data.toList = LS.drop (k + 1) ∧ k + 1 < LS.length ∧ stand (hdA 70 (wsB (ba LS[k]))) (hdB 70 (wsB (ba LS[k]))) m = true := by
  rw [drop_at LS k h] at hls
  simp only [headF, Bool.and_eq_true, decide_eq_true_eq] at hb
  obtain ⟨h2, ho, hbg⟩ := hb
  have hne : LS.drop (k + 1) ≠ [] := by intro e1; have := congrArg List.length e1; simp at this; omega
  obtain ⟨p1, p2, p3⟩ := pair_hd 70 hls hne
  obtain ⟨p4, p5⟩ := p2 ho
  refine ⟨?_, p3, h2, hbg⟩
  unfold tmplR
  rw [p1, ho, p4, p5, hbg]
  rfl
/-- May the line in place k stand as a line of a template, by the reference? -/
def lineF (LS : List (List UInt8)) (k : Nat) (h : k < LS.length) (nf : Nat) (ar : Int) (nl j : Nat) : Bool := decide (k + 1 < LS.length) && (atsOk (wsB (ba LS[k])) && goodL nf ar nl j ((wsB (ba LS[k])).map atV))
theorem lines_bad {r : ByteArray} {LS : List (List UInt8)} {k : Nat} {nf : Nat} {ar : Int} {nl j m : Nat} (h : k < LS.length) (hls : spL 10 r.data.toList = LS.drop k) (hb : lineF LS k h nf ar nl j = false) : linesR nf ar nl (m + 1) j r = (none, restF r, 1) := by
  rw [drop_at LS k h] at hls
  unfold linesR
  by_cases h2 : k + 1 < LS.length
  · have hne : LS.drop (k + 1) ≠ [] := by intro e1; have := congrArg List.length e1; simp at this; omega
    obtain ⟨p1, _, _⟩ := atoms_same nf ar nl j hls hne
    simp only [lineF, h2, decide_true, Bool.true_and] at hb
    rw [p1, hb]; rfl
  · have hn : LS.drop (k + 1) = [] := List.drop_eq_nil_of_le (by omega)
    rw [hn] at hls
    rw [atoms_no nf ar nl j hls]; rfl
theorem lines_good {r : ByteArray} {LS : List (List UInt8)} {k : Nat} {nf : Nat} {ar : Int} {nl j m : Nat} (h : k < LS.length) (hls : spL 10 r.data.toList = LS.drop k) (hb : lineF LS k h nf ar nl j = true) :
    linesR nf ar nl (m + 1) j r = ((linesR nf ar nl m (j + 1) (restF r)).1.map ((wsB (ba LS[k])).map atV :: ·), (linesR nf ar nl m (j + 1) (restF r)).2.1, (linesR nf ar nl m (j + 1) (restF r)).2.2 + 1) ∧ spL 10 (restF r).data.toList = LS.drop (k + 1) ∧ k + 1 < LS.length := by
  rw [drop_at LS k h] at hls
  simp only [lineF, Bool.and_eq_true, decide_eq_true_eq] at hb
  obtain ⟨h2, ho, hg⟩ := hb
  have hne : LS.drop (k + 1) ≠ [] := by intro e1; have := congrArg List.length e1; simp at this; omega
  obtain ⟨p1, p2, p3⟩ := atoms_same nf ar nl j hls hne
  refine ⟨?_, p3, h2⟩
  rw [linesR, p1, ho, hg, p2 ho]
  rfl
theorem last_line {r : ByteArray} {LS : List (List UInt8)} {k : Nat} (h : k < LS.length) (hls : spL 10 r.data.toList = LS.drop k) : (r.size = 0) ↔ (k + 1 = LS.length ∧ LS[k] = []) := by
  rw [drop_at LS k h] at hls
  rw [size_zero hls]
  constructor
  · rintro ⟨h1, h2⟩
    refine ⟨?_, h2⟩
    have := congrArg List.length h1
    simp at this
    omega
  · rintro ⟨h1, h2⟩
    exact ⟨List.drop_eq_nil_of_le (by omega), h2⟩

end Go.Proofs.YtnndoagpbcacdaaGreatDoor
