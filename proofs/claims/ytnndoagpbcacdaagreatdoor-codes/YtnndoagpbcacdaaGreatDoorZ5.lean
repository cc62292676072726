import Derived.Test.YtnndoagpbcacdaaGreatDoorMZ1
import Derived.Deep.DeepCutAuto
namespace Go.Proofs.YtnndoagpbcacdaaGreatDoor
open Go.RowKit

/-! Blocks from B on are left as they are. -/
structure Keeps (B : Nat) (w w' : World) : Prop where
  size : w.heap.size ≤ w'.heap.size
  blk : ∀ b, B ≤ b → b < w.heap.size → w'.heap[b]? = w.heap[b]?
theorem Keeps.of {w w' : World} (h : Below w.heap.size w w') (B : Nat) : Keeps B w w' := ⟨h.size, fun b _ hb => h.block b hb⟩
theorem Keeps.put {B k i : Nat} {w : World} {u : Value} (h : k < B) : Keeps B w (w.setCell ⟨k, i, none⟩ u) := ⟨by simp [World.setCell], fun b hb _ => heap_set_ne _ (by omega)⟩
theorem Keeps.trans {B : Nat} {w w' w'' : World} (h1 : Keeps B w w') (h2 : Keeps B w' w'') : Keeps B w w'' :=
  ⟨Nat.le_trans h1.size h2.size, fun b hb hl => (h2.blk b hb (Nat.lt_of_lt_of_le hl h1.size)).trans (h1.blk b hb hl)⟩
theorem cellK {B b k : Nat} {w w' : World} {v : Value} (h : w.cell? ⟨b, k, none⟩ = some v) (hK : Keeps B w w') (hb : B ≤ b) : w'.cell? ⟨b, k, none⟩ = some v := by
  have hlt := World.block_lt_of_cell? w _ h
  have e := hK.blk b hb hlt
  unfold World.cell? at h ⊢
  rw [e]
  exact h
def AtL (w : World) (B : Nat) (v : Value) (l : Ln) : Prop := ∃ e, v = .slice (some ⟨e, 0, none⟩) l.length (l.length + 1) ∧ l.length + 1 ≤ maxLen ∧ B ≤ e ∧ e < w.heap.size ∧ (∀ j (h : j < l.length), w.cell? ⟨e, j * 2, none⟩ = some (.int .i64 l[j].1) ∧ w.cell? ⟨e, j * 2 + 1, none⟩ = some (.int .i64 l[j].2)) ∧ w.cell? ⟨e, l.length * 2, none⟩ = some (.int .i64 77) ∧ w.cell? ⟨e, l.length * 2 + 1, none⟩ = some (.int .i64 0)
def LnL (w : World) (B : Nat) (v : Value) (L : List Ln) : Prop := ∃ e d, v = .slice (some ⟨e, 0, none⟩) L.length (L.length + 1) ∧ L.length + 1 ≤ maxLen ∧ B ≤ e ∧ e < w.heap.size ∧ (∀ j (h : j < L.length), ∃ u, w.cell? ⟨e, j, none⟩ = some u ∧ AtL w B u L[j]) ∧ w.cell? ⟨e, L.length, none⟩ = some (.slice (some ⟨d, 0, none⟩) 1 1) ∧ B ≤ d ∧ d < w.heap.size ∧ w.cell? ⟨d, 0, none⟩ = some (.int .i64 77) ∧ w.cell? ⟨d, 1, none⟩ = some (.int .i64 0)
theorem AtL.keep {B : Nat} {w w' : World} {v : Value} {l : Ln} (h : AtL w B v l) (hK : Keeps B w w') : AtL w' B v l := by
  obtain ⟨e, h1, h2, h0, h3, h4, h5, h6⟩ := h
  exact ⟨e, h1, h2, h0, Nat.lt_of_lt_of_le h3 hK.size, fun j hj => ⟨cellK (h4 j hj).1 hK h0, cellK (h4 j hj).2 hK h0⟩, cellK h5 hK h0, cellK h6 hK h0⟩
theorem LnL.keep {B : Nat} {w w' : World} {v : Value} {L : List Ln} (h : LnL w B v L) (hK : Keeps B w w') : LnL w' B v L := by
  obtain ⟨e, d, h1, h2, h0, h3, h4, h5, hd, h6, h7, h8⟩ := h
  refine ⟨e, d, h1, h2, h0, Nat.lt_of_lt_of_le h3 hK.size, fun j hj => ?_, cellK h5 hK h0, hd, Nat.lt_of_lt_of_le h6 hK.size, cellK h7 hK hd, cellK h8 hK hd⟩
  obtain ⟨u, g1, g2⟩ := h4 j hj
  exact ⟨u, cellK g1 hK h0, g2.keep hK⟩
theorem AtL.down {B B' : Nat} {w : World} {v : Value} {l : Ln} (h : AtL w B v l) (hB : B' ≤ B) : AtL w B' v l := by
  obtain ⟨e, h1, h2, h0, h3⟩ := h
  exact ⟨e, h1, h2, Nat.le_trans hB h0, h3⟩
theorem AtL.lent {B : Nat} {w : World} {v : Value} {l : Ln} (h : AtL w B v l) : AtLent w v l := by
  obtain ⟨e, h1, h2, _, h3, h4⟩ := h
  exact ⟨e, h1, h2, h3, h4⟩
theorem LnL.lent {B : Nat} {w : World} {v : Value} {L : List Ln} (h : LnL w B v L) : LnLent w v L := by
  obtain ⟨e, d, h1, h2, _, h3, h4, h5, _, h6⟩ := h
  refine ⟨e, d, h1, h2, h3, fun j hj => ?_, h5, h6⟩
  obtain ⟨u, g1, g2⟩ := h4 j hj
  exact ⟨u, g1, g2.lent⟩
theorem made_blk {w : World} {B g e size n : Nat} {xs : List Value} (h : w.ownsRow B e size (.slice (some ⟨g, 0, none⟩) n n) n xs) : ∃ cur : Array Value, w.heap[g]? = some (.cells cur e (0, 0)) ∧ cur.size = n * size := by
  rcases h.2 with ⟨h1, _⟩ | ⟨g', cap, cur, h1, _, h2, _, _, h3, _⟩
  · cases h1
  · cases h1; exact ⟨cur, h2, h3⟩
theorem three_blocksZ (w : World) (a b c : Array Value) (s t u : TypeId) :
    (((w.alloc (.cells a s)).alloc (.cells b t)).alloc (.cells c u)).heap[w.heap.size]? = some (.cells a s (0, 0)) ∧
    (((w.alloc (.cells a s)).alloc (.cells b t)).alloc (.cells c u)).heap[w.heap.size + 1]? = some (.cells b t (0, 0)) ∧
    (((w.alloc (.cells a s)).alloc (.cells b t)).alloc (.cells c u)).heap[w.heap.size + 1 + 1]? = some (.cells c u (0, 0)) ∧
    Below w.heap.size w (((w.alloc (.cells a s)).alloc (.cells b t)).alloc (.cells c u)) := by
  have n1 : (w.alloc (.cells a s)).heap.size = w.heap.size + 1 := by simp
  have n2 : ((w.alloc (.cells a s)).alloc (.cells b t)).heap.size = w.heap.size + 1 + 1 := by simp
  have h1 := heap_alloc_new (w.alloc (.cells a s)) (.cells b t)
  have h2 := heap_alloc_new ((w.alloc (.cells a s)).alloc (.cells b t)) (.cells c u)
  rw [n1] at h1
  rw [n2] at h2
  refine ⟨?_, ?_, h2, ?_⟩
  · exact (Below.heap_alloc _ _ _ (by rw [n2]; omega)).trans ((Below.heap_alloc _ _ _ (by rw [n1]; omega)).trans (heap_alloc_new w _))
  · exact (Below.heap_alloc _ _ _ (by rw [n2]; omega)).trans h1
  · exact (((Below.refl _ _).alloc (Nat.le_refl _) _).alloc (by rw [n1]; omega) _).alloc (by rw [n2]; omega) _
theorem acs_len (l : Ln) : (acs l).length = l.length * 2 := by
  induction l with
  | nil => rfl
  | cons a l ih => simp [acs] at ih ⊢; omega
theorem acs_one (l : Ln) : ∀ v ∈ acs l, v.oneCell' = true := by
  intro v hv
  simp only [acs, List.mem_flatMap, List.mem_cons, List.not_mem_nil, or_false] at hv
  obtain ⟨a, _, rfl | rfl⟩ := hv <;> rfl
theorem atoms_src {w : World} {T k : Nat} {s : Option Addr} {l : Ln} (h : AtomsRd w T (.slice s l.length k) l) : l.length = 0 ∨ ∃ ad, s = some ad ∧ ∀ jj v, (acs l)[jj]? = some v → w.cell? (ad.add jj) = some v := by
  obtain ⟨a, cap, h1, _, _, h4⟩ := h
  cases h1
  rcases h4 with h4 | ⟨b, off, rfl, _, hc⟩
  · exact .inl h4
  · refine .inr ⟨_, rfl, fun jj v hv => ?_⟩
    have hlt : jj < (acs l).length := (List.getElem?_eq_some_iff.1 hv).1
    rw [acs_len] at hlt
    have e : ((⟨b, off, none⟩ : Addr).add jj) = ⟨b, off + jj, none⟩ := by unfold Addr.add; split <;> simp_all
    rw [e]
    have hq : jj / 2 < l.length := by omega
    obtain ⟨c0, c1⟩ := hc (jj / 2) hq
    obtain ⟨a0, a1⟩ := acs_at l (jj / 2) hq
    by_cases hp : jj % 2 = 0
    · have ej : jj = jj / 2 * 2 := by omega
      generalize jj / 2 = m at *
      subst ej
      rw [a0] at hv
      cases hv
      exact c0
    · have ej : jj = jj / 2 * 2 + 1 := by omega
      generalize jj / 2 = m at *
      subst ej
      rw [a1] at hv
      cases hv
      rw [← Nat.add_assoc]
      exact c1
theorem at_made {w : World} {AB B : Nat} {t : TypeId} {l : Ln} {R : List Value} (hR : R.length = 2) (hl : l.length + 1 ≤ maxLen) (hB : B ≤ AB) (h : w.heap[AB]? = some (.cells (((acs l ++ R).toArray.setIfInBounds (l.length * 2) (.int .i64 77)).setIfInBounds (l.length * 2 + 1) (.int .i64 0)) t (0, 0))) : AtL w B (.slice (some ⟨AB, 0, none⟩) l.length (l.length + 1)) l := by
  have hal := acs_len l
  refine ⟨AB, rfl, hl, hB, (Array.getElem?_eq_some_iff.1 h).1, fun j hj => ⟨?_, ?_⟩, ?_, ?_⟩
  · rw [cell_of_row w AB _ _ _ _ h, Array.getElem?_setIfInBounds_ne (by omega), Array.getElem?_setIfInBounds_ne (by omega), List.getElem?_toArray, List.getElem?_append_left (by omega)]
    exact (acs_at l j hj).1
  · rw [cell_of_row w AB _ _ _ _ h, Array.getElem?_setIfInBounds_ne (by omega), Array.getElem?_setIfInBounds_ne (by omega), List.getElem?_toArray, List.getElem?_append_left (by omega)]
    exact (acs_at l j hj).2
  · rw [cell_of_row w AB _ _ _ _ h, Array.getElem?_setIfInBounds_ne (by omega), Array.getElem?_setIfInBounds_self_of_lt (by simp; omega)]
  · rw [cell_of_row w AB _ _ _ _ h, Array.getElem?_setIfInBounds_self_of_lt (by simp; omega)]
def SmallC (fs : List Tp) : Prop := fs.length ≤ 1048576 ∧ ∀ t ∈ fs, t.ls.length ≤ 1048576 ∧ ∀ l ∈ t.ls, l.length ≤ 1048576

set_option maxRecDepth 100000 in
set_option maxHeartbeats 8000000 in
theorem lLent (mn : Int) (fs : List Tp) (fv : Value) (w : World) (hf : FunsRd w w.heap.size fv fs) (hsm : SmallC fs) :
    Calls Tryz.prog 54 #[.agg #[.int .i64 mn, fv]] w fun e w' => ∃ e' k c, e = .returned (.agg #[.int .i64 mn, .slice (some ⟨e', 0, none⟩) k c]) ∧ FnLent w' (.slice (some ⟨e', 0, none⟩) k c) fs ∧ Below w.heap.size w w' := by
  obtain ⟨o, cap, rfl, hc1, hc2, hcs⟩ := hf
  have hn := hsm.1
  have HSM : Hid _ := hsm.2
  clear hsm
  unfold maxLen at hc2
  obtain ⟨ia, hia, ha0, ha1, ha2⟩ := info_parts Tryz.infoAtom
  obtain ⟨il, hil, hl0, hl1, hl2⟩ := info_parts Tryz.infoLine
  obtain ⟨it, hit, ht0, ht1, ht2⟩ := info_parts Tryz.infoTemplate
  go_enter Tryz.func54, Tryz.ntmps54
  go_wp2_with (at_make; go_must (refine wpList_make_full _ rfl _ _ 55 rfl w.heap.size 78 it _ 2 Tryz.underlying55 hit ht0 ht1 _ _ _ _ (fs.length + 1) rfl rfl (by simp) (by simp) ?mb ?ml ?mbase ?_))
  case mb => rw [ht2]; omega
  case ml => unfold maxLen; omega
  case mbase => simp; omega
  intro w1 hown1 hgrow1
  obtain ⟨cur1, hE1, hEs1⟩ := made_blk hown1
  have HW3 : Hid _ := three_blocksZ w #[.int .i64 mn, .slice o fs.length cap] #[.int .i64 0, .slice none 0 0] #[.int .i64 mn, .slice none 0 0] 57 57 57
  have hbg : Below (((w.alloc (Obj.cells #[.int .i64 mn, .slice o fs.length cap] 57)).alloc (Obj.cells #[.int .i64 0, .slice none 0 0] 57)).alloc (Obj.cells #[.int .i64 mn, .slice none 0 0] 57)).heap.size (((w.alloc (Obj.cells #[.int .i64 mn, .slice o fs.length cap] 57)).alloc (Obj.cells #[.int .i64 0, .slice none 0 0] 57)).alloc (Obj.cells #[.int .i64 mn, .slice none 0 0] 57)) w1 := (Below.refl _ _).grown (row := none) hgrow1 (Nat.le_refl _) (fun k hk => by cases hk)
  have hX0 := (hbg.block _ (by simp <;> omega)).trans HW3.out.1
  have hX1 := (hbg.block _ (by simp <;> omega)).trans HW3.out.2.1
  have hX2 := (hbg.block _ (by simp <;> omega)).trans HW3.out.2.2.1
  have hbw1 : Below w.heap.size w w1 := HW3.out.2.2.2.trans (hbg.mono (by simp; omega))
  have hE1l : w.heap.size + 1 + 1 + 1 < w1.heap.size := (Array.getElem?_eq_some_iff.1 hE1).1
  clear hbg HW3 hown1 hgrow1
  obtain ⟨EB, hEB⟩ : ∃ EB, EB = w.heap.size + 1 + 1 + 1 := ⟨_, rfl⟩
  rw [← hEB] at hE1 hE1l
  have hEBl : w.heap.size + 1 + 1 < EB := by omega
  go_wp2_with fail
  rw [← hEB]
  clear hEB
  go_loopw [5] (fun y wr => ∃ (i : Nat) (cur : Array Value), i ≤ fs.length ∧ y = .int .i64 i ∧ Below w.heap.size w wr ∧ wr.heap[w.heap.size]? = some (.cells #[.int .i64 mn, .slice o fs.length cap] 57 (0, 0)) ∧ wr.heap[w.heap.size + 1]? = some (.cells #[.int .i64 0, .slice none 0 0] 57 (0, 0)) ∧ wr.heap[w.heap.size + 1 + 1]? = some (.cells #[.int .i64 mn, .slice none 0 0] 57 (0, 0)) ∧ wr.heap[EB]? = some (.cells cur 78 (0, 0)) ∧ Hid (cur.size = (fs.length + 1) * 2) ∧ Hid (∀ k (h : k < fs.length), k < i → ∃ u, cur[k * 2]? = some (.int .i64 fs[k].ar) ∧ cur[k * 2 + 1]? = some u ∧ LnL wr (EB + 1) u fs[k].ls)) (fun y _ => fs.length - (intOf y).toNat)
  case atStart => exact ⟨0, cur1, Nat.zero_le _, rfl, hbw1, hX0, hX1, hX2, hE1, hEs1, fun k h hk => by omega⟩
  case round =>
    clear hX0 hX1 hX2 hE1 hEs1 hbw1 hE1l
    obtain ⟨i, cur, hi, rfl, hb, hX0, hX1, hX2, hE, HCS, HDN⟩ := hrel
    obtain ⟨W, hW⟩ : ∃ W, W = wr := ⟨wr, rfl⟩
    subst hW
    have hbs := hb.size
    have hEl : EB < W.heap.size := (Array.getElem?_eq_some_iff.1 hE).1
    have hX0l : w.heap.size < W.heap.size := by omega
    obtain ⟨_, a1, _, _⟩ := two_cells hX0
    by_cases hlt : i < fs.length
    · rcases hcs with hz | ⟨b1, f1, rfl, hb1, hcell1⟩
      · omega
      obtain ⟨lv1, e0, e1, hl⟩ := hcell1 i hlt
      have HE0 : Hid _ := e0
      have HE1 : Hid _ := e1
      have hst := HSM.out fs[i] (List.getElem_mem _)
      have HFI : Hid (∀ (h : i < fs.length) (u : Value) (x : World), LnL x (EB + 1) u fs[i].ls → LnL x (EB + 1) u fs[i].ls) := fun _ _ _ h => h
      rw [← hb.cell (p := ⟨b1, f1 + i * 2, none⟩) (show b1 < _ by omega)] at e0
      rw [← hb.cell (p := ⟨b1, f1 + i * 2 + 1, none⟩) (show b1 < _ by omega)] at e1
      have lb1 : b1 < W.heap.size := by omega
      obtain ⟨t, ht⟩ : ∃ t, t = fs[i] := ⟨_, rfl⟩
      have HT : Hid (t = fs[i]) := ht
      rw [← ht] at e0 hl hst HE0
      clear ht HFI
      obtain ⟨ar, ls⟩ := t
      simp only at e0 hl hst HE0
      obtain ⟨p1, d1, rfl, hd11, hd12, hls1⟩ := hl
      unfold maxLen at hd12
      have hls := hst.1
      have HLN : Hid _ := hst.2
      clear hst
      go_wp2_with (at_make; go_must (refine wpList_make_full _ rfl _ _ 50 rfl w.heap.size 76 il _ 1 Tryz.underlying50 hil hl0 hl1 _ _ _ _ (ls.length + 1) rfl rfl (by simp) (by simp) ?mb2 ?ml2 ?mbase2 ?_))
      case mb2 => rw [hl2]; omega
      case ml2 => unfold maxLen; omega
      case mbase2 => exact hbs
      intro w2 hown2 hgrow2
      obtain ⟨cur2, hX, hXs⟩ := made_blk hown2
      have hbg : Below W.heap.size W w2 := (Below.refl _ _).grown (row := none) hgrow2 (Nat.le_refl _) (fun k hk => by cases hk)
      clear hown2 hgrow2
      obtain ⟨XB, hXB⟩ : ∃ XB, XB = W.heap.size := ⟨_, rfl⟩
      have hXB1 : XB ≤ W.heap.size := by omega
      have hXB2 : W.heap.size ≤ XB := by omega
      rw [← hXB] at hX hbg
      go_wp2_with fail
      rw [← hXB]
      clear hXB
      go_loopw [7] (fun y wr => ∃ (j : Nat) (cur2 : Array Value), j ≤ ls.length ∧ y = .int .i64 j ∧ Below XB W wr ∧ wr.heap[XB]? = some (.cells cur2 76 (0, 0)) ∧ Hid (cur2.size = (ls.length + 1) * 1) ∧ Hid (∀ k (h : k < ls.length), k < j → ∃ u, cur2[k]? = some u ∧ AtL wr (XB + 1) u ls[k])) (fun y _ => ls.length - (intOf y).toNat)
      case atStart => exact ⟨0, cur2, Nat.zero_le _, rfl, hbg, hX, hXs, fun k h hk => by omega⟩
      case round =>
        clear hX hXs hbg a1 e0 e1
        obtain ⟨j, cur2, hj, rfl, hb2, hX, HXS, HDJ⟩ := hrel
        have hb2s := hb2.size
        have hXl : XB < wr.heap.size := (Array.getElem?_eq_some_iff.1 hX).1
        have hbw : Below w.heap.size w wr := hb.trans (hb2.mono (by omega))
        have e1 := HE1.out
        rw [← hbw.cell (p := ⟨b1, f1 + i * 2 + 1, none⟩) (show b1 < _ by omega)] at e1
        have lb1' : b1 < wr.heap.size := by omega
        have lx0' : w.heap.size < wr.heap.size := by omega
        obtain ⟨_, a1, _, _⟩ := two_cells ((hb2.block _ (by omega)).trans hX0)
        by_cases hjl : j < ls.length
        · rcases hls1 with hz | ⟨q1, g1, rfl, hq1, hlc1⟩
          · omega
          obtain ⟨av, u1, hat⟩ := hlc1 j hjl
          have HU1 : Hid _ := u1
          rw [← hbw.cell (p := ⟨q1, g1 + j, none⟩) (show q1 < _ by omega)] at u1
          have lq1' : q1 < wr.heap.size := by omega
          have hll := HLN.out ls[j] (List.getElem_mem _)
          obtain ⟨l, hle⟩ : ∃ l, l = ls[j] := ⟨_, rfl⟩
          have HLE : Hid (l = ls[j]) := hle
          rw [← hle] at hat hll
          clear hle
          have HAT : Hid (AtomsRd w w.heap.size av l) := hat
          obtain ⟨s1, k1, hav, _, hk1, _⟩ := hat
          subst hav
          unfold maxLen at hk1
          go_wp2_with (at_make; go_must (refine wpList_make_full _ rfl _ _ 76 rfl w.heap.size 75 ia _ 2 Tryz.underlying76 hia ha0 ha1 _ _ _ _ (l.length + 1) rfl rfl (by simp) (by simp) ?mb3 ?ml3 ?mbase3 ?_))
          case mb3 => rw [ha2]; omega
          case ml3 => unfold maxLen; omega
          case mbase3 => omega
          intro w3 hown3 hgrow3
          obtain ⟨cur3, hA, hAs⟩ := made_blk hown3
          have hbg3 : Below wr.heap.size wr w3 := (Below.refl _ _).grown (row := none) hgrow3 (Nat.le_refl _) (fun k hk => by cases hk)
          clear hown3 hgrow3
          obtain ⟨AB, hAB⟩ : ∃ AB, AB = wr.heap.size := ⟨_, rfl⟩
          have hAB1 : AB ≤ wr.heap.size := by omega
          have hAB2 : wr.heap.size ≤ AB := by omega
          rw [← hAB] at hA hbg3
          have hA3l : AB < w3.heap.size := (Array.getElem?_eq_some_iff.1 hA).1
          have hbw3 : Below w.heap.size w w3 := hbw.trans (hbg3.mono (by omega))
          have e1' := HE1.out
          rw [← hbw3.cell (p := ⟨b1, f1 + i * 2 + 1, none⟩) (show b1 < _ by omega)] at e1'
          obtain ⟨_, a1', _, _⟩ := two_cells ((hbg3.block _ (by omega)).trans ((hb2.block _ (by omega)).trans hX0))
          have u1' := HU1.out
          rw [← hbw3.cell (p := ⟨q1, g1 + j, none⟩) (show q1 < _ by omega)] at u1'
          have lq3 : q1 < w3.heap.size := by omega
          have lb3 : b1 < w3.heap.size := by omega
          have lx3 : w.heap.size < w3.heap.size := by omega
          clear e1 u1 a1
          have HSRC : Hid (l.length = 0 ∨ ∃ ad, s1 = some ad ∧ ∀ jj v, (acs l)[jj]? = some v → w3.cell? (ad.add jj) = some v) := atoms_src (AtomsRd.keep HAT.out hbw3)
          have HSZ : Hid ((Tryz.prog.info? 75).map (·.size) = some 2) := by show _ = _; rw [hia]; simp [ha1]
          have hal : (acs l).length = l.length * 2 := acs_len l
          have HA1 : Hid (∀ v ∈ acs l, v.oneCell' = true) := acs_one l
          have hX3 := (hbg3.block _ (by omega)).trans hX
          have HR : Hid ((w3.setRow AB (acs l ++ cur3.toList.drop (acs l).length).toArray).heap[AB]? = some (.cells (acs l ++ cur3.toList.drop (acs l).length).toArray 75 (0, 0))) := setRow_heap w3 AB _ _ _ _ hA
          have HX4 : Hid ((w3.setRow AB (acs l ++ cur3.toList.drop (acs l).length).toArray).heap[XB]? = some (.cells cur2 76 (0, 0))) := (setRow_other w3 AB XB _ (by omega)).trans hX3
          have HB4 : Hid (Below wr.heap.size wr (w3.setRow AB (acs l ++ cur3.toList.drop (acs l).length).toArray)) := below_setRow (hbg3.mono (by omega)) (by omega) _
          have HRL : Hid ((cur3.toList.drop (acs l).length).length = 2) := by show _ = _; rw [List.length_drop, Array.length_toList, hAs, hal]; omega
          have hfit : (acs l).length ≤ cur3.size := by omega
          have hcopy : (Builtin.copy_ #[76, 76] 3 #[.slice (some ⟨AB, 0, none⟩) (l.length + 1) (l.length + 1), .slice s1 l.length k1]).run Tryz.prog w3 = .ok (goInt l.length) (w3.setRow AB (acs l ++ cur3.toList.drop (acs l).length).toArray) := run_copy_head Tryz.prog w3 _ _ _ 75 2 Tryz.underlying76 HSZ.out AB (l.length + 1) (l.length + 1) s1 l.length k1 (by omega) cur3 75 hA (acs l) hal HSRC.out hfit HA1.out
          obtain ⟨R, hRd⟩ : ∃ R, R = cur3.toList.drop (acs l).length := ⟨_, rfl⟩
          rw [← hRd] at hcopy HR HX4 HB4 HRL
          generalize hw4 : w3.setRow AB (acs l ++ R).toArray = w4 at *
          clear hRd hw4 HSRC HSZ hfit HA1
          have hA4l : AB < w4.heap.size := (Array.getElem?_eq_some_iff.1 HR.out).1
          have hX4l : XB < w4.heap.size := (Array.getElem?_eq_some_iff.1 HX4.out).1
          have hsz4 : (acs l ++ R).toArray.size = l.length * 2 + 2 := by have := HRL.out; simp [hal, this]
          have c0 : w4.cell? ⟨AB, l.length * 2, none⟩ = some ((acs l ++ R).toArray[l.length * 2]'(by omega)) := by rw [cell_of_row w4 AB _ _ _ _ HR.out]; exact Array.getElem?_eq_getElem _
          have c1 : w4.cell? ⟨AB, l.length * 2 + 1, none⟩ = some ((acs l ++ R).toArray[l.length * 2 + 1]'(by omega)) := by rw [cell_of_row w4 AB _ _ _ _ HR.out]; exact Array.getElem?_eq_getElem _
          have hj2 : j < cur2.size := by have := HXS.out; omega
          have c2 : w4.cell? ⟨XB, j, none⟩ = some cur2[j] := by rw [cell_of_row w4 XB _ _ _ _ HX4.out]; exact Array.getElem?_eq_getElem _
          have fr0 := frozen_of_row w4 AB (l.length * 2) _ _ HR.out
          have fr1 := frozen_of_row w4 AB (l.length * 2 + 1) _ _ HR.out
          have fr2 := frozen_of_row w4 XB j _ _ HX4.out
          generalize (acs l ++ R).toArray[l.length * 2]'_ = x0 at c0
          generalize (acs l ++ R).toArray[l.length * 2 + 1]'_ = x1 at c1
          generalize cur2[j] = x2 at c2
          have hne : XB ≠ AB := by omega
          rw [← hAB]
          clear hAB
          go_wp2_with fail
          go_roundw
          case rel =>
            refine ⟨j + 1, cur2.setIfInBounds j (.slice (some ⟨AB, 0, none⟩) l.length (l.length + 1)), hjl, by go_num, (((hb2.trans (HB4.out.mono (by omega))).setCell (by show XB ≤ AB; omega) _).setCell (by show XB ≤ AB; omega) _).setCell (by exact Nat.le_refl _) _, blk_set _ ((heap_set_ne _ hne).trans ((heap_set_ne _ hne).trans HX4.out)), by have := HXS.out; simp only [Hid, Array.size_setIfInBounds]; exact this, fun k h hk => ?_⟩
            by_cases hkj : k = j
            · subst hkj
              refine ⟨_, Array.getElem?_setIfInBounds_self_of_lt hj2, ?_⟩
              rw [← HLE.out]
              exact at_made HRL.out (by unfold maxLen; omega) (by omega) ((heap_set_ne _ (Ne.symm hne)).trans (blk_set _ (blk_set _ HR.out)))
            · obtain ⟨u, g1, g2⟩ := HDJ.out k h (by omega)
              exact ⟨u, by rw [Array.getElem?_setIfInBounds_ne (fun h => hkj h.symm)]; exact g1, g2.keep ((Keeps.of ((HB4.out.setCell (by show wr.heap.size ≤ AB; omega) _).setCell (by show wr.heap.size ≤ AB; omega) _) _).trans (Keeps.put (Nat.lt_succ_self _)))⟩
          case measure => simp [intOf]; omega
        · have hjm : j = ls.length := by omega
          have HJM : Hid (j = ls.length) := hjm
          have hjl' : ¬ (j : Int) < (ls.length : Int) := by omega
          clear hjm
          have hbwr : Below w.heap.size w wr := hbw
          have e0 := HE0.out
          rw [← hbw.cell (p := ⟨b1, f1 + i * 2, none⟩) (show b1 < _ by omega)] at e0
          have hm2 : ls.length < cur2.size := by have := HXS.out; omega
          have c2 : wr.cell? ⟨XB, ls.length, none⟩ = some cur2[ls.length] := by rw [cell_of_row wr XB _ _ _ _ hX]; exact Array.getElem?_eq_getElem _
          have fr2 := frozen_of_row wr XB ls.length _ _ hX
          generalize cur2[ls.length] = x2 at c2
          have hEW := (hb2.block _ (by omega)).trans hE
          have hEs2 : i * 2 + 1 < cur.size := by have := HCS.out; omega
          have c3 : wr.cell? ⟨EB, i * 2, none⟩ = some cur[i * 2] := by rw [cell_of_row wr EB _ _ _ _ hEW]; exact Array.getElem?_eq_getElem _
          have c4 : wr.cell? ⟨EB, i * 2 + 1, none⟩ = some cur[i * 2 + 1] := by rw [cell_of_row wr EB _ _ _ _ hEW]; exact Array.getElem?_eq_getElem _
          have fr3 := frozen_of_row wr EB (i * 2) _ _ hEW
          have fr4 := frozen_of_row wr EB (i * 2 + 1) _ _ hEW
          generalize cur[i * 2] = x3 at c3
          generalize cur[i * 2 + 1] = x4 at c4
          have hne1 : EB ≠ XB := by omega
          have hne2 : b1 ≠ XB := by omega
          have hne3 : w.heap.size ≠ XB := by omega
          have hEl2 : EB < wr.heap.size := by omega
          go_wp2_with fail
          obtain ⟨DB, hDB⟩ : ∃ DB, DB = wr.heap.size := ⟨_, rfl⟩
          have hDB1 : DB ≤ wr.heap.size := by omega
          have hDB2 : wr.heap.size ≤ DB := by omega
          have hs5 : (wr.setCell ⟨XB, ls.length, none⟩ (.slice (some ⟨DB, 0, none⟩) 1 1)).heap.size = wr.heap.size := by simp [World.setCell]
          have h5D := heap_alloc_new (wr.setCell ⟨XB, ls.length, none⟩ (.slice (some ⟨DB, 0, none⟩) 1 1)) (Obj.cells #[.int .i64 77, .int .i64 0] 75)
          rw [hs5, ← hDB] at h5D
          have h5X := (Below.heap_alloc (wr.setCell ⟨XB, ls.length, none⟩ (.slice (some ⟨DB, 0, none⟩) 1 1)) (Obj.cells #[.int .i64 77, .int .i64 0] 75) XB (by rw [hs5]; omega)).trans (blk_set (i := ls.length) (.slice (some ⟨DB, 0, none⟩) 1 1) hX)
          have h5E := (Below.heap_alloc (wr.setCell ⟨XB, ls.length, none⟩ (.slice (some ⟨DB, 0, none⟩) 1 1)) (Obj.cells #[.int .i64 77, .int .i64 0] 75) EB (by rw [hs5]; omega)).trans ((heap_set_ne (i := ls.length) (.slice (some ⟨DB, 0, none⟩) 1 1) hne1).trans hEW)
          have hb5 : Below XB W ((wr.setCell ⟨XB, ls.length, none⟩ (.slice (some ⟨DB, 0, none⟩) 1 1)).alloc (Obj.cells #[.int .i64 77, .int .i64 0] 75)) := (hb2.setCell (by exact Nat.le_refl _) _).alloc (by rw [hs5]; omega) _
          have hK5 : Keeps (XB + 1) wr ((wr.setCell ⟨XB, ls.length, none⟩ (.slice (some ⟨DB, 0, none⟩) 1 1)).alloc (Obj.cells #[.int .i64 77, .int .i64 0] 75)) := (Keeps.put (Nat.lt_succ_self _)).trans (Keeps.of ((Below.refl _ _).alloc (Nat.le_refl _) _) _)
          rw [← hDB]
          clear hDB c2 fr2 c3 c4 fr3 fr4 a1 e0 e1
          generalize ((wr.setCell ⟨XB, ls.length, none⟩ (.slice (some ⟨DB, 0, none⟩) 1 1)).alloc (Obj.cells #[.int .i64 77, .int .i64 0] 75)) = w5 at *
          clear hs5
          have hb5s := hb5.size
          have hbw5 : Below w.heap.size w w5 := hb.trans (hb5.mono (by omega))
          have h50 := (hb5.block _ (by omega)).trans hX0
          have h51 := (hb5.block _ (by omega)).trans hX1
          have h52 := (hb5.block _ (by omega)).trans hX2
          obtain ⟨_, a1, _, _⟩ := two_cells h50
          have e0 := HE0.out
          rw [← hbw5.cell (p := ⟨b1, f1 + i * 2, none⟩) (show b1 < _ by omega)] at e0
          have c3 : w5.cell? ⟨EB, i * 2, none⟩ = some cur[i * 2] := by rw [cell_of_row w5 EB _ _ _ _ h5E]; exact Array.getElem?_eq_getElem _
          have c4 : w5.cell? ⟨EB, i * 2 + 1, none⟩ = some cur[i * 2 + 1] := by rw [cell_of_row w5 EB _ _ _ _ h5E]; exact Array.getElem?_eq_getElem _
          have fr3 := frozen_of_row w5 EB (i * 2) _ _ h5E
          have fr4 := frozen_of_row w5 EB (i * 2 + 1) _ _ h5E
          generalize cur[i * 2] = x3 at c3
          generalize cur[i * 2 + 1] = x4 at c4
          have l0 : w.heap.size < w5.heap.size := by omega
          have l1 : b1 < w5.heap.size := by omega
          have l2 : EB < w5.heap.size := by omega
          obtain ⟨wc, hwc⟩ : ∃ wc, wc = ((w5.setCell ⟨EB, i * 2, none⟩ (.int .i64 ar)).setCell ⟨EB, i * 2 + 1, none⟩ (.slice (some ⟨XB, 0, none⟩) ls.length (ls.length + 1))).drew := ⟨_, rfl⟩
          have HWC : Hid (wc = ((w5.setCell ⟨EB, i * 2, none⟩ (.int .i64 ar)).setCell ⟨EB, i * 2 + 1, none⟩ (.slice (some ⟨XB, 0, none⟩) ls.length (ls.length + 1))).drew) := hwc
          have HH : Hid (wc.heap = ((w5.setCell ⟨EB, i * 2, none⟩ (.int .i64 ar)).setCell ⟨EB, i * 2 + 1, none⟩ (.slice (some ⟨XB, 0, none⟩) ls.length (ls.length + 1))).heap) := by rw [hwc]; rfl
          have HBC : Hid (Below w.heap.size w wc) := by rw [hwc]; exact Below.drew ((hbw5.setCell (by show w.heap.size ≤ EB; omega) _).setCell (by show w.heap.size ≤ EB; omega) _)
          clear hwc
          have hK6 : Keeps (EB + 1) w5 wc := ((Keeps.put (Nat.lt_succ_self _)).trans (Keeps.put (Nat.lt_succ_self _))).trans ⟨by rw [HH.out]; exact Nat.le_refl _, fun b _ _ => by rw [HH.out]⟩
          have hEc : wc.heap[EB]? = some (.cells ((cur.setIfInBounds (i * 2) (.int .i64 ar)).setIfInBounds (i * 2 + 1) (.slice (some ⟨XB, 0, none⟩) ls.length (ls.length + 1))) 78 (0, 0)) := by rw [HH.out]; exact blk_set _ (blk_set _ h5E)
          have hc0 : wc.heap[w.heap.size]? = some (.cells #[.int .i64 mn, .slice (some ⟨b1, f1, none⟩) fs.length cap] 57 (0, 0)) := by rw [HH.out]; exact (heap_set_ne _ (by omega)).trans ((heap_set_ne _ (by omega)).trans h50)
          have hc1 : wc.heap[w.heap.size + 1]? = some (.cells #[.int .i64 0, .slice none 0 0] 57 (0, 0)) := by rw [HH.out]; exact (heap_set_ne _ (by omega)).trans ((heap_set_ne _ (by omega)).trans h51)
          have hc2 : wc.heap[w.heap.size + 1 + 1]? = some (.cells #[.int .i64 mn, .slice none 0 0] 57 (0, 0)) := by rw [HH.out]; exact (heap_set_ne _ (by omega)).trans ((heap_set_ne _ (by omega)).trans h52)
          have HNEW : Hid (LnL wc (EB + 1) (.slice (some ⟨XB, 0, none⟩) ls.length (ls.length + 1)) ls) := by
            have hcX : wc.heap[XB]? = _ := (hK6.blk XB (by omega) (Array.getElem?_eq_some_iff.1 h5X).1).trans h5X
            have hcD : wc.heap[DB]? = _ := (hK6.blk DB (by omega) ((Array.getElem?_eq_some_iff.1 h5D).1)).trans h5D
            obtain ⟨z0, z1, _, _⟩ := two_cells hcD
            refine ⟨XB, DB, rfl, by unfold maxLen; omega, by omega, (Array.getElem?_eq_some_iff.1 hcX).1, fun k h => ?_, ?_, by omega, (Array.getElem?_eq_some_iff.1 hcD).1, z0, z1⟩
            · obtain ⟨u, g1, g2⟩ := HDJ.out k h (by have := HJM.out; omega)
              refine ⟨u, ?_, (g2.keep (hK5.trans ⟨hK6.size, fun b hb hl => hK6.blk b (by omega) hl⟩)).down (by omega)⟩
              rw [cell_of_row wc XB _ _ _ _ hcX, Array.getElem?_setIfInBounds_ne (by omega)]
              exact g1
            · rw [cell_of_row wc XB _ _ _ _ hcX, Array.getElem?_setIfInBounds_self_of_lt hm2]
          have HHEC : Hid _ := hEc
          have HHC0 : Hid _ := hc0
          have HHC1 : Hid _ := hc1
          have HHC2 : Hid _ := hc2
          have HHK6 : Hid _ := hK6
          clear hEc hc0 hc1 hc2 hK6
          go_region
          all_goals
            go_wp2_with fail
            go_roundw
            case rel =>
              obtain rfl := HWC.out
              refine ⟨i + 1, _, hlt, by go_num, HBC.out, HHC0.out, HHC1.out, HHC2.out, HHEC.out, by have := HCS.out; simp only [Hid, Array.size_setIfInBounds]; exact this, fun k h hk => ?_⟩
              by_cases hki : k = i
              · subst hki
                refine ⟨.slice (some ⟨XB, 0, none⟩) ls.length (ls.length + 1), ?_, ?_, ?_⟩
                · rw [← HT.out, Array.getElem?_setIfInBounds_ne (by omega), Array.getElem?_setIfInBounds_self_of_lt (by omega)]
                · rw [Array.getElem?_setIfInBounds_self_of_lt (by simp; omega)]
                · rw [← HT.out]; exact HNEW.out
              · obtain ⟨u, g0, g1, g2⟩ := HDN.out k h (by omega)
                refine ⟨u, ?_, ?_, g2.keep ((Keeps.of (hb5.mono hXB2) _).trans HHK6.out)⟩
                · rw [Array.getElem?_setIfInBounds_ne (by omega), Array.getElem?_setIfInBounds_ne (by omega)]; exact g0
                · rw [Array.getElem?_setIfInBounds_ne (by omega), Array.getElem?_setIfInBounds_ne (by omega)]; exact g1
            case measure => simp [intOf]; omega
    · have him : i = fs.length := by omega
      have HIM : Hid (i = fs.length) := him
      have hlt' : ¬ (i : Int) < (fs.length : Int) := by omega
      clear him
      have hEs2 : fs.length * 2 + 1 < cur.size := by have := HCS.out; omega
      have c3 : W.cell? ⟨EB, fs.length * 2, none⟩ = some cur[fs.length * 2] := by rw [cell_of_row W EB _ _ _ _ hE]; exact Array.getElem?_eq_getElem _
      have c4 : W.cell? ⟨EB, fs.length * 2 + 1, none⟩ = some cur[fs.length * 2 + 1] := by rw [cell_of_row W EB _ _ _ _ hE]; exact Array.getElem?_eq_getElem _
      have fr3 := frozen_of_row W EB (fs.length * 2) _ _ hE
      have fr4 := frozen_of_row W EB (fs.length * 2 + 1) _ _ hE
      generalize cur[fs.length * 2] = x3 at c3
      generalize cur[fs.length * 2 + 1] = x4 at c4
      obtain ⟨m0, m1, fm0, fm1⟩ := two_cells hX2
      obtain ⟨r0, r1, fr0, fr1⟩ := two_cells hX1
      have hne1 : EB ≠ w.heap.size + 1 + 1 := by omega
      have hne2 : EB ≠ w.heap.size + 1 := by omega
      have hne3 : EB ≠ w.heap.size := by omega
      have hl1 : w.heap.size + 1 < W.heap.size := by omega
      have hl2 : w.heap.size + 1 + 1 < W.heap.size := by omega
      have hR8 := (heap_set_ne (w := ((W.setCell ⟨EB, fs.length * 2, none⟩ (.int .i64 77)).setCell ⟨EB, fs.length * 2 + 1, none⟩ (.slice none 0 0))) (b := w.heap.size + 1 + 1) (i := 1) (.slice (some ⟨EB, 0, none⟩) fs.length (fs.length + 1)) (show w.heap.size + 1 ≠ w.heap.size + 1 + 1 by omega)).trans ((heap_set_ne _ (Ne.symm hne2)).trans ((heap_set_ne _ (Ne.symm hne2)).trans hX1))
      have HQ : Hid _ := read2 (a := .int .i64 mn) (c := .slice (some ⟨EB, 0, none⟩) fs.length (fs.length + 1)) hR8
      have HK8 : Hid (Keeps (EB + 1) W (((((W.setCell ⟨EB, fs.length * 2, none⟩ (.int .i64 77)).setCell ⟨EB, fs.length * 2 + 1, none⟩ (.slice none 0 0)).setCell ⟨w.heap.size + 1 + 1, 1, none⟩ (.slice (some ⟨EB, 0, none⟩) fs.length (fs.length + 1))).setCell ⟨w.heap.size + 1, 0, none⟩ (.int .i64 mn)).setCell ⟨w.heap.size + 1, 1, none⟩ (.slice (some ⟨EB, 0, none⟩) fs.length (fs.length + 1)))) := ((((Keeps.put (Nat.lt_succ_self _)).trans (Keeps.put (Nat.lt_succ_self _))).trans (Keeps.put (by omega))).trans (Keeps.put (by omega))).trans (Keeps.put (by omega))
      have HE8 : Hid ((((((W.setCell ⟨EB, fs.length * 2, none⟩ (.int .i64 77)).setCell ⟨EB, fs.length * 2 + 1, none⟩ (.slice none 0 0)).setCell ⟨w.heap.size + 1 + 1, 1, none⟩ (.slice (some ⟨EB, 0, none⟩) fs.length (fs.length + 1))).setCell ⟨w.heap.size + 1, 0, none⟩ (.int .i64 mn)).setCell ⟨w.heap.size + 1, 1, none⟩ (.slice (some ⟨EB, 0, none⟩) fs.length (fs.length + 1))).heap[EB]? = some (.cells ((cur.setIfInBounds (fs.length * 2) (.int .i64 77)).setIfInBounds (fs.length * 2 + 1) (.slice none 0 0)) 78 (0, 0))) := (heap_set_ne _ hne2).trans ((heap_set_ne _ hne2).trans ((heap_set_ne _ hne1).trans (blk_set _ (blk_set _ hE))))
      have HB8 : Hid (Below w.heap.size w (((((W.setCell ⟨EB, fs.length * 2, none⟩ (.int .i64 77)).setCell ⟨EB, fs.length * 2 + 1, none⟩ (.slice none 0 0)).setCell ⟨w.heap.size + 1 + 1, 1, none⟩ (.slice (some ⟨EB, 0, none⟩) fs.length (fs.length + 1))).setCell ⟨w.heap.size + 1, 0, none⟩ (.int .i64 mn)).setCell ⟨w.heap.size + 1, 1, none⟩ (.slice (some ⟨EB, 0, none⟩) fs.length (fs.length + 1)))) := ((((hb.setCell (by show w.heap.size ≤ EB; omega) _).setCell (by show w.heap.size ≤ EB; omega) _).setCell (by show w.heap.size ≤ w.heap.size + 1 + 1; omega) _).setCell (by show w.heap.size ≤ w.heap.size + 1; omega) _).setCell (by show w.heap.size ≤ w.heap.size + 1; omega) _
      clear hR8
      go_wp2_with fail
      obtain ⟨q0, q1⟩ := HQ.out
      refine bodyPost_ret (v := .agg #[.int .i64 mn, .slice (some ⟨EB, 0, none⟩) fs.length (fs.length + 1)]) (by simp [results, Tryz.results54, go_sem, q0, q1]) rfl ⟨EB, fs.length, fs.length + 1, rfl, ?_, HB8.out⟩
      refine ⟨EB, rfl, by unfold maxLen; omega, (Array.getElem?_eq_some_iff.1 HE8.out).1, fun k h => ?_, ?_, ?_⟩
      · obtain ⟨u, g0, g1, g2⟩ := HDN.out k h (by have := HIM.out; omega)
        refine ⟨u, ?_, ?_, (g2.keep HK8.out).lent⟩
        · rw [cell_of_row _ EB _ _ _ _ HE8.out, Array.getElem?_setIfInBounds_ne (by omega), Array.getElem?_setIfInBounds_ne (by omega)]; exact g0
        · rw [cell_of_row _ EB _ _ _ _ HE8.out, Array.getElem?_setIfInBounds_ne (by omega), Array.getElem?_setIfInBounds_ne (by omega)]; exact g1
      · rw [cell_of_row _ EB _ _ _ _ HE8.out, Array.getElem?_setIfInBounds_ne (by omega), Array.getElem?_setIfInBounds_self_of_lt (by omega)]
      · rw [cell_of_row _ EB _ _ _ _ HE8.out, Array.getElem?_setIfInBounds_self_of_lt (by simp; omega)]

end Go.Proofs.YtnndoagpbcacdaaGreatDoor
