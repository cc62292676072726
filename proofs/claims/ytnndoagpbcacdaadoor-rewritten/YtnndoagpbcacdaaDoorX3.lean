import Derived.Test.YtnndoagpbcacdaaDoorX2
namespace Go.Proofs.YtnndoagpbcacdaaDoor
open Go.RowKit

/-! The reader in memory; what else it leaves alone. -/
def RdBlk (w : World) (b : Nat) (r : ByteArray) (ln : Int) : Prop := w.heap[b]? = some (.cells #[.string r, .int .i64 ln] 85 (0, 0))
structure But (b : Nat) (w w' : World) : Prop where
  bel : Below b w w'
  oth : ∀ k, k < w.heap.size → k ≠ b → w'.heap[k]? = w.heap[k]?
theorem But.refl (b : Nat) (w : World) : But b w w := ⟨Below.refl _ _, fun _ _ _ => rfl⟩
theorem But.size {b : Nat} {w w' : World} (h : But b w w') : w.heap.size ≤ w'.heap.size := h.bel.size
theorem But.trans {b : Nat} {w w' w'' : World} (h : But b w w') (h' : But b w' w'') : But b w w'' :=
  ⟨h.bel.trans h'.bel, fun k hk hn => (h'.oth k (Nat.lt_of_lt_of_le hk h.size) hn).trans (h.oth k hk hn)⟩
theorem But.of {b : Nat} {w w' : World} (h : Below w.heap.size w w') (hb : b ≤ w.heap.size) : But b w w' := ⟨h.mono hb, fun k hk _ => h.block k hk⟩
theorem But.set {b i : Nat} {w w' : World} {v : Value} (h : But b w w') : But b w (w'.setCell ⟨b, i, none⟩ v) :=
  ⟨h.bel.setCell (by exact Nat.le_refl b) _, fun k hk hn => (heap_set_ne _ hn).trans (h.oth k hk hn)⟩
theorem But.grown {b : Nat} {w w' w'' : World} {base n size : Nat} {e : TypeId} {v : Value} {xs : List Value} (h : But b w w') (hr : w'.ownsRow base e size v n xs) (hg : w'.grownBy w'' v.ownBlock) (hb : w.heap.size ≤ base) (hbb : b ≤ w.heap.size) : But b w w'' :=
  ⟨h.bel.grown hg (Nat.le_trans hbb h.size) (fun k hk => by have := (hr.lt k hk).1; omega), fun k hk hn => (hg.block k (Nat.lt_of_lt_of_le hk h.size) (fun e1 => by have := (hr.lt k e1.symm).1; omega)).trans (h.oth k hk hn)⟩
theorem But.below {b : Nat} {w w' : World} (h : But b w w') {B : Nat} (hB : B ≤ b) : Below B w w' := h.bel.mono hB
theorem ownsRow_but {b : Nat} {w w' : World} {base n size : Nat} {e : TypeId} {v : Value} {xs : List Value} {r : ByteArray} {ln : Int} (h : w.ownsRow base e size v n xs) (hb : But b w w') (hr : RdBlk w b r ln) (hne : e ≠ 85) : w'.ownsRow base e size v n xs := by
  refine ⟨h.1, ?_⟩
  rcases h.2 with hn | ⟨g, cap, cur, hv, hg, hh, q⟩
  · exact .inl hn
  · refine .inr ⟨g, cap, cur, hv, hg, ?_, q⟩
    rw [hb.oth g (Array.getElem?_eq_some_iff.1 hh).1 (fun e1 => by subst e1; unfold RdBlk at hr; rw [hr] at hh; simp at hh; exact hne hh.2.symm)]
    exact hh

/-- The words of a line, and where the next one begins. -/
def wrd (r : ByteArray) (b i : Nat) (acc : List ByteArray) : Option (List ByteArray × Nat) :=
  if h : i < r.size then (if bt r i = 10 then some (acc ++ [r.extract b i], i + 1) else if bt r i = 32 then wrd r (i + 1) (i + 1) (acc ++ [r.extract b i]) else wrd r b (i + 1) acc) else none
termination_by r.size - i
theorem wrd_end (r : ByteArray) (b i : Nat) (acc : List ByteArray) (h : ¬ i < r.size) : wrd r b i acc = none := by rw [wrd, dif_neg h]
theorem wrd_nl (r : ByteArray) (b i : Nat) (acc : List ByteArray) (h : i < r.size) (h1 : bt r i = 10) : wrd r b i acc = some (acc ++ [r.extract b i], i + 1) := by rw [wrd, dif_pos h, if_pos h1]
theorem wrd_sp (r : ByteArray) (b i : Nat) (acc : List ByteArray) (h : i < r.size) (h1 : bt r i = 32) : wrd r b i acc = wrd r (i + 1) (i + 1) (acc ++ [r.extract b i]) := by rw [wrd, dif_pos h, if_neg (by omega), if_pos h1]
theorem wrd_go (r : ByteArray) (b i : Nat) (acc : List ByteArray) (h : i < r.size) (h1 : bt r i ≠ 10) (h2 : bt r i ≠ 32) : wrd r b i acc = wrd r b (i + 1) acc := by rw [wrd, dif_pos h, if_neg h1, if_neg h2]
def sts (l : List ByteArray) : List Value := l.map fun s => .string s
theorem sts_snoc (l : List ByteArray) (s : ByteArray) : sts (l ++ [s]) = sts l ++ [.string s] := by simp [sts]

set_option maxRecDepth 100000 in
set_option maxHeartbeats 4000000 in
theorem pReadWords (b : Nat) (r : ByteArray) (ln : Int) (w : World) (h : RdBlk w b r ln) (hr : r.size ≤ 30000) (hl0 : 0 ≤ ln) (hl1 : ln ≤ 100000) :
    Calls Tryd.prog 71 #[.pointer (some ⟨b, 0, none⟩)] w fun e w' => ∃ v, e = .returned v ∧ But b w w' ∧ ((wrd r 0 0 [] = none ∧ v = .slice none 0 0 ∧ RdBlk w' b r (ln + 1)) ∨ ∃ ws k, wrd r 0 0 [] = some (ws, k) ∧ w'.ownsRow w.heap.size 9 1 v ws.length (sts ws) ∧ RdBlk w' b (r.extract k r.size) (ln + 1) ∧ k ≤ r.size ∧ ws.length ≤ 30001 ∧ ∀ s ∈ ws, s.size ≤ 30000) := by
  obtain ⟨i, hi, hz0, hz1, hz2⟩ := info_parts Tryd.infoStr
  have hblt : b < w.heap.size := (Array.getElem?_eq_some_iff.1 h).1
  have c1 := cell_of_row w b 1 _ _ _ h
  simp only [List.getElem?_toArray, List.getElem?_cons_succ, List.getElem?_cons_zero] at c1
  have f1 := frozen_of_row w b 1 _ _ h
  have HB1 : Hid (RdBlk (w.setCell ⟨b, 1, none⟩ (.int .i64 (ln + 1))) b r (ln + 1)) := blk_set _ h
  generalize hR : wrd r 0 0 [] = R
  have HR : Hid (wrd r 0 0 [] = R) := hR
  clear hR
  go_enter Tryd.func71, Tryd.ntmps71
  go_wp2_with fail
  go_loopw [3, 4, 5] (fun x y z wr => ∃ (bg k : Nat) (acc : List ByteArray), bg ≤ k ∧ k ≤ r.size ∧ y = .int .i64 bg ∧ z = .int .i64 k ∧ Hid (wrd r bg k acc = R) ∧ acc.length ≤ k ∧ Hid (∀ s ∈ acc, s.size ≤ 30000) ∧ wr.ownsRow w.heap.size 9 1 x acc.length (sts acc) ∧ RdBlk wr b r (ln + 1) ∧ But b w wr) (fun _ _ z _ => r.size - (intOf z).toNat)
  case atStart => exact ⟨0, 0, [], Nat.le_refl _, Nat.zero_le _, rfl, rfl, HR, Nat.le_refl _, fun s hs => by simp at hs, World.ownsRow_nil _ _ _ _, HB1.out, (But.refl b w).set⟩
  case round =>
    obtain ⟨bg, k, acc, hbg, hk, rfl, rfl, HW, hal, HAS, hrow, hrd, hbut⟩ := hrel
    clear c1 f1
    have hbsz := hbut.size
    have hbw : b < wr.heap.size := by omega
    have c0 := cell_of_row wr b 0 _ _ _ hrd
    simp only [List.getElem?_toArray, List.getElem?_cons_zero] at c0
    have f0 := frozen_of_row wr b 0 _ _ hrd
    obtain ⟨ao, cap, hx⟩ := own_form hrow
    subst hx
    by_cases hlt : k < r.size
    · have hbk := bt_eq r k hlt
      by_cases q1 : bt r k = 10
      · have HE : Hid (some (acc ++ [r.extract bg k], k + 1) = R) := (wrd_nl r bg k acc hlt q1).symm.trans HW.out
        have q1b : (bt r k == 10) = true := by simp [q1]
        have q1n : (bt r k != 10) = false := by simp [q1]
        have q2n : (bt r k != 32) = true := by simp [q1]
        have HES : Hid ((r.extract bg k).size ≤ 30000) := by show _ ≤ _; rw [ByteArray.size_extract]; omega
        clear q1 HW
        go_wp2_with (at_builtin; go_must (refine wpList_append_lies _ rfl _ _ _ rfl w.heap.size 9 i _ 1 16 Tryd.underlying45 hi hz0 hz1 hz2 rfl (by omega) (.slice ao acc.length cap) acc.length (sts acc) rfl ?hown _ 1 _ [.string (r.extract bg k)] rfl rfl ?hnews ?h1 (by omega) ?h63 ?hbytes ?hbase _ rfl ?_))
        case hown => exact hrow.alloc _
        case hnews => exact World.news_of_block (heap_alloc_new wr _)
        case h1 => simp [Value.oneCell']
        case h63 => unfold maxLen; omega
        case hbytes => omega
        case hbase => simp; omega
        intro g cap2 w2 hown2 hgrow hat hlt2
        have hrd2 : RdBlk w2 b r (ln + 1) := grown_type (hrow.alloc _) hgrow (by decide) ((Below.heap_alloc wr _ b hbw).trans hrd)
        have hbut2 : But b w w2 := (hbut.trans (But.of ((Below.refl _ _).alloc (Nat.le_refl _) _) (by omega))).grown (hrow.alloc _) hgrow (Nat.le_refl _) (by omega)
        clear hat hgrow c0 f0
        have c0 := cell_of_row w2 b 0 _ _ _ hrd2
        simp only [List.getElem?_toArray, List.getElem?_cons_zero] at c0
        have f0 := frozen_of_row w2 b 0 _ _ hrd2
        go_wp2_with fail
        go_ret
        refine ⟨_, rfl, hbut2.set, .inr ⟨acc ++ [r.extract bg k], k + 1, HE.out.symm, ?_, blk_set _ hrd2, hlt, by simp; omega, ?_⟩⟩
        · rw [List.length_append, sts_snoc]; exact ownsRow_set hown2 hrd2 (by decide)
        · intro s hs
          rcases List.mem_append.1 hs with hs | hs
          · exact HAS.out s hs
          · simp only [List.mem_cons, List.not_mem_nil, or_false] at hs
            rw [hs]; exact HES.out
      · have q1b : (bt r k == 10) = false := by simpa using q1
        have q1n : (bt r k != 10) = true := by simpa using q1
        by_cases q2 : bt r k = 32
        · have HE : Hid (wrd r (k + 1) (k + 1) (acc ++ [r.extract bg k]) = R) := (wrd_sp r bg k acc hlt q2).symm.trans HW.out
          have q2n : (bt r k != 32) = false := by simp [q2]
          have HES : Hid ((r.extract bg k).size ≤ 30000) := by show _ ≤ _; rw [ByteArray.size_extract]; omega
          clear q1 q2 HW
          go_wp2_with (at_builtin; go_must (refine wpList_append_lies _ rfl _ _ _ rfl w.heap.size 9 i _ 1 16 Tryd.underlying45 hi hz0 hz1 hz2 rfl (by omega) (.slice ao acc.length cap) acc.length (sts acc) rfl ?hown _ 1 _ [.string (r.extract bg k)] rfl rfl ?hnews ?h1 (by omega) ?h63 ?hbytes ?hbase _ rfl ?_))
          case hown => exact hrow.alloc _
          case hnews => exact World.news_of_block (heap_alloc_new wr _)
          case h1 => simp [Value.oneCell']
          case h63 => unfold maxLen; omega
          case hbytes => omega
          case hbase => simp; omega
          intro g cap2 w2 hown2 hgrow hat hlt2
          have hrd2 : RdBlk w2 b r (ln + 1) := grown_type (hrow.alloc _) hgrow (by decide) ((Below.heap_alloc wr _ b hbw).trans hrd)
          have hbut2 : But b w w2 := (hbut.trans (But.of ((Below.refl _ _).alloc (Nat.le_refl _) _) (by omega))).grown (hrow.alloc _) hgrow (Nat.le_refl _) (by omega)
          clear hat hgrow c0 f0
          go_wp2_with fail
          go_roundw
          case rel =>
            refine ⟨k + 1, k + 1, acc ++ [r.extract bg k], Nat.le_refl _, hlt, by go_num, by go_num, HE, by simp; omega, ?_, by rw [List.length_append, sts_snoc]; exact hown2, hrd2, hbut2⟩
            intro s hs
            rcases List.mem_append.1 hs with hs | hs
            · exact HAS.out s hs
            · simp only [List.mem_cons, List.not_mem_nil, or_false] at hs
              rw [hs]; exact HES.out
          case measure => simp [intOf]; omega
        · have HE : Hid (wrd r bg (k + 1) acc = R) := (wrd_go r bg k acc hlt q1 q2).symm.trans HW.out
          have q2n : (bt r k != 32) = true := by simpa using q2
          clear HW
          go_wp2_with fail
          go_roundw
          case rel => exact ⟨bg, k + 1, acc, by omega, hlt, rfl, by go_num, HE, by omega, HAS, hrow, hrd, hbut⟩
          case measure => simp [intOf]; omega
    · have HE : Hid (none = R) := (wrd_end r bg k acc hlt).symm.trans HW.out
      go_wp2_with fail
      go_ret
      exact ⟨_, rfl, hbut, .inl ⟨HE.out.symm, rfl, hrd⟩⟩

end Go.Proofs.YtnndoagpbcacdaaDoor
