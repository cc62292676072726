import Derived.Test.YtnndoagpbcacdaaDoorY1
namespace Go.Proofs.YtnndoagpbcacdaaDoor
open Go.RowKit

/-! Package redexkeep: grow.go: a line that may stand. -/
theorem goodA_of {nf : Nat} {ar : Int} {nl j : Nat} {k n : Int} (h0 : 0 ≤ n) (h1 : n < boundF k nf ar nl) (h2 : k = 5 → (j : Int) ≤ n) : goodA nf ar nl j (k, n) = true := by
  simp only [goodA, Bool.and_eq_true, decide_eq_true_eq, Bool.not_eq_true', Bool.and_eq_false_iff, decide_eq_false_iff_not]
  refine ⟨h0, h1, ?_⟩
  by_cases hk : k = 5
  · exact .inr (by have := h2 hk; omega)
  · exact .inl hk
/-- A line, as far as it stands. -/
def LnSo (nf : Nat) (ar : Int) (nl j : Nat) (l : Ln) : Prop := l.all (goodA nf ar nl j) = true ∧ (l ≠ [] → (l[0]?.getD (0, 0)).1 ≠ 5)
theorem LnSo.nil (nf : Nat) (ar : Int) (nl j : Nat) : LnSo nf ar nl j [] := ⟨rfl, fun h => absurd rfl h⟩
theorem LnSo.snoc {nf : Nat} {ar : Int} {nl j : Nat} {l : Ln} {k n : Int} (h : LnSo nf ar nl j l) (ha : goodA nf ar nl j (k, n) = true) (hk : l.length = 0 → k ≠ 5) : LnSo nf ar nl j (l ++ [(k, n)]) := by
  refine ⟨by rw [List.all_append, h.1]; simp [ha], fun _ => ?_⟩
  cases l with
  | nil => simpa using hk rfl
  | cons a r => simpa using h.2 (by simp)
theorem LnSo.good {nf : Nat} {ar : Int} {nl j : Nat} {l : Ln} (h : LnSo nf ar nl j l) (h8 : l.length ≤ 8) (h1 : 1 ≤ l.length) (h2 : 0 < j → 2 ≤ l.length) : goodL nf ar nl j l = true := by
  have hne : l ≠ [] := by intro e; subst e; simp at h1
  simp only [goodL, Bool.and_eq_true, decide_eq_true_eq, Bool.not_eq_true', Bool.and_eq_false_iff, decide_eq_false_iff_not]
  refine ⟨h8, h1, ?_, h.2 hne, h.1⟩
  by_cases hj : 0 < j
  · exact .inr (by have := h2 hj; omega)
  · exact .inl hj

def lenOf : Value → Nat
  | .slice _ n _ => n
  | _ => 0
theorem kBent2 (n : Int) (h1 : -9223372036854775808 ≤ n) (h2 : n ≤ 9223372036854775807) (lo hi : Int) (w : World) (l0 : 0 ≤ lo) (lh : lo ≤ hi) (hh : hi ≤ 1000000) :
    Calls Tryd.prog 29 #[.int .i64 n, .int .i64 lo, .int .i64 hi] w fun e w' => ∃ N, lo ≤ N ∧ N ≤ hi ∧ e = .returned (.int .i64 N) ∧ w' = w :=
  (kBent n lo hi w h1 h2 l0 lh hh).mono fun _ _ h => ⟨_, (bentF_in n lo hi lh).1, (bentF_in n lo hi lh).2, h.1, h.2⟩

set_option maxRecDepth 100000 in
set_option maxHeartbeats 8000000 in
theorem kLine (l : Ln) (v : Value) (j nl nf : Nat) (ar : Int) (w : World) (hv : AtomsRd w w.heap.size v l) (hr : ∀ a ∈ l, -9223372036854775808 ≤ a.1 ∧ a.1 ≤ 9223372036854775807 ∧ -9223372036854775808 ≤ a.2 ∧ a.2 ≤ 9223372036854775807) (ha0 : 0 ≤ ar) (ha6 : ar ≤ 6) (hl1 : 1 ≤ nl) (hl : nl ≤ 13) (hj : j < nl) (hf1 : 1 ≤ nf) (hf : nf ≤ 16) :
    Calls Tryd.prog 30 #[v, .int .i64 j, .int .i64 ar, .int .i64 nl, .int .i64 nf] w fun e w' => ∃ u l', e = .returned u ∧ w'.ownsRow w.heap.size 60 2 u l'.length (acs l') ∧ Below w.heap.size w w' ∧ goodL nf ar nl j l' = true := by
  obtain ⟨i, hi, hz0, hz1, hz2⟩ := info_parts Tryd.infoAtom
  obtain ⟨o, cap, rfl, hc1, hc2, hcs⟩ := hv
  unfold maxLen at hc2
  have HR : Hid _ := hr
  clear hr
  go_enter Tryd.func30, Tryd.ntmps30
  go_wp2_with fail
  go_loopw [11, 12] (fun x y wr => ∃ (n : Nat) (m : Ln), n ≤ l.length ∧ n ≤ 8 ∧ y = .int .i64 n ∧ Hid (m.length = n) ∧ m.length ≤ 8 ∧ Hid (LnSo nf ar nl j m) ∧ wr.ownsRow w.heap.size 60 2 x m.length (acs m) ∧ Below w.heap.size w wr) (fun _ y _ => 8 - (intOf y).toNat)
  case atStart => exact ⟨0, [], Nat.zero_le _, by omega, rfl, rfl, by simp, LnSo.nil _ _ _ _, World.ownsRow_nil _ _ _ _, Below.refl _ _⟩
  case round =>
    obtain ⟨n, m, hn, hn8, rfl, HML, hm8, HSO, hor, hb⟩ := hrel
    have hbsz := hb.size
    obtain ⟨xo, xcap, hx⟩ := own_form hor
    subst hx
    by_cases hlt : n < l.length
    · by_cases h8 : n < 8
      · rcases hcs with h0 | ⟨b, off, rfl, hbl, hcell⟩
        · omega
        obtain ⟨c0, c1⟩ := hcell n hlt
        rw [← hb.cell (p := ⟨b, off + n * 2, none⟩) hbl] at c0
        rw [← hb.cell (p := ⟨b, off + n * 2 + 1, none⟩) hbl] at c1
        have hrn := HR.out l[n] (List.getElem_mem hlt)
        have HB1 : Hid _ := kBent2 l[n].1 hrn.1 hrn.2.1
        have HB2 : Hid _ := kBent2 l[n].2 hrn.2.2.1 hrn.2.2.2
        clear hrn hcell
        generalize l[n].1 = a1 at *
        generalize l[n].2 = a2 at *
        have hbw : b < wr.heap.size := by omega
        go_wp2_with fail
        refine (show Calls _ _ _ _ _ from HB1.out _ _ _ (by omega) (by omega) (by omega)).mono ?_
        rintro e w1 ⟨K, hK1, hK5, rfl, rfl⟩
        clear HB1
        have hKs : K = 1 ∨ K = 2 ∨ K = 3 ∨ K = 4 ∨ K = 5 := by omega
        have hns : n = 0 ∨ (0 < n ∧ ¬ (n : Int) = 0 ∧ ((n : Int) == 0) = false) := by
          by_cases h : n = 0
          · exact .inl h
          · exact .inr ⟨by omega, by omega, by simpa using h⟩
        have hcase : (K = 1 ∨ (K = 2 ∧ ar = 0) ∨ (K = 2 ∧ ¬ ar - 1 < 0 ∧ decide (ar - 1 < 0) = false) ∨ K = 3 ∨ K = 4 ∨ (K = 5 ∧ (nl : Int) - 2 < j) ∨ (K = 5 ∧ ¬ (nl : Int) - 2 < j ∧ decide ((nl : Int) - 2 < j) = false)) := by
          rcases hKs with h | h | h | h | h
          · exact .inl h
          · by_cases h0 : ar = 0
            · exact .inr (.inl ⟨h, h0⟩)
            · exact .inr (.inr (.inl ⟨h, by omega, by simp; omega⟩))
          · exact .inr (.inr (.inr (.inl h)))
          · exact .inr (.inr (.inr (.inr (.inl h))))
          · by_cases h0 : (nl : Int) - 2 < j
            · exact .inr (.inr (.inr (.inr (.inr (.inl ⟨h, h0⟩)))))
            · exact .inr (.inr (.inr (.inr (.inr (.inr ⟨h, h0, by simpa using h0⟩)))))
        have hnf : ¬ (nf : Int) - 1 < 0 := by omega
        have hnf' : decide ((nf : Int) - 1 < 0) = false := by simp; omega
        have HF : Hid (∀ k N : Int, 0 ≤ N → N < boundF k nf ar nl → (k = 5 → (j : Int) ≤ N ∧ 0 < n) → LnSo nf ar nl j (m ++ [(k, N)])) := fun k N h0 h1 h2 => HSO.out.snoc (goodA_of h0 h1 (fun hk => (h2 hk).1)) (fun hl hk => by have := (h2 hk).2; have := HML.out; omega)
        clear hKs hK1 hK5
        rcases hns with rfl | ⟨hn0, hn1, hn2⟩ <;> rcases hcase with rfl | ⟨rfl, rfl⟩ | ⟨rfl, hk1, hk2⟩ | rfl | rfl | ⟨rfl, hk1⟩ | ⟨rfl, hk1, hk2⟩
        · go_wp2_with fail
          refine (show Calls _ _ _ _ _ from HB2.out _ _ _ (by omega) (by omega) (by omega)).mono ?_
          rintro e w1 ⟨N, hN0, hN1, rfl, rfl⟩
          clear HB2 c0 c1
          go_wp2_with (at_builtin; go_must (refine wpList_append_lies _ rfl _ _ _ rfl w.heap.size 60 i _ 2 16 Tryd.underlying61 hi hz0 hz1 hz2 rfl (by omega) (.slice xo m.length xcap) m.length (acs m) rfl ?hown _ 1 _ [.int .i64 1, .int .i64 N] rfl rfl ?hnews ?h1 (by omega) ?h63 ?hbytes ?hbase _ rfl ?_))
          case hown => exact (hor.alloc _).alloc _
          case hnews => exact World.news_of_block (by have := heap_alloc_new (w1.alloc (Obj.cells #[.int .i64 1, .int .i64 N] 60)) (Obj.cells #[.int .i64 1, .int .i64 N] 60); simpa using this)
          case h1 => simp [Value.oneCell']
          case h63 => unfold maxLen; omega
          case hbytes => omega
          case hbase => simp; omega
          intro g cap2 w3 hown3 hgrow hat hlt3
          have hb3 : Below w.heap.size w w3 := ((hb.alloc hbsz _).alloc (by simp; omega) _).grown hgrow (by simp; omega) (fun k hk => (hor.lt k hk).1)
          clear hgrow hat
          go_wp2_with fail
          go_roundw
          case rel => exact ⟨_, m ++ [(1, N)], hlt, h8, by go_num, by have := HML.out; simp [Hid, this], by have := HML.out; simp; omega, HF.out 1 N (by omega) (by simp [boundF]; omega) (by omega), by rw [List.length_append, acs_snoc]; exact hown3, hb3⟩
          case measure => simp [intOf] <;> omega
        · go_wp2_with fail
          refine (show Calls _ _ _ _ _ from HB2.out _ _ _ (by omega) (by omega) (by omega)).mono ?_
          rintro e w1 ⟨N, hN0, hN1, rfl, rfl⟩
          clear HB2 c0 c1
          go_wp2_with (at_builtin; go_must (refine wpList_append_lies _ rfl _ _ _ rfl w.heap.size 60 i _ 2 16 Tryd.underlying61 hi hz0 hz1 hz2 rfl (by omega) (.slice xo m.length xcap) m.length (acs m) rfl ?hown _ 1 _ [.int .i64 1, .int .i64 N] rfl rfl ?hnews ?h1 (by omega) ?h63 ?hbytes ?hbase _ rfl ?_))
          case hown => exact (hor.alloc _).alloc _
          case hnews => exact World.news_of_block (by have := heap_alloc_new (w1.alloc (Obj.cells #[.int .i64 1, .int .i64 N] 60)) (Obj.cells #[.int .i64 1, .int .i64 N] 60); simpa using this)
          case h1 => simp [Value.oneCell']
          case h63 => unfold maxLen; omega
          case hbytes => omega
          case hbase => simp; omega
          intro g cap2 w3 hown3 hgrow hat hlt3
          have hb3 : Below w.heap.size w w3 := ((hb.alloc hbsz _).alloc (by simp; omega) _).grown hgrow (by simp; omega) (fun k hk => (hor.lt k hk).1)
          clear hgrow hat
          go_wp2_with fail
          go_roundw
          case rel => exact ⟨_, m ++ [(1, N)], hlt, h8, by go_num, by have := HML.out; simp [Hid, this], by have := HML.out; simp; omega, HF.out 1 N (by omega) (by simp [boundF]; omega) (by omega), by rw [List.length_append, acs_snoc]; exact hown3, hb3⟩
          case measure => simp [intOf] <;> omega
        · go_wp2_with fail
          refine (show Calls _ _ _ _ _ from HB2.out _ _ _ (by omega) (by omega) (by omega)).mono ?_
          rintro e w1 ⟨N, hN0, hN1, rfl, rfl⟩
          clear HB2 c0 c1
          go_wp2_with (at_builtin; go_must (refine wpList_append_lies _ rfl _ _ _ rfl w.heap.size 60 i _ 2 16 Tryd.underlying61 hi hz0 hz1 hz2 rfl (by omega) (.slice xo m.length xcap) m.length (acs m) rfl ?hown _ 1 _ [.int .i64 2, .int .i64 N] rfl rfl ?hnews ?h1 (by omega) ?h63 ?hbytes ?hbase _ rfl ?_))
          case hown => exact (hor.alloc _).alloc _
          case hnews => exact World.news_of_block (by have := heap_alloc_new (w1.alloc (Obj.cells #[.int .i64 2, .int .i64 N] 60)) (Obj.cells #[.int .i64 2, .int .i64 N] 60); simpa using this)
          case h1 => simp [Value.oneCell']
          case h63 => unfold maxLen; omega
          case hbytes => omega
          case hbase => simp; omega
          intro g cap2 w3 hown3 hgrow hat hlt3
          have hb3 : Below w.heap.size w w3 := ((hb.alloc hbsz _).alloc (by simp; omega) _).grown hgrow (by simp; omega) (fun k hk => (hor.lt k hk).1)
          clear hgrow hat
          go_wp2_with fail
          go_roundw
          case rel => exact ⟨_, m ++ [(2, N)], hlt, h8, by go_num, by have := HML.out; simp [Hid, this], by have := HML.out; simp; omega, HF.out 2 N (by omega) (by simp [boundF]; omega) (by omega), by rw [List.length_append, acs_snoc]; exact hown3, hb3⟩
          case measure => simp [intOf] <;> omega
        · go_wp2_with fail
          refine (show Calls _ _ _ _ _ from HB2.out _ _ _ (by omega) (by omega) (by omega)).mono ?_
          rintro e w1 ⟨N, hN0, hN1, rfl, rfl⟩
          clear HB2 c0 c1
          go_wp2_with (at_builtin; go_must (refine wpList_append_lies _ rfl _ _ _ rfl w.heap.size 60 i _ 2 16 Tryd.underlying61 hi hz0 hz1 hz2 rfl (by omega) (.slice xo m.length xcap) m.length (acs m) rfl ?hown _ 1 _ [.int .i64 3, .int .i64 N] rfl rfl ?hnews ?h1 (by omega) ?h63 ?hbytes ?hbase _ rfl ?_))
          case hown => exact (hor.alloc _).alloc _
          case hnews => exact World.news_of_block (by have := heap_alloc_new (w1.alloc (Obj.cells #[.int .i64 3, .int .i64 N] 60)) (Obj.cells #[.int .i64 3, .int .i64 N] 60); simpa using this)
          case h1 => simp [Value.oneCell']
          case h63 => unfold maxLen; omega
          case hbytes => omega
          case hbase => simp; omega
          intro g cap2 w3 hown3 hgrow hat hlt3
          have hb3 : Below w.heap.size w w3 := ((hb.alloc hbsz _).alloc (by simp; omega) _).grown hgrow (by simp; omega) (fun k hk => (hor.lt k hk).1)
          clear hgrow hat
          go_wp2_with fail
          go_roundw
          case rel => exact ⟨_, m ++ [(3, N)], hlt, h8, by go_num, by have := HML.out; simp [Hid, this], by have := HML.out; simp; omega, HF.out 3 N (by omega) (by simp [boundF]; omega) (by omega), by rw [List.length_append, acs_snoc]; exact hown3, hb3⟩
          case measure => simp [intOf] <;> omega
        · go_wp2_with fail
          refine (show Calls _ _ _ _ _ from HB2.out _ _ _ (by omega) (by omega) (by omega)).mono ?_
          rintro e w1 ⟨N, hN0, hN1, rfl, rfl⟩
          clear HB2 c0 c1
          go_wp2_with (at_builtin; go_must (refine wpList_append_lies _ rfl _ _ _ rfl w.heap.size 60 i _ 2 16 Tryd.underlying61 hi hz0 hz1 hz2 rfl (by omega) (.slice xo m.length xcap) m.length (acs m) rfl ?hown _ 1 _ [.int .i64 4, .int .i64 N] rfl rfl ?hnews ?h1 (by omega) ?h63 ?hbytes ?hbase _ rfl ?_))
          case hown => exact (hor.alloc _).alloc _
          case hnews => exact World.news_of_block (by have := heap_alloc_new (w1.alloc (Obj.cells #[.int .i64 4, .int .i64 N] 60)) (Obj.cells #[.int .i64 4, .int .i64 N] 60); simpa using this)
          case h1 => simp [Value.oneCell']
          case h63 => unfold maxLen; omega
          case hbytes => omega
          case hbase => simp; omega
          intro g cap2 w3 hown3 hgrow hat hlt3
          have hb3 : Below w.heap.size w w3 := ((hb.alloc hbsz _).alloc (by simp; omega) _).grown hgrow (by simp; omega) (fun k hk => (hor.lt k hk).1)
          clear hgrow hat
          go_wp2_with fail
          go_roundw
          case rel => exact ⟨_, m ++ [(4, N)], hlt, h8, by go_num, by have := HML.out; simp [Hid, this], by have := HML.out; simp; omega, HF.out 4 N (by omega) (by simp [boundF]; omega) (by omega), by rw [List.length_append, acs_snoc]; exact hown3, hb3⟩
          case measure => simp [intOf] <;> omega
        · go_wp2_with fail
          refine (show Calls _ _ _ _ _ from HB2.out _ _ _ (by omega) (by omega) (by omega)).mono ?_
          rintro e w1 ⟨N, hN0, hN1, rfl, rfl⟩
          clear HB2 c0 c1
          go_wp2_with (at_builtin; go_must (refine wpList_append_lies _ rfl _ _ _ rfl w.heap.size 60 i _ 2 16 Tryd.underlying61 hi hz0 hz1 hz2 rfl (by omega) (.slice xo m.length xcap) m.length (acs m) rfl ?hown _ 1 _ [.int .i64 1, .int .i64 N] rfl rfl ?hnews ?h1 (by omega) ?h63 ?hbytes ?hbase _ rfl ?_))
          case hown => exact (hor.alloc _).alloc _
          case hnews => exact World.news_of_block (by have := heap_alloc_new (w1.alloc (Obj.cells #[.int .i64 1, .int .i64 N] 60)) (Obj.cells #[.int .i64 1, .int .i64 N] 60); simpa using this)
          case h1 => simp [Value.oneCell']
          case h63 => unfold maxLen; omega
          case hbytes => omega
          case hbase => simp; omega
          intro g cap2 w3 hown3 hgrow hat hlt3
          have hb3 : Below w.heap.size w w3 := ((hb.alloc hbsz _).alloc (by simp; omega) _).grown hgrow (by simp; omega) (fun k hk => (hor.lt k hk).1)
          clear hgrow hat
          go_wp2_with fail
          go_roundw
          case rel => exact ⟨_, m ++ [(1, N)], hlt, h8, by go_num, by have := HML.out; simp [Hid, this], by have := HML.out; simp; omega, HF.out 1 N (by omega) (by simp [boundF]; omega) (by omega), by rw [List.length_append, acs_snoc]; exact hown3, hb3⟩
          case measure => simp [intOf] <;> omega
        · go_wp2_with fail
          refine (show Calls _ _ _ _ _ from HB2.out _ _ _ (by omega) (by omega) (by omega)).mono ?_
          rintro e w1 ⟨N, hN0, hN1, rfl, rfl⟩
          clear HB2 c0 c1
          go_wp2_with (at_builtin; go_must (refine wpList_append_lies _ rfl _ _ _ rfl w.heap.size 60 i _ 2 16 Tryd.underlying61 hi hz0 hz1 hz2 rfl (by omega) (.slice xo m.length xcap) m.length (acs m) rfl ?hown _ 1 _ [.int .i64 1, .int .i64 N] rfl rfl ?hnews ?h1 (by omega) ?h63 ?hbytes ?hbase _ rfl ?_))
          case hown => exact (hor.alloc _).alloc _
          case hnews => exact World.news_of_block (by have := heap_alloc_new (w1.alloc (Obj.cells #[.int .i64 1, .int .i64 N] 60)) (Obj.cells #[.int .i64 1, .int .i64 N] 60); simpa using this)
          case h1 => simp [Value.oneCell']
          case h63 => unfold maxLen; omega
          case hbytes => omega
          case hbase => simp; omega
          intro g cap2 w3 hown3 hgrow hat hlt3
          have hb3 : Below w.heap.size w w3 := ((hb.alloc hbsz _).alloc (by simp; omega) _).grown hgrow (by simp; omega) (fun k hk => (hor.lt k hk).1)
          clear hgrow hat
          go_wp2_with fail
          go_roundw
          case rel => exact ⟨_, m ++ [(1, N)], hlt, h8, by go_num, by have := HML.out; simp [Hid, this], by have := HML.out; simp; omega, HF.out 1 N (by omega) (by simp [boundF]; omega) (by omega), by rw [List.length_append, acs_snoc]; exact hown3, hb3⟩
          case measure => simp [intOf] <;> omega
        · go_wp2_with fail
          refine (show Calls _ _ _ _ _ from HB2.out _ _ _ (by omega) (by omega) (by omega)).mono ?_
          rintro e w1 ⟨N, hN0, hN1, rfl, rfl⟩
          clear HB2 c0 c1
          go_wp2_with (at_builtin; go_must (refine wpList_append_lies _ rfl _ _ _ rfl w.heap.size 60 i _ 2 16 Tryd.underlying61 hi hz0 hz1 hz2 rfl (by omega) (.slice xo m.length xcap) m.length (acs m) rfl ?hown _ 1 _ [.int .i64 1, .int .i64 N] rfl rfl ?hnews ?h1 (by omega) ?h63 ?hbytes ?hbase _ rfl ?_))
          case hown => exact (hor.alloc _).alloc _
          case hnews => exact World.news_of_block (by have := heap_alloc_new (w1.alloc (Obj.cells #[.int .i64 1, .int .i64 N] 60)) (Obj.cells #[.int .i64 1, .int .i64 N] 60); simpa using this)
          case h1 => simp [Value.oneCell']
          case h63 => unfold maxLen; omega
          case hbytes => omega
          case hbase => simp; omega
          intro g cap2 w3 hown3 hgrow hat hlt3
          have hb3 : Below w.heap.size w w3 := ((hb.alloc hbsz _).alloc (by simp; omega) _).grown hgrow (by simp; omega) (fun k hk => (hor.lt k hk).1)
          clear hgrow hat
          go_wp2_with fail
          go_roundw
          case rel => exact ⟨_, m ++ [(1, N)], hlt, h8, by go_num, by have := HML.out; simp [Hid, this], by have := HML.out; simp; omega, HF.out 1 N (by omega) (by simp [boundF]; omega) (by omega), by rw [List.length_append, acs_snoc]; exact hown3, hb3⟩
          case measure => simp [intOf] <;> omega
        · go_wp2_with fail
          refine (show Calls _ _ _ _ _ from HB2.out _ _ _ (by omega) (by omega) (by omega)).mono ?_
          rintro e w1 ⟨N, hN0, hN1, rfl, rfl⟩
          clear HB2 c0 c1
          go_wp2_with (at_builtin; go_must (refine wpList_append_lies _ rfl _ _ _ rfl w.heap.size 60 i _ 2 16 Tryd.underlying61 hi hz0 hz1 hz2 rfl (by omega) (.slice xo m.length xcap) m.length (acs m) rfl ?hown _ 1 _ [.int .i64 1, .int .i64 N] rfl rfl ?hnews ?h1 (by omega) ?h63 ?hbytes ?hbase _ rfl ?_))
          case hown => exact (hor.alloc _).alloc _
          case hnews => exact World.news_of_block (by have := heap_alloc_new (w1.alloc (Obj.cells #[.int .i64 1, .int .i64 N] 60)) (Obj.cells #[.int .i64 1, .int .i64 N] 60); simpa using this)
          case h1 => simp [Value.oneCell']
          case h63 => unfold maxLen; omega
          case hbytes => omega
          case hbase => simp; omega
          intro g cap2 w3 hown3 hgrow hat hlt3
          have hb3 : Below w.heap.size w w3 := ((hb.alloc hbsz _).alloc (by simp; omega) _).grown hgrow (by simp; omega) (fun k hk => (hor.lt k hk).1)
          clear hgrow hat
          go_wp2_with fail
          go_roundw
          case rel => exact ⟨_, m ++ [(1, N)], hlt, h8, by go_num, by have := HML.out; simp [Hid, this], by have := HML.out; simp; omega, HF.out 1 N (by omega) (by simp [boundF]; omega) (by omega), by rw [List.length_append, acs_snoc]; exact hown3, hb3⟩
          case measure => simp [intOf] <;> omega
        · go_wp2_with fail
          refine (show Calls _ _ _ _ _ from HB2.out _ _ _ (by omega) (by omega) (by omega)).mono ?_
          rintro e w1 ⟨N, hN0, hN1, rfl, rfl⟩
          clear HB2 c0 c1
          go_wp2_with (at_builtin; go_must (refine wpList_append_lies _ rfl _ _ _ rfl w.heap.size 60 i _ 2 16 Tryd.underlying61 hi hz0 hz1 hz2 rfl (by omega) (.slice xo m.length xcap) m.length (acs m) rfl ?hown _ 1 _ [.int .i64 2, .int .i64 N] rfl rfl ?hnews ?h1 (by omega) ?h63 ?hbytes ?hbase _ rfl ?_))
          case hown => exact (hor.alloc _).alloc _
          case hnews => exact World.news_of_block (by have := heap_alloc_new (w1.alloc (Obj.cells #[.int .i64 2, .int .i64 N] 60)) (Obj.cells #[.int .i64 2, .int .i64 N] 60); simpa using this)
          case h1 => simp [Value.oneCell']
          case h63 => unfold maxLen; omega
          case hbytes => omega
          case hbase => simp; omega
          intro g cap2 w3 hown3 hgrow hat hlt3
          have hb3 : Below w.heap.size w w3 := ((hb.alloc hbsz _).alloc (by simp; omega) _).grown hgrow (by simp; omega) (fun k hk => (hor.lt k hk).1)
          clear hgrow hat
          go_wp2_with fail
          go_roundw
          case rel => exact ⟨_, m ++ [(2, N)], hlt, h8, by go_num, by have := HML.out; simp [Hid, this], by have := HML.out; simp; omega, HF.out 2 N (by omega) (by simp [boundF]; omega) (by omega), by rw [List.length_append, acs_snoc]; exact hown3, hb3⟩
          case measure => simp [intOf] <;> omega
        · go_wp2_with fail
          refine (show Calls _ _ _ _ _ from HB2.out _ _ _ (by omega) (by omega) (by omega)).mono ?_
          rintro e w1 ⟨N, hN0, hN1, rfl, rfl⟩
          clear HB2 c0 c1
          go_wp2_with (at_builtin; go_must (refine wpList_append_lies _ rfl _ _ _ rfl w.heap.size 60 i _ 2 16 Tryd.underlying61 hi hz0 hz1 hz2 rfl (by omega) (.slice xo m.length xcap) m.length (acs m) rfl ?hown _ 1 _ [.int .i64 3, .int .i64 N] rfl rfl ?hnews ?h1 (by omega) ?h63 ?hbytes ?hbase _ rfl ?_))
          case hown => exact (hor.alloc _).alloc _
          case hnews => exact World.news_of_block (by have := heap_alloc_new (w1.alloc (Obj.cells #[.int .i64 3, .int .i64 N] 60)) (Obj.cells #[.int .i64 3, .int .i64 N] 60); simpa using this)
          case h1 => simp [Value.oneCell']
          case h63 => unfold maxLen; omega
          case hbytes => omega
          case hbase => simp; omega
          intro g cap2 w3 hown3 hgrow hat hlt3
          have hb3 : Below w.heap.size w w3 := ((hb.alloc hbsz _).alloc (by simp; omega) _).grown hgrow (by simp; omega) (fun k hk => (hor.lt k hk).1)
          clear hgrow hat
          go_wp2_with fail
          go_roundw
          case rel => exact ⟨_, m ++ [(3, N)], hlt, h8, by go_num, by have := HML.out; simp [Hid, this], by have := HML.out; simp; omega, HF.out 3 N (by omega) (by simp [boundF]; omega) (by omega), by rw [List.length_append, acs_snoc]; exact hown3, hb3⟩
          case measure => simp [intOf] <;> omega
        · go_wp2_with fail
          refine (show Calls _ _ _ _ _ from HB2.out _ _ _ (by omega) (by omega) (by omega)).mono ?_
          rintro e w1 ⟨N, hN0, hN1, rfl, rfl⟩
          clear HB2 c0 c1
          go_wp2_with (at_builtin; go_must (refine wpList_append_lies _ rfl _ _ _ rfl w.heap.size 60 i _ 2 16 Tryd.underlying61 hi hz0 hz1 hz2 rfl (by omega) (.slice xo m.length xcap) m.length (acs m) rfl ?hown _ 1 _ [.int .i64 4, .int .i64 N] rfl rfl ?hnews ?h1 (by omega) ?h63 ?hbytes ?hbase _ rfl ?_))
          case hown => exact (hor.alloc _).alloc _
          case hnews => exact World.news_of_block (by have := heap_alloc_new (w1.alloc (Obj.cells #[.int .i64 4, .int .i64 N] 60)) (Obj.cells #[.int .i64 4, .int .i64 N] 60); simpa using this)
          case h1 => simp [Value.oneCell']
          case h63 => unfold maxLen; omega
          case hbytes => omega
          case hbase => simp; omega
          intro g cap2 w3 hown3 hgrow hat hlt3
          have hb3 : Below w.heap.size w w3 := ((hb.alloc hbsz _).alloc (by simp; omega) _).grown hgrow (by simp; omega) (fun k hk => (hor.lt k hk).1)
          clear hgrow hat
          go_wp2_with fail
          go_roundw
          case rel => exact ⟨_, m ++ [(4, N)], hlt, h8, by go_num, by have := HML.out; simp [Hid, this], by have := HML.out; simp; omega, HF.out 4 N (by omega) (by simp [boundF]; omega) (by omega), by rw [List.length_append, acs_snoc]; exact hown3, hb3⟩
          case measure => simp [intOf] <;> omega
        · go_wp2_with fail
          refine (show Calls _ _ _ _ _ from HB2.out _ _ _ (by omega) (by omega) (by omega)).mono ?_
          rintro e w1 ⟨N, hN0, hN1, rfl, rfl⟩
          clear HB2 c0 c1
          go_wp2_with (at_builtin; go_must (refine wpList_append_lies _ rfl _ _ _ rfl w.heap.size 60 i _ 2 16 Tryd.underlying61 hi hz0 hz1 hz2 rfl (by omega) (.slice xo m.length xcap) m.length (acs m) rfl ?hown _ 1 _ [.int .i64 1, .int .i64 N] rfl rfl ?hnews ?h1 (by omega) ?h63 ?hbytes ?hbase _ rfl ?_))
          case hown => exact (hor.alloc _).alloc _
          case hnews => exact World.news_of_block (by have := heap_alloc_new (w1.alloc (Obj.cells #[.int .i64 1, .int .i64 N] 60)) (Obj.cells #[.int .i64 1, .int .i64 N] 60); simpa using this)
          case h1 => simp [Value.oneCell']
          case h63 => unfold maxLen; omega
          case hbytes => omega
          case hbase => simp; omega
          intro g cap2 w3 hown3 hgrow hat hlt3
          have hb3 : Below w.heap.size w w3 := ((hb.alloc hbsz _).alloc (by simp; omega) _).grown hgrow (by simp; omega) (fun k hk => (hor.lt k hk).1)
          clear hgrow hat
          go_wp2_with fail
          go_roundw
          case rel => exact ⟨_, m ++ [(1, N)], hlt, h8, by go_num, by have := HML.out; simp [Hid, this], by have := HML.out; simp; omega, HF.out 1 N (by omega) (by simp [boundF]; omega) (by omega), by rw [List.length_append, acs_snoc]; exact hown3, hb3⟩
          case measure => simp [intOf] <;> omega
        · go_wp2_with fail
          refine (show Calls _ _ _ _ _ from HB2.out _ _ _ (by omega) (by omega) (by omega)).mono ?_
          rintro e w1 ⟨N, hN0, hN1, rfl, rfl⟩
          clear HB2 c0 c1
          go_wp2_with (at_builtin; go_must (refine wpList_append_lies _ rfl _ _ _ rfl w.heap.size 60 i _ 2 16 Tryd.underlying61 hi hz0 hz1 hz2 rfl (by omega) (.slice xo m.length xcap) m.length (acs m) rfl ?hown _ 1 _ [.int .i64 5, .int .i64 N] rfl rfl ?hnews ?h1 (by omega) ?h63 ?hbytes ?hbase _ rfl ?_))
          case hown => exact (hor.alloc _).alloc _
          case hnews => exact World.news_of_block (by have := heap_alloc_new (w1.alloc (Obj.cells #[.int .i64 5, .int .i64 N] 60)) (Obj.cells #[.int .i64 5, .int .i64 N] 60); simpa using this)
          case h1 => simp [Value.oneCell']
          case h63 => unfold maxLen; omega
          case hbytes => omega
          case hbase => simp; omega
          intro g cap2 w3 hown3 hgrow hat hlt3
          have hb3 : Below w.heap.size w w3 := ((hb.alloc hbsz _).alloc (by simp; omega) _).grown hgrow (by simp; omega) (fun k hk => (hor.lt k hk).1)
          clear hgrow hat
          go_wp2_with fail
          go_roundw
          case rel => exact ⟨_, m ++ [(5, N)], hlt, h8, by go_num, by have := HML.out; simp [Hid, this], by have := HML.out; simp; omega, HF.out 5 N (by omega) (by simp [boundF]; omega) (by omega), by rw [List.length_append, acs_snoc]; exact hown3, hb3⟩
          case measure => simp [intOf] <;> omega
      · have HSOG : Hid _ := HSO
        clear HSO HML
        go_wp2_with fail
        go_loopw [11] (fun x wx => ∃ m : Ln, m.length ≤ 8 ∧ Hid (LnSo nf ar nl j m) ∧ wx.ownsRow w.heap.size 60 2 x m.length (acs m) ∧ Below w.heap.size w wx) (fun x _ => 2 - lenOf x)
        case atStart => exact ⟨m, hm8, HSOG.out, hor, hb⟩
        case round =>
          clear hor hb hbsz hm8 HSOG
          obtain ⟨m', hm8, HSO, hor, hb⟩ := hrel
          have hbsz := hb.size
          obtain ⟨yo, ycap, hx⟩ := own_form hor
          subst hx
          have hms : (m' = [] ∨ (∃ a, m' = [a] ∧ 0 < j) ∨ (∃ a, m' = [a] ∧ ¬ 0 < j) ∨ 2 ≤ m'.length) := by
            match m' with
            | [] => exact .inl rfl
            | [a] => by_cases hj0 : 0 < j
                     · exact .inr (.inl ⟨a, rfl, hj0⟩)
                     · exact .inr (.inr (.inl ⟨a, rfl, hj0⟩))
            | a :: b :: r => exact .inr (.inr (.inr (by simp)))
          rcases hms with rfl | ⟨a, rfl, hj0⟩ | ⟨a, rfl, hj0⟩ | h2
          · by_cases hj0 : 0 < j
            · have hj1 : (0 : Int) < j := by omega
              have hj3 : decide ((0 : Int) < j) = true := by simpa using hj0
              have HF : Hid (LnSo nf ar nl j ([] ++ [(1, 1)])) := HSO.out.snoc (goodA_of (by omega) (by simp [boundF]) (by omega)) (by omega)
              simp only [List.length_nil] at hor
              go_wp2_with (at_builtin; go_must (refine wpList_append_lies _ rfl _ _ _ rfl w.heap.size 60 i _ 2 16 Tryd.underlying61 hi hz0 hz1 hz2 rfl (by omega) (.slice yo 0 ycap) 0 (acs []) rfl ?hownq0 _ 1 _ [.int .i64 1, .int .i64 1] rfl rfl ?hnewsq0 ?h1q0 (by omega) ?h63q0 ?hbytesq0 ?hbaseq0 _ rfl ?_))
              case hownq0 => exact hor.alloc _
              try case hnewsq0 => exact World.news_of_block (heap_alloc_new wr _)
              case h1q0 => simp [Value.oneCell']
              case h63q0 => unfold maxLen; omega
              try case hbytesq0 => omega
              case hbaseq0 => first | omega | (simp; omega)
              intro g cap2 w3 hown3 hgrow hat hlt3
              have hb3 : Below w.heap.size w w3 := (hb.alloc hbsz _).grown hgrow (by simp; omega) (fun k hk => (hor.lt k hk).1)
              clear hgrow hat
              go_wp2_with fail
              go_roundw
              case rel => exact ⟨[] ++ [(1, 1)], by simp, HF, by rw [List.length_append, acs_snoc]; exact hown3, hb3⟩
              case measure => simp [lenOf]
            · have hj1 : ¬ (0 : Int) < j := by omega
              have hj3 : decide ((0 : Int) < j) = false := by simpa using hj0
              have HF : Hid (LnSo nf ar nl j ([] ++ [(1, 1)])) := HSO.out.snoc (goodA_of (by omega) (by simp [boundF]) (by omega)) (by omega)
              simp only [List.length_nil] at hor
              go_wp2_with (at_builtin; go_must (refine wpList_append_lies _ rfl _ _ _ rfl w.heap.size 60 i _ 2 16 Tryd.underlying61 hi hz0 hz1 hz2 rfl (by omega) (.slice yo 0 ycap) 0 (acs []) rfl ?hownq1 _ 1 _ [.int .i64 1, .int .i64 1] rfl rfl ?hnewsq1 ?h1q1 (by omega) ?h63q1 ?hbytesq1 ?hbaseq1 _ rfl ?_))
              case hownq1 => exact hor.alloc _
              try case hnewsq1 => exact World.news_of_block (heap_alloc_new wr _)
              case h1q1 => simp [Value.oneCell']
              case h63q1 => unfold maxLen; omega
              try case hbytesq1 => omega
              case hbaseq1 => first | omega | (simp; omega)
              intro g cap2 w3 hown3 hgrow hat hlt3
              have hb3 : Below w.heap.size w w3 := (hb.alloc hbsz _).grown hgrow (by simp; omega) (fun k hk => (hor.lt k hk).1)
              clear hgrow hat
              go_wp2_with fail
              go_roundw
              case rel => exact ⟨[] ++ [(1, 1)], by simp, HF, by rw [List.length_append, acs_snoc]; exact hown3, hb3⟩
              case measure => simp [lenOf]
          · have HF : Hid (LnSo nf ar nl j ([a] ++ [(1, 1)])) := HSO.out.snoc (goodA_of (by omega) (by simp [boundF]) (by omega)) (by omega)
            simp only [List.length_cons, List.length_nil, Nat.zero_add] at hor
            have hj1 : (0 : Int) < j := by omega
            have hj3 : decide ((0 : Int) < j) = true := by simpa using hj0
            go_wp2_with (at_builtin; go_must (refine wpList_append_lies _ rfl _ _ _ rfl w.heap.size 60 i _ 2 16 Tryd.underlying61 hi hz0 hz1 hz2 rfl (by omega) (.slice yo 1 ycap) 1 (acs [a]) rfl ?hownq2 _ 1 _ [.int .i64 1, .int .i64 1] rfl rfl ?hnewsq2 ?h1q2 (by omega) ?h63q2 ?hbytesq2 ?hbaseq2 _ rfl ?_))
            case hownq2 => exact hor.alloc _
            try case hnewsq2 => exact World.news_of_block (heap_alloc_new wr _)
            case h1q2 => simp [Value.oneCell']
            case h63q2 => unfold maxLen; omega
            try case hbytesq2 => omega
            case hbaseq2 => first | omega | (simp; omega)
            intro g cap2 w3 hown3 hgrow hat hlt3
            have hb3 : Below w.heap.size w w3 := (hb.alloc hbsz _).grown hgrow (by simp; omega) (fun k hk => (hor.lt k hk).1)
            clear hgrow hat
            go_wp2_with fail
            go_roundw
            case rel => exact ⟨[a] ++ [(1, 1)], by simp, HF, by rw [List.length_append, acs_snoc]; exact hown3, hb3⟩
            case measure => simp [lenOf]
          · have HG : Hid (goodL nf ar nl j [a] = true) := HSO.out.good (by simp) (by simp) (by omega)
            simp only [List.length_cons, List.length_nil, Nat.zero_add] at hor
            have hj1 : ¬ (0 : Int) < j := by omega
            have hj2 : decide ((0 : Int) < j) = false := by simpa using hj0
            go_wp2_with fail
            go_ret
            exact ⟨_, rfl, [a], hor, hb, HG.out⟩
          · have HG : Hid (goodL nf ar nl j m' = true) := HSO.out.good hm8 (by omega) (by omega)
            have h2' : ¬ (m'.length : Int) < 2 := by omega
            have h2d : decide ((m'.length : Int) < 2) = false := by simp; omega
            go_wp2_with fail
            go_ret
            exact ⟨_, rfl, m', hor, hb, HG.out⟩
    · have HSOG : Hid _ := HSO
      clear HSO HML
      go_wp2_with fail
      go_loopw [11] (fun x wx => ∃ m : Ln, m.length ≤ 8 ∧ Hid (LnSo nf ar nl j m) ∧ wx.ownsRow w.heap.size 60 2 x m.length (acs m) ∧ Below w.heap.size w wx) (fun x _ => 2 - lenOf x)
      case atStart => exact ⟨m, hm8, HSOG.out, hor, hb⟩
      case round =>
        clear hor hb hbsz hm8 HSOG
        obtain ⟨m', hm8, HSO, hor, hb⟩ := hrel
        have hbsz := hb.size
        obtain ⟨yo, ycap, hx⟩ := own_form hor
        subst hx
        have hms : (m' = [] ∨ (∃ a, m' = [a] ∧ 0 < j) ∨ (∃ a, m' = [a] ∧ ¬ 0 < j) ∨ 2 ≤ m'.length) := by
          match m' with
          | [] => exact .inl rfl
          | [a] => by_cases hj0 : 0 < j
                   · exact .inr (.inl ⟨a, rfl, hj0⟩)
                   · exact .inr (.inr (.inl ⟨a, rfl, hj0⟩))
          | a :: b :: r => exact .inr (.inr (.inr (by simp)))
        rcases hms with rfl | ⟨a, rfl, hj0⟩ | ⟨a, rfl, hj0⟩ | h2
        · by_cases hj0 : 0 < j
          · have hj1 : (0 : Int) < j := by omega
            have hj3 : decide ((0 : Int) < j) = true := by simpa using hj0
            have HF : Hid (LnSo nf ar nl j ([] ++ [(1, 1)])) := HSO.out.snoc (goodA_of (by omega) (by simp [boundF]) (by omega)) (by omega)
            simp only [List.length_nil] at hor
            go_wp2_with (at_builtin; go_must (refine wpList_append_lies _ rfl _ _ _ rfl w.heap.size 60 i _ 2 16 Tryd.underlying61 hi hz0 hz1 hz2 rfl (by omega) (.slice yo 0 ycap) 0 (acs []) rfl ?hownq3 _ 1 _ [.int .i64 1, .int .i64 1] rfl rfl ?hnewsq3 ?h1q3 (by omega) ?h63q3 ?hbytesq3 ?hbaseq3 _ rfl ?_))
            case hownq3 => exact hor.alloc _
            try case hnewsq3 => exact World.news_of_block (heap_alloc_new wr _)
            case h1q3 => simp [Value.oneCell']
            case h63q3 => unfold maxLen; omega
            try case hbytesq3 => omega
            case hbaseq3 => first | omega | (simp; omega)
            intro g cap2 w3 hown3 hgrow hat hlt3
            have hb3 : Below w.heap.size w w3 := (hb.alloc hbsz _).grown hgrow (by simp; omega) (fun k hk => (hor.lt k hk).1)
            clear hgrow hat
            go_wp2_with fail
            go_roundw
            case rel => exact ⟨[] ++ [(1, 1)], by simp, HF, by rw [List.length_append, acs_snoc]; exact hown3, hb3⟩
            case measure => simp [lenOf]
          · have hj1 : ¬ (0 : Int) < j := by omega
            have hj3 : decide ((0 : Int) < j) = false := by simpa using hj0
            have HF : Hid (LnSo nf ar nl j ([] ++ [(1, 1)])) := HSO.out.snoc (goodA_of (by omega) (by simp [boundF]) (by omega)) (by omega)
            simp only [List.length_nil] at hor
            go_wp2_with (at_builtin; go_must (refine wpList_append_lies _ rfl _ _ _ rfl w.heap.size 60 i _ 2 16 Tryd.underlying61 hi hz0 hz1 hz2 rfl (by omega) (.slice yo 0 ycap) 0 (acs []) rfl ?hownq4 _ 1 _ [.int .i64 1, .int .i64 1] rfl rfl ?hnewsq4 ?h1q4 (by omega) ?h63q4 ?hbytesq4 ?hbaseq4 _ rfl ?_))
            case hownq4 => exact hor.alloc _
            try case hnewsq4 => exact World.news_of_block (heap_alloc_new wr _)
            case h1q4 => simp [Value.oneCell']
            case h63q4 => unfold maxLen; omega
            try case hbytesq4 => omega
            case hbaseq4 => first | omega | (simp; omega)
            intro g cap2 w3 hown3 hgrow hat hlt3
            have hb3 : Below w.heap.size w w3 := (hb.alloc hbsz _).grown hgrow (by simp; omega) (fun k hk => (hor.lt k hk).1)
            clear hgrow hat
            go_wp2_with fail
            go_roundw
            case rel => exact ⟨[] ++ [(1, 1)], by simp, HF, by rw [List.length_append, acs_snoc]; exact hown3, hb3⟩
            case measure => simp [lenOf]
        · have HF : Hid (LnSo nf ar nl j ([a] ++ [(1, 1)])) := HSO.out.snoc (goodA_of (by omega) (by simp [boundF]) (by omega)) (by omega)
          simp only [List.length_cons, List.length_nil, Nat.zero_add] at hor
          have hj1 : (0 : Int) < j := by omega
          have hj3 : decide ((0 : Int) < j) = true := by simpa using hj0
          go_wp2_with (at_builtin; go_must (refine wpList_append_lies _ rfl _ _ _ rfl w.heap.size 60 i _ 2 16 Tryd.underlying61 hi hz0 hz1 hz2 rfl (by omega) (.slice yo 1 ycap) 1 (acs [a]) rfl ?hownq5 _ 1 _ [.int .i64 1, .int .i64 1] rfl rfl ?hnewsq5 ?h1q5 (by omega) ?h63q5 ?hbytesq5 ?hbaseq5 _ rfl ?_))
          case hownq5 => exact hor.alloc _
          try case hnewsq5 => exact World.news_of_block (heap_alloc_new wr _)
          case h1q5 => simp [Value.oneCell']
          case h63q5 => unfold maxLen; omega
          try case hbytesq5 => omega
          case hbaseq5 => first | omega | (simp; omega)
          intro g cap2 w3 hown3 hgrow hat hlt3
          have hb3 : Below w.heap.size w w3 := (hb.alloc hbsz _).grown hgrow (by simp; omega) (fun k hk => (hor.lt k hk).1)
          clear hgrow hat
          go_wp2_with fail
          go_roundw
          case rel => exact ⟨[a] ++ [(1, 1)], by simp, HF, by rw [List.length_append, acs_snoc]; exact hown3, hb3⟩
          case measure => simp [lenOf]
        · have HG : Hid (goodL nf ar nl j [a] = true) := HSO.out.good (by simp) (by simp) (by omega)
          simp only [List.length_cons, List.length_nil, Nat.zero_add] at hor
          have hj1 : ¬ (0 : Int) < j := by omega
          have hj2 : decide ((0 : Int) < j) = false := by simpa using hj0
          go_wp2_with fail
          go_ret
          exact ⟨_, rfl, [a], hor, hb, HG.out⟩
        · have HG : Hid (goodL nf ar nl j m' = true) := HSO.out.good hm8 (by omega) (by omega)
          have h2' : ¬ (m'.length : Int) < 2 := by omega
          have h2d : decide ((m'.length : Int) < 2) = false := by simp; omega
          go_wp2_with fail
          go_ret
          exact ⟨_, rfl, m', hor, hb, HG.out⟩

end Go.Proofs.YtnndoagpbcacdaaDoor
