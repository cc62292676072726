import Derived.Test.YtnndoagpbcacdaaGreatDoorL2
import Derived.Test.YtnndoagpbcacdaaGreatDoorMX5
import Derived.Test.YtnndoagpbcacdaaGreatDoorMX13
import Derived.Test.YtnndoagpbcacdaaGreatDoorMQ7
import Derived.Test.YtnndoagpbcacdaaGreatDoorZ5
import Derived.Test.YtnndoagpbcacdaaGreatDoorMC3
namespace Go.Proofs.YtnndoagpbcacdaaGreatDoor
open Go.RowKit

/-! The law's Hold: lists that are written full. -/
def AtFull (w : World) (i : Nat) (v : Value) : Prop := ∃ a n, v = .slice a n n ∧ n ≤ maxLen ∧ (n = 0 ∨ ∃ b, a = some ⟨b, 0, none⟩ ∧ ∀ k, k < n → w.cell? ⟨b, k * 2, none⟩ = some (.int .i64 ((i : Int) + 1)) ∧ w.cell? ⟨b, k * 2 + 1, none⟩ = some (.int .i64 0))
def LnFull (w : World) (i : Nat) (v : Value) : Prop := ∃ a n, v = .slice a n n ∧ n ≤ maxLen ∧ (n = 0 ∨ ∃ b, a = some ⟨b, 0, none⟩ ∧ ∀ k, k < n → ∃ a' c', w.cell? ⟨b, k, none⟩ = some (.slice a' (i + 1) c'))
def FnFull (w : World) (i : Nat) (v : Value) : Prop := ∃ a n, v = .slice a n n ∧ n ≤ maxLen ∧ (n = 0 ∨ ∃ b, a = some ⟨b, 0, none⟩ ∧ ∀ k, k < n → w.cell? ⟨b, k * 2, none⟩ = some (.int .i64 ((i : Int) + 1)) ∧ w.cell? ⟨b, k * 2 + 1, none⟩ = some (.slice none 0 0))
structure HoldSt (w : World) (hb : Nat) (av lv fv : Value) (NA NL NF : List Value) : Prop where
  blk : w.heap[hb]? = some (.cells #[av, lv, fv] 54 (0, 0))
  ra : w.ownsRow 0 76 1 av NA.length NA
  rl : w.ownsRow 0 50 1 lv NL.length NL
  rf : w.ownsRow 0 55 1 fv NF.length NF
  fa : ∀ i (h : i < NA.length), AtFull w i NA[i]
  fl : ∀ i (h : i < NL.length), LnFull w i NL[i]
  ff : ∀ i (h : i < NF.length), FnFull w i NF[i]
theorem cell_keep {w w' : World} {b k : Nat} {v : Value} (h : w.cell? ⟨b, k, none⟩ = some v) (hb : Below w.heap.size w w') : w'.cell? ⟨b, k, none⟩ = some v := by
  have hlt := World.block_lt_of_cell? w _ h
  rw [hb.cell (p := ⟨b, k, none⟩) hlt]
  exact h
theorem AtFull.keep {w w' : World} {i : Nat} {v : Value} (h : AtFull w i v) (hb : Below w.heap.size w w') : AtFull w' i v := by
  obtain ⟨a, n, h1, h2, h3⟩ := h
  refine ⟨a, n, h1, h2, ?_⟩
  rcases h3 with h3 | ⟨b, rfl, h4⟩
  · exact .inl h3
  · exact .inr ⟨b, rfl, fun k hk => ⟨cell_keep (h4 k hk).1 hb, cell_keep (h4 k hk).2 hb⟩⟩
theorem LnFull.keep {w w' : World} {i : Nat} {v : Value} (h : LnFull w i v) (hb : Below w.heap.size w w') : LnFull w' i v := by
  obtain ⟨a, n, h1, h2, h3⟩ := h
  refine ⟨a, n, h1, h2, ?_⟩
  rcases h3 with h3 | ⟨b, rfl, h4⟩
  · exact .inl h3
  · refine .inr ⟨b, rfl, fun k hk => ?_⟩
    obtain ⟨a', c', h5⟩ := h4 k hk
    exact ⟨a', c', cell_keep h5 hb⟩
theorem FnFull.keep {w w' : World} {i : Nat} {v : Value} (h : FnFull w i v) (hb : Below w.heap.size w w') : FnFull w' i v := by
  obtain ⟨a, n, h1, h2, h3⟩ := h
  refine ⟨a, n, h1, h2, ?_⟩
  rcases h3 with h3 | ⟨b, rfl, h4⟩
  · exact .inl h3
  · exact .inr ⟨b, rfl, fun k hk => ⟨cell_keep (h4 k hk).1 hb, cell_keep (h4 k hk).2 hb⟩⟩
theorem HoldSt.keep {w w' : World} {hb : Nat} {av lv fv : Value} {NA NL NF : List Value} (h : HoldSt w hb av lv fv NA NL NF) (hbl : Below w.heap.size w w') : HoldSt w' hb av lv fv NA NL NF :=
  ⟨(hbl.block hb (Array.getElem?_eq_some_iff.1 h.blk).1).trans h.blk, ownsRow_old h.ra hbl, ownsRow_old h.rl hbl, ownsRow_old h.rf hbl, fun i hi => (h.fa i hi).keep hbl, fun i hi => (h.fl i hi).keep hbl, fun i hi => (h.ff i hi).keep hbl⟩

theorem row_len {w : World} {e : TypeId} {v : Value} {n : Nat} {xs : List Value} (h : w.ownsRow 0 e 1 v n xs) : n ≤ maxLen := by
  rcases h.2 with ⟨_, rfl⟩ | ⟨_, _, _, _, _, _, h1, h2, _⟩
  · unfold maxLen; omega
  · omega

set_option maxRecDepth 100000 in
set_option maxHeartbeats 8000000 in
theorem lStill (hb : Nat) (av lv fv : Value) (NA NL NF : List Value) (w : World) (h : HoldSt w hb av lv fv NA NL NF) :
    Calls Tryz.prog 24 #[.pointer (some ⟨hb, 0, none⟩)] w fun e w' => e = .returned (.bool true) ∧ w' = w := by
  obtain ⟨hblk, hra, hrl, hrf, hfa, hfl, hff⟩ := h
  have la := row_len hra
  have ll := row_len hrl
  have lf := row_len hrf
  unfold maxLen at la ll lf
  obtain ⟨g0, g1, g2⟩ := three_cells hblk
  obtain ⟨ao, ac, rfl⟩ := own_form hra
  obtain ⟨lo, lc, rfl⟩ := own_form hrl
  obtain ⟨fo, fc, rfl⟩ := own_form hrf
  go_enter Tryz.func24, Tryz.ntmps24
  go_wp2_with fail
  go_loopw [3] (fun y wr => ∃ i : Nat, i ≤ NA.length ∧ y = .int .i64 i ∧ wr = w) (fun y _ => NA.length - (intOf y).toNat)
  case atStart => exact ⟨0, Nat.zero_le _, rfl, rfl⟩
  case round =>
    obtain ⟨i, hi, rfl, rfl⟩ := hrel
    by_cases hlt : i < NA.length
    · obtain ⟨q, cap', hq, _, hqlt⟩ := hra.form (by omega)
      cases hq
      have c0 := row_cell hra i _ (List.getElem?_eq_getElem hlt)
      have HF : Hid _ := hfa i hlt
      generalize NA[i] = v at *
      obtain ⟨a, n, rfl, hn, hcs⟩ := HF.out
      unfold maxLen at hn
      clear HF
      go_wp2_with fail
      go_loopw [4] (fun y wr' => ∃ k : Nat, k ≤ n ∧ y = .int .i64 k ∧ wr' = wr) (fun y _ => n - (intOf y).toNat)
      case atStart => exact ⟨0, Nat.zero_le _, rfl, rfl⟩
      case round =>
        obtain ⟨k, hk, rfl, rfl⟩ := hrel
        by_cases hkl : k < n
        · rcases hcs with h0 | ⟨b, rfl, hc⟩
          · omega
          obtain ⟨d0, d1⟩ := hc k hkl
          have m1 : (((i : Int) + 1) == ((i : Int) + 1)) = true := by simp
          have m2 : ((0 : Int) == 0) = true := rfl
          go_wp2_with fail
          go_roundw
          case rel => exact ⟨k + 1, hkl, by go_num, trivial⟩
          case measure => simp [intOf]; omega
        · have hkl' : ¬ (k : Int) < (n : Int) := by omega
          go_wp2_with fail
          go_roundw
          case rel => exact ⟨i + 1, hlt, by go_num, trivial⟩
          case measure => simp [intOf]; omega
    · have hlt' : ¬ (i : Int) < (NA.length : Int) := by omega
      go_wp2_with fail
      go_loopw [5] (fun y wr' => ∃ i : Nat, i ≤ NL.length ∧ y = .int .i64 i ∧ wr' = wr) (fun y _ => NL.length - (intOf y).toNat)
      case atStart => exact ⟨0, Nat.zero_le _, rfl, rfl⟩
      case round =>
        obtain ⟨i, hi, rfl, rfl⟩ := hrel
        by_cases hlt : i < NL.length
        · obtain ⟨q, cap', hq, _, hqlt⟩ := hrl.form (by omega)
          cases hq
          have c0 := row_cell hrl i _ (List.getElem?_eq_getElem hlt)
          have HF : Hid _ := hfl i hlt
          generalize NL[i] = v at *
          obtain ⟨a, n, rfl, hn, hcs⟩ := HF.out
          unfold maxLen at hn
          clear HF
          go_wp2_with fail
          go_loopw [6] (fun y wr' => ∃ k : Nat, k ≤ n ∧ y = .int .i64 k ∧ wr' = wr) (fun y _ => n - (intOf y).toNat)
          case atStart => exact ⟨0, Nat.zero_le _, rfl, rfl⟩
          case round =>
            obtain ⟨k, hk, rfl, rfl⟩ := hrel
            by_cases hkl : k < n
            · rcases hcs with h0 | ⟨b, rfl, hc⟩
              · omega
              obtain ⟨a', c', d0⟩ := hc k hkl
              have m1 : (((i + 1 : Nat) : Int) == ((i : Int) + 1)) = true := by simp
              have m2 : (((i + 1 : Nat) : Int) != ((i : Int) + 1)) = false := by simp
              go_wp2_with fail
              go_roundw
              case rel => exact ⟨k + 1, hkl, by go_num, trivial⟩
              case measure => simp [intOf]; omega
            · have hkl' : ¬ (k : Int) < (n : Int) := by omega
              go_wp2_with fail
              go_roundw
              case rel => exact ⟨i + 1, hlt, by go_num, trivial⟩
              case measure => simp [intOf]; omega
        · have hlt' : ¬ (i : Int) < (NL.length : Int) := by omega
          go_wp2_with fail
          go_loopw [7] (fun y wr' => ∃ i : Nat, i ≤ NF.length ∧ y = .int .i64 i ∧ wr' = wr) (fun y _ => NF.length - (intOf y).toNat)
          case atStart => exact ⟨0, Nat.zero_le _, rfl, rfl⟩
          case round =>
            obtain ⟨i, hi, rfl, rfl⟩ := hrel
            by_cases hlt : i < NF.length
            · obtain ⟨q, cap', hq, _, hqlt⟩ := hrf.form (by omega)
              cases hq
              have c0 := row_cell hrf i _ (List.getElem?_eq_getElem hlt)
              have HF : Hid _ := hff i hlt
              generalize NF[i] = v at *
              obtain ⟨a, n, rfl, hn, hcs⟩ := HF.out
              unfold maxLen at hn
              clear HF
              go_wp2_with fail
              go_loopw [8] (fun y wr' => ∃ k : Nat, k ≤ n ∧ y = .int .i64 k ∧ wr' = wr) (fun y _ => n - (intOf y).toNat)
              case atStart => exact ⟨0, Nat.zero_le _, rfl, rfl⟩
              case round =>
                obtain ⟨k, hk, rfl, rfl⟩ := hrel
                by_cases hkl : k < n
                · rcases hcs with h0 | ⟨b, rfl, hc⟩
                  · omega
                  obtain ⟨d0, d1⟩ := hc k hkl
                  have m1 : (((i : Int) + 1) == ((i : Int) + 1)) = true := by simp
                  have m2 : (((i : Int) + 1) != ((i : Int) + 1)) = false := by simp
                  go_wp2_with fail
                  go_roundw
                  case rel => exact ⟨k + 1, hkl, by go_num, trivial⟩
                  case measure => simp [intOf]; omega
                · have hkl' : ¬ (k : Int) < (n : Int) := by omega
                  go_wp2_with fail
                  go_roundw
                  case rel => exact ⟨i + 1, hlt, by go_num, trivial⟩
                  case measure => simp [intOf]; omega
            · have hlt' : ¬ (i : Int) < (NF.length : Int) := by omega
              go_wp2_with fail
              go_ret
              exact ⟨rfl, rfl⟩

end Go.Proofs.YtnndoagpbcacdaaGreatDoor
namespace Go.Proofs.YtnndoagpbcacdaaGreatDoor
open Go.RowKit

/-! The law's calls at the head: Read and Write. -/
def code5 : ByteArray := ⟨#[77, 32, 48, 32, 49, 10, 70, 32, 48, 32, 48, 10, 110, 53, 10]⟩
theorem code5_cd : code5.data.toList = cdL ⟨0, [⟨0, [[(1, 5)]]⟩]⟩ := by decide +kernel
theorem code5_rd : rdC code5 = some ⟨0, [⟨0, [[(1, 5)]]⟩]⟩ ∧ rdE code5 = 0 := by
  have h := code_read ⟨0, [⟨0, [[(1, 5)]]⟩]⟩ (by decide +kernel) code5 code5_cd
  have hs : ¬ 30000 < code5.size := by decide
  exact ⟨by rw [rdC, if_neg hs, h], by rw [rdE, if_neg hs, h]; rfl⟩

set_option maxHeartbeats 1000000 in
theorem lHeads4 (w : World) :
    Calls Tryz.prog 22 #[.int .i64 4] w fun e w' => e = .returned (.bool true) ∧ Below w.heap.size w w' := by
  have HC : Hid _ := xRead code5 w (by decide)
  rw [code5_rd.1, code5_rd.2] at HC
  generalize rdL code5 = rl at *
  go_enter Tryz.func22, Tryz.ntmps22
  go_wp2_with fail
  refine (show Calls _ _ _ _ _ from HC.out).mono ?_
  rintro e w1 ⟨mn, fo, fl, fc, rfl, hb1, _, hall⟩
  clear HC
  obtain ⟨_, hfo, _⟩ := hall _ rfl
  have hfl : fl = 1 := by
    obtain ⟨ys, h1, _⟩ := hfo
    obtain ⟨a, c, e⟩ := own_form h1
    cases e
    rfl
  subst hfl
  clear hall hfo
  have hb1s := hb1.size
  go_wp2_with fail
  go_ret
  exact ⟨rfl, hb1.alloc hb1s _⟩

set_option maxHeartbeats 2000000 in
theorem lHeads5 (w : World) (ht : Tab w) :
    Calls Tryz.prog 22 #[.int .i64 5] w fun e w' => e = .returned (.bool true) ∧ Below w.heap.size w w' := by
  have HZ : Hid _ := three_blocksZ w #[.int .i64 1, .int .i64 5] #[.slice (some ⟨w.heap.size, 0, none⟩) 1 1] #[.int .i64 0, .slice (some ⟨w.heap.size + 1, 0, none⟩) 1 1] 75 76 78
  have HW : Hid (∀ w3 : World, w3.heap[w.heap.size]? = some (.cells #[.int .i64 1, .int .i64 5] 75 (0, 0)) → w3.heap[w.heap.size + 1]? = some (.cells #[.slice (some ⟨w.heap.size, 0, none⟩) 1 1] 76 (0, 0)) → w3.heap[w.heap.size + 1 + 1]? = some (.cells #[.int .i64 0, .slice (some ⟨w.heap.size + 1, 0, none⟩) 1 1] 78 (0, 0)) → FunsRd w3 w3.heap.size (.slice (some ⟨w.heap.size + 1 + 1, 0, none⟩) 1 1) [⟨0, [[(1, 5)]]⟩]) := fun w3 h0 h1 h2 => by
    have l2 := (Array.getElem?_eq_some_iff.1 h2).1
    obtain ⟨a0, a1, _, _⟩ := two_cells h0
    obtain ⟨t0, t1, _, _⟩ := two_cells h2
    refine ⟨_, _, rfl, Nat.le_refl _, by decide, .inr ⟨_, 0, rfl, l2, fun j hj => ?_⟩⟩
    obtain rfl : j = 0 := by simpa using hj
    refine ⟨_, t0, t1, _, _, rfl, Nat.le_refl _, by decide, .inr ⟨_, 0, rfl, by omega, fun j hj => ?_⟩⟩
    obtain rfl : j = 0 := by simpa using hj
    refine ⟨_, by rw [cell_of_row w3 _ _ _ _ _ h1]; rfl, _, _, rfl, Nat.le_refl _, (by show 1 ≤ maxLen; decide), .inr ⟨_, 0, rfl, by omega, fun j hj => ?_⟩⟩
    obtain rfl : j = 0 := by simpa using hj
    exact ⟨a0, a1⟩
  have HC : Hid _ := xWrite ⟨0, [⟨0, [[(1, 5)]]⟩]⟩ (some ⟨w.heap.size + 1 + 1, 0, none⟩) 1 1 _ _ (Nat.le_refl _) (HW.out _ HZ.out.1 HZ.out.2.1 HZ.out.2.2.1) (ht.below HZ.out.2.2.2)
  have hE : wrE ⟨0, [⟨0, [[(1, 5)]]⟩]⟩ = 0 := by decide +kernel
  have hL : wrL ⟨0, [⟨0, [[(1, 5)]]⟩]⟩ = [77, 32, 48, 32, 49, 10, 70, 32, 48, 32, 48, 10, 110, 53, 10] := by decide +kernel
  rw [hE, hL] at HC
  have HB : Hid _ := HZ.out.2.2.2
  clear hE hL HW HZ
  go_enter Tryz.func22, Tryz.ntmps22
  go_wp2_with fail
  refine (show Calls _ _ _ _ _ from HC.out).mono ?_
  rintro e w1 ⟨x, rfl, hx, hxs, hb1⟩
  clear HC
  have hx2 : x = ⟨#[77, 32, 48, 32, 49, 10, 70, 32, 48, 32, 48, 10, 110, 53, 10]⟩ := ba_of hx
  subst hx2
  have hb1w : Below w.heap.size w w1 := HB.out.trans (hb1.mono (by simp; omega))
  clear hx hxs hb1
  go_wp2_with fail
  go_ret
  exact ⟨rfl, hb1w⟩

set_option maxRecDepth 100000 in
set_option maxHeartbeats 2000000 in
theorem lCodes5 (h : Value) (n m : Int) (s : ByteArray) (c : Cd) (fo : Option Addr) (fl fc : Nat) (w : World) (hf : FunsRd w w.heap.size (.slice fo fl fc) c.fs) (hsm : SmallC c.fs) (ht : Tab w) :
    Calls Tryz.prog 35 #[h, opV 5 n m s c.mn fo fl fc] w fun e w' => e = .returned (.bool true) ∧ Below w.heap.size w w' := by
  unfold opV
  have hA : Below w.heap.size w (w.alloc (Obj.cells #[.int .i64 5, .int .i64 n, .int .i64 m, .string s, .int .i64 c.mn, .slice fo fl fc] 59)) := (Below.refl _ _).alloc (Nat.le_refl _) _
  have HC1 : Hid _ := lLent c.mn c.fs (.slice fo fl fc) (w.alloc (Obj.cells #[.int .i64 5, .int .i64 n, .int .i64 m, .string s, .int .i64 c.mn, .slice fo fl fc] 59)) ((hf.keep hA).upZ hA.size) hsm
  have HF : Hid (FunsRd w w.heap.size (.slice fo fl fc) c.fs) := hf
  have HT : Hid (∀ w' : World, Below w.heap.size w w' → Tab w') := fun w' h => ht.below h
  clear hf hsm ht
  go_enter Tryz.func35, Tryz.ntmps35
  go_wp2_with fail
  refine (show Calls _ _ _ _ _ from HC1.out).mono ?_
  rintro e w1 ⟨eb, k1, c1, rfl, hl1, hb1⟩
  clear HC1
  have hX1 := box_later' hb1
  have hbw1 : Below w.heap.size w w1 := hA.trans (hb1.mono (by simp))
  have hbs1 := hbw1.size
  have hA1 : Below w1.heap.size w1 (w1.alloc (Obj.cells #[.int .i64 c.mn, .slice (some ⟨eb, 0, none⟩) k1 c1] 57)) := (Below.refl _ _).alloc (Nat.le_refl _) _
  have HC2 : Hid _ := xWrite c (some ⟨eb, 0, none⟩) k1 c1 _ _ (Nat.le_refl _) (FunsRd.upZ (FunsRd.keep hl1.rd hA1) hA1.size) (HT.out _ (hbw1.trans (hA1.mono hbs1)))
  have HL1 : Hid (FnLent w1 (.slice (some ⟨eb, 0, none⟩) k1 c1) c.fs) := hl1
  clear hl1 hb1
  go_wp2_with fail
  refine (show Calls _ _ _ _ _ from HC2.out).mono ?_
  rintro e w2 ⟨x, rfl, hx, hxs, hb2⟩
  clear HC2
  have hY2 := box_later' hb2
  have hb12 : Below w1.heap.size w1 w2 := hA1.trans (hb2.mono hA1.size)
  have hbw2 : Below w.heap.size w w2 := hbw1.trans (hb12.mono hbs1)
  have hbs2 := hbw2.size
  have hX2 := (hb12.block _ (by have := (Array.getElem?_eq_some_iff.1 hX1).1; exact this)).trans hX1
  have hX2l : w.heap.size < w2.heap.size := (Array.getElem?_eq_some_iff.1 hX2).1
  have hY2l : w1.heap.size < w2.heap.size := (Array.getElem?_eq_some_iff.1 hY2).1
  have g4 := cell_of_row w2 w.heap.size 4 _ _ _ hX2
  have g5 := cell_of_row w2 w.heap.size 5 _ _ _ hX2
  simp only [List.getElem?_toArray, List.getElem?_cons_succ, List.getElem?_cons_zero] at g4 g5
  obtain ⟨y0, y1, _, _⟩ := two_cells hY2
  have HC3 : Hid _ := lKept c.mn c.fs (.slice (some ⟨eb, 0, none⟩) k1 c1) (.slice fo fl fc) w2 (FnLent.keep HL1.out hb12) ((FunsRd.keep HF.out hbw2).upZ hbs2)
  have HX : Hid _ := hx
  clear hx hb2
  go_wp2_with fail
  refine (show Calls _ _ _ _ _ from HC3.out).mono ?_
  rintro e w3 ⟨rfl, hb3⟩
  clear HC3 g4 g5 y0 y1
  have hbw3 : Below w.heap.size w w3 := hbw2.trans (hb3.mono hbs2)
  have hbs3 := hbw3.size
  have hX3 := (hb3.block _ hX2l).trans hX2
  have hX3l : w.heap.size < w3.heap.size := (Array.getElem?_eq_some_iff.1 hX3).1
  have g4 := cell_of_row w3 w.heap.size 4 _ _ _ hX3
  have g5 := cell_of_row w3 w.heap.size 5 _ _ _ hX3
  simp only [List.getElem?_toArray, List.getElem?_cons_succ, List.getElem?_cons_zero] at g4 g5
  have HC4 : Hid _ := rWrite c (.slice fo fl fc) w.heap.size w3 hbs3 (FunsRd.keep HF.out hbw3)
  go_wp2_with fail
  refine (show Calls _ _ _ _ _ from HC4.out).mono ?_
  rintro e w4 ⟨y, rfl, hy, hys, hb4⟩
  clear HC4 g4 g5
  have hbw4 : Below w.heap.size w w4 := hbw3.trans (hb4.mono hbs3)
  have hxy : y = x := by rw [ba_of hy, ba_of HX.out]
  subst hxy
  clear hy HX
  generalize wrE c = er at *
  have hp : (y.toList == y.toList) = true := by simp
  have her : (er == er) = true := by simp
  go_wp2_with (go_at_call 48; refine (lNum _ _).mono ?_; rintro e w5 ⟨rfl, rfl⟩)
  go_ret
  exact ⟨rfl, hbw4⟩

end Go.Proofs.YtnndoagpbcacdaaGreatDoor
