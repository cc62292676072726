import Derived.Test.YtnndoagpbcacdaaGreatDoorMW1
import Derived.Test.YtnndoagpbcacdaaGreatDoorItoa
import Derived.Deep.DeepCutAuto
import Derived.WalkSmall
namespace Go.Proofs.YtnndoagpbcacdaaGreatDoor
open Go.RowKit

/-! Package codetext: write.go. -/
def Tab (w : World) : Prop := Lib.TabIs Tryz.prog w (Rows.checksRow.named.headD default) .u64 Lib.pow10Tab
theorem pow_glob : Tryz.prog.globalNamed (Rows.checksRow.named.headD default) = some 0 := by kernel_rfl
theorem Tab.below {w w' : World} (h : Tab w) (hb : Below w.heap.size w w') : Tab w' := by
  unfold Tab Lib.TabIs World.var? at h ⊢
  rw [pow_glob] at h ⊢
  simp only [Option.bind_some] at h ⊢
  have hlt : 0 < w.heap.size := by
    rcases Nat.lt_or_ge 0 w.heap.size with h' | h'
    · exact h'
    · rw [Array.getElem?_eq_none h'] at h; cases h
  rw [hb.block 0 hlt]
  exact h
theorem Tab.alloc {w : World} (h : Tab w) (o : Obj) : Tab (w.alloc o) := h.below ((Below.refl _ _).alloc (Nat.le_refl _) _)
theorem Tab.drew {w : World} (h : Tab w) : Tab w.drew := h.below (Below.drew (Below.refl _ _))
theorem below_growN (w : World) (k : Nat) (os : Array Obj) : Below w.heap.size w (Sort.grow (w.drewN k) os) := by
  have e : (w.drewN k).heap = w.heap := rfl
  refine (below_drewN (Below.refl _ _) k).trans ⟨rfl, rfl, rfl, by simp [Sort.grow], fun b hb => ?_⟩
  simp only [Sort.grow]
  rw [Array.getElem?_append_left (by rw [e]; exact hb)]
theorem decL_lib (n : Nat) : Lib.decDigits n = decL n := by
  fun_induction decL n with
  | case1 n h => rw [Lib.decDigits, dif_pos h]
  | case2 n h ih => rw [Lib.decDigits, dif_neg h, ih]

theorem pItoa (n : Int) (w : World) (h0 : 0 ≤ n) (h1 : n ≤ 1000000) (ht : Tab w) :
    Calls Tryz.prog 108 #[.int .i64 n] w fun e w' => ∃ x : ByteArray, e = .returned (.string x) ∧ x.data.toList = decL n.toNat ∧ Below w.heap.size w w' := by
  refine (show Calls Tryz.prog 108 #[.int .i64 n] w _ from Any.strconv_Itoa Tryz.laysM171 n (by omega) (by omega) w ht).mono ?_
  rintro e w1 ⟨rfl, k, os, rfl⟩
  refine ⟨_, rfl, ?_, below_growN w k os⟩
  simp only [Lib.itoa]
  rw [if_neg (by omega), decL_lib]

def hdL (c : UInt8) (a b : Nat) : List UInt8 := c :: 32 :: (decL a ++ 32 :: (decL b ++ [10]))
set_option maxRecDepth 100000 in
set_option maxHeartbeats 1000000 in
theorem pWritePair (c : UInt8) (a b : Int) (w : World) (a0 : 0 ≤ a) (a1 : a ≤ 999999) (b0 : 0 ≤ b) (b1 : b ≤ 999999) (ht : Tab w) :
    Calls Tryz.prog 71 #[.string ⟨#[c]⟩, .int .i64 a, .int .i64 b] w fun e w' => ∃ x : ByteArray, e = .returned (.string x) ∧ x.data.toList = hdL c a.toNat b.toNat ∧ Below w.heap.size w w' := by
  have HA : Hid _ := pItoa a w a0 (by omega) ht
  have HB : Hid _ := fun w' (h : Below w.heap.size w w') => pItoa b w' b0 (by omega) (ht.below h)
  have HLA : Hid _ := decL_len6 a.toNat (by omega)
  have HLB : Hid _ := decL_len6 b.toNat (by omega)
  go_enter Tryz.func71, Tryz.ntmps71
  go_wp2_with fail
  refine (show Calls _ _ _ _ _ from HA.out).mono ?_
  rintro e w1 ⟨x, rfl, hx, hb1⟩
  have hxs : x.size ≤ 6 := by rw [size_len, hx]; exact HLA.out
  have HX : Hid _ := hx
  clear hx
  go_wp2_with fail
  refine (show Calls _ _ _ _ _ from HB.out w1 hb1).mono ?_
  rintro e w2 ⟨y, rfl, hy, hb2⟩
  have hys : y.size ≤ 6 := by rw [size_len, hy]; exact HLB.out
  have HY : Hid _ := hy
  clear hy
  go_wp2_with fail
  go_ret
  refine ⟨_, rfl, ?_, hb1.trans (hb2.mono hb1.size)⟩
  simp only [toL_append]
  rw [HX.out, HY.out]
  simp [hdL]

set_option maxHeartbeats 1000000 in
theorem pLetterOf (k : Int) (w : World) (h1 : 1 ≤ k) (h5 : k ≤ 5) :
    Calls Tryz.prog 156 #[.int .i64 k] w fun e w' => e = .returned (.string ⟨#[letK k]⟩) ∧ w' = w := by
  have : k = 1 ∨ k = 2 ∨ k = 3 ∨ k = 4 ∨ k = 5 := by omega
  rcases this with rfl | rfl | rfl | rfl | rfl
  all_goals
    go_enter Tryz.func156, Tryz.ntmps156
    go_wp2_with fail
    go_ret
    exact ⟨rfl, rfl⟩

end Go.Proofs.YtnndoagpbcacdaaGreatDoor
namespace Go.Proofs.YtnndoagpbcacdaaGreatDoor
open Go.RowKit

theorem lnL_snoc0 (l : Ln) (h : 0 < l.length) : (((l.take 1).flatMap atL)).drop 1 = letK l[0].1 :: decL l[0].2.toNat := by
  cases l with
  | nil => simp at h
  | cons a l => simp [atL]

set_option maxRecDepth 100000 in
set_option maxHeartbeats 4000000 in
theorem pWriteAtoms (l : Ln) (v : Value) (T : Nat) (w : World) (hl : l.length ≤ 1000) (hok : ∀ a ∈ l, atOk a) (hT : T ≤ w.heap.size) (hv : AtomsRd w T v l) (ht : Tab w) :
    Calls Tryz.prog 109 #[v] w fun e w' => ∃ x : ByteArray, e = .returned (.string x) ∧ x.data.toList = lnL l ++ [10] ∧ Below w.heap.size w w' := by
  obtain ⟨ad, cap, rfl, hc1, hc2, hcs⟩ := hv
  have HOK : Hid _ := hok
  have HT : Hid (Tab w) := ht
  clear hok ht
  go_enter Tryz.func109, Tryz.ntmps109
  go_wp2_with fail
  go_loopw [3, 8] (fun x y wr => ∃ (k : Nat) (sx : ByteArray), k ≤ l.length ∧ y = .int .i64 k ∧ x = .string sx ∧ Hid (sx.data.toList = ((l.take k).flatMap atL).drop 1) ∧ sx.size ≤ 8 * k ∧ Below w.heap.size w wr) (fun _ y _ => l.length - (intOf y).toNat)
  case atStart => exact ⟨0, _, Nat.zero_le _, rfl, rfl, by simp [Hid], Nat.le_refl _, Below.refl _ _⟩
  case round =>
    obtain ⟨k, sx, hk, rfl, rfl, HSX, hsx, hb⟩ := hrel
    have hbsz := hb.size
    by_cases hlt : k < l.length
    · rcases hcs with h0 | ⟨b, off, rfl, hbl, hcell⟩
      · omega
      obtain ⟨c0, c1⟩ := hcell k hlt
      rw [← hb.cell (p := ⟨b, off + k * 2, none⟩) (show b < _ by omega)] at c0
      rw [← hb.cell (p := ⟨b, off + k * 2 + 1, none⟩) (show b < _ by omega)] at c1
      obtain ⟨o1, o2, o3, o4⟩ := HOK.out l[k] (List.getElem_mem hlt)
      have HA : Hid (((l.take (k + 1)).flatMap atL) = (l.take k).flatMap atL ++ (32 :: letK l[k].1 :: decL l[k].2.toNat)) := ln_snoc l k hlt
      generalize hp : l[k] = p at *
      clear hp
      obtain ⟨pk, pn⟩ := p
      simp only at o1 o2 o3 o4 c0 c1
      have HD : Hid _ := decL_len6 pn.toNat (by omega)
      have HL : Hid _ := fun w => pLetterOf pk w o1 o2
      have HI : Hid (Calls Tryz.prog 108 #[.int .i64 pn] (wr.alloc (Obj.cells #[.int .i64 pk, .int .i64 pn] 75)).drew fun e w1 => ∃ y : ByteArray, e = .returned (.string y) ∧ w1.cell? ⟨wr.heap.size, 0, none⟩ = some (.int .i64 pk) ∧ y.size ≤ 6 ∧ Hid (y.data.toList = decL pn.toNat ∧ Below w.heap.size w w1)) := by
        refine (pItoa pn _ o3 (by omega) (((Tab.below HT.out hb).alloc _).drew)).mono ?_
        rintro e w1 ⟨y, rfl, hy, hb1⟩
        refine ⟨y, rfl, ?_, by rw [size_len, hy]; exact HD.out, hy, (Below.drew (hb.alloc hb.size _)).trans (hb1.mono (by simp [heap_drew]; omega))⟩
        rw [cell_of_row w1 wr.heap.size 0 _ _ _ (box_later hb1)]; rfl
      clear hcell o1 o2 o3 o4
      by_cases hm0 : (0 : Int) < (k : Int)
      · go_wp2_with fail
        go_region_with (first
          | (go_at_call 156; go_must (refine (show Calls _ _ _ _ _ from HL.out _).mono ?_); rintro e w1 ⟨rfl, rfl⟩)
          | (go_at_call 108; go_must (refine (show Calls _ _ _ _ _ from HI.out).mono ?_); rintro e w1 ⟨y, rfl, y0, hys, HYB⟩))
        all_goals
          go_wp2_with fail
          go_roundw
          case rel =>
            refine ⟨k + 1, _, hlt, by go_num, rfl, ?_, ?_, HYB.out.2⟩
            · show _ = _
              simp only [toL_append]
              rw [HYB.out.1, HSX.out, HA.out, sp_drop _ _ (ln_ne l k (by omega) (by omega))]
              simp
            · simp only [ByteArray.size_append]
              simp only [ByteArray.size]
              simp
              have : sx.data.size = sx.size := rfl
              have : y.data.size = y.size := rfl
              omega
          case measure => simp [intOf]; omega
      · go_wp2_with fail
        go_region_with (first
          | (go_at_call 156; go_must (refine (show Calls _ _ _ _ _ from HL.out _).mono ?_); rintro e w1 ⟨rfl, rfl⟩)
          | (go_at_call 108; go_must (refine (show Calls _ _ _ _ _ from HI.out).mono ?_); rintro e w1 ⟨y, rfl, y0, hys, HYB⟩))
        all_goals
          go_wp2_with fail
          go_roundw
          case rel =>
            refine ⟨k + 1, _, hlt, by go_num, rfl, ?_, ?_, HYB.out.2⟩
            · show _ = _
              simp only [toL_append]
              have hk0 : k = 0 := by omega
              rw [HYB.out.1, HSX.out, HA.out, hk0]
              simp
            · simp only [ByteArray.size_append]
              simp only [ByteArray.size]
              simp
              have : sx.data.size = sx.size := rfl
              have : y.data.size = y.size := rfl
              omega
          case measure => simp [intOf]; omega
    · have hk2 : k = l.length := by omega
      subst hk2
      rw [List.take_length] at HSX
      go_wp2_with fail
      go_ret
      refine ⟨_, rfl, ?_, hb⟩
      simp only [toL_append]
      rw [HSX.out]
      rfl

end Go.Proofs.YtnndoagpbcacdaaGreatDoor
namespace Go.Proofs.YtnndoagpbcacdaaGreatDoor
open Go.RowKit

def lnT (l : Ln) : List UInt8 := lnL l ++ [10]
def tpL (t : Tp) : List UInt8 := hdL 70 t.ar.toNat (t.ls.length - 1) ++ t.ls.flatMap lnT
def cdL (c : Cd) : List UInt8 := hdL 77 c.mn.toNat c.fs.length ++ c.fs.flatMap tpL
def lnOk (l : Ln) : Prop := l.length ≤ 8 ∧ ∀ a ∈ l, atOk a
def tpOk (t : Tp) : Prop := 0 ≤ t.ar ∧ t.ar ≤ 6 ∧ 1 ≤ t.ls.length ∧ t.ls.length ≤ 13 ∧ ∀ l ∈ t.ls, lnOk l
theorem lnT_len {l : Ln} (h : lnOk l) : (lnT l).length ≤ 65 := by
  have := flat_len l h.2
  have := h.1
  simp only [lnT, lnL, List.length_append, List.length_drop, List.length_cons, List.length_nil]
  omega
theorem hdL_len (c : UInt8) (a b : Nat) (ha : a ≤ 999999) (hb : b ≤ 999999) : (hdL c a b).length ≤ 16 := by
  have := decL_len6 a ha
  have := decL_len6 b hb
  simp [hdL]; omega
theorem flat_len_le {α : Type} (f : α → List UInt8) (m : Nat) (l : List α) (h : ∀ a ∈ l, (f a).length ≤ m) : (l.flatMap f).length ≤ l.length * m := by
  induction l with
  | nil => simp
  | cons a l ih =>
    have h1 := h a (by simp)
    have h2 := ih (fun x hx => h x (by simp [hx]))
    rw [List.flatMap_cons, List.length_append, List.length_cons, Nat.succ_mul]; omega
theorem tpL_len {t : Tp} (h : tpOk t) : (tpL t).length ≤ 861 := by
  obtain ⟨h1, h2, h3, h4, h5⟩ := h
  have e1 := hdL_len 70 t.ar.toNat (t.ls.length - 1) (by omega) (by omega)
  have e2 := flat_len_le lnT 65 t.ls (fun a ha => lnT_len (h5 a ha))
  unfold tpL
  rw [List.length_append]
  have : t.ls.length * 65 ≤ 13 * 65 := Nat.mul_le_mul_right _ h4
  omega
theorem flat_snoc {α : Type} (f : α → List UInt8) (l : List α) (k : Nat) (h : k < l.length) : (l.take (k + 1)).flatMap f = (l.take k).flatMap f ++ f l[k] := by
  rw [List.take_succ_eq_append_getElem h, List.flatMap_append]; simp

theorem goodA_ok {nf : Nat} {ar : Int} {nl j : Nat} {a : Int × Int} (h : goodA nf ar nl j a = true) (hn : nf ≤ 16) (ha : ar ≤ 6) (hl : nl ≤ 13) : atOk a := by
  simp only [goodA, Bool.and_eq_true, decide_eq_true_eq] at h
  obtain ⟨h1, h2, _⟩ := h
  unfold boundF at h2
  unfold atOk
  split at h2
  · omega
  split at h2
  · omega
  split at h2
  · omega
  split at h2
  · omega
  split at h2
  · omega
  omega
theorem goodL_ok {nf : Nat} {ar : Int} {nl j : Nat} {l : Ln} (h : goodL nf ar nl j l = true) (hn : nf ≤ 16) (ha : ar ≤ 6) (hl : nl ≤ 13) : lnOk l := by
  simp only [goodL, Bool.and_eq_true, decide_eq_true_eq, List.all_eq_true] at h
  exact ⟨h.1, fun a hx => goodA_ok (h.2.2.2.2 a hx) hn ha hl⟩
theorem goodLs_mem {nf : Nat} {ar : Int} {nl : Nat} : ∀ {L : List Ln} {j : Nat}, goodLs nf ar nl j L = true → ∀ l ∈ L, ∃ i, goodL nf ar nl i l = true
  | [], _, _, l, hl => by simp at hl
  | x :: r, j, h, l, hl => by
    rw [goodLs, Bool.and_eq_true] at h
    rcases List.mem_cons.1 hl with rfl | hl
    · exact ⟨j, h.1⟩
    · exact goodLs_mem h.2 l hl
theorem goodT_ok {nf : Nat} {t : Tp} (h : goodT nf t = true) (hn : nf ≤ 16) : tpOk t := by
  simp only [goodT, Bool.and_eq_true, decide_eq_true_eq] at h
  obtain ⟨h1, h2, h3, h4, h5⟩ := h
  refine ⟨h1, h2, h3, h4, fun l hl => ?_⟩
  obtain ⟨i, hi⟩ := goodLs_mem h5 l hl
  exact goodL_ok hi hn h2 h4

set_option maxRecDepth 100000 in
set_option maxHeartbeats 4000000 in
theorem pWriteTemplate (t : Tp) (lv : Value) (T : Nat) (w : World) (hok : tpOk t) (hT : T ≤ w.heap.size) (hv : LinesRd w T lv t.ls) (ht : Tab w) :
    Calls Tryz.prog 72 #[.agg #[.int .i64 t.ar, lv]] w fun e w' => ∃ x : ByteArray, e = .returned (.string x) ∧ x.data.toList = tpL t ∧ Below w.heap.size w w' := by
  obtain ⟨ar, ls⟩ := t
  obtain ⟨lo, lcap, hlv, hc1, hc2, hcs⟩ := hv
  obtain ⟨k1, k2, k3, k4, k5⟩ := hok
  simp only at *
  subst hlv
  unfold maxLen at hc2
  have HT : Hid (Tab w) := ht
  have HK : Hid _ := k5
  clear ht k5
  have HP : Hid _ := pWritePair 70 ar ((ls.length : Int) - 1) (w.alloc (Obj.cells #[.int .i64 ar, .slice lo ls.length lcap] 78)) k1 (by omega) (by omega) (by omega) (Tab.alloc HT.out _)
  have HPL : Hid _ := hdL_len 70 ar.toNat ((ls.length : Int) - 1).toNat (by omega) (by omega)
  have HE : Hid (((ls.length : Int) - 1).toNat = ls.length - 1) := by show _ = _; omega
  go_enter Tryz.func72, Tryz.ntmps72
  go_wp2_with fail
  refine (show Calls _ _ _ _ _ from HP.out).mono ?_
  rintro e w1 ⟨x, rfl, hx, hb1⟩
  clear HP
  have hxs : x.size ≤ 16 := by rw [size_len, hx]; exact HPL.out
  rw [HE.out] at hx
  have HX : Hid _ := hx
  clear hx HPL HE
  have hbx := box_later' hb1
  have hbw : Below w.heap.size w w1 := ((Below.refl _ _).alloc (Nat.le_refl _) _).trans (hb1.mono (by simp))
  have B1 := cell_of_row w1 w.heap.size 1 _ _ _ hbx
  simp only [List.getElem?_toArray, List.getElem?_cons_succ, List.getElem?_cons_zero] at B1
  go_wp2_with fail
  go_loopw [3, 17] (fun x y wr => ∃ (k : Nat) (sx : ByteArray), k ≤ ls.length ∧ y = .int .i64 k ∧ x = .string sx ∧ Hid (sx.data.toList = hdL 70 ar.toNat (ls.length - 1) ++ (ls.take k).flatMap lnT) ∧ sx.size ≤ 16 + 65 * k ∧ Below w.heap.size w wr) (fun _ y _ => ls.length - (intOf y).toNat)
  case atStart => exact ⟨0, x, Nat.zero_le _, rfl, rfl, by rw [List.take_zero, List.flatMap_nil, List.append_nil]; exact HX.out, by omega, hbw⟩
  case round =>
    clear B1 hbx hbw hb1
    obtain ⟨k, sx, hk, rfl, rfl, HSX, hsx, hb⟩ := hrel
    have hbsz := hb.size
    by_cases hlt : k < ls.length
    · rcases hcs with h0 | ⟨b, off, rfl, hbl, hcell⟩
      · omega
      obtain ⟨lv, c0, hat⟩ := hcell k hlt
      rw [← hb.cell (p := ⟨b, off + k, none⟩) (show b < _ by omega)] at c0
      have hlk := HK.out ls[k] (List.getElem_mem hlt)
      have HA : Hid _ := flat_snoc lnT ls k hlt
      have HN : Hid _ := lnT_len hlk
      have HC : Hid _ := pWriteAtoms ls[k] lv T wr (by have := hlk.1; omega) hlk.2 (by omega) (hat.keep (hb.mono hT)) (Tab.below HT.out hb)
      have hat' := hat
      obtain ⟨la, lc, rfl, hl1, hl2, _⟩ := hat'
      unfold maxLen at hl2
      clear hcell hat hlk
      go_wp2_with fail
      refine (show Calls _ _ _ _ _ from HC.out).mono ?_
      rintro e w2 ⟨z, rfl, hz, hb2⟩
      clear HC
      have hzs : z.size ≤ 65 := by rw [size_len, hz]; exact HN.out
      have HZ : Hid _ := hz
      clear hz
      go_wp2_with fail
      go_roundw
      case rel =>
        refine ⟨k + 1, _, hlt, by go_num, rfl, ?_, by rw [ByteArray.size_append]; omega, hb.trans (hb2.mono hbsz)⟩
        show _ = _
        simp only [toL_append]
        rw [HSX.out, HZ.out, HA.out, List.append_assoc]
        rfl
      case measure => simp [intOf]; omega
    · have hk2 : k = ls.length := by omega
      subst hk2
      rw [List.take_length] at HSX
      go_wp2_with fail
      go_ret
      exact ⟨sx, rfl, HSX.out, hb⟩

/-- What Write answers. -/
def wrL (c : Cd) : List UInt8 := if goodC c then cdL c else []
def wrE (c : Cd) : Int := if goodC c then 0 else 7
theorem goodC_ok {c : Cd} (h : goodC c = true) : 1 ≤ c.fs.length ∧ c.fs.length ≤ 16 ∧ 0 ≤ c.mn ∧ c.mn < c.fs.length ∧ ∀ t ∈ c.fs, tpOk t := by
  simp only [goodC, Bool.and_eq_true, decide_eq_true_eq, List.all_eq_true] at h
  obtain ⟨h1, h2, h3, h4, h5, _⟩ := h
  exact ⟨h1, h2, h3, h4, fun t ht => goodT_ok (h5 t ht) h2⟩

set_option maxRecDepth 100000 in
set_option maxHeartbeats 4000000 in
theorem pWrite (c : Cd) (fv : Value) (T : Nat) (w : World) (hT : T ≤ w.heap.size) (hf : FunsRd w T fv c.fs) (ht : Tab w) :
    Calls Tryz.prog 40 #[.agg #[.int .i64 c.mn, fv]] w fun e w' => ∃ x : ByteArray, e = .returned (.tuple #[.string x, .int .i64 (wrE c)]) ∧ x.data.toList = wrL c ∧ x.size ≤ 20000 ∧ Below w.heap.size w w' := by
  have HG : Hid _ := pIsGood c fv T (w.alloc (Obj.cells #[.int .i64 c.mn, fv] 57)) (by simp; omega) (hf.keep ((Below.refl _ _).alloc hT _))
  have HT : Hid (Tab w) := ht
  clear ht
  cases hg : goodC c
  · have HR1 : Hid (wrE c = 7) := by simp [Hid, wrE, hg]
    have HR2 : Hid (wrL c = []) := by simp [Hid, wrL, hg]
    rw [HR1.out]
    rw [hg] at HG
    clear hg HR1
    obtain ⟨fo, fcap, hfv, hc1, hc2, hcs⟩ := hf
    subst hfv
    unfold maxLen at hc2
    go_enter Tryz.func40, Tryz.ntmps40
    go_wp2_with fail
    refine (show Calls _ _ _ _ _ from HG.out).mono ?_
    rintro e w1 ⟨rfl, hb1⟩
    go_wp2_with fail
    go_ret2
    exact ⟨_, rfl, HR2.out.symm, by decide, ((Below.refl _ _).alloc (Nat.le_refl _) _).trans (hb1.mono (by simp))⟩
  have HR1 : Hid (wrE c = 0) := by simp [Hid, wrE, hg]
  have HR2 : Hid (wrL c = cdL c) := by simp [Hid, wrL, hg]
  rw [HR1.out]
  rw [hg] at HG
  obtain ⟨k1, k2, k3, k4, k5⟩ := goodC_ok hg
  clear hg HR1
  obtain ⟨mn, fs⟩ := c
  obtain ⟨fo, fcap, hfv, hc1, hc2, hcs⟩ := hf
  simp only at *
  subst hfv
  unfold maxLen at hc2
  have HK : Hid _ := k5
  clear k5
  have HPL : Hid _ := hdL_len 77 mn.toNat (fs.length : Int).toNat (by omega) (by omega)
  go_enter Tryz.func40, Tryz.ntmps40
  go_wp2_with fail
  refine (show Calls _ _ _ _ _ from HG.out).mono ?_
  rintro e w1 ⟨rfl, hb1⟩
  clear HG
  have hbx := box_later' hb1
  have hbw : Below w.heap.size w w1 := ((Below.refl _ _).alloc (Nat.le_refl _) _).trans (hb1.mono (by simp))
  have hwlt : w.heap.size < w1.heap.size := (Array.getElem?_eq_some_iff.1 hbx).1
  have HP : Hid _ := pWritePair 77 mn fs.length w1 k3 (by omega) (by omega) (by omega) (Tab.below HT.out hbw)
  have B0 := cell_of_row w1 w.heap.size 0 _ _ _ hbx
  have B1 := cell_of_row w1 w.heap.size 1 _ _ _ hbx
  simp only [List.getElem?_toArray, List.getElem?_cons_succ, List.getElem?_cons_zero] at B0 B1
  go_wp2_with fail
  refine (show Calls _ _ _ _ _ from HP.out).mono ?_
  rintro e w2 ⟨x, rfl, hx, hb2⟩
  clear HP B0 B1
  have hxs : x.size ≤ 16 := by rw [size_len, hx]; exact HPL.out
  rw [Int.toNat_natCast] at hx
  have HX : Hid _ := hx
  clear hx HPL
  have hbx2 := (hb2.block w.heap.size hwlt).trans hbx
  have hbw2 : Below w.heap.size w w2 := hbw.trans (hb2.mono hbw.size)
  have B1 := cell_of_row w2 w.heap.size 1 _ _ _ hbx2
  simp only [List.getElem?_toArray, List.getElem?_cons_succ, List.getElem?_cons_zero] at B1
  go_wp2_with fail
  go_loopw [4, 20] (fun x y wr => ∃ (k : Nat) (sx : ByteArray), k ≤ fs.length ∧ y = .int .i64 k ∧ x = .string sx ∧ Hid (sx.data.toList = hdL 77 mn.toNat fs.length ++ (fs.take k).flatMap tpL) ∧ sx.size ≤ 16 + 861 * k ∧ Below w.heap.size w wr) (fun _ y _ => fs.length - (intOf y).toNat)
  case atStart => exact ⟨0, x, Nat.zero_le _, rfl, rfl, by rw [List.take_zero, List.flatMap_nil, List.append_nil]; exact HX.out, by omega, hbw2⟩
  case round =>
    clear B1 hbx hbw hb1 hbx2 hbw2 hb2 hwlt HX hxs
    obtain ⟨k, sx, hk, rfl, rfl, HSX, hsx, hb⟩ := hrel
    have hbsz := hb.size
    by_cases hlt : k < fs.length
    · rcases hcs with h0 | ⟨b, off, rfl, hbl, hcell⟩
      · omega
      obtain ⟨lv, c0, c1, hat⟩ := hcell k hlt
      rw [← hb.cell (p := ⟨b, off + k * 2, none⟩) (show b < _ by omega)] at c0
      rw [← hb.cell (p := ⟨b, off + k * 2 + 1, none⟩) (show b < _ by omega)] at c1
      have hlk := HK.out fs[k] (List.getElem_mem hlt)
      have HA : Hid _ := flat_snoc tpL fs k hlt
      have HN : Hid _ := tpL_len hlk
      have HC : Hid _ := pWriteTemplate fs[k] lv T (wr.alloc (Obj.cells #[.int .i64 fs[k].ar, lv] 78)) hlk (by simp; omega) ((hat.keep (hb.mono hT)).keep ((Below.refl _ _).alloc (by omega) _)) ((Tab.below HT.out hb).alloc _)
      have hat' := hat
      obtain ⟨la, lc, rfl, hl1, hl2, _⟩ := hat'
      unfold maxLen at hl2
      clear hcell hat hlk
      go_wp2_with fail
      refine (show Calls _ _ _ _ _ from HC.out).mono ?_
      rintro e w2 ⟨z, rfl, hz, hb2⟩
      clear HC
      have hzs : z.size ≤ 861 := by rw [size_len, hz]; exact HN.out
      have HZ : Hid _ := hz
      clear hz
      go_wp2_with fail
      go_roundw
      case rel =>
        refine ⟨k + 1, _, hlt, by go_num, rfl, ?_, by rw [ByteArray.size_append]; omega, (hb.alloc hb.size _).trans (hb2.mono (by simp; omega))⟩
        show _ = _
        simp only [toL_append]
        rw [HSX.out, HZ.out, HA.out, List.append_assoc]
      case measure => simp [intOf]; omega
    · have hk2 : k = fs.length := by omega
      subst hk2
      rw [List.take_length] at HSX
      go_wp2_with fail
      go_ret2
      exact ⟨sx, rfl, HSX.out.trans HR2.out.symm, by omega, hb⟩

end Go.Proofs.YtnndoagpbcacdaaGreatDoor
