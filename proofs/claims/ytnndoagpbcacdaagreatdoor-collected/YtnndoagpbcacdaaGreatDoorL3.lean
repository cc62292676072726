import Derived.Test.YtnndoagpbcacdaaGreatDoorP2
import Derived.Test.YtnndoagpbcacdaaGreatDoorL2
namespace Go.Proofs.YtnndoagpbcacdaaGreatDoor
open Go.RowKit

theorem shw_eq (s : ByteArray) : shw s = (if (chk s).2 = 0 then progL (cAll (toksF s 0)).ds else []) := rfl
theorem ba_data_inj {a b : ByteArray} (h : a.data.toList = b.data.toList) : a = b := ba_toList_inj (by rw [ByteArray.toList_eq, ByteArray.toList_eq]; exact h)

set_option maxHeartbeats 1000000 in
theorem lTexts2 (n m : Int) (s : ByteArray) (c : Int) (fo : Option Addr) (fl fc : Nat) (w : World) (hs : s.size ≤ maxLen) :
    Calls Tryz.prog 34 #[opV 2 n m s c fo fl fc] w fun e w' => e = .returned (.bool true) ∧ Below w.heap.size w w' := by
  unfold opV
  go_enter Tryz.func34, Tryz.ntmps34
  go_wp2_with fail
  refine (xShow s _ hs (fun h => ⟨(prog_of s h).2.2.2.2, (prog_of s h).2.2.2.1⟩)).mono ?_
  rintro e w1 ⟨x, rfl, hx, hb1⟩
  have hbx := box_later' hb1
  have g3 := cell_of_row w1 w.heap.size 3 _ _ _ hbx
  simp only [List.getElem?_toArray, List.getElem?_cons_succ, List.getElem?_cons_zero] at g3
  have hb1' : Below w.heap.size w w1 := ((Below.refl _ _).alloc (Nat.le_refl _) _).trans (hb1.mono (by simp))
  clear hb1 hbx
  have HX : Hid _ := hx
  clear hx
  go_wp2_with fail
  refine (rShow s (cAll (toksF s 0)).ds _ hs (fun h => ⟨(prog_of s h).1, (prog_of s h).2.1, (prog_of s h).2.2.1, (prog_of s h).2.2.2.1⟩)).mono ?_
  rintro e w2 ⟨y, rfl, hy, hb2⟩
  have hb2' := hb1'.trans (hb2.mono hb1'.size)
  have hxy : y = x := ba_data_inj (by rw [hy, HX.out, shw_eq])
  subst hxy
  clear hb2 hb1' g3 hy HX
  generalize (chk s).2 = er
  have hp : (y.toList == y.toList) = true := by simp
  have her : (er == er) = true := by simp
  go_wp2_with (go_at_call 48; refine (lNum _ _).mono ?_; rintro e w3 ⟨rfl, rfl⟩)
  go_ret
  exact ⟨rfl, hb2'⟩

set_option maxHeartbeats 1000000 in
theorem lPlays2 (h : Value) (n m : Int) (s : ByteArray) (c : Int) (fo : Option Addr) (fl fc : Nat) (w : World) (hs : s.size ≤ maxLen) :
    Calls Tryz.prog 23 #[h, opV 2 n m s c fo fl fc] w fun e w' => e = .returned (.bool true) ∧ Below w.heap.size w w' := by
  unfold opV
  go_enter Tryz.func23, Tryz.ntmps23
  go_wp2_with fail
  refine (lTexts2 n m s c fo fl fc _ hs).mono ?_
  rintro e w1 ⟨rfl, hb1⟩
  have hb1' : Below w.heap.size w w1 := ((Below.refl _ _).alloc (Nat.le_refl _) _).trans (hb1.mono (by simp))
  clear hb1
  go_wp2_with fail
  go_ret
  exact ⟨rfl, hb1'⟩

def headT : ByteArray := ⟨#[109, 97, 105, 110, 61, 102, 40, 48, 48, 55, 41, 59, 102, 32, 120, 61, 120, 59]⟩
theorem chk_head2 : (chk headT).2 = 0 := by decide +kernel
theorem shw_head2 : shw headT = [109, 97, 105, 110, 32, 61, 32, 102, 32, 55, 59, 10, 102, 32, 120, 32, 61, 32, 120, 59, 10] := by decide +kernel

set_option maxHeartbeats 1000000 in
theorem lHeads2 (w : World) :
    Calls Tryz.prog 22 #[.int .i64 2] w fun e w' => e = .returned (.bool true) ∧ Below w.heap.size w w' := by
  have HC : Hid _ := fun w => xShow headT w (by decide) (fun h => ⟨(prog_of headT h).2.2.2.2, (prog_of headT h).2.2.2.1⟩)
  go_enter Tryz.func22, Tryz.ntmps22
  go_wp2_with fail
  refine (show Calls _ _ _ _ _ from HC.out _).mono ?_
  rw [chk_head2, shw_head2]
  clear HC
  rintro e w1 ⟨x, rfl, hx, hb1⟩
  have hx2 : x = ⟨#[109, 97, 105, 110, 32, 61, 32, 102, 32, 55, 59, 10, 102, 32, 120, 32, 61, 32, 120, 59, 10]⟩ := ba_data_inj hx
  subst hx2
  clear hx
  go_wp2_with fail
  go_ret
  exact ⟨rfl, hb1⟩

set_option maxHeartbeats 4000000 in
/-- A script over one kind that holds no lists. -/
theorem lUpToK (K : Int) (hK1 : 1 ≤ K) (hK7 : K ≤ 7)
    (hheads : ∀ w : World, Calls Tryz.prog 22 #[.int .i64 K] w fun e w' => e = .returned (.bool true) ∧ Below w.heap.size w w')
    (hplays : ∀ (h : Value) (n m : Int) (s : ByteArray) (c : Int) (fo : Option Addr) (fl fc : Nat) (w : World), s.size ≤ maxLen → Calls Tryz.prog 23 #[h, opV K n m s c fo fl fc] w fun e w' => e = .returned (.bool true) ∧ Below w.heap.size w w')
    (a : Option Addr) (len cap : Nat) (w : World) (hops : IsOps w a len cap) :
    Calls Tryz.prog 12 #[.slice a len cap, .int .i64 K, .int .i64 K] w fun e w' => e = .returned (.int .i64 (-1)) ∧ Below w.heap.size w w' := by
  have HH : Hid _ := hheads
  have HPL : Hid _ := hplays
  clear hheads hplays
  have hlen : len ≤ 9223372036854775807 := by
    rcases hops with rfl | ⟨b, off, _, _, h1, h2, _⟩
    · omega
    · unfold maxLen at h2; omega
  go_enter Tryz.func12, Tryz.ntmps12
  go_wp2_with fail
  go_loopw [7] (fun v wr => ∃ k : Int, (Hid (k = K) ∨ Hid (k = K + 1)) ∧ v = .int .i64 k ∧ Below w.heap.size w wr) (fun v _ => (K + 1 - intOf v).toNat)
  case atStart => exact ⟨K, .inl rfl, rfl, Below.refl _ _⟩
  case round =>
    obtain ⟨k, hk, rfl, hb⟩ := hrel
    rcases hk with hk | hk
    · have hkl : k ≤ K := by have := hk.out; omega
      have hkl7 : k ≤ 7 := by omega
      have hkl1 : 1 ≤ k := by have := hk.out; omega
      have HH2 : Hid _ := HH.out wr
      rw [← hk.out] at HH2
      have hm : (K + 1 - (k + 1)).toNat < (K + 1 - k).toNat := by have := hk.out; omega
      have HM : Hid _ := hm
      clear hm
      go_wp2_with fail
      refine (show Calls _ _ _ _ _ from HH2.out).mono ?_
      rintro e w1 ⟨rfl, hb1⟩
      go_wp2_with fail
      go_roundw
      case rel => exact ⟨k + 1, .inr (by have := hk.out; show _ = _; omega), rfl, hb.trans (hb1.mono hb.size)⟩
      case measure => simpa [intOf] using HM.out
    · have hkl : ¬ k ≤ K := by have := hk.out; omega
      go_wp2_with fail
      obtain ⟨bh, hbh⟩ : ∃ bh, wr.heap.size = bh := ⟨_, rfl⟩
      have hbsz := hb.size
      have hH0 : Hold0 (wr.alloc (Obj.cells #[.slice none 0 0, .slice none 0 0, .slice none 0 0] 54)) bh := by rw [← hbh]; exact heap_alloc_new wr _
      have hb0 : Below w.heap.size w (wr.alloc (Obj.cells #[.slice none 0 0, .slice none 0 0, .slice none 0 0] 54)) := hb.alloc hbsz _
      rw [hbh]
      clear hbh hb hbsz
      go_loopw [10] (fun v wx => ∃ i : Nat, i ≤ len ∧ v = .int .i64 i ∧ Below w.heap.size w wx ∧ Hold0 wx bh) (fun v _ => len - (intOf v).toNat)
      case atStart => exact ⟨0, Nat.zero_le _, rfl, hb0, hH0⟩
      case round =>
        clear hb0 hH0
        obtain ⟨i, hi, rfl, hb, hH⟩ := hrel
        by_cases hlt : i < len
        · rcases hops with h0 | ⟨b, off, rfl, hbl, hcap, hml, hcells⟩
          · omega
          · obtain ⟨k2, n, m, s, c, fo, fl, fc, hs, x0, x1, x2, x3, x4, x5⟩ := hcells i hlt
            rw [← hb.cell (p := ⟨b, off + i * 6, none⟩) hbl] at x0
            rw [← hb.cell (p := ⟨b, off + i * 6 + 1, none⟩) hbl] at x1
            rw [← hb.cell (p := ⟨b, off + i * 6 + 2, none⟩) hbl] at x2
            rw [← hb.cell (p := ⟨b, off + i * 6 + 3, none⟩) hbl] at x3
            rw [← hb.cell (p := ⟨b, off + i * 6 + 4, none⟩) hbl] at x4
            rw [← hb.cell (p := ⟨b, off + i * 6 + 5, none⟩) hbl] at x5
            have hbh : bh < wr.heap.size := (Array.getElem?_eq_some_iff.1 hH).1
            have hbsz := hb.size
            clear hcells
            by_cases hk1 : K ≤ k2
            · by_cases hk2 : k2 ≤ K
              · have hke : k2 = K := by omega
                have HP2 : Hid _ := HPL.out (.pointer (some ⟨bh, 0, none⟩)) n m s c fo fl fc (wr.alloc (Obj.cells #[.int .i64 k2, .int .i64 n, .int .i64 m, .string s, .int .i64 c, .slice fo fl fc] 59)) hs
                rw [← hke] at HP2
                clear hke
                go_wp2_with fail
                refine (show Calls _ _ _ _ _ from HP2.out).mono ?_
                clear HP2
                rintro e w1 ⟨rfl, hb1⟩
                have hH1 : Hold0 w1 bh := (hb1.block bh (by simp; omega)).trans ((Below.heap_alloc _ _ bh (by omega)).trans hH)
                have hb1' : Below w.heap.size w w1 := (hb.alloc hbsz _).trans (hb1.mono (by simp; omega))
                clear hb1 x0 x1 x2 x3 x4 x5
                go_wp2_with fail
                refine (lStill0 bh _ hH1).mono ?_
                rintro e w2 ⟨rfl, rfl⟩
                go_wp2_with fail
                go_roundw
                case rel => exact ⟨i + 1, by omega, by go_num, hb1', hH1⟩
                case measure => simp [intOf]; omega
              · go_wp2_with fail
                go_roundw
                case rel => exact ⟨i + 1, by omega, by go_num, hb.alloc hbsz _, (Below.heap_alloc _ _ bh (by omega)).trans hH⟩
                case measure => simp [intOf]; omega
            · have hd : decide (K ≤ k2) = false := by simpa using hk1
              go_wp2_with fail
              go_roundw
              case rel => exact ⟨i + 1, by omega, by go_num, hb.alloc hbsz _, (Below.heap_alloc _ _ bh (by omega)).trans hH⟩
              case measure => simp [intOf]; omega
        · go_wp2_with fail
          go_ret
          exact ⟨rfl, hb⟩

set_option maxHeartbeats 1000000 in
theorem lShows (a : Option Addr) (len cap : Nat) (w : World) (hops : IsOps w a len cap) :
    Calls Tryz.prog 4 #[.slice a len cap] w fun e w' => e = .returned (.bool true) ∧ Below w.heap.size w w' := by
  go_enter Tryz.func4, Tryz.ntmps4
  go_wp2_with fail
  refine (lUpToK 2 (by decide) (by decide) lHeads2 lPlays2 a len cap _ hops).mono ?_
  rintro e w1 ⟨rfl, hb1⟩
  go_wp2_with fail
  go_ret
  exact ⟨rfl, hb1⟩

end Go.Proofs.YtnndoagpbcacdaaGreatDoor
