import Derived.ProofKit
import Derived.OpenShut
import Derived.ShutString
import Derived.ChangeOld
import Derived.Below
import Derived.Deep.Slices
import Derived.Lib.SmallJoins
import Derived.Test.YtnndoagpbcacdaaGreatDoorTie
import Derived.Test.YtnndoagpbcacdaaGreatDoorCards
import Derived.LaidMore
import Derived.Stop.Joined
import Derived.SevenTiedAt
import Derived.Lib.LaidTab
import Derived.Test.YtnndoagpbcacdaaGreatDoorMB1
import Derived.Test.YtnndoagpbcacdaaGreatDoorMW5
namespace Go.Proofs.YtnndoagpbcacdaaGreatDoor
open Go.ChangeShapes Go.WideShapes Go.ChangeAt Go.RowKit

theorem Tryz.own : ownKnob Tryz.prog.godebug = none := by kernel_rfl
theorem Tryz.laidOut : laidOutB Tryz.prog = true := by kernel_rfl
/-- The heap that the door's run leaves meets what the rows list. -/
theorem door_met (os : Os) (args : Array Value) : laidMetH Tryz.prog Rows.checksRow.laid ((World.doorLaid Tryz.prog 400 os).forCall (fun _ _ => 0) ⟨#[], args, []⟩).memory :=
  laidMetH_of_parts3 (fuel := 8) (laidMet_of_run' 8 (by kernel_rfl) (by kernel_rfl)) (by kernel_rfl) (by kernel_rfl)

end Go.Proofs.YtnndoagpbcacdaaGreatDoor
namespace Go.Proofs.YtnndoagpbcacdaaGreatDoor
open Go.RowKit

/-! The law: what its scripts have in common. -/
set_option maxHeartbeats 400000 in
theorem lNum (e : Int) (w : World) :
    Calls Tryz.prog 48 #[.int .i64 e] w fun r w' => r = .returned (.int .i64 e) ∧ w' = w := by
  go_enter Tryz.func48, Tryz.ntmps48
  go_wp2
  go_ret
  exact ⟨rfl, rfl⟩

/-- A list of steps' one step, as a value. -/
def opV (k n m : Int) (s : ByteArray) (c : Int) (fo : Option Addr) (fl fc : Nat) : Value := .agg #[.int .i64 k, .int .i64 n, .int .i64 m, .string s, .int .i64 c, .slice fo fl fc]

/-- A hold without lists. -/
def Hold0 (w : World) (b : Nat) : Prop := w.heap[b]? = some (.cells #[.slice none 0 0, .slice none 0 0, .slice none 0 0] 54 (0, 0))

set_option maxHeartbeats 1000000 in
theorem lStill0 (b : Nat) (w : World) (h : Hold0 w b) :
    Calls Tryz.prog 24 #[.pointer (some ⟨b, 0, none⟩)] w fun e w' => e = .returned (.bool true) ∧ w' = w := by
  have g0 := cell_of_row w b 0 _ _ _ h
  have g1 := cell_of_row w b 1 _ _ _ h
  have g2 := cell_of_row w b 2 _ _ _ h
  simp only [List.getElem?_toArray, List.getElem?_cons_succ, List.getElem?_cons_zero] at g0 g1 g2
  go_enter Tryz.func24, Tryz.ntmps24
  go_wp2_with fail
  go_loop [3] (fun a => a = .int .i64 0) (fun _ => 0)
  case atStart => rfl
  case round =>
    subst hrel
    go_wp2_with fail
    go_loop [5] (fun a => a = .int .i64 0) (fun _ => 0)
    case atStart => rfl
    case round =>
      subst hrel
      go_wp2_with fail
      go_loop [7] (fun a => a = .int .i64 0) (fun _ => 0)
      case atStart => rfl
      case round =>
        subst hrel
        go_wp2_with fail
        go_ret
        exact ⟨rfl, rfl⟩

/-- What the walk is told of a script that came in. -/
def IsOps (w : World) (a : Option Addr) (len cap : Nat) : Prop :=
  len = 0 ∨
  ∃ b off, a = some ⟨b, off, none⟩ ∧ b < w.heap.size ∧ len ≤ cap ∧ cap ≤ maxLen ∧ ∀ i, i < len → ∃ (k n m : Int) (s : ByteArray) (c : Int) (fo : Option Addr) (fl fc : Nat),
    s.size ≤ maxLen ∧ w.cell? ⟨b, off + i * 6, none⟩ = some (.int .i64 k) ∧ w.cell? ⟨b, off + i * 6 + 1, none⟩ = some (.int .i64 n) ∧ w.cell? ⟨b, off + i * 6 + 2, none⟩ = some (.int .i64 m) ∧ w.cell? ⟨b, off + i * 6 + 3, none⟩ = some (.string s) ∧ w.cell? ⟨b, off + i * 6 + 4, none⟩ = some (.int .i64 c) ∧ w.cell? ⟨b, off + i * 6 + 5, none⟩ = some (.slice fo fl fc)

set_option maxHeartbeats 4000000 in
/-- A script over one kind that holds no lists. -/
theorem lUpToK (K : Int) (hK1 : 1 ≤ K) (hK7 : K ≤ 7)
    (hheads : ∀ w : World, Calls Tryz.prog 22 #[.int .i64 K] w fun e w' => e = .returned (.bool true) ∧ Below w.heap.size w w')
    (hplays : ∀ (h : Value) (n m : Int) (s : ByteArray) (c : Int) (fo : Option Addr) (fl fc : Nat) (w : World), s.size ≤ maxLen → Calls Tryz.prog 23 #[h, opV K n m s c fo fl fc] w fun e w' => e = .returned (.bool true) ∧ Below w.heap.size w w')
    (a : Option Addr) (len cap : Nat) (w : World) (hops : IsOps w a len cap) :
    Calls Tryz.prog 12 #[.slice a len cap, .int .i64 K, .int .i64 K] w fun e w' => e = .returned (.int .i64 (-1)) ∧ Below w.heap.size w w' := by
  have HH : Hid _ := hheads
  have HPL : Hid _ := hplays
  clear hheads hplays
  have hlen : len ≤ 9223372036854775807 := by
    rcases hops with rfl | ⟨b, off, _, _, h1, h2, _⟩
    · omega
    · unfold maxLen at h2; omega
  go_enter Tryz.func12, Tryz.ntmps12
  go_wp2_with fail
  go_loopw [7] (fun v wr => ∃ k : Int, (Hid (k = K) ∨ Hid (k = K + 1)) ∧ v = .int .i64 k ∧ Below w.heap.size w wr) (fun v _ => (K + 1 - intOf v).toNat)
  case atStart => exact ⟨K, .inl rfl, rfl, Below.refl _ _⟩
  case round =>
    obtain ⟨k, hk, rfl, hb⟩ := hrel
    rcases hk with hk | hk
    · have hkl : k ≤ K := by have := hk.out; omega
      have hkl7 : k ≤ 7 := by omega
      have hkl1 : 1 ≤ k := by have := hk.out; omega
      have HH2 : Hid _ := HH.out wr
      rw [← hk.out] at HH2
      have hm : (K + 1 - (k + 1)).toNat < (K + 1 - k).toNat := by have := hk.out; omega
      have HM : Hid _ := hm
      clear hm
      go_wp2_with fail
      refine (show Calls _ _ _ _ _ from HH2.out).mono ?_
      rintro e w1 ⟨rfl, hb1⟩
      go_wp2_with fail
      go_roundw
      case rel => exact ⟨k + 1, .inr (by have := hk.out; show _ = _; omega), rfl, hb.trans (hb1.mono hb.size)⟩
      case measure => simpa [intOf] using HM.out
    · have hkl : ¬ k ≤ K := by have := hk.out; omega
      go_wp2_with fail
      obtain ⟨bh, hbh⟩ : ∃ bh, wr.heap.size = bh := ⟨_, rfl⟩
      have hbsz := hb.size
      have hH0 : Hold0 (wr.alloc (Obj.cells #[.slice none 0 0, .slice none 0 0, .slice none 0 0] 54)) bh := by rw [← hbh]; exact heap_alloc_new wr _
      have hb0 : Below w.heap.size w (wr.alloc (Obj.cells #[.slice none 0 0, .slice none 0 0, .slice none 0 0] 54)) := hb.alloc hbsz _
      rw [hbh]
      clear hbh hb hbsz
      go_loopw [10] (fun v wx => ∃ i : Nat, i ≤ len ∧ v = .int .i64 i ∧ Below w.heap.size w wx ∧ Hold0 wx bh) (fun v _ => len - (intOf v).toNat)
      case atStart => exact ⟨0, Nat.zero_le _, rfl, hb0, hH0⟩
      case round =>
        clear hb0 hH0
        obtain ⟨i, hi, rfl, hb, hH⟩ := hrel
        by_cases hlt : i < len
        · rcases hops with h0 | ⟨b, off, rfl, hbl, hcap, hml, hcells⟩
          · omega
          · obtain ⟨k2, n, m, s, c, fo, fl, fc, hs, x0, x1, x2, x3, x4, x5⟩ := hcells i hlt
            rw [← hb.cell (p := ⟨b, off + i * 6, none⟩) hbl] at x0
            rw [← hb.cell (p := ⟨b, off + i * 6 + 1, none⟩) hbl] at x1
            rw [← hb.cell (p := ⟨b, off + i * 6 + 2, none⟩) hbl] at x2
            rw [← hb.cell (p := ⟨b, off + i * 6 + 3, none⟩) hbl] at x3
            rw [← hb.cell (p := ⟨b, off + i * 6 + 4, none⟩) hbl] at x4
            rw [← hb.cell (p := ⟨b, off + i * 6 + 5, none⟩) hbl] at x5
            have hbh : bh < wr.heap.size := (Array.getElem?_eq_some_iff.1 hH).1
            have hbsz := hb.size
            clear hcells
            by_cases hk1 : K ≤ k2
            · by_cases hk2 : k2 ≤ K
              · have hke : k2 = K := by omega
                have HP2 : Hid _ := HPL.out (.pointer (some ⟨bh, 0, none⟩)) n m s c fo fl fc (wr.alloc (Obj.cells #[.int .i64 k2, .int .i64 n, .int .i64 m, .string s, .int .i64 c, .slice fo fl fc] 59)) hs
                rw [← hke] at HP2
                clear hke
                go_wp2_with fail
                refine (show Calls _ _ _ _ _ from HP2.out).mono ?_
                clear HP2
                rintro e w1 ⟨rfl, hb1⟩
                have hH1 : Hold0 w1 bh := (hb1.block bh (by simp; omega)).trans ((Below.heap_alloc _ _ bh (by omega)).trans hH)
                have hb1' : Below w.heap.size w w1 := (hb.alloc hbsz _).trans (hb1.mono (by simp; omega))
                clear hb1 x0 x1 x2 x3 x4 x5
                go_wp2_with fail
                refine (lStill0 bh _ hH1).mono ?_
                rintro e w2 ⟨rfl, rfl⟩
                go_wp2_with fail
                go_roundw
                case rel => exact ⟨i + 1, by omega, by go_num, hb1', hH1⟩
                case measure => simp [intOf]; omega
              · go_wp2_with fail
                go_roundw
                case rel => exact ⟨i + 1, by omega, by go_num, hb.alloc hbsz _, (Below.heap_alloc _ _ bh (by omega)).trans hH⟩
                case measure => simp [intOf]; omega
            · have hd : decide (K ≤ k2) = false := by simpa using hk1
              go_wp2_with fail
              go_roundw
              case rel => exact ⟨i + 1, by omega, by go_num, hb.alloc hbsz _, (Below.heap_alloc _ _ bh (by omega)).trans hH⟩
              case measure => simp [intOf]; omega
        · go_wp2_with fail
          go_ret
          exact ⟨rfl, hb⟩

set_option maxHeartbeats 4000000 in
/-- A script over one kind that holds no lists; P: what the calls want of the world. -/
theorem lUpToP (P : World → Prop) (hPb : ∀ w w' : World, P w → Below w.heap.size w w' → P w') (K : Int) (hK1 : 1 ≤ K) (hK7 : K ≤ 7)
    (hheads : ∀ w : World, P w → Calls Tryz.prog 22 #[.int .i64 K] w fun e w' => e = .returned (.bool true) ∧ Below w.heap.size w w')
    (hplays : ∀ (h : Value) (n m : Int) (s : ByteArray) (c : Int) (fo : Option Addr) (fl fc : Nat) (w : World), s.size ≤ maxLen → P w → Calls Tryz.prog 23 #[h, opV K n m s c fo fl fc] w fun e w' => e = .returned (.bool true) ∧ Below w.heap.size w w')
    (a : Option Addr) (len cap : Nat) (w : World) (hops : IsOps w a len cap) (hP : P w) :
    Calls Tryz.prog 12 #[.slice a len cap, .int .i64 K, .int .i64 K] w fun e w' => e = .returned (.int .i64 (-1)) ∧ Below w.heap.size w w' := by
  have HH : Hid _ := hheads
  have HPL : Hid _ := hplays
  have HPw : Hid (∀ wr, Below w.heap.size w wr → P wr) := fun wr h => hPb w wr hP h
  clear hheads hplays hP hPb
  have hlen : len ≤ 9223372036854775807 := by
    rcases hops with rfl | ⟨b, off, _, _, h1, h2, _⟩
    · omega
    · unfold maxLen at h2; omega
  go_enter Tryz.func12, Tryz.ntmps12
  go_wp2_with fail
  go_loopw [7] (fun v wr => ∃ k : Int, (Hid (k = K) ∨ Hid (k = K + 1)) ∧ v = .int .i64 k ∧ Below w.heap.size w wr) (fun v _ => (K + 1 - intOf v).toNat)
  case atStart => exact ⟨K, .inl rfl, rfl, Below.refl _ _⟩
  case round =>
    obtain ⟨k, hk, rfl, hb⟩ := hrel
    rcases hk with hk | hk
    · have hkl : k ≤ K := by have := hk.out; omega
      have hkl7 : k ≤ 7 := by omega
      have hkl1 : 1 ≤ k := by have := hk.out; omega
      have HH2 : Hid _ := HH.out wr (HPw.out wr hb)
      rw [← hk.out] at HH2
      have hm : (K + 1 - (k + 1)).toNat < (K + 1 - k).toNat := by have := hk.out; omega
      have HM : Hid _ := hm
      clear hm
      go_wp2_with fail
      refine (show Calls _ _ _ _ _ from HH2.out).mono ?_
      rintro e w1 ⟨rfl, hb1⟩
      go_wp2_with fail
      go_roundw
      case rel => exact ⟨k + 1, .inr (by have := hk.out; show _ = _; omega), rfl, hb.trans (hb1.mono hb.size)⟩
      case measure => simpa [intOf] using HM.out
    · have hkl : ¬ k ≤ K := by have := hk.out; omega
      go_wp2_with fail
      obtain ⟨bh, hbh⟩ : ∃ bh, wr.heap.size = bh := ⟨_, rfl⟩
      have hbsz := hb.size
      have hH0 : Hold0 (wr.alloc (Obj.cells #[.slice none 0 0, .slice none 0 0, .slice none 0 0] 54)) bh := by rw [← hbh]; exact heap_alloc_new wr _
      have hb0 : Below w.heap.size w (wr.alloc (Obj.cells #[.slice none 0 0, .slice none 0 0, .slice none 0 0] 54)) := hb.alloc hbsz _
      rw [hbh]
      clear hbh hb hbsz
      go_loopw [10] (fun v wx => ∃ i : Nat, i ≤ len ∧ v = .int .i64 i ∧ Below w.heap.size w wx ∧ Hold0 wx bh) (fun v _ => len - (intOf v).toNat)
      case atStart => exact ⟨0, Nat.zero_le _, rfl, hb0, hH0⟩
      case round =>
        clear hb0 hH0
        obtain ⟨i, hi, rfl, hb, hH⟩ := hrel
        by_cases hlt : i < len
        · rcases hops with h0 | ⟨b, off, rfl, hbl, hcap, hml, hcells⟩
          · omega
          · obtain ⟨k2, n, m, s, c, fo, fl, fc, hs, x0, x1, x2, x3, x4, x5⟩ := hcells i hlt
            rw [← hb.cell (p := ⟨b, off + i * 6, none⟩) hbl] at x0
            rw [← hb.cell (p := ⟨b, off + i * 6 + 1, none⟩) hbl] at x1
            rw [← hb.cell (p := ⟨b, off + i * 6 + 2, none⟩) hbl] at x2
            rw [← hb.cell (p := ⟨b, off + i * 6 + 3, none⟩) hbl] at x3
            rw [← hb.cell (p := ⟨b, off + i * 6 + 4, none⟩) hbl] at x4
            rw [← hb.cell (p := ⟨b, off + i * 6 + 5, none⟩) hbl] at x5
            have hbh : bh < wr.heap.size := (Array.getElem?_eq_some_iff.1 hH).1
            have hbsz := hb.size
            clear hcells
            by_cases hk1 : K ≤ k2
            · by_cases hk2 : k2 ≤ K
              · have hke : k2 = K := by omega
                have HP2 : Hid _ := HPL.out (.pointer (some ⟨bh, 0, none⟩)) n m s c fo fl fc (wr.alloc (Obj.cells #[.int .i64 k2, .int .i64 n, .int .i64 m, .string s, .int .i64 c, .slice fo fl fc] 59)) hs (HPw.out _ (hb.alloc hbsz _))
                rw [← hke] at HP2
                clear hke
                go_wp2_with fail
                refine (show Calls _ _ _ _ _ from HP2.out).mono ?_
                clear HP2
                rintro e w1 ⟨rfl, hb1⟩
                have hH1 : Hold0 w1 bh := (hb1.block bh (by simp; omega)).trans ((Below.heap_alloc _ _ bh (by omega)).trans hH)
                have hb1' : Below w.heap.size w w1 := (hb.alloc hbsz _).trans (hb1.mono (by simp; omega))
                clear hb1 x0 x1 x2 x3 x4 x5
                go_wp2_with fail
                refine (lStill0 bh _ hH1).mono ?_
                rintro e w2 ⟨rfl, rfl⟩
                go_wp2_with fail
                go_roundw
                case rel => exact ⟨i + 1, by omega, by go_num, hb1', hH1⟩
                case measure => simp [intOf]; omega
              · go_wp2_with fail
                go_roundw
                case rel => exact ⟨i + 1, by omega, by go_num, hb.alloc hbsz _, (Below.heap_alloc _ _ bh (by omega)).trans hH⟩
                case measure => simp [intOf]; omega
            · have hd : decide (K ≤ k2) = false := by simpa using hk1
              go_wp2_with fail
              go_roundw
              case rel => exact ⟨i + 1, by omega, by go_num, hb.alloc hbsz _, (Below.heap_alloc _ _ bh (by omega)).trans hH⟩
              case measure => simp [intOf]; omega
        · go_wp2_with fail
          go_ret
          exact ⟨rfl, hb⟩

end Go.Proofs.YtnndoagpbcacdaaGreatDoor
namespace Go.Proofs.YtnndoagpbcacdaaGreatDoor
open Go.ChangeShapes Go.WideShapes Go.ChangeAt Go.RowKit

theorem Tryz.cellsOp : Tryz.prog.cellsOf 59 = 6 := by kernel_rfl
theorem Tryz.cellsInt : Tryz.prog.cellsOf 3 = 1 := by kernel_rfl
theorem Tryz.cellsStr : Tryz.prog.cellsOf 9 = 1 := by kernel_rfl
theorem Tryz.cellsCode : Tryz.prog.cellsOf 57 = 2 := by kernel_rfl
theorem Tryz.cellsFuns : Tryz.prog.cellsOf 55 = 1 := by kernel_rfl

section
variable {H : Type} {enc : TypeId × Value → H}

theorem six_of {l : List Value} (h : l.length = 6) : ∃ a b c d e f, l = [a, b, c, d, e, f] := by
  match l, h with
  | [a, b, c, d, e, f], _ => exact ⟨a, b, c, d, e, f, rfl⟩

theorem add_none {b off i : Nat} : ((⟨b, off, none⟩ : Addr).add i) = ⟨b, off + i, none⟩ := by
  unfold Addr.add; split <;> simp_all

/-- A script that can be read, as the walk is told of it. -/
theorem ops_of {W : World} {base fuel : Nat} {spare : Nat → Bool} {held : Bool} {a : Option Addr} {len cap : Nat} {x : DataW H × List MemPlace}
    (h : DataW.trod enc Tryz.prog W base spare held fuel 22 [.slice a len cap] = some x) : IsOps W a len cap := by
  rcases Deep.open_slice Tryz.underlying22 h with ⟨hcs, _⟩ | ⟨ad, l, c, m, n, D, Pl, hcs, hb, hl, hm, hmm, _, hx⟩
  · simp at hcs; exact .inl hcs.2.1
  · simp at hcs
    obtain ⟨rfl, rfl, rfl⟩ := hcs
    by_cases h0 : len = 0
    · exact .inl h0
    · right
      have hlm : len ≤ m := by rw [hmm]; split <;> omega
      rw [Tryz.cellsOp] at hx
      obtain ⟨b, off, spot⟩ := ad
      have hsp : spot = none ∧ b < W.heap.size := by
        obtain ⟨cs', h1, h2⟩ := hx 0 (by omega)
        obtain ⟨_, hlen, hcell⟩ := World.cells?_some h1
        have h3 := hcell 0 (by omega)
        obtain ⟨v0, v1, v2, v3, v4, v5, rfl⟩ := six_of hlen
        have h4 : W.cell? ⟨b, off, spot⟩ = some v0 := by simpa [Addr.add] using h3
        exact ⟨World.cell?_spot h4, World.block_lt_of_cell? W _ h4⟩
      obtain ⟨rfl, hblt⟩ := hsp
      refine ⟨b, off, rfl, hblt, hl, hm, ?_⟩
      intro i hi
      obtain ⟨cs', h1, h2⟩ := hx i (by omega)
      obtain ⟨_, hlen, hcell⟩ := World.cells?_some h1
      obtain ⟨v0, v1, v2, v3, v4, v5, rfl⟩ := six_of hlen
      rw [add_none] at hcell
      have e0 := hcell 0 (by omega)
      have e1 := hcell 1 (by omega)
      have e2 := hcell 2 (by omega)
      have e3 := hcell 3 (by omega)
      have e4 := hcell 4 (by omega)
      have e5 := hcell 5 (by omega)
      simp only [add_none, Nat.add_zero, List.getElem?_cons_zero, List.getElem?_cons_succ] at e0 e1 e2 e3 e4 e5
      obtain ⟨ys, kf, _, _, _, hyl, hf⟩ := DataW.trod_struct Tryz.underlying59 h2
      have g0 : DataW.trod enc Tryz.prog W base spare held kf 3 (([v0, v1, v2, v3, v4, v5].drop 0).take (Tryz.prog.cellsOf 3)) = ys[0]? := hf 0 _ rfl
      have g1 : DataW.trod enc Tryz.prog W base spare held kf 3 (([v0, v1, v2, v3, v4, v5].drop 1).take (Tryz.prog.cellsOf 3)) = ys[1]? := hf 1 _ rfl
      have g2 : DataW.trod enc Tryz.prog W base spare held kf 3 (([v0, v1, v2, v3, v4, v5].drop 2).take (Tryz.prog.cellsOf 3)) = ys[2]? := hf 2 _ rfl
      have g3 : DataW.trod enc Tryz.prog W base spare held kf 9 (([v0, v1, v2, v3, v4, v5].drop 3).take (Tryz.prog.cellsOf 9)) = ys[3]? := hf 3 _ rfl
      have g4 : DataW.trod enc Tryz.prog W base spare held kf 57 (([v0, v1, v2, v3, v4, v5].drop 4).take (Tryz.prog.cellsOf 57)) = ys[4]? := hf 4 _ rfl
      rw [Tryz.cellsInt] at g0 g1 g2
      rw [Tryz.cellsStr] at g3
      rw [Tryz.cellsCode] at g4
      simp only [List.drop_zero, List.drop_succ_cons, List.take_succ_cons, List.take_zero] at g0 g1 g2 g3 g4
      have hy : ∀ i, i < 5 → ∃ y, ys[i]? = some y := fun i hi => ⟨ys[i]'(by rw [hyl]; exact hi), List.getElem?_eq_getElem _⟩
      obtain ⟨y0, hy0⟩ := hy 0 (by omega)
      obtain ⟨y1, hy1⟩ := hy 1 (by omega)
      obtain ⟨y2, hy2⟩ := hy 2 (by omega)
      obtain ⟨y3, hy3⟩ := hy 3 (by omega)
      obtain ⟨y4, hy4⟩ := hy 4 (by omega)
      rw [hy0] at g0
      rw [hy1] at g1
      rw [hy2] at g2
      rw [hy3] at g3
      rw [hy4] at g4
      obtain ⟨k0, q0, _, _⟩ := DataW.trod_int Tryz.underlying3 g0
      obtain ⟨k1, q1, _, _⟩ := DataW.trod_int Tryz.underlying3 g1
      obtain ⟨k2, q2, _, _⟩ := DataW.trod_int Tryz.underlying3 g2
      obtain ⟨s, q3, _, hs⟩ := DataW.trod_string Tryz.underlying9 g3
      obtain ⟨zs, kz, _, _, _, hzl, hz⟩ := DataW.trod_struct Tryz.underlying57 g4
      have z0 : DataW.trod enc Tryz.prog W base spare held kz 3 (([v4, v5].drop 0).take (Tryz.prog.cellsOf 3)) = zs[0]? := hz 0 _ rfl
      have z1 : DataW.trod enc Tryz.prog W base spare held kz 55 (([v4, v5].drop 1).take (Tryz.prog.cellsOf 55)) = zs[1]? := hz 1 _ rfl
      rw [Tryz.cellsInt] at z0
      rw [Tryz.cellsFuns] at z1
      simp only [List.drop_zero, List.drop_succ_cons, List.take_succ_cons, List.take_zero] at z0 z1
      have hzz : ∀ i, i < 2 → ∃ y, zs[i]? = some y := fun i hi => ⟨zs[i]'(by rw [hzl]; exact hi), List.getElem?_eq_getElem _⟩
      obtain ⟨u0, hu0⟩ := hzz 0 (by omega)
      obtain ⟨u1, hu1⟩ := hzz 1 (by omega)
      rw [hu0] at z0
      rw [hu1] at z1
      obtain ⟨k4, q4, _, _⟩ := DataW.trod_int Tryz.underlying3 z0
      obtain ⟨fo, fl, fc, q5⟩ := Joins.slice_form Tryz.underlying55 z1
      simp only [List.cons.injEq, and_true] at q0 q1 q2 q3 q4 q5
      subst q0 q1 q2 q3 q4 q5
      exact ⟨k0, k1, k2, s, k4, fo, fl, fc, hs, e0, e1, e2, e3, e4, e5⟩

end

end Go.Proofs.YtnndoagpbcacdaaGreatDoor
namespace Go.Proofs.YtnndoagpbcacdaaGreatDoor
open Go.ChangeShapes Go.WideShapes Go.ChangeAt Go.RowKit

theorem Tryz.gPow : Tryz.prog.globalNamed (Rows.checksRow.named.headD default) = some 0 := pow_glob
theorem Tryz.tPow : (Tryz.prog.globals[0]?).map (·.type) = some 266 := by kernel_rfl
/-- What the rows list of strconv's table. -/
theorem tab_of {W : World} (h : laidMetH Tryz.prog Rows.checksRow.laid W) : Tab W := by
  rw [MakeChecks.laidMetH_plain _ _ _ (by kernel_rfl)] at h
  obtain ⟨ps, ⟨g0, t0, cs0, f0, p0, q0, hg0, ht0, hv0, hd0, ⟨g1, t1, cs1, f1, p1, q1, hg1, ht1, hv1, hd1, ⟨g2, t2, cs2, f2, p2, q2, hg2, ht2, hv2, hd2, _, _⟩, _⟩, _⟩, _, _⟩ := h
  obtain rfl := Option.some.inj (Tryz.gPow.symm.trans hg2)
  obtain rfl := Option.some.inj (Tryz.tPow.symm.trans ht2)
  unfold Tab Lib.TabIs
  have hc : cs2.toList = Lib.pow10Tab.map fun z => Value.int .u64 z := Lib.cells_of_tab (n := 20) (zs := Lib.pow10Tab) Tryz.underlying266 Tryz.underlying257 (by kernel_rfl) (by kernel_rfl) hd2
  rw [← hc]
  exact hv2

end Go.Proofs.YtnndoagpbcacdaaGreatDoor
