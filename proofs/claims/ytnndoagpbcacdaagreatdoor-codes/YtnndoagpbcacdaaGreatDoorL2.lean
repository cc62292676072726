import Derived.Test.YtnndoagpbcacdaaGreatDoorL1
namespace Go.Proofs.YtnndoagpbcacdaaGreatDoor
open Go.RowKit

set_option maxHeartbeats 400000 in
theorem lNum (e : Int) (w : World) :
    Calls Tryz.prog 48 #[.int .i64 e] w fun r w' => r = .returned (.int .i64 e) ∧ w' = w := by
  go_enter Tryz.func48, Tryz.ntmps48
  go_wp2
  go_ret
  exact ⟨rfl, rfl⟩

/-- A list of steps' one step, as a value. -/
def opV (k n m : Int) (s : ByteArray) (c : Int) (fo : Option Addr) (fl fc : Nat) : Value := .agg #[.int .i64 k, .int .i64 n, .int .i64 m, .string s, .int .i64 c, .slice fo fl fc]

set_option maxHeartbeats 1000000 in
theorem lTexts1 (n m : Int) (s : ByteArray) (c : Int) (fo : Option Addr) (fl fc : Nat) (w : World) (hs : s.size ≤ maxLen) :
    Calls Tryz.prog 34 #[opV 1 n m s c fo fl fc] w fun e w' => e = .returned (.bool true) ∧ Below w.heap.size w w' := by
  unfold opV
  go_enter Tryz.func34, Tryz.ntmps34
  go_wp2_with fail
  refine (xCheck s _ hs).mono ?_
  rintro e w1 ⟨rfl, hb1⟩
  have hbx := box_later' hb1
  have g3 := cell_of_row w1 w.heap.size 3 _ _ _ hbx
  simp only [List.getElem?_toArray, List.getElem?_cons_succ, List.getElem?_cons_zero] at g3
  have hb1' : Below w.heap.size w w1 := ((Below.refl _ _).alloc (Nat.le_refl _) _).trans (hb1.mono (by simp))
  clear hb1 hbx
  go_wp2_with fail
  refine (rCheck s _ hs).mono ?_
  rintro e w2 ⟨rfl, hb2⟩
  have hb2' := hb1'.trans (hb2.mono hb1'.size)
  clear hb2 hb1' g3
  generalize (chk s).1 = p
  generalize (chk s).2 = er
  have hp : (p == p) = true := by simp
  have her : (er == er) = true := by simp
  go_wp2_with (go_at_call 48; refine (lNum _ _).mono ?_; rintro e w3 ⟨rfl, rfl⟩)
  go_ret
  exact ⟨rfl, hb2'⟩

set_option maxHeartbeats 1000000 in
theorem lPlays1 (h : Value) (n m : Int) (s : ByteArray) (c : Int) (fo : Option Addr) (fl fc : Nat) (w : World) (hs : s.size ≤ maxLen) :
    Calls Tryz.prog 23 #[h, opV 1 n m s c fo fl fc] w fun e w' => e = .returned (.bool true) ∧ Below w.heap.size w w' := by
  unfold opV
  go_enter Tryz.func23, Tryz.ntmps23
  go_wp2_with fail
  refine (lTexts1 n m s c fo fl fc _ hs).mono ?_
  rintro e w1 ⟨rfl, hb1⟩
  have hb1' : Below w.heap.size w w1 := ((Below.refl _ _).alloc (Nat.le_refl _) _).trans (hb1.mono (by simp))
  clear hb1
  go_wp2_with fail
  go_ret
  exact ⟨rfl, hb1'⟩

/-- A hold without lists. -/
def Hold0 (w : World) (b : Nat) : Prop := w.heap[b]? = some (.cells #[.slice none 0 0, .slice none 0 0, .slice none 0 0] 54 (0, 0))

set_option maxHeartbeats 1000000 in
theorem lStill0 (b : Nat) (w : World) (h : Hold0 w b) :
    Calls Tryz.prog 24 #[.pointer (some ⟨b, 0, none⟩)] w fun e w' => e = .returned (.bool true) ∧ w' = w := by
  have g0 := cell_of_row w b 0 _ _ _ h
  have g1 := cell_of_row w b 1 _ _ _ h
  have g2 := cell_of_row w b 2 _ _ _ h
  simp only [List.getElem?_toArray, List.getElem?_cons_succ, List.getElem?_cons_zero] at g0 g1 g2
  go_enter Tryz.func24, Tryz.ntmps24
  go_wp2_with fail
  go_loop [3] (fun a => a = .int .i64 0) (fun _ => 0)
  case atStart => rfl
  case round =>
    subst hrel
    go_wp2_with fail
    go_loop [5] (fun a => a = .int .i64 0) (fun _ => 0)
    case atStart => rfl
    case round =>
      subst hrel
      go_wp2_with fail
      go_loop [7] (fun a => a = .int .i64 0) (fun _ => 0)
      case atStart => rfl
      case round =>
        subst hrel
        go_wp2_with fail
        go_ret
        exact ⟨rfl, rfl⟩

set_option maxHeartbeats 1000000 in
theorem lHeads1 (w : World) :
    Calls Tryz.prog 22 #[.int .i64 1] w fun e w' => e = .returned (.bool true) ∧ Below w.heap.size w w' := by
  go_enter Tryz.func22, Tryz.ntmps22
  go_wp2_with fail
  refine (xCheck _ _ (by decide)).mono ?_
  rw [chk_head]
  rintro e w1 ⟨rfl, hb1⟩
  go_wp2_with fail
  go_ret
  exact ⟨rfl, hb1⟩

/-- What the walk is told of a script that came in. -/
def IsOps (w : World) (a : Option Addr) (len cap : Nat) : Prop :=
  len = 0 ∨
  ∃ b off, a = some ⟨b, off, none⟩ ∧ b < w.heap.size ∧ len ≤ cap ∧ cap ≤ maxLen ∧ ∀ i, i < len → ∃ (k n m : Int) (s : ByteArray) (c : Int) (fo : Option Addr) (fl fc : Nat),
    s.size ≤ maxLen ∧ w.cell? ⟨b, off + i * 6, none⟩ = some (.int .i64 k) ∧ w.cell? ⟨b, off + i * 6 + 1, none⟩ = some (.int .i64 n) ∧ w.cell? ⟨b, off + i * 6 + 2, none⟩ = some (.int .i64 m) ∧ w.cell? ⟨b, off + i * 6 + 3, none⟩ = some (.string s) ∧ w.cell? ⟨b, off + i * 6 + 4, none⟩ = some (.int .i64 c) ∧ w.cell? ⟨b, off + i * 6 + 5, none⟩ = some (.slice fo fl fc)

set_option maxHeartbeats 4000000 in
theorem lUpTo1 (a : Option Addr) (len cap : Nat) (w : World) (hops : IsOps w a len cap) :
    Calls Tryz.prog 12 #[.slice a len cap, .int .i64 1, .int .i64 1] w fun e w' => e = .returned (.int .i64 (-1)) ∧ Below w.heap.size w w' := by
  have hlen : len ≤ 9223372036854775807 := by
    rcases hops with rfl | ⟨b, off, _, _, h1, h2, _⟩
    · omega
    · unfold maxLen at h2; omega
  go_enter Tryz.func12, Tryz.ntmps12
  go_wp2_with fail
  go_loopw [7] (fun v wr => ∃ k : Int, (k = 1 ∨ k = 2) ∧ v = .int .i64 k ∧ Below w.heap.size w wr) (fun v _ => (2 - intOf v).toNat)
  case atStart => exact ⟨1, .inl rfl, rfl, Below.refl _ _⟩
  case round =>
    obtain ⟨k, hk, rfl, hb⟩ := hrel
    rcases hk with rfl | rfl
    · go_wp2_with fail
      refine (lHeads1 _).mono ?_
      rintro e w1 ⟨rfl, hb1⟩
      go_wp2_with fail
      go_roundw
      case rel => exact ⟨2, .inr rfl, rfl, hb.trans (hb1.mono hb.size)⟩
      case measure => simp [intOf]
    · go_wp2_with fail
      obtain ⟨bh, hbh⟩ : ∃ bh, wr.heap.size = bh := ⟨_, rfl⟩
      have hbsz := hb.size
      have hH0 : Hold0 (wr.alloc (Obj.cells #[.slice none 0 0, .slice none 0 0, .slice none 0 0] 54)) bh := by rw [← hbh]; exact heap_alloc_new wr _
      have hb0 : Below w.heap.size w (wr.alloc (Obj.cells #[.slice none 0 0, .slice none 0 0, .slice none 0 0] 54)) := hb.alloc hbsz _
      rw [hbh]
      clear hbh hb hbsz
      go_loopw [10] (fun v wx => ∃ i : Nat, i ≤ len ∧ v = .int .i64 i ∧ Below w.heap.size w wx ∧ Hold0 wx bh) (fun v _ => len - (intOf v).toNat)
      case atStart => exact ⟨0, Nat.zero_le _, rfl, hb0, hH0⟩
      case round =>
        clear hb0 hH0
        obtain ⟨i, hi, rfl, hb, hH⟩ := hrel
        by_cases hlt : i < len
        · rcases hops with h0 | ⟨b, off, rfl, hbl, hcap, hml, hcells⟩
          · omega
          · obtain ⟨k, n, m, s, c, fo, fl, fc, hs, x0, x1, x2, x3, x4, x5⟩ := hcells i hlt
            rw [← hb.cell (p := ⟨b, off + i * 6, none⟩) hbl] at x0
            rw [← hb.cell (p := ⟨b, off + i * 6 + 1, none⟩) hbl] at x1
            rw [← hb.cell (p := ⟨b, off + i * 6 + 2, none⟩) hbl] at x2
            rw [← hb.cell (p := ⟨b, off + i * 6 + 3, none⟩) hbl] at x3
            rw [← hb.cell (p := ⟨b, off + i * 6 + 4, none⟩) hbl] at x4
            rw [← hb.cell (p := ⟨b, off + i * 6 + 5, none⟩) hbl] at x5
            have hbh : bh < wr.heap.size := (Array.getElem?_eq_some_iff.1 hH).1
            have hbsz := hb.size
            clear hcells
            by_cases hk1 : 1 ≤ k
            · by_cases hk2 : k ≤ 1
              · have hk : k = 1 := by omega
                subst hk
                clear hk1 hk2
                go_wp2_with fail
                refine (lPlays1 _ n m s c fo fl fc _ hs).mono ?_
                rintro e w1 ⟨rfl, hb1⟩
                have hH1 : Hold0 w1 bh := (hb1.block bh (by simp; omega)).trans ((Below.heap_alloc _ _ bh (by omega)).trans hH)
                have hb1' : Below w.heap.size w w1 := (hb.alloc hbsz _).trans (hb1.mono (by simp; omega))
                clear hb1 x0 x1 x2 x3 x4 x5
                go_wp2_with fail
                refine (lStill0 bh _ hH1).mono ?_
                rintro e w2 ⟨rfl, rfl⟩
                go_wp2_with fail
                go_roundw
                case rel => exact ⟨i + 1, by omega, by go_num, hb1', hH1⟩
                case measure => simp [intOf]; omega
              · go_wp2_with fail
                go_roundw
                case rel => exact ⟨i + 1, by omega, by go_num, hb.alloc hbsz _, (Below.heap_alloc _ _ bh (by omega)).trans hH⟩
                case measure => simp [intOf]; omega
            · have hd : decide (1 ≤ k) = false := by simpa using hk1
              go_wp2_with fail
              go_roundw
              case rel => exact ⟨i + 1, by omega, by go_num, hb.alloc hbsz _, (Below.heap_alloc _ _ bh (by omega)).trans hH⟩
              case measure => simp [intOf]; omega
        · go_wp2_with fail
          go_ret
          exact ⟨rfl, hb⟩

set_option maxHeartbeats 1000000 in
theorem lChecks (a : Option Addr) (len cap : Nat) (w : World) (hops : IsOps w a len cap) :
    Calls Tryz.prog 3 #[.slice a len cap] w fun e w' => e = .returned (.bool true) ∧ Below w.heap.size w w' := by
  go_enter Tryz.func3, Tryz.ntmps3
  go_wp2_with fail
  refine (lUpTo1 a len cap _ hops).mono ?_
  rintro e w1 ⟨rfl, hb1⟩
  go_wp2_with fail
  go_ret
  exact ⟨rfl, hb1⟩

end Go.Proofs.YtnndoagpbcacdaaGreatDoor
