import Derived.Test.YtnndoagpbcacdaaGreatDoorZ11
namespace Go.Proofs.YtnndoagpbcacdaaGreatDoor
open Go.RowKit

/-! Codes, walked: scripts of at most 1048576 steps, of code that is small. -/
set_option maxHeartbeats 1000000 in
theorem lPlays4 (hb B0 T T1 Ma Ml : Nat) (av lv fv : Value) (NA NL NF : List Value) (n m : Int) (s : ByteArray) (c0 : Int) (fo : Option Addr) (fl fc : Nat) (w : World) (hs : s.size ≤ maxLen) (hH : HoldB w B0 hb T T1 Ma Ml av lv fv NA NL NF [] [] []) (hhb : B0 ≤ hb) (hB : B0 ≤ w.heap.size)
    (hNA : NA.length ≤ 1099511627776) (hNL : NL.length ≤ 1099511627776) (hNF : NF.length ≤ 1099511627776) :
    Calls Tryz.prog 23 #[.pointer (some ⟨hb, 0, none⟩), opV 4 n m s c0 fo fl fc] w fun e w' => e = .returned (.bool true) ∧ Below B0 w w' ∧ ∃ T Ma Ml av' lv' fv' NA' NL' NF', HoldB w' B0 hb T w'.heap.size Ma Ml av' lv' fv' NA' NL' NF' [] [] [] ∧ NA'.length ≤ NA.length + 208 ∧ NL'.length ≤ NL.length + 16 ∧ NF'.length ≤ NF.length + 1 := by
  have hA : Below w.heap.size w (w.alloc (Obj.cells #[.int .i64 4, .int .i64 n, .int .i64 m, .string s, .int .i64 c0, .slice fo fl fc] 59)) := below_alZ _ _
  have HC : Hid _ := lCodes4 hb B0 T T1 Ma Ml av lv fv NA NL NF n m s c0 fo fl fc _ hs (hH.old hA) hhb (by have := hA.size; omega) hNA hNL hNF
  unfold opV at HC ⊢
  clear hH
  go_enter Tryz.func23, Tryz.ntmps23
  go_wp2_with fail
  refine (show Calls _ _ _ _ _ from HC.out).mono ?_
  rintro e w1 ⟨rfl, hb1, hx⟩
  have HX : Hid _ := hx
  have hb1' : Below B0 w w1 := (hA.mono hB).trans hb1
  clear hb1 HC hx
  go_wp2_with fail
  go_ret
  exact ⟨rfl, hb1', HX.out⟩

/-- What is known of the Hold behind step i. -/
def HI (B0 : Nat) (wr : World) (bh i : Nat) : Prop := B0 ≤ bh ∧ B0 ≤ wr.heap.size ∧ ∃ T T1 Ma Ml av lv fv NA NL NF, HoldB wr B0 bh T T1 Ma Ml av lv fv NA NL NF [] [] [] ∧ NA.length ≤ 208 * i ∧ NL.length ≤ 16 * i ∧ NF.length ≤ i
theorem HI.old {B0 : Nat} {wr w' : World} {bh i : Nat} (h : HI B0 wr bh i) (hb : Below wr.heap.size wr w') : HI B0 w' bh i := by
  obtain ⟨h0, h1, T, T1, Ma, Ml, av, lv, fv, NA, NL, NF, h2, h3⟩ := h
  exact ⟨h0, Nat.le_trans h1 hb.size, T, T1, Ma, Ml, av, lv, fv, NA, NL, NF, h2.old hb, h3⟩
theorem HI.more {B0 : Nat} {wr : World} {bh i : Nat} (h : HI B0 wr bh i) : HI B0 wr bh (i + 1) := by
  obtain ⟨h0, h1, T, T1, Ma, Ml, av, lv, fv, NA, NL, NF, h2, h3, h4, h5⟩ := h
  exact ⟨h0, h1, T, T1, Ma, Ml, av, lv, fv, NA, NL, NF, h2, by omega, by omega, by omega⟩
theorem HI.init {B0 : Nat} {wr : World} {bh : Nat} (h : Hold0 wr bh) (hB : B0 ≤ bh) : HI B0 wr bh 0 := by
  have hlt := (Array.getElem?_eq_some_iff.1 h).1
  refine ⟨hB, by omega, 0, 0, 0, 0, _, _, _, [], [], [], ⟨h, World.ownsRow_nil _ _ _ _, World.ownsRow_nil _ _ _ _, World.ownsRow_nil _ _ _ _, fun k hk => by simp [Value.ownBlock] at hk, fun i hi => by simp at hi, fun i hi => by simp at hi, fun i hi => by simp at hi, fun v hv => by simp at hv⟩, by simp, by simp, by simp⟩

set_option maxHeartbeats 1000000 in
theorem lCodesAll (a : Option Addr) (len cap : Nat) (w : World) (hops : IsOps w a len cap) (hlen : len ≤ 1048576) (ht : Tab w)
    (hC : ∀ (b off i : Nat) (c : Int) (fo : Option Addr) (fl fc : Nat), a = some ⟨b, off, none⟩ → i < len → w.cell? ⟨b, off + i * 6 + 4, none⟩ = some (.int .i64 c) → w.cell? ⟨b, off + i * 6 + 5, none⟩ = some (.slice fo fl fc) → ∃ fs, FunsRd w w.heap.size (.slice fo fl fc) fs ∧ SmallC fs) :
    Calls Tryz.prog 6 #[.slice a len cap] w fun e w' => e = .returned (.bool true) ∧ Below w.heap.size w w' := by
  have HU : Hid _ := lUpToH (fun wr bh i => HI w.heap.size wr bh i) (fun w c fo fl fc => ∃ fs, FunsRd w w.heap.size (.slice fo fl fc) fs ∧ SmallC fs) 4 5 (by decide) (by decide) (by decide) w a len cap
    (fun k wr h1 h2 hb => by
      have hk : k = 4 ∨ k = 5 := by omega
      rcases hk with rfl | rfl
      · exact lHeads4 wr
      · exact lHeads5 wr (ht.below hb))
    (fun wr bh hb hle h => HI.init h hle)
    (fun wr bh i o hb h => h.old (below_alZ wr o))
    (fun wr bh i h => h.more)
    (fun wr bh i h => by obtain ⟨_, _, T, T1, Ma, Ml, av, lv, fv, NA, NL, NF, h2, _⟩ := h; exact (Array.getElem?_eq_some_iff.1 h2.blk).1)
    (fun bh i k n m s c fo fl fc wr hi h1 h2 hs hcc hb h => by
      have hk : k = 4 ∨ k = 5 := by omega
      rcases hk with rfl | rfl
      · obtain ⟨h0, hB, T, T1, Ma, Ml, av, lv, fv, NA, NL, NF, hH, l1, l2, l3⟩ := h
        refine (lPlays4 bh w.heap.size T T1 Ma Ml av lv fv NA NL NF n m s c fo fl fc wr hs hH h0 hB (by omega) (by omega) (by omega)).mono ?_
        rintro e w' ⟨rfl, hb', T', Ma', Ml', av', lv', fv', NA', NL', NF', hH', k1, k2, k3⟩
        exact ⟨rfl, hb.trans hb', h0, Nat.le_trans hB hb'.size, T', _, Ma', Ml', av', lv', fv', NA', NL', NF', hH', by omega, by omega, by omega⟩
      · obtain ⟨fs, hf, hsm⟩ := hcc
        refine (lPlays5 (.pointer (some ⟨bh, 0, none⟩)) n m s ⟨c, fs⟩ fo fl fc wr ((FunsRd.keep hf hb).upZ hb.size) hsm (ht.below hb)).mono ?_
        rintro e w' ⟨rfl, hb'⟩
        exact ⟨rfl, hb.trans (hb'.mono hb.size), (h.old hb').more⟩)
    (fun bh i wr h => by
      obtain ⟨_, _, T, T1, Ma, Ml, av, lv, fv, NA, NL, NF, h2, _⟩ := h
      exact lStill bh av lv fv NA NL NF wr h2.st)
    hops hC
  clear hC
  go_enter Tryz.func6, Tryz.ntmps6
  go_wp2_with fail
  refine (show Calls _ _ _ _ _ from HU.out).mono ?_
  rintro e w1 ⟨rfl, hb1⟩
  clear HU
  go_wp2_with fail
  go_ret
  exact ⟨rfl, hb1⟩

end Go.Proofs.YtnndoagpbcacdaaGreatDoor
