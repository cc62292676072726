import Derived.Test.YtnndoagpbcacdaaGreatDoorMZ2
namespace Go.Proofs.YtnndoagpbcacdaaGreatDoor
open Go.RowKit

set_option maxHeartbeats 4000000 in
/-- A script over kinds from lo to hi; I: what is known of the world and of the lists that are held. -/
theorem lUpToH (I : World → Nat → Nat → Prop) (C : World → Int → Option Addr → Nat → Nat → Prop) (lo hi : Int) (hK1 : 1 ≤ lo) (hlh : lo ≤ hi) (hK7 : hi ≤ 7)
    (w : World) (a : Option Addr) (len cap : Nat)
    (hheads : ∀ (k : Int) (wr : World), lo ≤ k → k ≤ hi → Below w.heap.size w wr → Calls Tryz.prog 22 #[.int .i64 k] wr fun e w' => e = .returned (.bool true) ∧ Below wr.heap.size wr w')
    (hinit : ∀ (wr : World) (bh : Nat), Below w.heap.size w wr → w.heap.size ≤ bh → Hold0 wr bh → I wr bh 0)
    (hmake : ∀ (wr : World) (bh i : Nat) (o : Obj), Below w.heap.size w wr → I wr bh i → I (wr.alloc o) bh i)
    (hmore : ∀ (wr : World) (bh i : Nat), I wr bh i → I wr bh (i + 1))
    (hlt : ∀ (wr : World) (bh i : Nat), I wr bh i → bh < wr.heap.size)
    (hplays : ∀ (bh i : Nat) (k n m : Int) (s : ByteArray) (c : Int) (fo : Option Addr) (fl fc : Nat) (wr : World), i < len → lo ≤ k → k ≤ hi → s.size ≤ maxLen → C w c fo fl fc → Below w.heap.size w wr → I wr bh i → Calls Tryz.prog 23 #[.pointer (some ⟨bh, 0, none⟩), opV k n m s c fo fl fc] wr fun e w' => e = .returned (.bool true) ∧ Below w.heap.size w w' ∧ I w' bh (i + 1))
    (hstill : ∀ (bh i : Nat) (wr : World), I wr bh i → Calls Tryz.prog 24 #[.pointer (some ⟨bh, 0, none⟩)] wr fun e w' => e = .returned (.bool true) ∧ w' = wr)
    (hops : IsOps w a len cap)
    (hC : ∀ (b off i : Nat) (c : Int) (fo : Option Addr) (fl fc : Nat), a = some ⟨b, off, none⟩ → i < len → w.cell? ⟨b, off + i * 6 + 4, none⟩ = some (.int .i64 c) → w.cell? ⟨b, off + i * 6 + 5, none⟩ = some (.slice fo fl fc) → C w c fo fl fc) :
    Calls Tryz.prog 12 #[.slice a len cap, .int .i64 lo, .int .i64 hi] w fun e w' => e = .returned (.int .i64 (-1)) ∧ Below w.heap.size w w' := by
  have HH : Hid _ := hheads
  have HI : Hid _ := hinit
  have HM : Hid _ := hmake
  have HMO : Hid _ := hmore
  have HLT : Hid _ := hlt
  have HPL : Hid _ := hplays
  have HST : Hid _ := hstill
  have HCC : Hid _ := hC
  clear hheads hinit hmake hmore hlt hplays hstill hC
  have hlen : len ≤ 9223372036854775807 := by
    rcases hops with rfl | ⟨b, off, _, _, h1, h2, _⟩
    · omega
    · unfold maxLen at h2; omega
  go_enter Tryz.func12, Tryz.ntmps12
  go_wp2_with fail
  go_loopw [7] (fun v wr => ∃ k : Int, lo ≤ k ∧ k ≤ hi + 1 ∧ v = .int .i64 k ∧ Below w.heap.size w wr) (fun v _ => (hi + 1 - intOf v).toNat)
  case atStart => exact ⟨lo, Int.le_refl _, by omega, rfl, Below.refl _ _⟩
  case round =>
    obtain ⟨k, hk1, hk2, rfl, hb⟩ := hrel
    by_cases hkl : k ≤ hi
    · have HH2 : Hid _ := HH.out k wr hk1 hkl hb
      have HMM : Hid ((hi + 1 - (k + 1)).toNat < (hi + 1 - k).toNat) := by show _ < _; omega
      go_wp2_with fail
      refine (show Calls _ _ _ _ _ from HH2.out).mono ?_
      rintro e w1 ⟨rfl, hb1⟩
      go_wp2_with fail
      go_roundw
      case rel => exact ⟨k + 1, by omega, by omega, rfl, hb.trans (hb1.mono hb.size)⟩
      case measure => simpa [intOf] using HMM.out
    · have hkd : decide (k ≤ hi) = false := by simpa using hkl
      go_wp2_with fail
      obtain ⟨bh, hbh⟩ : ∃ bh, wr.heap.size = bh := ⟨_, rfl⟩
      have hbsz := hb.size
      have hH0 : Hold0 (wr.alloc (Obj.cells #[.slice none 0 0, .slice none 0 0, .slice none 0 0] 54)) bh := by rw [← hbh]; exact heap_alloc_new wr _
      have hb0 : Below w.heap.size w (wr.alloc (Obj.cells #[.slice none 0 0, .slice none 0 0, .slice none 0 0] 54)) := hb.alloc hbsz _
      have hI0 := HI.out _ bh hb0 (by omega) hH0
      rw [hbh]
      clear hbh hb hbsz hH0
      go_loopw [10] (fun v wx => ∃ i : Nat, i ≤ len ∧ v = .int .i64 i ∧ Below w.heap.size w wx ∧ I wx bh i) (fun v _ => len - (intOf v).toNat)
      case atStart => exact ⟨0, Nat.zero_le _, rfl, hb0, hI0⟩
      case round =>
        clear hb0 hI0
        obtain ⟨i, hi', rfl, hb, hI⟩ := hrel
        by_cases hlt : i < len
        · rcases hops with h0 | ⟨b, off, rfl, hbl, hcap, hml, hcells⟩
          · omega
          · obtain ⟨k2, n, m, s, c, fo, fl, fc, hs, x0, x1, x2, x3, x4, x5⟩ := hcells i hlt
            have hCC := HCC.out b off i c fo fl fc rfl hlt x4 x5
            rw [← hb.cell (p := ⟨b, off + i * 6, none⟩) hbl] at x0
            rw [← hb.cell (p := ⟨b, off + i * 6 + 1, none⟩) hbl] at x1
            rw [← hb.cell (p := ⟨b, off + i * 6 + 2, none⟩) hbl] at x2
            rw [← hb.cell (p := ⟨b, off + i * 6 + 3, none⟩) hbl] at x3
            rw [← hb.cell (p := ⟨b, off + i * 6 + 4, none⟩) hbl] at x4
            rw [← hb.cell (p := ⟨b, off + i * 6 + 5, none⟩) hbl] at x5
            have hbh : bh < wr.heap.size := HLT.out _ _ _ hI
            have hbsz := hb.size
            clear hcells
            by_cases hk1' : lo ≤ k2
            · by_cases hk2' : k2 ≤ hi
              · have HP2 : Hid _ := HPL.out bh i k2 n m s c fo fl fc (wr.alloc (Obj.cells #[.int .i64 k2, .int .i64 n, .int .i64 m, .string s, .int .i64 c, .slice fo fl fc] 59)) hlt hk1' hk2' hs hCC (hb.alloc hbsz _) (HM.out _ _ _ _ hb hI)
                go_wp2_with fail
                refine (show Calls _ _ _ _ _ from HP2.out).mono ?_
                clear HP2
                rintro e w1 ⟨rfl, hb1, hI1⟩
                have HS2 : Hid _ := HST.out bh (i + 1) w1 hI1
                clear x0 x1 x2 x3 x4 x5
                go_wp2_with fail
                refine (show Calls _ _ _ _ _ from HS2.out).mono ?_
                rintro e w2 ⟨rfl, rfl⟩
                go_wp2_with fail
                go_roundw
                case rel => exact ⟨i + 1, by omega, by go_num, hb1, hI1⟩
                case measure => simp [intOf]; omega
              · have hd : decide (k2 ≤ hi) = false := by simpa using hk2'
                have hI2 := HMO.out _ _ _ (HM.out wr bh i (Obj.cells #[.int .i64 k2, .int .i64 n, .int .i64 m, .string s, .int .i64 c, .slice fo fl fc] 59) hb hI)
                go_wp2_with fail
                go_roundw
                case rel => exact ⟨i + 1, by omega, by go_num, hb.alloc hbsz _, hI2⟩
                case measure => simp [intOf]; omega
            · have hd : decide (lo ≤ k2) = false := by simpa using hk1'
              have hI2 := HMO.out _ _ _ (HM.out wr bh i (Obj.cells #[.int .i64 k2, .int .i64 n, .int .i64 m, .string s, .int .i64 c, .slice fo fl fc] 59) hb hI)
              go_wp2_with fail
              go_roundw
              case rel => exact ⟨i + 1, by omega, by go_num, hb.alloc hbsz _, hI2⟩
              case measure => simp [intOf]; omega
        · go_wp2_with fail
          go_ret
          exact ⟨rfl, hb⟩

end Go.Proofs.YtnndoagpbcacdaaGreatDoor
namespace Go.Proofs.YtnndoagpbcacdaaGreatDoor
open Go.RowKit

/-! The law's Hold while lists are taken in: where its lists lie. (NA, NL, NF: lists that are full; EA, EL, EF: the one that was taken in last and is not full yet, if there is one. Ma, Ml: its full lists of atoms and of lines lie below; T0, T1: between them lie the lists that Read gave out.) -/
def AtFB (w : World) (M i : Nat) (v : Value) : Prop := ∃ a n, v = .slice a n n ∧ n ≤ maxLen ∧ (n = 0 ∨ ∃ b cur, a = some ⟨b, 0, none⟩ ∧ b < M ∧ w.heap[b]? = some (.cells cur 75 (0, 0)) ∧ ∀ k, k < n → cur[k * 2]? = some (.int .i64 ((i : Int) + 1)) ∧ cur[k * 2 + 1]? = some (.int .i64 0))
def LnFB (w : World) (M i : Nat) (v : Value) : Prop := ∃ a n, v = .slice a n n ∧ n ≤ maxLen ∧ (n = 0 ∧ a = none ∨ ∃ b cur, a = some ⟨b, 0, none⟩ ∧ b < M ∧ w.heap[b]? = some (.cells cur 76 (0, 0)) ∧ ∀ k, k < n → ∃ a' c', cur[k]? = some (.slice a' (i + 1) c'))
def FnFB (w : World) (M i : Nat) (v : Value) : Prop := ∃ a n, v = .slice a n n ∧ n ≤ maxLen ∧ (n = 0 ∨ ∃ b cur, a = some ⟨b, 0, none⟩ ∧ b < M ∧ w.heap[b]? = some (.cells cur 78 (0, 0)) ∧ ∀ k, k < n → cur[k * 2]? = some (.int .i64 ((i : Int) + 1)) ∧ cur[k * 2 + 1]? = some (.slice none 0 0))
structure HoldB (w : World) (B0 hb T0 T1 Ma Ml : Nat) (av lv fv : Value) (NA NL NF EA EL EF : List Value) : Prop where
  blk : w.heap[hb]? = some (.cells #[av, lv, fv] 54 (0, 0))
  ra : w.ownsRow B0 76 1 av (NA ++ EA).length (NA ++ EA)
  rl : w.ownsRow B0 50 1 lv (NL ++ EL).length (NL ++ EL)
  rf : w.ownsRow B0 55 1 fv (NF ++ EF).length (NF ++ EF)
  out : ∀ k, av.ownBlock = some k → k < T0 ∨ T1 ≤ k
  fa : ∀ i (h : i < NA.length), AtFB w Ma i NA[i]
  fl : ∀ i (h : i < NL.length), LnFB w Ml i NL[i]
  ff : ∀ i (h : i < NF.length), FnFB w T0 i NF[i]
  sep : ∀ v ∈ NL, ∀ k, av.ownBlock = some k → v.ownBlock ≠ some k
theorem AtFB.full {w : World} {M i : Nat} {v : Value} (h : AtFB w M i v) : AtFull w i v := by
  obtain ⟨a, n, h1, h2, h3⟩ := h
  refine ⟨a, n, h1, h2, ?_⟩
  rcases h3 with h3 | ⟨b, cur, rfl, _, hh, hc⟩
  · exact .inl h3
  · exact .inr ⟨b, rfl, fun k hk => ⟨by rw [cell_of_row w b _ _ _ _ hh]; exact (hc k hk).1, by rw [cell_of_row w b _ _ _ _ hh]; exact (hc k hk).2⟩⟩
theorem LnFB.full {w : World} {M i : Nat} {v : Value} (h : LnFB w M i v) : LnFull w i v := by
  obtain ⟨a, n, h1, h2, h3⟩ := h
  refine ⟨a, n, h1, h2, ?_⟩
  rcases h3 with h3 | ⟨b, cur, rfl, _, hh, hc⟩
  · exact .inl h3.1
  · refine .inr ⟨b, rfl, fun k hk => ?_⟩
    obtain ⟨a', c', e⟩ := hc k hk
    exact ⟨a', c', by rw [cell_of_row w b _ _ _ _ hh]; exact e⟩
theorem FnFB.full {w : World} {M i : Nat} {v : Value} (h : FnFB w M i v) : FnFull w i v := by
  obtain ⟨a, n, h1, h2, h3⟩ := h
  refine ⟨a, n, h1, h2, ?_⟩
  rcases h3 with h3 | ⟨b, cur, rfl, _, hh, hc⟩
  · exact .inl h3
  · exact .inr ⟨b, rfl, fun k hk => ⟨by rw [cell_of_row w b _ _ _ _ hh]; exact (hc k hk).1, by rw [cell_of_row w b _ _ _ _ hh]; exact (hc k hk).2⟩⟩
theorem HoldB.st {w : World} {B0 hb T0 T1 Ma Ml : Nat} {av lv fv : Value} {NA NL NF : List Value} (h : HoldB w B0 hb T0 T1 Ma Ml av lv fv NA NL NF [] [] []) : HoldSt w hb av lv fv NA NL NF :=
  ⟨h.blk, ownsRow_base (by simpa using h.ra) (Nat.zero_le _), ownsRow_base (by simpa using h.rl) (Nat.zero_le _), ownsRow_base (by simpa using h.rf) (Nat.zero_le _), fun i hi => (h.fa i hi).full, fun i hi => (h.fl i hi).full, fun i hi => (h.ff i hi).full⟩
/-- The lists' blocks are left alone. -/
theorem AtFB.same {w w' : World} {M i : Nat} {v : Value} (h : AtFB w M i v) (hs : ∀ b cur, b < M → w.heap[b]? = some (.cells cur 75 (0, 0)) → w'.heap[b]? = w.heap[b]?) : AtFB w' M i v := by
  obtain ⟨a, n, h1, h2, h3⟩ := h
  refine ⟨a, n, h1, h2, ?_⟩
  rcases h3 with h3 | ⟨b, cur, rfl, hb, hh, hc⟩
  · exact .inl h3
  · exact .inr ⟨b, cur, rfl, hb, (hs b cur hb hh).trans hh, hc⟩
theorem LnFB.same {w w' : World} {M i : Nat} {v : Value} (h : LnFB w M i v) (hs : ∀ b cur, b < M → v.ownBlock = some b → w.heap[b]? = some (.cells cur 76 (0, 0)) → w'.heap[b]? = w.heap[b]?) : LnFB w' M i v := by
  obtain ⟨a, n, h1, h2, h3⟩ := h
  refine ⟨a, n, h1, h2, ?_⟩
  rcases h3 with h3 | ⟨b, cur, rfl, hb, hh, hc⟩
  · exact .inl h3
  · exact .inr ⟨b, cur, rfl, hb, (hs b cur hb (by rw [h1]; rfl) hh).trans hh, hc⟩
theorem FnFB.same {w w' : World} {M i : Nat} {v : Value} (h : FnFB w M i v) (hs : ∀ b cur, b < M → w.heap[b]? = some (.cells cur 78 (0, 0)) → w'.heap[b]? = w.heap[b]?) : FnFB w' M i v := by
  obtain ⟨a, n, h1, h2, h3⟩ := h
  refine ⟨a, n, h1, h2, ?_⟩
  rcases h3 with h3 | ⟨b, cur, rfl, hb, hh, hc⟩
  · exact .inl h3
  · exact .inr ⟨b, cur, rfl, hb, (hs b cur hb hh).trans hh, hc⟩
theorem ty_ne {w : World} {b x : Nat} {c1 c2 : Array Value} {t1 t2 : TypeId} (h1 : w.heap[b]? = some (.cells c1 t1 (0, 0))) (h2 : w.heap[x]? = some (.cells c2 t2 (0, 0))) (hne : t1 ≠ t2) : b ≠ x := by
  intro e
  subst e
  rw [h1] at h2
  simp at h2
  exact hne h2.2
theorem HoldB.old {w w' : World} {B0 hb T0 T1 Ma Ml : Nat} {av lv fv : Value} {NA NL NF EA EL EF : List Value} (h : HoldB w B0 hb T0 T1 Ma Ml av lv fv NA NL NF EA EL EF) (hbl : Below w.heap.size w w') : HoldB w' B0 hb T0 T1 Ma Ml av lv fv NA NL NF EA EL EF :=
  ⟨(hbl.block hb (Array.getElem?_eq_some_iff.1 h.blk).1).trans h.blk, ownsRow_old h.ra hbl, ownsRow_old h.rl hbl, ownsRow_old h.rf hbl, h.out,
    fun i hi => (h.fa i hi).same (fun b _ _ hh => hbl.block b (Array.getElem?_eq_some_iff.1 hh).1), fun i hi => (h.fl i hi).same (fun b _ _ _ hh => hbl.block b (Array.getElem?_eq_some_iff.1 hh).1), fun i hi => (h.ff i hi).same (fun b _ _ hh => hbl.block b (Array.getElem?_eq_some_iff.1 hh).1), h.sep⟩
/-- A store into a list of atoms that is to come. -/
theorem HoldB.putA {w : World} {B0 hb T0 T1 Ma Ml x i : Nat} {av lv fv u : Value} {NA NL NF EA EL EF : List Value} {cur : Array Value} (h : HoldB w B0 hb T0 T1 Ma Ml av lv fv NA NL NF EA EL EF) (hx : w.heap[x]? = some (.cells cur 75 (0, 0))) (hM : Ma ≤ x) : HoldB (w.setCell ⟨x, i, none⟩ u) B0 hb T0 T1 Ma Ml av lv fv NA NL NF EA EL EF :=
  ⟨(heap_set_ne _ (ty_ne h.blk hx (by decide))).trans h.blk, ownsRow_set h.ra hx (by decide), ownsRow_set h.rl hx (by decide), ownsRow_set h.rf hx (by decide), h.out,
    fun i hi => (h.fa i hi).same (fun b _ hb _ => heap_set_ne _ (by omega)), fun i hi => (h.fl i hi).same (fun b _ _ _ hh => heap_set_ne _ (ty_ne hh hx (by decide))), fun i hi => (h.ff i hi).same (fun b _ _ hh => heap_set_ne _ (ty_ne hh hx (by decide))), h.sep⟩
theorem own_set_ne {w : World} {base size n b i : Nat} {e : TypeId} {v u : Value} {xs : List Value} (h : w.ownsRow base e size v n xs) (hne : v.ownBlock ≠ some b) : (w.setCell ⟨b, i, none⟩ u).ownsRow base e size v n xs := by
  refine ⟨h.1, ?_⟩
  rcases h.2 with hn | ⟨g, cap, cur, hv, hg, hh, q⟩
  · exact .inl hn
  · refine .inr ⟨g, cap, cur, hv, hg, ?_, q⟩
    rw [heap_set_ne _ (fun e1 => hne (by rw [hv, ← e1]; rfl))]
    exact hh
/-- A store into a list of lines that is to come. -/
theorem HoldB.putL {w : World} {B0 hb T0 T1 Ma Ml x i : Nat} {av lv fv u : Value} {NA NL NF EA EL EF : List Value} {cur : Array Value} (h : HoldB w B0 hb T0 T1 Ma Ml av lv fv NA NL NF EA EL EF) (hx : w.heap[x]? = some (.cells cur 76 (0, 0))) (hM : Ml ≤ x) (h0 : T0 ≤ x) (h1 : x < T1) : HoldB (w.setCell ⟨x, i, none⟩ u) B0 hb T0 T1 Ma Ml av lv fv NA NL NF EA EL EF :=
  ⟨(heap_set_ne _ (ty_ne h.blk hx (by decide))).trans h.blk, own_set_ne h.ra (fun e => by have := h.out x e; omega), ownsRow_set h.rl hx (by decide), ownsRow_set h.rf hx (by decide), h.out,
    fun i hi => (h.fa i hi).same (fun b _ _ hh => heap_set_ne _ (ty_ne hh hx (by decide))), fun i hi => (h.fl i hi).same (fun b _ hb _ _ => heap_set_ne _ (by omega)), fun i hi => (h.ff i hi).same (fun b _ _ hh => heap_set_ne _ (ty_ne hh hx (by decide))), h.sep⟩
/-- A store into the list of templates that is to come. -/
theorem HoldB.putF {w : World} {B0 hb T0 T1 Ma Ml x i : Nat} {av lv fv u : Value} {NA NL NF EA EL EF : List Value} {cur : Array Value} (h : HoldB w B0 hb T0 T1 Ma Ml av lv fv NA NL NF EA EL EF) (hx : w.heap[x]? = some (.cells cur 78 (0, 0))) (h0 : T0 ≤ x) : HoldB (w.setCell ⟨x, i, none⟩ u) B0 hb T0 T1 Ma Ml av lv fv NA NL NF EA EL EF :=
  ⟨(heap_set_ne _ (ty_ne h.blk hx (by decide))).trans h.blk, ownsRow_set h.ra hx (by decide), ownsRow_set h.rl hx (by decide), ownsRow_set h.rf hx (by decide), h.out,
    fun i hi => (h.fa i hi).same (fun b _ _ hh => heap_set_ne _ (ty_ne hh hx (by decide))), fun i hi => (h.fl i hi).same (fun b _ _ _ hh => heap_set_ne _ (ty_ne hh hx (by decide))), fun i hi => (h.ff i hi).same (fun b _ hb _ => heap_set_ne _ (by omega)), h.sep⟩

/-- A list of atoms is taken in. -/
theorem HoldB.takeA {w w5 : World} {B0 hb T0 T1 Ma Ml g cap : Nat} {av lv fv f : Value} {NA NL NF EL EF : List Value} {o : Obj} (h : HoldB w B0 hb T0 T1 Ma Ml av lv fv NA NL NF [] EL EF) (hT : T1 ≤ w.heap.size)
    (hown : w5.ownsRow B0 76 1 (.slice (some ⟨g, 0, none⟩) (NA.length + 1) cap) (NA.length + 1) (NA ++ [f])) (hgr : (w.alloc o).grownBy w5 av.ownBlock) (hat : av.ownBlock = some g ∨ g = (w.alloc o).heap.size) :
    HoldB (w5.setCell ⟨hb, 0, none⟩ (.slice (some ⟨g, 0, none⟩) (NA.length + 1) cap)) B0 hb T0 T1 Ma Ml (.slice (some ⟨g, 0, none⟩) (NA.length + 1) cap) lv fv NA NL NF [f] EL EF := by
  have h1 := h.old ((Below.refl w.heap.size w).alloc (Nat.le_refl _) o)
  have hra : (w.alloc o).ownsRow B0 76 1 av NA.length NA := by simpa using h1.ra
  have hb5 := grown_type hra hgr (by decide) h1.blk
  have hsz : (w.alloc o).heap.size = w.heap.size + 1 := by simp
  have hfl : ∀ i (hi : i < NL.length), LnFB w5 Ml i NL[i] := fun i hi => (h1.fl i hi).same (fun b _ _ ho hh => hgr.block b (Array.getElem?_eq_some_iff.1 hh).1 (fun e => h1.sep NL[i] (List.getElem_mem hi) b e.symm ho))
  have hfa : ∀ i (hi : i < NA.length), AtFB w5 Ma i NA[i] := fun i hi => (h1.fa i hi).same (fun b _ _ hh => (grown_type hra hgr (by decide) hh).trans hh.symm)
  have hff : ∀ i (hi : i < NF.length), FnFB w5 T0 i NF[i] := fun i hi => (h1.ff i hi).same (fun b _ _ hh => (grown_type hra hgr (by decide) hh).trans hh.symm)
  refine ⟨blk_set _ hb5, ?_, ownsRow_set (own_grown_type hra hgr (by decide) h1.rl) hb5 (by decide), ownsRow_set (own_grown_type hra hgr (by decide) h1.rf) hb5 (by decide), ?_, fun i hi => (hfa i hi).same (fun b _ _ hh => heap_set_ne _ (ty_ne hh hb5 (by decide))), fun i hi => (hfl i hi).same (fun b _ _ _ hh => heap_set_ne _ (ty_ne hh hb5 (by decide))), fun i hi => (hff i hi).same (fun b _ _ hh => heap_set_ne _ (ty_ne hh hb5 (by decide))), ?_⟩
  · rw [List.length_append]
    exact ownsRow_set hown hb5 (by decide)
  · intro k hk
    obtain rfl : g = k := by simpa [Value.ownBlock] using hk
    rcases hat with hat | hat
    · exact h.out _ hat
    · right; omega
  · intro v hv k hk ho
    obtain rfl : g = k := by simpa [Value.ownBlock] using hk
    rcases hat with hat | hat
    · exact h.sep v hv _ hat ho
    · obtain ⟨i, hi, rfl⟩ := List.mem_iff_getElem.1 hv
      obtain ⟨a, n, e1, _, e3⟩ := h.fl i hi
      rcases e3 with e3 | ⟨b, cur, rfl, _, hh, _⟩
      · rw [e1, e3.2] at ho
        simp [Value.ownBlock] at ho
      · rw [e1] at ho
        have : b = g := by simpa [Value.ownBlock] using ho
        have := (Array.getElem?_eq_some_iff.1 hh).1
        omega
/-- A list of lines is taken in. -/
theorem HoldB.takeL {w w5 : World} {B0 hb T0 T1 Ma Ml g cap : Nat} {av lv fv f : Value} {NA NL NF EA EF : List Value} {o : Obj} (h : HoldB w B0 hb T0 T1 Ma Ml av lv fv NA NL NF EA [] EF)
    (hown : w5.ownsRow B0 50 1 (.slice (some ⟨g, 0, none⟩) (NL.length + 1) cap) (NL.length + 1) (NL ++ [f])) (hgr : (w.alloc o).grownBy w5 lv.ownBlock) :
    HoldB (w5.setCell ⟨hb, 1, none⟩ (.slice (some ⟨g, 0, none⟩) (NL.length + 1) cap)) B0 hb T0 T1 Ma Ml av (.slice (some ⟨g, 0, none⟩) (NL.length + 1) cap) fv NA NL NF EA [f] EF := by
  have h1 := h.old ((Below.refl w.heap.size w).alloc (Nat.le_refl _) o)
  have hrl : (w.alloc o).ownsRow B0 50 1 lv NL.length NL := by simpa using h1.rl
  have hb5 := grown_type hrl hgr (by decide) h1.blk
  have hfl : ∀ i (hi : i < NL.length), LnFB w5 Ml i NL[i] := fun i hi => (h1.fl i hi).same (fun b _ _ _ hh => (grown_type hrl hgr (by decide) hh).trans hh.symm)
  have hfa : ∀ i (hi : i < NA.length), AtFB w5 Ma i NA[i] := fun i hi => (h1.fa i hi).same (fun b _ _ hh => (grown_type hrl hgr (by decide) hh).trans hh.symm)
  have hff : ∀ i (hi : i < NF.length), FnFB w5 T0 i NF[i] := fun i hi => (h1.ff i hi).same (fun b _ _ hh => (grown_type hrl hgr (by decide) hh).trans hh.symm)
  refine ⟨blk_set _ hb5, ownsRow_set (own_grown_type hrl hgr (by decide) h1.ra) hb5 (by decide), ?_, ownsRow_set (own_grown_type hrl hgr (by decide) h1.rf) hb5 (by decide), h.out, fun i hi => (hfa i hi).same (fun b _ _ hh => heap_set_ne _ (ty_ne hh hb5 (by decide))), fun i hi => (hfl i hi).same (fun b _ _ _ hh => heap_set_ne _ (ty_ne hh hb5 (by decide))), fun i hi => (hff i hi).same (fun b _ _ hh => heap_set_ne _ (ty_ne hh hb5 (by decide))), h.sep⟩
  rw [List.length_append]
  exact ownsRow_set hown hb5 (by decide)
/-- A list of templates is taken in. -/
theorem HoldB.takeF {w w5 : World} {B0 hb T0 T1 Ma Ml g cap : Nat} {av lv fv f : Value} {NA NL NF EA EL : List Value} {o : Obj} (h : HoldB w B0 hb T0 T1 Ma Ml av lv fv NA NL NF EA EL [])
    (hown : w5.ownsRow B0 55 1 (.slice (some ⟨g, 0, none⟩) (NF.length + 1) cap) (NF.length + 1) (NF ++ [f])) (hgr : (w.alloc o).grownBy w5 fv.ownBlock) :
    HoldB (w5.setCell ⟨hb, 2, none⟩ (.slice (some ⟨g, 0, none⟩) (NF.length + 1) cap)) B0 hb T0 T1 Ma Ml av lv (.slice (some ⟨g, 0, none⟩) (NF.length + 1) cap) NA NL NF EA EL [f] := by
  have h1 := h.old ((Below.refl w.heap.size w).alloc (Nat.le_refl _) o)
  have hrf : (w.alloc o).ownsRow B0 55 1 fv NF.length NF := by simpa using h1.rf
  have hb5 := grown_type hrf hgr (by decide) h1.blk
  have hfl : ∀ i (hi : i < NL.length), LnFB w5 Ml i NL[i] := fun i hi => (h1.fl i hi).same (fun b _ _ _ hh => (grown_type hrf hgr (by decide) hh).trans hh.symm)
  have hfa : ∀ i (hi : i < NA.length), AtFB w5 Ma i NA[i] := fun i hi => (h1.fa i hi).same (fun b _ _ hh => (grown_type hrf hgr (by decide) hh).trans hh.symm)
  have hff : ∀ i (hi : i < NF.length), FnFB w5 T0 i NF[i] := fun i hi => (h1.ff i hi).same (fun b _ _ hh => (grown_type hrf hgr (by decide) hh).trans hh.symm)
  refine ⟨blk_set _ hb5, ownsRow_set (own_grown_type hrf hgr (by decide) h1.ra) hb5 (by decide), ownsRow_set (own_grown_type hrf hgr (by decide) h1.rl) hb5 (by decide), ?_, h.out, fun i hi => (hfa i hi).same (fun b _ _ hh => heap_set_ne _ (ty_ne hh hb5 (by decide))), fun i hi => (hfl i hi).same (fun b _ _ _ hh => heap_set_ne _ (ty_ne hh hb5 (by decide))), fun i hi => (hff i hi).same (fun b _ _ hh => heap_set_ne _ (ty_ne hh hb5 (by decide))), h.sep⟩
  rw [List.length_append]
  exact ownsRow_set hown hb5 (by decide)
/-- The list of atoms that was taken in last is full now. -/
theorem HoldB.fullA {w : World} {B0 hb T0 T1 Ma Ml : Nat} {av lv fv f : Value} {NA NL NF EL EF : List Value} {M : Nat} (h : HoldB w B0 hb T0 T1 Ma Ml av lv fv NA NL NF [f] EL EF) (hM : Ma ≤ M) (hf : AtFB w M NA.length f) : HoldB w B0 hb T0 T1 M Ml av lv fv (NA ++ [f]) NL NF [] EL EF := by
  refine ⟨h.blk, by simpa using h.ra, h.rl, h.rf, h.out, fun i hi => ?_, h.fl, h.ff, h.sep⟩
  by_cases hl : i < NA.length
  · rw [List.getElem_append_left hl]
    obtain ⟨a, n, h1, h2, h3⟩ := h.fa i hl
    refine ⟨a, n, h1, h2, ?_⟩
    rcases h3 with h3 | ⟨b, cur, rfl, hb, hh, hc⟩
    · exact .inl h3
    · exact .inr ⟨b, cur, rfl, Nat.lt_of_lt_of_le hb hM, hh, hc⟩
  · have hi2 : i = NA.length := by rw [List.length_append] at hi; simp at hi; omega
    subst hi2
    rw [List.getElem_append_right (Nat.le_refl _)]
    simpa using hf
theorem HoldB.fullL {w : World} {B0 hb T0 T1 Ma Ml : Nat} {av lv fv f : Value} {NA NL NF EA EF : List Value} {M : Nat} (h : HoldB w B0 hb T0 T1 Ma Ml av lv fv NA NL NF EA [f] EF) (hM : Ml ≤ M) (hf : LnFB w M NL.length f) (hs : ∀ k, av.ownBlock = some k → f.ownBlock ≠ some k) : HoldB w B0 hb T0 T1 Ma M av lv fv NA (NL ++ [f]) NF EA [] EF := by
  refine ⟨h.blk, h.ra, by simpa using h.rl, h.rf, h.out, h.fa, fun i hi => ?_, h.ff, fun v hv => ?_⟩
  · by_cases hl : i < NL.length
    · rw [List.getElem_append_left hl]
      obtain ⟨a, n, h1, h2, h3⟩ := h.fl i hl
      refine ⟨a, n, h1, h2, ?_⟩
      rcases h3 with h3 | ⟨b, cur, rfl, hb, hh, hc⟩
      · exact .inl h3
      · exact .inr ⟨b, cur, rfl, Nat.lt_of_lt_of_le hb hM, hh, hc⟩
    · have hi2 : i = NL.length := by rw [List.length_append] at hi; simp at hi; omega
      subst hi2
      rw [List.getElem_append_right (Nat.le_refl _)]
      simpa using hf
  · rcases List.mem_append.1 hv with hv | hv
    · exact h.sep v hv
    · rw [List.mem_singleton.1 hv]; exact hs

theorem HoldB.fullF {w : World} {B0 hb T0 T1 Ma Ml : Nat} {av lv fv f : Value} {NA NL NF EA EL : List Value} {M : Nat} (h : HoldB w B0 hb T0 T1 Ma Ml av lv fv NA NL NF EA EL [f]) (hM : T0 ≤ M) (hf : FnFB w M NF.length f) (ho : ∀ k, av.ownBlock = some k → k < M ∨ T1 ≤ k) : HoldB w B0 hb M T1 Ma Ml av lv fv NA NL (NF ++ [f]) EA EL [] := by
  refine ⟨h.blk, h.ra, h.rl, by simpa using h.rf, ho, h.fa, h.fl, fun i hi => ?_, h.sep⟩
  by_cases hl : i < NF.length
  · rw [List.getElem_append_left hl]
    obtain ⟨a, n, h1, h2, h3⟩ := h.ff i hl
    refine ⟨a, n, h1, h2, ?_⟩
    rcases h3 with h3 | ⟨b, cur, rfl, hb, hh, hc⟩
    · exact .inl h3
    · exact .inr ⟨b, cur, rfl, Nat.lt_of_lt_of_le hb hM, hh, hc⟩
  · have hi2 : i = NF.length := by rw [List.length_append] at hi; simp at hi; omega
    subst hi2
    rw [List.getElem_append_right (Nat.le_refl _)]
    simpa using hf
/-- Where the next lists lie is above all that is held: the next step's bounds. -/
theorem HoldB.next {w : World} {B0 hb T0 T1 Ma Ml T : Nat} {av lv fv : Value} {NA NL NF : List Value} (h : HoldB w B0 hb T0 T1 Ma Ml av lv fv NA NL NF [] [] []) (hT : w.heap.size ≤ T) (T2 : Nat) : HoldB w B0 hb T T2 T T av lv fv NA NL NF [] [] [] := by
  refine ⟨h.blk, h.ra, h.rl, h.rf, fun k hk => .inl (by have := (h.ra.lt k hk).2; omega), fun i hi => ?_, fun i hi => ?_, fun i hi => ?_, h.sep⟩
  · obtain ⟨a, n, h1, h2, h3⟩ := h.fa i hi
    refine ⟨a, n, h1, h2, ?_⟩
    rcases h3 with h3 | ⟨b, cur, rfl, _, hh, hc⟩
    · exact .inl h3
    · exact .inr ⟨b, cur, rfl, by have := (Array.getElem?_eq_some_iff.1 hh).1; omega, hh, hc⟩
  · obtain ⟨a, n, h1, h2, h3⟩ := h.fl i hi
    refine ⟨a, n, h1, h2, ?_⟩
    rcases h3 with h3 | ⟨b, cur, rfl, _, hh, hc⟩
    · exact .inl h3
    · exact .inr ⟨b, cur, rfl, by have := (Array.getElem?_eq_some_iff.1 hh).1; omega, hh, hc⟩
  · obtain ⟨a, n, h1, h2, h3⟩ := h.ff i hi
    refine ⟨a, n, h1, h2, ?_⟩
    rcases h3 with h3 | ⟨b, cur, rfl, _, hh, hc⟩
    · exact .inl h3
    · exact .inr ⟨b, cur, rfl, by have := (Array.getElem?_eq_some_iff.1 hh).1; omega, hh, hc⟩

set_option maxHeartbeats 1000000 in
theorem lPlays5 (h : Value) (n m : Int) (s : ByteArray) (c : Cd) (fo : Option Addr) (fl fc : Nat) (w : World) (hf : FunsRd w w.heap.size (.slice fo fl fc) c.fs) (hsm : SmallC c.fs) (ht : Tab w) :
    Calls Tryz.prog 23 #[h, opV 5 n m s c.mn fo fl fc] w fun e w' => e = .returned (.bool true) ∧ Below w.heap.size w w' := by
  have hA : Below w.heap.size w (w.alloc (Obj.cells #[.int .i64 5, .int .i64 n, .int .i64 m, .string s, .int .i64 c.mn, .slice fo fl fc] 59)) := (Below.refl _ _).alloc (Nat.le_refl _) _
  have HC : Hid _ := lCodes5 h n m s c fo fl fc (w.alloc (Obj.cells #[.int .i64 5, .int .i64 n, .int .i64 m, .string s, .int .i64 c.mn, .slice fo fl fc] 59)) ((hf.keep hA).upZ hA.size) hsm (ht.alloc _)
  unfold opV at HC ⊢
  clear hf hsm ht
  go_enter Tryz.func23, Tryz.ntmps23
  go_wp2_with fail
  refine (show Calls _ _ _ _ _ from HC.out).mono ?_
  rintro e w1 ⟨rfl, hb1⟩
  have hb1' : Below w.heap.size w w1 := hA.trans (hb1.mono (by simp))
  clear hb1 HC
  go_wp2_with fail
  go_ret
  exact ⟨rfl, hb1'⟩

end Go.Proofs.YtnndoagpbcacdaaGreatDoor
namespace Go.Proofs.YtnndoagpbcacdaaGreatDoor
open Go.RowKit

/-! Where Read's lists lie, whatever stands in them. -/
def Sh3 (lo hi : Nat) (w w' : World) : Prop := ∀ (b : Nat) (cur : Array Value) (t : TypeId), lo ≤ b → b < hi → (t = 75 ∨ t = 76 ∨ t = 78) → w.heap[b]? = some (.cells cur t (0, 0)) → ∃ cur', w'.heap[b]? = some (.cells cur' t (0, 0)) ∧ cur'.size = cur.size ∧ (t ≠ 75 → cur' = cur)
theorem Sh3.same {lo hi : Nat} {w w' : World} (h : ∀ (b : Nat) (cur : Array Value) (t : TypeId), lo ≤ b → b < hi → (t = 75 ∨ t = 76 ∨ t = 78) → w.heap[b]? = some (.cells cur t (0, 0)) → w'.heap[b]? = w.heap[b]?) : Sh3 lo hi w w' :=
  fun b cur t h1 h2 h3 h4 => ⟨cur, (h b cur t h1 h2 h3 h4).trans h4, rfl, fun _ => rfl⟩
theorem Sh3.refl {lo hi : Nat} {w : World} : Sh3 lo hi w w := Sh3.same fun _ _ _ _ _ _ _ => rfl
theorem Sh3.trans {lo hi : Nat} {w w' w'' : World} (h1 : Sh3 lo hi w w') (h2 : Sh3 lo hi w' w'') : Sh3 lo hi w w'' := by
  intro b cur t hl hh ht hb
  obtain ⟨c1, e1, e2, e3⟩ := h1 b cur t hl hh ht hb
  obtain ⟨c2, f1, f2, f3⟩ := h2 b c1 t hl hh ht e1
  exact ⟨c2, f1, f2.trans e2, fun h => (f3 h).trans (e3 h)⟩
theorem Sh3.mono {lo hi lo' hi' : Nat} {w w' : World} (h : Sh3 lo hi w w') (h1 : lo ≤ lo') (h2 : hi' ≤ hi) : Sh3 lo' hi' w w' :=
  fun b cur t hl hh ht hb => h b cur t (by omega) (by omega) ht hb
theorem Sh3.below {lo hi : Nat} {w w' : World} (h : Below w.heap.size w w') : Sh3 lo hi w w' :=
  Sh3.same fun b _ _ _ _ _ hb => h.block b (Array.getElem?_eq_some_iff.1 hb).1
theorem Sh3.putOut {lo hi x i : Nat} {w : World} {u : Value} (h : x < lo ∨ hi ≤ x) : Sh3 lo hi w (w.setCell ⟨x, i, none⟩ u) :=
  Sh3.same fun b _ _ _ _ _ _ => heap_set_ne _ (by omega)
theorem Sh3.putH {lo hi x i : Nat} {w : World} {u : Value} {cs : Array Value} (h : w.heap[x]? = some (.cells cs 54 (0, 0))) : Sh3 lo hi w (w.setCell ⟨x, i, none⟩ u) :=
  Sh3.same fun b cur t _ _ ht hb => heap_set_ne _ (ty_ne hb h (by rcases ht with rfl | rfl | rfl <;> decide))
theorem Sh3.putAt {lo hi x i : Nat} {w : World} {u : Value} {cs : Array Value} (h : w.heap[x]? = some (.cells cs 75 (0, 0))) : Sh3 lo hi w (w.setCell ⟨x, i, none⟩ u) := by
  intro b cur t hl hh ht hb
  by_cases hbx : b = x
  · subst hbx
    have ht2 : t = 75 ∧ cur = cs := by rw [hb] at h; simp at h; exact ⟨h.2, h.1⟩
    obtain ⟨rfl, rfl⟩ := ht2
    exact ⟨_, blk_set _ hb, by simp, fun h => absurd rfl h⟩
  · exact ⟨cur, (heap_set_ne _ hbx).trans hb, rfl, fun _ => rfl⟩
theorem Sh3.grown {lo hi base size n : Nat} {e : TypeId} {w w' : World} {v : Value} {xs : List Value} (hr : w.ownsRow base e size v n xs) (hg : w.grownBy w' v.ownBlock) (hne : e ≠ 75 ∧ e ≠ 78) (ho : e ≠ 76 ∨ ∀ k, v.ownBlock = some k → k < lo ∨ hi ≤ k) : Sh3 lo hi w w' := by
  refine Sh3.same fun b cur t hl hh ht hb => ?_
  by_cases hte : t = e
  · subst hte
    have htt : t = 76 := by
      rcases ht with h | h | h
      · exact absurd h hne.1
      · exact h
      · exact absurd h hne.2
    refine hg.block b (Array.getElem?_eq_some_iff.1 hb).1 (fun e => ?_)
    rcases ho with ho | ho
    · exact ho htt
    · have := ho b e.symm; omega
  · exact (grown_type hr hg hte hb).trans hb.symm

def LnSh (w : World) (lo mid : Nat) (v : Value) : Prop := ∃ n b c cur, v = .slice (some ⟨b, 0, none⟩) n c ∧ n ≤ c ∧ c ≤ maxLen ∧ lo ≤ b ∧ b < mid ∧ w.heap[b]? = some (.cells cur 75 (0, 0)) ∧ cur.size = c * 2
def TpSh (w : World) (lo mid : Nat) (lv : Value) (k : Nat) (vs : List Value) : Prop := ∃ lb c cur, lv = .slice (some ⟨lb, 0, none⟩) k c ∧ k ≤ c ∧ c ≤ maxLen ∧ lo ≤ lb ∧ lb < mid ∧ w.heap[lb]? = some (.cells cur 76 (0, 0)) ∧ cur.size = c ∧ vs.length = k ∧ (∀ j, j < k → cur[j]? = vs[j]?) ∧ IncV vs ∧ ∀ u ∈ vs, LnSh w lo mid u
def ShI (w : World) : Nat → List Nat → List Value → Nat → Prop
  | lo, [], xs, hi => xs = [] ∧ lo ≤ hi
  | lo, k :: r, xs, hi => ∃ ar lv ys vs mid, xs = .int .i64 ar :: lv :: ys ∧ TpSh w lo mid lv k vs ∧ lo ≤ mid ∧ ShI w mid r ys hi
theorem LnSh.sh {w w' : World} {lo mid : Nat} {v : Value} (h : LnSh w lo mid v) (hs : Sh3 lo mid w w') : LnSh w' lo mid v := by
  obtain ⟨n, b, c, cur, h1, h2, h3, h4, h5, h6, h7⟩ := h
  obtain ⟨cur', e1, e2, _⟩ := hs b cur _ h4 h5 (.inl rfl) h6
  exact ⟨n, b, c, cur', h1, h2, h3, h4, h5, e1, e2.trans h7⟩
theorem TpSh.sh {w w' : World} {lo mid k : Nat} {v : Value} {vs : List Value} (h : TpSh w lo mid v k vs) (hs : Sh3 lo mid w w') : TpSh w' lo mid v k vs := by
  obtain ⟨b, c, cur, h1, h2, h3, h4, h5, h6, h7, h8, h9, h10, h11⟩ := h
  obtain ⟨cur', e1, e2, e3⟩ := hs b cur _ h4 h5 (.inr (.inl rfl)) h6
  obtain rfl := e3 (by decide)
  exact ⟨b, c, cur', h1, h2, h3, h4, h5, e1, h7, h8, h9, h10, fun u hu => (h11 u hu).sh hs⟩
theorem ShI.le {w : World} : ∀ {F : List Nat} {lo hi : Nat} {xs : List Value}, ShI w lo F xs hi → lo ≤ hi
  | [], _, _, _, h => h.2
  | _ :: _, _, _, _, ⟨_, _, _, _, _, _, _, h, h2⟩ => Nat.le_trans h (ShI.le h2)
theorem ShI.sh {w w' : World} : ∀ {F : List Nat} {lo hi : Nat} {xs : List Value}, ShI w lo F xs hi → Sh3 lo hi w w' → ShI w' lo F xs hi
  | [], _, _, _, h, _ => h
  | _ :: _, _, _, _, ⟨ar, lv, ys, vs, mid, h1, h2, h3, h4⟩, hs => ⟨ar, lv, ys, vs, mid, h1, h2.sh (hs.mono (Nat.le_refl _) h4.le), h3, h4.sh (hs.mono h3 (Nat.le_refl _))⟩
theorem lnSh_of {w : World} {lo mid : Nat} {v : Value} {l : Ln} (h : w.ownsRow lo 75 2 v l.length (acs l)) (hl : 1 ≤ l.length) (hm : ∀ k, v.ownBlock = some k → k < mid) : LnSh w lo mid v := by
  rcases h.2 with ⟨_, h0⟩ | ⟨g, cap, cur, rfl, hg, hh, h1, h2, h3, _⟩
  · omega
  · exact ⟨_, g, cap, cur, rfl, h1, h2, hg, hm g rfl, hh, h3⟩
theorem tpSh_of {w : World} {lo mid : Nat} {v : Value} {L : List Ln} {vs : List Value} (h : LinesV w lo v L vs) (hl : 1 ≤ L.length) (ha : ∀ l ∈ L, 1 ≤ l.length) (hm : ∀ k, v.ownBlock = some k → k < mid) (hm2 : ∀ u ∈ vs, ∀ k, u.ownBlock = some k → k < mid) : TpSh w lo mid v L.length vs := by
  have hvl : vs.length = L.length := by have := h.1.1; simpa using this
  rcases h.1.2 with ⟨_, h0⟩ | ⟨g, cap, cur, rfl, hg, hh, h1, h2, h3, h4⟩
  · omega
  · refine ⟨g, cap, cur, rfl, h1, h2, hg, hm g rfl, hh, by rw [h3, Nat.mul_one], hvl, fun j hj => ?_, h.2.2, fun u hu => ?_⟩
    · rw [← h4, Nat.mul_one, List.getElem?_take_of_lt hj, Array.getElem?_toList]
    · obtain ⟨j, hj, rfl⟩ := List.mem_iff_getElem.1 hu
      obtain ⟨u, e1, e2, _⟩ := h.2.1 j (by omega)
      rw [List.getElem?_eq_getElem hj] at e1
      cases e1
      exact lnSh_of e2 (ha _ (List.getElem_mem _)) (hm2 _ (List.getElem_mem hj))
theorem shI_of {w : World} : ∀ {F : List Tp} {lo hi : Nat} {xs : List Value}, FuI w lo F xs hi → (∀ t ∈ F, 1 ≤ t.ls.length ∧ ∀ l ∈ t.ls, 1 ≤ l.length) → ShI w lo (F.map (·.ls.length)) xs hi
  | [], _, _, _, h, _ => h
  | t :: r, _, _, _, ⟨lv, ys, vs, mid, h1, h2, h3, h4, h5, h6⟩, hq => ⟨t.ar, lv, ys, vs, mid, h1, tpSh_of h2 (hq t (by simp)).1 (hq t (by simp)).2 h3 h4, h5, shI_of h6 (fun t ht => hq t (List.mem_cons_of_mem _ ht))⟩
/-- The list of templates: its block, and what stands there for the ones to come. -/
theorem ShI.at {w : World} : ∀ {F : List Nat} {lo hi : Nat} {xs : List Value}, ShI w lo F xs hi → xs.length = F.length * 2
  | [], _, _, _, h => by rw [h.1]; rfl
  | _ :: _, _, _, _, ⟨_, _, _, _, _, h1, _, _, h4⟩ => by rw [h1]; simp [ShI.at h4]; omega

end Go.Proofs.YtnndoagpbcacdaaGreatDoor
