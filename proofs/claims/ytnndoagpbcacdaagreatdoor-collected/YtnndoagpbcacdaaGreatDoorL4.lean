import Derived.Test.YtnndoagpbcacdaaGreatDoorMP3
import Derived.Test.YtnndoagpbcacdaaGreatDoorL3
namespace Go.Proofs.YtnndoagpbcacdaaGreatDoor
open Go.RowKit

theorem prog_more (s : ByteArray) (h : (chk s).2 = 0) : SameCut (cAll (toksF s 0)).ds ∧ ∀ d ∈ (cAll (toksF s 0)).ds, DfOk d ∧ ∀ t ∈ d.body, kindOf t.txt = 2 → t.txt.size ≤ 6 ∧ digL t.txt.data.toList := by
  have hall := prog_of s h
  obtain ⟨hs2, hpr, _, hdo, _⟩ := hall
  have hdig := toksF_dig s 0
  have hu : unkF (cAll (toksF s 0)).ds (cAll (toksF s 0)).ds = none := by
    unfold chk at h
    rw [if_neg (by omega)] at h
    split at h
    · rename_i hg; exact absurd h hg
    split at h
    · rename_i hg; exact absurd h hg
    split at h
    · rename_i hg; exact absurd h hg
    rename_i hg
    cases hu : unkF (cAll (toksF s 0)).ds (cAll (toksF s 0)).ds with
    | some p => rw [hu] at hg; simp [orErr] at hg
    | none => rfl
  generalize (cAll (toksF s 0)).ds = ds at *
  have hshq := hpr.shq
  have hwt := hpr.wt
  generalize toksF s 0 = ts at *
  have hua := unkF_all hu
  have hnm := hshq.names
  refine ⟨?_, fun d hd => ⟨hdo d hd, fun t ht h2 => ⟨(kind_num h2).2, hdig t (hshq.mem d hd t ht) (kind_num h2).1⟩⟩⟩
  intro d hd x a hb hs ha
  have hk : ∀ t ∈ d.body, simp3 t → atomF d.ps ds t = knownF d.ps (ds.map (·.name)) t := fun t ht hs =>
    atom_known (hwt t (hshq.mem d hd t ht)) hs (hnm d hd).2.1 (fun e he => (hnm e he).1) (hua d hd t ht)
  rw [hb] at hk
  have hc := ownT_congr (f := atomF d.ps ds) (g := knownF d.ps (ds.map (fun e : Df => e.name))) (a := .sim x a) ⟨hs, ha⟩ hk
  rw [hb, cut_body d.ps ds hs ha, hc.1, hc.2]

set_option maxHeartbeats 400000 in
theorem xCompile (s : ByteArray) (w : World) (hs : s.size ≤ maxLen) (ht : Tab w) :
    Calls Tryz.prog 14 #[.string s] w fun e w' => ∃ x : ByteArray, e = .returned (.tuple #[.string x, .int .i64 (cmpE s)]) ∧ x.data.toList = cmpL s ∧ x.size ≤ 20000 ∧ Below w.heap.size w w' := by
  have HC : Hid _ := sCompile s w hs ht (fun h => ⟨(prog_of s h).2.2.2.2, (prog_more s h).2⟩)
  go_enter Tryz.func14, Tryz.ntmps14
  go_wp2_with fail
  refine (show Calls _ _ _ _ _ from HC.out).mono ?_
  rintro e w1 ⟨x, rfl, hx, hxs, hb1⟩
  go_wp2_with fail
  go_ret2
  exact ⟨x, rfl, hx, hxs, hb1⟩

set_option maxHeartbeats 1000000 in
theorem lTexts3 (n m : Int) (s : ByteArray) (c : Int) (fo : Option Addr) (fl fc : Nat) (w : World) (hs : s.size ≤ maxLen) (ht : Tab w) :
    Calls Tryz.prog 34 #[opV 3 n m s c fo fl fc] w fun e w' => e = .returned (.bool true) ∧ Below w.heap.size w w' := by
  unfold opV
  have HC : Hid _ := xCompile s (w.alloc (Obj.cells #[.int .i64 3, .int .i64 n, .int .i64 m, .string s, .int .i64 c, .slice fo fl fc] 59)) hs (ht.alloc _)
  have HR : Hid _ := fun w => rCompile s w hs (fun h => ⟨(prog_of s h).1, (prog_of s h).2.1, (prog_of s h).2.2.2.2, (prog_more s h).1, (prog_of s h).2.2.2.1⟩)
  go_enter Tryz.func34, Tryz.ntmps34
  go_wp2_with fail
  refine (show Calls _ _ _ _ _ from HC.out).mono ?_
  rintro e w1 ⟨x, rfl, hx, hxs, hb1⟩
  clear HC
  have hbx := box_later' hb1
  have g3 := cell_of_row w1 w.heap.size 3 _ _ _ hbx
  simp only [List.getElem?_toArray, List.getElem?_cons_succ, List.getElem?_cons_zero] at g3
  have hb1' : Below w.heap.size w w1 := ((Below.refl _ _).alloc (Nat.le_refl _) _).trans (hb1.mono (by simp))
  clear hb1 hbx
  have HX : Hid _ := hx
  clear hx
  go_wp2_with fail
  refine (show Calls _ _ _ _ _ from HR.out _).mono ?_
  rintro e w2 ⟨y, rfl, hy, hys, hb2⟩
  clear HR
  have hb2' := hb1'.trans (hb2.mono hb1'.size)
  have hxy : y = x := ba_data_inj (by rw [hy, HX.out])
  subst hxy
  clear hb2 hb1' g3 hy HX
  generalize cmpE s = er
  have hp : (y.toList == y.toList) = true := by simp
  have her : (er == er) = true := by simp
  go_wp2_with (go_at_call 48; refine (lNum _ _).mono ?_; rintro e w3 ⟨rfl, rfl⟩)
  go_ret
  exact ⟨rfl, hb2'⟩

set_option maxHeartbeats 1000000 in
theorem lPlays3 (h : Value) (n m : Int) (s : ByteArray) (c : Int) (fo : Option Addr) (fl fc : Nat) (w : World) (hs : s.size ≤ maxLen) (ht : Tab w) :
    Calls Tryz.prog 23 #[h, opV 3 n m s c fo fl fc] w fun e w' => e = .returned (.bool true) ∧ Below w.heap.size w w' := by
  unfold opV
  go_enter Tryz.func23, Tryz.ntmps23
  go_wp2_with fail
  refine (lTexts3 n m s c fo fl fc _ hs (ht.alloc _)).mono ?_
  rintro e w1 ⟨rfl, hb1⟩
  have hb1' : Below w.heap.size w w1 := ((Below.refl _ _).alloc (Nat.le_refl _) _).trans (hb1.mono (by simp))
  clear hb1
  go_wp2_with fail
  go_ret
  exact ⟨rfl, hb1'⟩

def head4 : ByteArray := ⟨#[109, 97, 105, 110, 32, 61, 32, 102, 32, 40, 103, 32, 49, 32, 40, 103, 32, 50, 41, 41, 32, 40, 103, 32, 51, 41, 59, 32, 102, 32, 120, 32, 121, 32, 61, 32, 43, 32, 120, 32, 121, 59, 32, 103, 32, 120, 32, 61, 32, 120, 59]⟩
theorem cmpE_head : cmpE head4 = 0 := by decide +kernel
theorem cmpL_head : cmpL head4 = [77, 32, 48, 32, 51, 10, 70, 32, 48, 32, 51, 10, 102, 49, 32, 120, 48, 32, 120, 50, 10, 102, 50, 32, 110, 49, 32, 120, 49, 10, 102, 50, 32, 110, 50, 10, 102, 50, 32, 110, 51, 10, 70, 32, 50, 32, 48, 10, 112, 48, 32, 97, 48, 32, 97, 49, 10, 70, 32, 49, 32, 48, 10, 97, 48, 10] := by decide +kernel

set_option maxHeartbeats 1000000 in
theorem lHeads3 (w : World) (ht : Tab w) :
    Calls Tryz.prog 22 #[.int .i64 3] w fun e w' => e = .returned (.bool true) ∧ Below w.heap.size w w' := by
  have HC : Hid _ := xCompile head4 w (by decide) ht
  rw [cmpE_head, cmpL_head] at HC
  go_enter Tryz.func22, Tryz.ntmps22
  go_wp2_with fail
  refine (show Calls _ _ _ _ _ from HC.out).mono ?_
  clear HC
  rintro e w1 ⟨x, rfl, hx, hxs, hb1⟩
  have hx2 : x = ⟨#[77, 32, 48, 32, 51, 10, 70, 32, 48, 32, 51, 10, 102, 49, 32, 120, 48, 32, 120, 50, 10, 102, 50, 32, 110, 49, 32, 120, 49, 10, 102, 50, 32, 110, 50, 10, 102, 50, 32, 110, 51, 10, 70, 32, 50, 32, 48, 10, 112, 48, 32, 97, 48, 32, 97, 49, 10, 70, 32, 49, 32, 48, 10, 97, 48, 10]⟩ := ba_data_inj hx
  subst hx2
  clear hx hxs
  go_wp2_with fail
  go_ret
  exact ⟨rfl, hb1⟩

set_option maxHeartbeats 4000000 in
/-- A script over one kind that holds no lists; P: what the calls want of the world. -/
theorem lUpToP (P : World → Prop) (hPb : ∀ w w' : World, P w → Below w.heap.size w w' → P w') (K : Int) (hK1 : 1 ≤ K) (hK7 : K ≤ 7)
    (hheads : ∀ w : World, P w → Calls Tryz.prog 22 #[.int .i64 K] w fun e w' => e = .returned (.bool true) ∧ Below w.heap.size w w')
    (hplays : ∀ (h : Value) (n m : Int) (s : ByteArray) (c : Int) (fo : Option Addr) (fl fc : Nat) (w : World), s.size ≤ maxLen → P w → Calls Tryz.prog 23 #[h, opV K n m s c fo fl fc] w fun e w' => e = .returned (.bool true) ∧ Below w.heap.size w w')
    (a : Option Addr) (len cap : Nat) (w : World) (hops : IsOps w a len cap) (hP : P w) :
    Calls Tryz.prog 12 #[.slice a len cap, .int .i64 K, .int .i64 K] w fun e w' => e = .returned (.int .i64 (-1)) ∧ Below w.heap.size w w' := by
  have HH : Hid _ := hheads
  have HPL : Hid _ := hplays
  have HPw : Hid (∀ wr, Below w.heap.size w wr → P wr) := fun wr h => hPb w wr hP h
  clear hheads hplays hP hPb
  have hlen : len ≤ 9223372036854775807 := by
    rcases hops with rfl | ⟨b, off, _, _, h1, h2, _⟩
    · omega
    · unfold maxLen at h2; omega
  go_enter Tryz.func12, Tryz.ntmps12
  go_wp2_with fail
  go_loopw [7] (fun v wr => ∃ k : Int, (Hid (k = K) ∨ Hid (k = K + 1)) ∧ v = .int .i64 k ∧ Below w.heap.size w wr) (fun v _ => (K + 1 - intOf v).toNat)
  case atStart => exact ⟨K, .inl rfl, rfl, Below.refl _ _⟩
  case round =>
    obtain ⟨k, hk, rfl, hb⟩ := hrel
    rcases hk with hk | hk
    · have hkl : k ≤ K := by have := hk.out; omega
      have hkl7 : k ≤ 7 := by omega
      have hkl1 : 1 ≤ k := by have := hk.out; omega
      have HH2 : Hid _ := HH.out wr (HPw.out wr hb)
      rw [← hk.out] at HH2
      have hm : (K + 1 - (k + 1)).toNat < (K + 1 - k).toNat := by have := hk.out; omega
      have HM : Hid _ := hm
      clear hm
      go_wp2_with fail
      refine (show Calls _ _ _ _ _ from HH2.out).mono ?_
      rintro e w1 ⟨rfl, hb1⟩
      go_wp2_with fail
      go_roundw
      case rel => exact ⟨k + 1, .inr (by have := hk.out; show _ = _; omega), rfl, hb.trans (hb1.mono hb.size)⟩
      case measure => simpa [intOf] using HM.out
    · have hkl : ¬ k ≤ K := by have := hk.out; omega
      go_wp2_with fail
      obtain ⟨bh, hbh⟩ : ∃ bh, wr.heap.size = bh := ⟨_, rfl⟩
      have hbsz := hb.size
      have hH0 : Hold0 (wr.alloc (Obj.cells #[.slice none 0 0, .slice none 0 0, .slice none 0 0] 54)) bh := by rw [← hbh]; exact heap_alloc_new wr _
      have hb0 : Below w.heap.size w (wr.alloc (Obj.cells #[.slice none 0 0, .slice none 0 0, .slice none 0 0] 54)) := hb.alloc hbsz _
      rw [hbh]
      clear hbh hb hbsz
      go_loopw [10] (fun v wx => ∃ i : Nat, i ≤ len ∧ v = .int .i64 i ∧ Below w.heap.size w wx ∧ Hold0 wx bh) (fun v _ => len - (intOf v).toNat)
      case atStart => exact ⟨0, Nat.zero_le _, rfl, hb0, hH0⟩
      case round =>
        clear hb0 hH0
        obtain ⟨i, hi, rfl, hb, hH⟩ := hrel
        by_cases hlt : i < len
        · rcases hops with h0 | ⟨b, off, rfl, hbl, hcap, hml, hcells⟩
          · omega
          · obtain ⟨k2, n, m, s, c, fo, fl, fc, hs, x0, x1, x2, x3, x4, x5⟩ := hcells i hlt
            rw [← hb.cell (p := ⟨b, off + i * 6, none⟩) hbl] at x0
            rw [← hb.cell (p := ⟨b, off + i * 6 + 1, none⟩) hbl] at x1
            rw [← hb.cell (p := ⟨b, off + i * 6 + 2, none⟩) hbl] at x2
            rw [← hb.cell (p := ⟨b, off + i * 6 + 3, none⟩) hbl] at x3
            rw [← hb.cell (p := ⟨b, off + i * 6 + 4, none⟩) hbl] at x4
            rw [← hb.cell (p := ⟨b, off + i * 6 + 5, none⟩) hbl] at x5
            have hbh : bh < wr.heap.size := (Array.getElem?_eq_some_iff.1 hH).1
            have hbsz := hb.size
            clear hcells
            by_cases hk1 : K ≤ k2
            · by_cases hk2 : k2 ≤ K
              · have hke : k2 = K := by omega
                have HP2 : Hid _ := HPL.out (.pointer (some ⟨bh, 0, none⟩)) n m s c fo fl fc (wr.alloc (Obj.cells #[.int .i64 k2, .int .i64 n, .int .i64 m, .string s, .int .i64 c, .slice fo fl fc] 59)) hs (HPw.out _ (hb.alloc hbsz _))
                rw [← hke] at HP2
                clear hke
                go_wp2_with fail
                refine (show Calls _ _ _ _ _ from HP2.out).mono ?_
                clear HP2
                rintro e w1 ⟨rfl, hb1⟩
                have hH1 : Hold0 w1 bh := (hb1.block bh (by simp; omega)).trans ((Below.heap_alloc _ _ bh (by omega)).trans hH)
                have hb1' : Below w.heap.size w w1 := (hb.alloc hbsz _).trans (hb1.mono (by simp; omega))
                clear hb1 x0 x1 x2 x3 x4 x5
                go_wp2_with fail
                refine (lStill0 bh _ hH1).mono ?_
                rintro e w2 ⟨rfl, rfl⟩
                go_wp2_with fail
                go_roundw
                case rel => exact ⟨i + 1, by omega, by go_num, hb1', hH1⟩
                case measure => simp [intOf]; omega
              · go_wp2_with fail
                go_roundw
                case rel => exact ⟨i + 1, by omega, by go_num, hb.alloc hbsz _, (Below.heap_alloc _ _ bh (by omega)).trans hH⟩
                case measure => simp [intOf]; omega
            · have hd : decide (K ≤ k2) = false := by simpa using hk1
              go_wp2_with fail
              go_roundw
              case rel => exact ⟨i + 1, by omega, by go_num, hb.alloc hbsz _, (Below.heap_alloc _ _ bh (by omega)).trans hH⟩
              case measure => simp [intOf]; omega
        · go_wp2_with fail
          go_ret
          exact ⟨rfl, hb⟩

set_option maxHeartbeats 1000000 in
theorem lCompiles (a : Option Addr) (len cap : Nat) (w : World) (hops : IsOps w a len cap) (ht : Tab w) :
    Calls Tryz.prog 5 #[.slice a len cap] w fun e w' => e = .returned (.bool true) ∧ Below w.heap.size w w' := by
  go_enter Tryz.func5, Tryz.ntmps5
  go_wp2_with fail
  refine (lUpToP Tab (fun _ _ h hb => h.below hb) 3 (by decide) (by decide) lHeads3 lPlays3 a len cap _ hops ht).mono ?_
  rintro e w1 ⟨rfl, hb1⟩
  go_wp2_with fail
  go_ret
  exact ⟨rfl, hb1⟩

end Go.Proofs.YtnndoagpbcacdaaGreatDoor
