import Derived.Test.YtnndoagpbcacdaaGreatDoorZ10
import Derived.Test.YtnndoagpbcacdaaGreatDoorMX13
namespace Go.Proofs.YtnndoagpbcacdaaGreatDoor
open Go.RowKit

/-! The law's Read step. -/
def fsOf (s : ByteArray) : List Tp := ((rdC s).map (·.fs)).getD []
def mnOf (s : ByteArray) : Int := ((rdC s).map (·.mn)).getD 0
theorem fsOf_ok (s : ByteArray) : (fsOf s).length ≤ 16 ∧ ∀ t ∈ fsOf s, 1 ≤ t.ls.length ∧ t.ls.length ≤ 13 ∧ ∀ l ∈ t.ls, 1 ≤ l.length := by
  unfold fsOf
  cases h : rdC s with
  | none => exact ⟨by simp, fun t ht => by simp at ht⟩
  | some c =>
    have hg := rdC_good h
    simp only [goodC, Bool.and_eq_true, decide_eq_true_eq, List.all_eq_true] at hg
    obtain ⟨h1, h2, h3, h4, h5, _⟩ := hg
    refine ⟨h2, fun t ht => ?_⟩
    have g := h5 t ht
    simp only [goodT, Bool.and_eq_true, decide_eq_true_eq] at g
    obtain ⟨g1, g2, g3, g4, g5⟩ := g
    refine ⟨g3, g4, fun l hl => ?_⟩
    obtain ⟨i, hi⟩ := goodLs_mem g5 l hl
    simp only [goodL, Bool.and_eq_true, decide_eq_true_eq] at hi
    exact hi.2.1
theorem funsOw_nil (w : World) : FunsOw w (.slice none 0 0) [] := ⟨[], World.ownsRow_nil _ _ _ _, rfl⟩
theorem funsN_nil {w : World} {B : Nat} (h : B ≤ w.heap.size) : FunsN w B (.slice none 0 0) [] := ⟨[], World.ownsRow_nil _ _ _ _, rfl, h⟩

set_option maxRecDepth 100000 in
set_option maxHeartbeats 2000000 in
theorem lCodes4 (hb B0 T T1 Ma Ml : Nat) (av lv fv : Value) (NA NL NF : List Value) (n m : Int) (s : ByteArray) (c0 : Int) (fo : Option Addr) (fl fc : Nat) (w : World) (hs : s.size ≤ maxLen) (hH : HoldB w B0 hb T T1 Ma Ml av lv fv NA NL NF [] [] []) (hhb : B0 ≤ hb) (hB : B0 ≤ w.heap.size)
    (hNA : NA.length ≤ 1099511627776) (hNL : NL.length ≤ 1099511627776) (hNF : NF.length ≤ 1099511627776) :
    Calls Tryz.prog 35 #[.pointer (some ⟨hb, 0, none⟩), opV 4 n m s c0 fo fl fc] w fun e w' => e = .returned (.bool true) ∧ Below B0 w w' ∧ ∃ T Ma Ml av' lv' fv' NA' NL' NF', HoldB w' B0 hb T w'.heap.size Ma Ml av' lv' fv' NA' NL' NF' [] [] [] ∧ NA'.length ≤ NA.length + 208 ∧ NL'.length ≤ NL.length + 16 ∧ NF'.length ≤ NF.length + 1 := by
  unfold opV
  obtain ⟨W1, hW1⟩ : ∃ W1, W1 = w.alloc (Obj.cells #[.int .i64 4, .int .i64 n, .int .i64 m, .string s, .int .i64 c0, .slice fo fl fc] 59) := ⟨_, rfl⟩
  have hA1 : Below w.heap.size w W1 := by rw [hW1]; exact below_alZ _ _
  have hX1 : W1.heap[w.heap.size]? = some (.cells #[.int .i64 4, .int .i64 n, .int .i64 m, .string s, .int .i64 c0, .slice fo fl fc] 59 (0, 0)) := by rw [hW1]; exact heap_alloc_new w _
  have hs1 : W1.heap.size = w.heap.size + 1 := by rw [hW1]; simp
  have HC1 : Hid _ := xRead s W1 hs
  have HH : Hid (∀ T1, HoldB W1 B0 hb W1.heap.size T1 W1.heap.size W1.heap.size av lv fv NA NL NF [] [] []) := fun T1 => (hH.old hA1).next (Nat.le_refl _) T1
  have HB1 : Hid (Below B0 w W1) := hA1.mono hB
  have HX1 : Hid _ := hX1
  have HFS : Hid _ := fsOf_ok s
  have HRR : Hid (∀ w', Calls Tryz.prog 51 #[.string s] w' fun e w'' => ∃ mn fo fl fc, e = .returned (.tuple #[.agg #[.int .i64 mn, .slice fo fl fc], .int .i64 (rdL s), .int .i64 (rdE s)]) ∧ Below w'.heap.size w' w'' ∧ (rdC s = none → mn = 0 ∧ Value.slice fo fl fc = .slice none 0 0) ∧ ∀ c, rdC s = some c → mn = c.mn ∧ FunsOw w'' (.slice fo fl fc) c.fs) := fun w' => rRead s w' hs
  have HMF : Hid ((∀ c, rdC s = some c → mnOf s = c.mn ∧ fsOf s = c.fs) ∧ (rdC s = none → mnOf s = 0 ∧ fsOf s = [])) := ⟨fun c h => by unfold mnOf fsOf; rw [h]; exact ⟨rfl, rfl⟩, fun h => by unfold mnOf fsOf; rw [h]; exact ⟨rfl, rfl⟩⟩
  generalize rdL s = rl at *
  generalize rdE s = re at *
  rw [hW1] at HC1 HH HX1 HB1 hs1
  clear hX1 hA1 hH hW1
  go_enter Tryz.func35, Tryz.ntmps35
  go_wp2_with fail
  refine (show Calls _ _ _ _ _ from HC1.out).mono ?_
  rintro e w2 ⟨mn, fo2, fl2, fc2, rfl, hb2, hno2, hso2⟩
  clear HC1
  have hfacts : mn = mnOf s ∧ FunsOw w2 (.slice fo2 fl2 fc2) (fsOf s) ∧ FunsN w2 (w.heap.size + 1) (.slice fo2 fl2 fc2) (fsOf s) := by
    cases h : rdC s with
    | none =>
      obtain ⟨a, b⟩ := hno2 h
      obtain ⟨a', b'⟩ := HMF.out.2 h
      rw [b, b', a']
      exact ⟨a, funsOw_nil _, funsN_nil (by have := hb2.size; rw [hs1] at this; exact this)⟩
    | some c =>
      obtain ⟨a, b, d⟩ := hso2 c h
      obtain ⟨a', b'⟩ := HMF.out.1 c h
      rw [a', b']
      rw [hs1] at d
      exact ⟨a, b, d⟩
  obtain ⟨hmn, hfo2, hfn2⟩ := hfacts
  subst hmn
  have hs2 := hb2.size
  rw [hs1] at hs2
  have HB2 : Hid (Below (w.heap.size + 1) (w.alloc (Obj.cells #[.int .i64 4, .int .i64 n, .int .i64 m, .string s, .int .i64 c0, .slice fo fl fc] 59)) w2) := by rw [hs1] at hb2; exact hb2
  have hX2 := (HB2.out.block w.heap.size (by omega)).trans HX1.out
  have g3 := cell_of_row w2 w.heap.size 3 _ _ _ hX2
  simp only [List.getElem?_toArray, List.getElem?_cons_succ, List.getElem?_cons_zero] at g3
  have hlt2 : w.heap.size < w2.heap.size := by omega
  have HFO2 : Hid _ := hfo2
  have HFN2 : Hid _ := hfn2
  have hA2 := below_alZ w2 (Obj.cells #[.int .i64 (mnOf s), .slice fo2 fl2 fc2] 57)
  have HA2 : Hid _ := hA2
  clear hb2 hno2 hso2 hX2 hfo2 hfn2 hA2
  go_wp2_with fail
  refine (show Calls _ _ _ _ _ from HRR.out _).mono ?_
  rintro e w3 ⟨mn', fo3, fl3, fc3, rfl, hb3, hno3, hso3⟩
  have hfacts3 : mn' = mnOf s ∧ FunsOw w3 (.slice fo3 fl3 fc3) (fsOf s) := by
    cases h : rdC s with
    | none =>
      obtain ⟨a, b⟩ := hno3 h
      obtain ⟨a', b'⟩ := HMF.out.2 h
      rw [b, b', a']
      exact ⟨a, funsOw_nil _⟩
    | some c =>
      obtain ⟨a, b⟩ := hso3 c h
      obtain ⟨a', b'⟩ := HMF.out.1 c h
      rw [a', b']
      exact ⟨a, b⟩
  obtain ⟨hmn3, hfo3⟩ := hfacts3
  subst hmn3
  have hs3 := hb3.size
  rw [World.size_alloc] at hs3
  have HB23 : Hid (Below w2.heap.size w2 w3) := HA2.out.trans (hb3.mono HA2.out.size)
  have hY3 := (hb3.block w2.heap.size (by simp)).trans (heap_alloc_new w2 _)
  have HA3 : Hid _ := below_alZ w3 (Obj.cells #[.int .i64 (mnOf s), .slice fo3 fl3 fc3] 57)
  have HB24 : Hid (Below w2.heap.size w2 (w3.alloc (Obj.cells #[.int .i64 (mnOf s), .slice fo3 fl3 fc3] 57))) := HB23.out.trans (HA3.out.mono (by omega))
  obtain ⟨y0, y1⟩ := cells_ofZ hY3
  have hlt3 : w2.heap.size < w3.heap.size := by omega
  have HC3 : Hid _ := lSame (mnOf s) (fsOf s) (.slice fo2 fl2 fc2) (.slice fo3 fl3 fc3) (w3.alloc (Obj.cells #[.int .i64 (mnOf s), .slice fo3 fl3 fc3] 57)) (FunsOw.old HFO2.out HB24.out).rd (hfo3.old HA3.out).rd
  have HY3 : Hid _ := hY3
  clear HRR hb3 hno3 hso3 hfo3 hY3 g3 HMF
  go_wp2_with fail
  refine (show Calls _ _ _ _ _ from HC3.out).mono ?_
  rintro e w4 ⟨rfl, hb4⟩
  clear HC3
  have hs4 := hb4.size
  rw [World.size_alloc] at hs4
  have HB4 : Hid (Below w2.heap.size w2 w4) := HB24.out.trans (hb4.mono (by simp; omega))
  have hY4 := (hb4.block w2.heap.size (by simp; omega)).trans ((HA3.out.block w2.heap.size hlt3).trans HY3.out)
  obtain ⟨z0, z1⟩ := cells_ofZ hY4
  have hlt4 : w2.heap.size < w4.heap.size := by omega
  have HB14 : Hid (Below (w.heap.size + 1) (w.alloc (Obj.cells #[.int .i64 4, .int .i64 n, .int .i64 m, .string s, .int .i64 c0, .slice fo fl fc] 59)) w4) := HB2.out.trans (HB4.out.mono (by omega))
  obtain ⟨ys, hrow4, hfi4⟩ := FunsN.old HFN2.out HB4.out
  have hH4 : HoldB w4 B0 hb (w.heap.size + 1) w4.heap.size (w.heap.size + 1) (w.heap.size + 1) av lv fv NA NL NF [] [] [] := by
    have h := HH.out w4.heap.size
    rw [hs1] at h
    exact h.old (by rw [hs1]; exact HB14.out)
  have hfs := HFS.out
  have HC5 : Hid _ := lCode hb B0 (w.heap.size + 1) w4.heap.size (mnOf s) fo2 fl2 fc2 ((fsOf s).map (·.ls.length)) ys NA NL NF av lv fv w4 hH4 (by omega) hhb (by omega) (Nat.le_refl _) (by rw [List.length_map]; exact hrow4) (fun k hk => (hrow4.lt k hk).2) (shI_of hfi4 (fun t ht => ⟨(hfs.2 t ht).1, (hfs.2 t ht).2.2⟩)) (by rw [List.length_map]; exact hfs.1) (fun k hk => by
    obtain ⟨t, ht, rfl⟩ := List.mem_map.1 hk
    exact (hfs.2 t ht).2.1) hNA hNL hNF
  have HBw4 : Hid (Below B0 w w4) := HB1.out.trans (HB14.out.mono (by omega))
  clear hH4 hrow4 hfi4 hY4 hb4 HH HFN2 HFO2 hfs HFS y0 y1
  go_wp2_with fail
  refine (show Calls _ _ _ _ _ from HC5.out).mono ?_
  rintro e w5 ⟨⟨v5, rfl⟩, hb5, T', Ma', Ml', av', lv', fv', NA', NL', NF', hH5, hl1, hl2, hl3⟩
  clear HC5
  have HB5 : Hid (Below B0 w w5) := HBw4.out.trans hb5
  have HF : Hid (∃ T Ma Ml av' lv' fv' NA' NL' NF', HoldB w5 B0 hb T w5.heap.size Ma Ml av' lv' fv' NA' NL' NF' [] [] [] ∧ NA'.length ≤ NA.length + 208 ∧ NL'.length ≤ NL.length + 16 ∧ NF'.length ≤ NF.length + 1) := ⟨w5.heap.size, _, _, _, _, _, _, _, _, hH5.next (Nat.le_refl _) _, hl1, hl2, hl3⟩
  have her : (re == re) = true := by simp
  have hrl : (rl == rl) = true := by simp
  clear hb5 hH5 hl1 hl2 hl3 z0 z1
  go_wp2_with (go_at_call 48; refine (lNum _ _).mono ?_; rintro e w6 ⟨rfl, rfl⟩)
  go_ret
  exact ⟨rfl, HB5.out, HF.out⟩

end Go.Proofs.YtnndoagpbcacdaaGreatDoor
