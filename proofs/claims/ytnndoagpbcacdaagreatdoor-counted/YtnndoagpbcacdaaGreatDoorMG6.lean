import Derived.Test.YtnndoagpbcacdaaGreatDoorMG4
import Derived.Test.YtnndoagpbcacdaaGreatDoorMY1
import Derived.Test.YtnndoagpbcacdaaGreatDoorMX1
import Derived.Deep.DeepCutAuto
namespace Go.Proofs.YtnndoagpbcacdaaGreatDoor
open Go.RowKit

/-! Package redexkeep: grow.go: pick, next, word. -/
set_option maxHeartbeats 1000000 in
theorem kPick (c : Int) (n : Nat) (w : World) (h1 : -9223372036854775808 ≤ c) (h2 : c ≤ 9223372036854775807) (hn : 0 < n) (hn2 : n ≤ 1000000) :
    Calls Tryz.prog 19 #[.int .i64 c, .int .i64 n] w fun e w' => e = .returned (.int .i64 (pickF c n : Nat)) ∧ w' = w := by
  have hd : ¬ (n : Int) = 0 := by omega
  by_cases n0 : c < 0
  · have nn : 0 ≤ -(c + 1) := by omega
    have hm1 := Int.emod_nonneg (-(c + 1)) hd
    have hm2 := Int.emod_lt_of_pos (-(c + 1)) (show (0 : Int) < n by omega)
    have HE : Hid ((-(c + 1)) % (n : Int) = ((pickF c n : Nat) : Int)) := by show _ = _; unfold pickF; rw [if_pos n0]; omega
    have ht : Int.tmod (-(c + 1)) (n : Int) = (-(c + 1)) % (n : Int) := Int.tmod_eq_emod_of_nonneg nn
    go_enter Tryz.func19, Tryz.ntmps19
    go_wp2_with fail
    go_ret
    exact ⟨ret_int (by first | exact HE.out | (rw [ht]; exact HE.out)), rfl⟩
  · have nn : 0 ≤ c := by omega
    have n0' : decide (c < 0) = false := by simpa using n0
    have hm1 := Int.emod_nonneg c hd
    have hm2 := Int.emod_lt_of_pos c (show (0 : Int) < n by omega)
    have HE : Hid (c % (n : Int) = ((pickF c n : Nat) : Int)) := by show _ = _; unfold pickF; rw [if_neg n0]; omega
    have ht : Int.tmod c (n : Int) = c % (n : Int) := Int.tmod_eq_emod_of_nonneg nn
    go_enter Tryz.func19, Tryz.ntmps19
    go_wp2_with fail
    go_ret
    exact ⟨ret_int (by first | exact HE.out | (rw [ht]; exact HE.out)), rfl⟩

/-- A list of numbers that is handed in, read below T. -/
def IntsRd (w : World) (T : Nat) (v : Value) (l : List Int) : Prop :=
  ∃ a cap, v = .slice a l.length cap ∧ l.length ≤ cap ∧ cap ≤ maxLen ∧ (l.length = 0 ∨ ∃ b off, a = some ⟨b, off, none⟩ ∧ b < T ∧ ∀ j (h : j < l.length), w.cell? ⟨b, off + j, none⟩ = some (.int .i64 l[j]))
theorem IntsRd.keep {w w' : World} {T : Nat} {v : Value} {l : List Int} (h : IntsRd w T v l) (hb : Below T w w') : IntsRd w' T v l := by
  obtain ⟨a, cap, h1, h2, h3, h4⟩ := h
  refine ⟨a, cap, h1, h2, h3, ?_⟩
  rcases h4 with h4 | ⟨b, off, rfl, hbl, hc⟩
  · exact .inl h4
  · exact .inr ⟨b, off, rfl, hbl, fun j hj => by rw [hb.cell (p := ⟨b, off + j, none⟩) hbl]; exact hc j hj⟩
def sgs (l : List ByteArray) : List Value := l.map .string
/-- The grower in memory: its block g; T: what lies below is left alone; its lists of names. -/
structure GB (w : World) (T g : Nat) (lv nv pv : Value) (L : List Int) (k i : Nat) (ns ps : List ByteArray) : Prop where
  blk : w.heap[g]? = some (.cells #[lv, .int .i64 k, nv, pv, .int .i64 i] 39 (0, 0))
  lo : T ≤ g
  ri : IntsRd w T lv L
  kl : k ≤ L.length
  rn : w.ownsRow T 9 1 nv ns.length (sgs ns)
  rp : w.ownsRow T 9 1 pv ps.length (sgs ps)
section
variable {w w' : World} {T g : Nat} {lv nv pv : Value} {L : List Int} {k i : Nat} {ns ps : List ByteArray}
theorem GB.lt (h : GB w T g lv nv pv L k i ns ps) : g < w.heap.size := (Array.getElem?_eq_some_iff.1 h.blk).1
theorem row_but {b base n size : Nat} {e : TypeId} {v : Value} {xs : List Value} {cs : Array Value} {t : TypeId} (h : w.ownsRow base e size v n xs) (hb : But b w w') (hr : w.heap[b]? = some (.cells cs t (0, 0))) (hne : e ≠ t) : w'.ownsRow base e size v n xs := by
  refine ⟨h.1, ?_⟩
  rcases h.2 with hn | ⟨g, cap, cur, rfl, hg, hh, q⟩
  · exact .inl hn
  · refine .inr ⟨g, cap, cur, rfl, hg, ?_, q⟩
    have hne2 : g ≠ b := by
      intro e
      subst e
      rw [hr] at hh
      simp at hh
      exact hne hh.2.symm
    rw [hb.oth g (Array.getElem?_eq_some_iff.1 hh).1 hne2]; exact hh
theorem GB.c0 (h : GB w T g lv nv pv L k i ns ps) : w.cell? ⟨g, 0, none⟩ = some lv := by rw [cell_of_row w g 0 _ _ _ h.blk]; rfl
theorem GB.c1 (h : GB w T g lv nv pv L k i ns ps) : w.cell? ⟨g, 1, none⟩ = some (.int .i64 k) := by rw [cell_of_row w g 1 _ _ _ h.blk]; rfl
theorem GB.c2 (h : GB w T g lv nv pv L k i ns ps) : w.cell? ⟨g, 2, none⟩ = some nv := by rw [cell_of_row w g 2 _ _ _ h.blk]; rfl
theorem GB.c3 (h : GB w T g lv nv pv L k i ns ps) : w.cell? ⟨g, 3, none⟩ = some pv := by rw [cell_of_row w g 3 _ _ _ h.blk]; rfl
theorem GB.c4 (h : GB w T g lv nv pv L k i ns ps) : w.cell? ⟨g, 4, none⟩ = some (.int .i64 i) := by rw [cell_of_row w g 4 _ _ _ h.blk]; rfl
theorem GB.fz (h : GB w T g lv nv pv L k i ns ps) (j : Nat) : w.frozen? ⟨g, j, none⟩ = false := frozen_of_row w g j _ _ h.blk
theorem GB.setK (h : GB w T g lv nv pv L k i ns ps) (m : Nat) (hm : m ≤ L.length) : GB (w.setCell ⟨g, 1, none⟩ (.int .i64 m)) T g lv nv pv L m i ns ps :=
  ⟨blk_set _ h.blk, h.lo, h.ri.keep ((Below.refl T w).setCell (by exact h.lo) _), hm, ownsRow_set h.rn h.blk (by decide), ownsRow_set h.rp h.blk (by decide)⟩
theorem GB.setI (h : GB w T g lv nv pv L k i ns ps) (m : Nat) : GB (w.setCell ⟨g, 4, none⟩ (.int .i64 m)) T g lv nv pv L k m ns ps :=
  ⟨blk_set _ h.blk, h.lo, h.ri.keep ((Below.refl T w).setCell (by exact h.lo) _), h.kl, ownsRow_set h.rn h.blk (by decide), ownsRow_set h.rp h.blk (by decide)⟩
theorem GB.old (h : GB w T g lv nv pv L k i ns ps) (hb : Below w.heap.size w w') : GB w' T g lv nv pv L k i ns ps :=
  ⟨(hb.block g h.lt).trans h.blk, h.lo, h.ri.keep (hb.mono (by have := h.lt; have := h.lo; omega)), h.kl, ownsRow_old h.rn hb, ownsRow_old h.rp hb⟩
end

set_option maxHeartbeats 1000000 in
theorem kNext (n : Nat) (T g : Nat) (lv nv pv : Value) (L : List Int) (k i : Nat) (ns ps : List ByteArray) (w : World) (h : GB w T g lv nv pv L k i ns ps) (hin : ∀ c ∈ L, -9223372036854775808 ≤ c ∧ c ≤ 9223372036854775807) (hL : L.length ≤ maxLen) (hn : 0 < n) (hn2 : n ≤ 1000000) :
    Calls Tryz.prog 27 #[.pointer (some ⟨g, 0, none⟩), .int .i64 n] w fun e w' => e = .returned (.int .i64 ((nxF n (L.drop k)).1 : Nat)) ∧ But g w w' ∧ ∃ k', (nxF n (L.drop k)).2 = L.drop k' ∧ GB w' T g lv nv pv L k' i ns ps := by
  have hlt := h.lt
  have hkl := h.kl
  have c0 := h.c0
  have c1 := h.c1
  have f1 := h.fz 1
  obtain ⟨a, cap, rfl, hlc, hcm, hrd⟩ := h.ri
  have HG : Hid _ := h
  unfold maxLen at hL
  by_cases hk : k < L.length
  · obtain ⟨b, off, rfl, hbT, hcell⟩ := hrd.resolve_left (by omega)
    have hc := hcell k hk
    have hb2 : b < w.heap.size := by have := h.lo; omega
    have hbg : b ≠ g := by have := h.lo; omega
    obtain ⟨r1, r2⟩ := hin _ (List.getElem_mem hk)
    have HD : Hid (L.drop k = L[k] :: L.drop (k + 1)) := List.drop_eq_getElem_cons hk
    have HE : Hid ((nxF n (L.drop k)) = (pickF L[k] n, L.drop (k + 1))) := by show _ = _; rw [HD.out]; rfl
    rw [HE.out]
    have hd : decide ((L.length : Int) ≤ (k : Int)) = false := by simp; omega
    have hd2 : ¬ (L.length : Int) ≤ (k : Int) := by omega
    generalize L[k] = c at *
    have HC : Hid (∀ w', Calls Tryz.prog 19 #[.int .i64 c, .int .i64 n] w' fun e w'' => e = .returned (.int .i64 (pickF c n : Nat)) ∧ w'' = w') := fun w' => kPick c n w' r1 r2 hn hn2
    clear h hrd hcell HD HE
    go_enter Tryz.func27, Tryz.ntmps27
    go_wp2_with fail
    go_quiet (fail)
    go_wp2_with fail
    go_quiet (fail)
    go_wp2_with fail
    refine (show Calls _ _ _ _ _ from HC.out _).mono ?_
    rintro e w1 ⟨rfl, rfl⟩
    clear HC
    go_wp2_with fail
    go_ret
    exact ⟨rfl, (But.of (below_drewN (Below.refl _ w) _) (by omega)).set, k + 1, rfl, (HG.out.old (below_drewN (Below.refl _ w) _)).setK (k + 1) hk⟩
  · have hk2 : k = L.length := by omega
    have HE : Hid ((nxF n (L.drop k)) = (0, [])) := by show _ = _; rw [List.drop_eq_nil_of_le (by omega)]; rfl
    have HE2 : Hid (([] : List Int) = L.drop k) := by show _ = _; rw [List.drop_eq_nil_of_le (by omega)]
    rw [HE.out]
    have hd : decide ((L.length : Int) ≤ (k : Int)) = true := by simp; omega
    clear h hrd HE
    go_enter Tryz.func27, Tryz.ntmps27
    go_wp2_with fail
    go_quiet (fail)
    go_wp2_with fail
    go_ret
    exact ⟨rfl, But.of (below_drewN (Below.refl _ w) _) (by omega), k, HE2.out, HG.out.old (below_drewN (Below.refl _ w) _)⟩

end Go.Proofs.YtnndoagpbcacdaaGreatDoor
namespace Go.Proofs.YtnndoagpbcacdaaGreatDoor
open Go.RowKit

/-! Package redexkeep: grow.go: word. -/
def nmsB (ns ps : List ByteArray) : Nms := ⟨ns.map (fun s => s.data.toList), ps.map (fun s => s.data.toList)⟩
theorem sgs_at (l : List ByteArray) (j : Nat) (h : j < l.length) : (sgs l)[j]? = some (.string l[j]) := by
  unfold sgs; rw [List.getElem?_map, List.getElem?_eq_getElem h]; rfl

set_option maxRecDepth 100000 in
set_option maxHeartbeats 2000000 in
theorem kWord (T g : Nat) (lv nv pv : Value) (L : List Int) (k i : Nat) (ns ps : List ByteArray) (w : World) (h : GB w T g lv nv pv L k i ns ps) (hin : ∀ c ∈ L, -9223372036854775808 ≤ c ∧ c ≤ 9223372036854775807) (hL : L.length ≤ maxLen) (hns : 0 < ns.length) (hn4 : ns.length ≤ 4) (hp3 : ps.length ≤ 3) :
    Calls Tryz.prog 44 #[.pointer (some ⟨g, 0, none⟩)] w fun e w' => ∃ x : ByteArray, e = .returned (.string x) ∧ x.data.toList = wdT (nmsB ns ps) (wordF ps.length ns.length (L.drop k)).1 ∧ But g w w' ∧ ∃ k', (wordF ps.length ns.length (L.drop k)).2 = L.drop k' ∧ GB w' T g lv nv pv L k' i ns ps := by
  have HC1 : Hid _ := kNext 10 T g lv nv pv L k i ns ps w h hin hL (by omega) (by omega)
  have hk10 := nxF_lt 10 (L.drop k) (by omega)
  have HWF : Hid (wordF ps.length ns.length (L.drop k) = if (nxF 10 (L.drop k)).1 < 4 ∧ 0 < ps.length then ((2, ((nxF ps.length (nxF 10 (L.drop k)).2).1 : Int)), (nxF ps.length (nxF 10 (L.drop k)).2).2)
    else if (nxF 10 (L.drop k)).1 < 6 then ((3, ((nxF ns.length (nxF 10 (L.drop k)).2).1 : Int)), (nxF ns.length (nxF 10 (L.drop k)).2).2)
    else if (nxF 10 (L.drop k)).1 < 8 then ((1, ((nxF 1000 (nxF 10 (L.drop k)).2).1 : Int)), (nxF 1000 (nxF 10 (L.drop k)).2).2)
    else ((4, ((nxF 5 (nxF 10 (L.drop k)).2).1 : Int)), (nxF 5 (nxF 10 (L.drop k)).2).2)) := rfl
  clear h
  generalize wordF ps.length ns.length (L.drop k) = R at *
  generalize (nxF 10 (L.drop k)).1 = q at *
  go_enter Tryz.func44, Tryz.ntmps44
  go_wp2_with fail
  refine (show Calls _ _ _ _ _ from HC1.out).mono ?_
  rintro e w1 ⟨rfl, hb1, k1, hk1, hg1⟩
  clear HC1
  rw [hk1] at HWF
  have c3 := hg1.c3
  have c2 := hg1.c2
  have hlt1 := hg1.lt
  obtain ⟨po, pc, rfl⟩ := own_form hg1.rp
  obtain ⟨no, nc, rfl⟩ := own_form hg1.rn
  have HB1 : Hid _ := hb1
  by_cases h4 : q < 4 ∧ 0 < ps.length
  · obtain ⟨h4a, h4b⟩ := h4
    have hq := nxF_lt ps.length (L.drop k1) h4b
    have HR : Hid (R = ((2, ((nxF ps.length (L.drop k1)).1 : Int)), (nxF ps.length (L.drop k1)).2)) := by show _ = _; rw [HWF.out, if_pos ⟨h4a, h4b⟩]
    have HC2 : Hid _ := kNext ps.length T g lv _ _ L k1 i ns ps w1 hg1 hin hL (by omega) (by omega)
    have hd1 : decide ((q : Int) < 4) = true := by simp; omega
    have hd2 : decide ((0 : Int) < (ps.length : Int)) = true := by simp; omega
    clear HWF hg1 hb1
    go_wp2_with fail
    refine (show Calls _ _ _ _ _ from HC2.out).mono ?_
    rintro e w2 ⟨rfl, hb2, k2, hk2, hg2⟩
    clear HC2
    generalize nxF ps.length (L.drop k1) = z at *
    obtain ⟨qq, ql⟩ := z
    simp only at hq hk2
    have c3' := hg2.c3
    have hlt2 := hg2.lt
    obtain ⟨pq, pc', hpq, _, hpl⟩ := hg2.rp.form (by omega)
    cases hpq
    have hcell := row_cell hg2.rp qq _ (sgs_at ps qq hq)
    have HT : Hid (ps[qq].data.toList = wdT (nmsB ns ps) (2, (qq : Int))) := by
      show _ = _
      unfold wdT
      rw [if_neg (by simp), if_pos rfl]
      show _ = ((ps.map (fun s => s.data.toList))[(qq : Int).toNat]?).getD []
      rw [Int.toNat_natCast, List.getElem?_map, List.getElem?_eq_getElem hq]; rfl
    have HG2 : Hid _ := hg2
    have HB2 : Hid _ := hb2
    clear hg2 hb2
    go_wp2_with fail
    go_ret
    exact ⟨_, rfl, by rw [HR.out]; exact HT.out, HB1.out.trans HB2.out, k2, by rw [HR.out]; exact hk2, HG2.out⟩
  · by_cases h6 : q < 6
    · have hq := nxF_lt ns.length (L.drop k1) hns
      have HR : Hid (R = ((3, ((nxF ns.length (L.drop k1)).1 : Int)), (nxF ns.length (L.drop k1)).2)) := by show _ = _; rw [HWF.out, if_neg h4, if_pos h6]
      have HC2 : Hid _ := kNext ns.length T g lv _ _ L k1 i ns ps w1 hg1 hin hL (by omega) (by omega)
      have hd3 : decide ((q : Int) < 6) = true := by simp; omega
      have hdd : (q : Int) < 4 → ¬ (0 : Int) < (ps.length : Int) := fun a b => h4 ⟨by omega, by omega⟩
      clear HWF hg1 hb1
      have hsplit : (¬ (q : Int) < 4) ∨ ((q : Int) < 4 ∧ ps.length = 0) := by omega
      rcases hsplit with hs | ⟨hs, hs0⟩
      · have hd1 : decide ((q : Int) < 4) = false := by simpa using hs
        go_wp2_with fail
        refine (show Calls _ _ _ _ _ from HC2.out).mono ?_
        rintro e w2 ⟨rfl, hb2, k2, hk2, hg2⟩
        clear HC2
        generalize nxF ns.length (L.drop k1) = z at *
        obtain ⟨qq, ql⟩ := z
        simp only at hq hk2
        have c2' := hg2.c2
        have hlt2 := hg2.lt
        obtain ⟨pq, pc', hpq, _, hpl⟩ := hg2.rn.form (by omega)
        cases hpq
        have hcell := row_cell hg2.rn qq _ (sgs_at ns qq hq)
        have HT : Hid (ns[qq].data.toList = wdT (nmsB ns ps) (3, (qq : Int))) := by
          show _ = _
          unfold wdT
          rw [if_neg (by simp), if_neg (by simp), if_pos rfl]
          show _ = ((ns.map (fun s => s.data.toList))[(qq : Int).toNat]?).getD []
          rw [Int.toNat_natCast, List.getElem?_map, List.getElem?_eq_getElem hq]; rfl
        have HG2 : Hid _ := hg2
        have HB2 : Hid _ := hb2
        clear hg2 hb2
        go_wp2_with fail
        go_ret
        exact ⟨_, rfl, by rw [HR.out]; exact HT.out, HB1.out.trans HB2.out, k2, by rw [HR.out]; exact hk2, HG2.out⟩
      · have hd1 : decide ((q : Int) < 4) = true := by simpa using hs
        have hd2 : decide ((0 : Int) < (ps.length : Int)) = false := decide_eq_false (by omega)
        have hd2' : ¬ (0 : Int) < (ps.length : Int) := by omega
        go_wp2_with fail
        refine (show Calls _ _ _ _ _ from HC2.out).mono ?_
        rintro e w2 ⟨rfl, hb2, k2, hk2, hg2⟩
        clear HC2
        generalize nxF ns.length (L.drop k1) = z at *
        obtain ⟨qq, ql⟩ := z
        simp only at hq hk2
        have c2' := hg2.c2
        have hlt2 := hg2.lt
        obtain ⟨pq, pc', hpq, _, hpl⟩ := hg2.rn.form (by omega)
        cases hpq
        have hcell := row_cell hg2.rn qq _ (sgs_at ns qq hq)
        have HT : Hid (ns[qq].data.toList = wdT (nmsB ns ps) (3, (qq : Int))) := by
          show _ = _
          unfold wdT
          rw [if_neg (by simp), if_neg (by simp), if_pos rfl]
          show _ = ((ns.map (fun s => s.data.toList))[(qq : Int).toNat]?).getD []
          rw [Int.toNat_natCast, List.getElem?_map, List.getElem?_eq_getElem hq]; rfl
        have HG2 : Hid _ := hg2
        have HB2 : Hid _ := hb2
        clear hg2 hb2
        go_wp2_with fail
        go_ret
        exact ⟨_, rfl, by rw [HR.out]; exact HT.out, HB1.out.trans HB2.out, k2, by rw [HR.out]; exact hk2, HG2.out⟩
    · have hd1 : decide ((q : Int) < 4) = false := by simp; omega
      have hd3 : decide ((q : Int) < 6) = false := by simp; omega
      have hd1' : ¬ (q : Int) < 4 := by omega
      have hd3' : ¬ (q : Int) < 6 := by omega
      by_cases h8 : q < 8
      · have hq := nxF_lt 1000 (L.drop k1) (by omega)
        have HR : Hid (R = ((1, ((nxF 1000 (L.drop k1)).1 : Int)), (nxF 1000 (L.drop k1)).2)) := by show _ = _; rw [HWF.out, if_neg h4, if_neg h6, if_pos h8]
        have HC2 : Hid _ := kNext 1000 T g lv _ _ L k1 i ns ps w1 hg1 hin hL (by omega) (by omega)
        have hd4 : decide ((q : Int) < 8) = true := by simp; omega
        clear HWF hg1 hb1
        go_wp2_with fail
        refine (show Calls _ _ _ _ _ from HC2.out).mono ?_
        rintro e w2 ⟨rfl, hb2, k2, hk2, hg2⟩
        clear HC2
        generalize nxF 1000 (L.drop k1) = z at *
        obtain ⟨qq, ql⟩ := z
        simp only at hq hk2
        have HC3 : Hid _ := kDecimal qq w2 (by omega)
        have HT : Hid (decL qq = wdT (nmsB ns ps) (1, (qq : Int))) := by show _ = _; unfold wdT; rw [if_pos rfl]; rfl
        have HG2 : Hid _ := hg2
        have HB2 : Hid _ := hb2
        clear hg2 hb2
        go_wp2_with fail
        refine (show Calls _ _ _ _ _ from HC3.out).mono ?_
        rintro e w3 ⟨x, rfl, hx, hb3⟩
        clear HC3
        have HX : Hid (x.data.toList = wdT (nmsB ns ps) (1, (qq : Int))) := hx.trans HT.out
        have HB3 : Hid _ := hb3
        clear hx hb3
        go_wp2_with fail
        go_ret
        exact ⟨_, rfl, by rw [HR.out]; exact HX.out, (HB1.out.trans HB2.out).trans (But.of HB3.out (Nat.le_of_lt HG2.out.lt)), k2, by rw [HR.out]; exact hk2, HG2.out.old HB3.out⟩
      · have hq := nxF_lt 5 (L.drop k1) (by omega)
        have HR : Hid (R = ((4, ((nxF 5 (L.drop k1)).1 : Int)), (nxF 5 (L.drop k1)).2)) := by show _ = _; rw [HWF.out, if_neg h4, if_neg h6, if_neg h8]
        have HC2 : Hid _ := kNext 5 T g lv _ _ L k1 i ns ps w1 hg1 hin hL (by omega) (by omega)
        have hd4 : decide ((q : Int) < 8) = false := by simp; omega
        have hd4' : ¬ (q : Int) < 8 := by omega
        clear HWF hg1 hb1
        go_wp2_with fail
        refine (show Calls _ _ _ _ _ from HC2.out).mono ?_
        rintro e w2 ⟨rfl, hb2, k2, hk2, hg2⟩
        clear HC2
        generalize nxF 5 (L.drop k1) = z at *
        obtain ⟨qq, ql⟩ := z
        simp only at hq hk2
        have HT : Hid (((⟨#[43, 45, 42, 60, 63]⟩ : ByteArray).extract qq (qq + 1)).data.toList = wdT (nmsB ns ps) (4, (qq : Int))) := by
          show _ = _
          unfold wdT
          rw [if_neg (by simp), if_neg (by simp), if_neg (by simp)]
          have : qq = 0 ∨ qq = 1 ∨ qq = 2 ∨ qq = 3 ∨ qq = 4 := by omega
          rcases this with rfl | rfl | rfl | rfl | rfl <;> decide
        have HG2 : Hid _ := hg2
        have HB2 : Hid _ := hb2
        clear hg2 hb2
        go_wp2_with fail
        go_ret
        exact ⟨_, rfl, by rw [HR.out]; exact HT.out, HB1.out.trans HB2.out, k2, by rw [HR.out]; exact hk2, HG2.out⟩

end Go.Proofs.YtnndoagpbcacdaaGreatDoor
namespace Go.Proofs.YtnndoagpbcacdaaGreatDoor
open Go.RowKit

/-! Grown applications in memory: rows of expr; S: where their rows lie. -/
def XLs {α : Type} (f : α → Value → Value → Prop) : List α → List Value → Prop
  | [], xs => xs = []
  | e :: l, xs => ∃ a b r, xs = a :: b :: r ∧ f e a b ∧ XLs f l r
def XW (N : Nms) (x : Wd) (a b : Value) : Prop := ∃ s : ByteArray, a = .string s ∧ s.data.toList = wdT N x ∧ b = .slice none 0 0
def XG (N : Nms) (w : World) (S : Nat → Prop) {α : Type} (f : α → Value → Value → Prop) (h : Wd) (l : List α) (v : Value) : Prop :=
  ∃ s xs, s.data.toList = wdT N h ∧ w.ownsRow 0 99 2 v (l.length + 1) (.string s :: .slice none 0 0 :: xs) ∧ (∀ k, v.ownBlock = some k → S k) ∧ XLs f l xs
def XE (N : Nms) (w : World) (S : Nat → Prop) : (d : Nat) → Ex d → Value → Value → Prop
  | 0, x, a, b => XW N x a b
  | _ + 1, .inl x, a, b => XW N x a b
  | d + 1, .inr (h, l), a, b => a = .string ByteArray.empty ∧ XG N w S (XE N w S d) h l b
def XA (N : Nms) (w : World) (S : Nat → Prop) (d : Nat) (p : Ap d) (v : Value) : Prop := XG N w S (XE N w S d) p.1 p.2 v
theorem XLs.map {α : Type} {f g : α → Value → Value → Prop} (h : ∀ e a b, f e a b → g e a b) : ∀ {l : List α} {xs : List Value}, XLs f l xs → XLs g l xs
  | [], _, hx => hx
  | _ :: _, _, ⟨a, b, r, e, h1, h2⟩ => ⟨a, b, r, e, h _ _ _ h1, XLs.map h h2⟩
theorem XLs.len {α : Type} {f : α → Value → Value → Prop} : ∀ {l : List α} {xs : List Value}, XLs f l xs → xs.length = l.length * 2
  | [], _, hx => by rw [show _ = [] from hx]; rfl
  | e :: l, _, ⟨a, b, r, rfl, _, h2⟩ => by have := XLs.len h2; simp; omega
theorem XLs.snoc {α : Type} {f : α → Value → Value → Prop} {e : α} {a b : Value} (he : f e a b) : ∀ {l : List α} {xs : List Value}, XLs f l xs → XLs f (l ++ [e]) (xs ++ [a, b])
  | [], _, hx => by rw [show _ = [] from hx]; exact ⟨a, b, [], rfl, he, rfl⟩
  | _ :: _, _, ⟨a', b', r, rfl, h1, h2⟩ => ⟨a', b', r ++ [a, b], rfl, h1, h2.snoc he⟩
/-- The rows are left alone. -/
theorem XG.keep {N : Nms} {w w' : World} {S S' : Nat → Prop} {α : Type} {f g : α → Value → Value → Prop} (hS : ∀ k, S k → k < w.heap.size → S' k ∧ w'.heap[k]? = w.heap[k]?) (hfg : ∀ e a b, f e a b → g e a b) {h : Wd} {l : List α} {v : Value} (hx : XG N w S f h l v) : XG N w' S' g h l v := by
  obtain ⟨s, xs, h1, h2, h3, h4⟩ := hx
  refine ⟨s, xs, h1, ?_, fun k hk => (hS k (h3 k hk) (h2.lt k hk).2).1, h4.map hfg⟩
  refine ⟨h2.1, ?_⟩
  rcases h2.2 with hn | ⟨q, cap, cur, rfl, hg, hh, z⟩
  · exact .inl hn
  · exact .inr ⟨q, cap, cur, rfl, hg, (hS q (h3 q rfl) (Array.getElem?_eq_some_iff.1 hh).1).2.trans hh, z⟩
theorem XE.keep {N : Nms} {w w' : World} {S S' : Nat → Prop} (hS : ∀ k, S k → k < w.heap.size → S' k ∧ w'.heap[k]? = w.heap[k]?) : ∀ (d : Nat) (e : Ex d) (a b : Value), XE N w S d e a b → XE N w' S' d e a b
  | 0, _, _, _, h => h
  | _ + 1, .inl _, _, _, h => h
  | d + 1, .inr (_, _), _, _, h => ⟨h.1, XG.keep hS (XE.keep hS d) h.2⟩
theorem XA.keep {N : Nms} {w w' : World} {S S' : Nat → Prop} (hS : ∀ k, S k → k < w.heap.size → S' k ∧ w'.heap[k]? = w.heap[k]?) {d : Nat} {p : Ap d} {v : Value} (h : XA N w S d p v) : XA N w' S' d p v := XG.keep hS (XE.keep hS d) h

theorem bel_al (w : World) (o : Obj) : Below w.heap.size w (w.alloc o) := (Below.refl _ w).alloc (Nat.le_refl _) _
theorem sz_set (w : World) (a : Addr) (v : Value) : (w.setCell a v).heap.size = w.heap.size := by simp [World.setCell]
theorem row_one {w : World} {B : Nat} {a b : Value} {t : TypeId} (hB : B ≤ w.heap.size) : (w.alloc (Obj.cells #[a, b] t)).ownsRow B t 2 (.slice (some ⟨w.heap.size, 0, none⟩) 1 1) 1 [a, b] := by
  refine ⟨rfl, .inr ⟨w.heap.size, 1, #[a, b], rfl, hB, heap_alloc_new w _, Nat.le_refl _, by unfold maxLen; omega, rfl, rfl⟩⟩

end Go.Proofs.YtnndoagpbcacdaaGreatDoor
