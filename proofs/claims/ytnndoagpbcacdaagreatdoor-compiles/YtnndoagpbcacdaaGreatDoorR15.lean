import Derived.Test.YtnndoagpbcacdaaGreatDoorR14
namespace Go.Proofs.YtnndoagpbcacdaaGreatDoor
open Go.RowKit

/-! An atom as it is written. -/
def wL (ps names : List Tk) (t : Tk) : List UInt8 := if (knownF ps names t).1 = 1 then dropZ t.txt.data.toList else t.txt.data.toList

theorem ba_toList_inj {a b : ByteArray} (h : a.toList = b.toList) : a = b := by
  rw [ByteArray.toList_eq, ByteArray.toList_eq] at h
  cases a; cases b
  congr
  exact Array.toList_inj.1 h

theorem whr_get {ts : List Tk} {s : ByteArray} (h : 0 ≤ whr ts s) : ∃ (i : Nat) (hi : i < ts.length), whr ts s = i ∧ ts[i].txt = s := by
  unfold whr at h ⊢
  cases hf : ts.findIdx? (fun t => t.txt.toList == s.toList) with
  | none => rw [hf] at h; simp at h
  | some i =>
    obtain ⟨hi, h1, _⟩ := List.findIdx?_eq_some_iff_getElem.1 hf
    exact ⟨i, hi, rfl, ba_toList_inj (by simpa using h1)⟩

theorem prim_get {t : ByteArray} (h : 0 ≤ primL t.toList) : ∃ c : UInt8, t.toList = [c] ∧ ((primL t.toList = 0 ∧ c = 43) ∨ (primL t.toList = 1 ∧ c = 45) ∨ (primL t.toList = 2 ∧ c = 42) ∨ (primL t.toList = 3 ∧ c = 60) ∨ (primL t.toList = 4 ∧ c = 63)) := by
  generalize t.toList = l at *
  unfold primL at h ⊢
  repeat' split at h
  all_goals simp_all

theorem FList.at {w : World} {T : Nat} {names : List Tk} : ∀ {ds : List Df} {xs : List Value}, FList w T names ds xs → ∀ (i : Nat) (h : i < ds.length), ∃ psv bv, xs[i * 3]? = some (.string (ds[i]'h).name.txt) ∧ xs[i * 3 + 1]? = some psv ∧ xs[i * 3 + 2]? = some bv ∧ FOk w T names (ds[i]'h) psv bv
  | [], _, _, i, h => by simp at h
  | d :: ds, _, ⟨pv, bv, r, rfl, h2, h3⟩, 0, _ => ⟨pv, bv, rfl, rfl, rfl, h2⟩
  | d :: ds, _, ⟨pv, bv, r, rfl, h2, h3⟩, i + 1, h => by
    obtain ⟨p, b, e0, e1, e2, e5⟩ := FList.at h3 i (by simpa using h)
    refine ⟨p, b, ?_, ?_, ?_, e5⟩
    · rw [show (i + 1) * 3 = i * 3 + 1 + 1 + 1 by omega]; exact e0
    · rw [show (i + 1) * 3 + 1 = (i * 3 + 1) + 1 + 1 + 1 by omega]; exact e1
    · rw [show (i + 1) * 3 + 2 = (i * 3 + 2) + 1 + 1 + 1 by omega]; exact e2

set_option maxRecDepth 100000 in
set_option maxHeartbeats 4000000 in
theorem rWord (t : Tk) (nm : ByteArray) (ps names : List Tk) (ds : List Df) (psv bv allv : Value) (xs : List Value) (T : Nat) (w : World) (hlp : ps.length ≤ 1000) (hld : ds.length ≤ 1000) (hnm : names = ds.map (·.name)) (hw : WT t.txt)
    (hnum : (knownF ps names t).1 = 1 → t.txt.size ≤ 6 ∧ digL t.txt.data.toList) (hp : w.ownsRow 0 9 1 psv ps.length (strs ps)) (ha : w.ownsRow 0 149 3 allv ds.length xs) (hf : FList w T names ds xs) :
    Calls Tryz.prog 133 #[.agg #[.int .i64 (knownF ps names t).1, .int .i64 (knownF ps names t).2, .slice none 0 0], .agg #[.string nm, psv, bv], allv] w fun e w' => ∃ x : ByteArray, e = .returned (.string x) ∧ x.data.toList = wL ps names t ∧ x.size ≤ 1000 ∧ Below w.heap.size w w' := by
  obtain ⟨po, pcap, rfl⟩ := own_form hp
  obtain ⟨ao, acap, rfl⟩ := own_form ha
  have hws := hw.2.1
  by_cases p0 : 0 ≤ primL t.txt.toList
  · have HK : Hid (knownF ps names t = (4, primL t.txt.toList)) := by show _ = _; unfold knownF; rw [if_pos p0]
    have HL : Hid (wL ps names t = t.txt.data.toList) := by show _ = _; unfold wL; rw [HK.out]; rfl
    rw [HK.out, HL.out]
    obtain ⟨c, hc, hcs⟩ := prim_get p0
    have HT : Hid (t.txt = ⟨#[c]⟩) := ba_toList_inj (by rw [hc, ByteArray.toList_eq])
    clear hnum hc
    go_enter Tryz.func133, Tryz.ntmps133
    rcases hcs with ⟨h1, rfl⟩ | ⟨h1, rfl⟩ | ⟨h1, rfl⟩ | ⟨h1, rfl⟩ | ⟨h1, rfl⟩
    all_goals
      rw [h1]
      go_wp2_with fail
      go_ret
      refine ⟨_, rfl, ?_, ?_, (((Below.refl _ _).alloc (Nat.le_refl _) _).alloc (by simp) _)⟩
      · rw [HT.out]; rfl
      · decide
  · by_cases p1 : 0 ≤ whr ps t.txt
    · have HK : Hid (knownF ps names t = (2, whr ps t.txt)) := by show _ = _; unfold knownF; rw [if_neg p0, if_pos p1]
      have HL : Hid (wL ps names t = t.txt.data.toList) := by show _ = _; unfold wL; rw [HK.out]; rfl
      rw [HK.out, HL.out]
      obtain ⟨i, hi, hwi, hti⟩ := whr_get p1
      rw [hwi]
      obtain ⟨q, cp, hq, _, _⟩ := hp.form (by omega)
      cases hq
      have x0 := row_cell hp i (.string t.txt) (by rw [← hti]; unfold strs; rw [List.getElem?_map, List.getElem?_eq_getElem hi]; rfl)
      clear hnum p0 p1 hwi hti HK HL
      go_enter Tryz.func133, Tryz.ntmps133
      go_wp2_with fail
      go_ret
      exact ⟨_, rfl, rfl, hws, (((Below.refl _ _).alloc (Nat.le_refl _) _).alloc (by simp) _)⟩
    · by_cases p2 : 0 ≤ whr names t.txt
      · have HK : Hid (knownF ps names t = (3, whr names t.txt)) := by show _ = _; unfold knownF; rw [if_neg p0, if_neg p1, if_pos p2]
        have HL : Hid (wL ps names t = t.txt.data.toList) := by show _ = _; unfold wL; rw [HK.out]; rfl
        rw [HK.out, HL.out]
        obtain ⟨i, hi, hwi, hti⟩ := whr_get p2
        rw [hwi]
        have hi2 : i < ds.length := by rw [hnm] at hi; simpa using hi
        have hti2 : ds[i].name.txt = t.txt := by rw [← hti]; simp [hnm]
        obtain ⟨q, cp, hq, _, _⟩ := ha.form (by omega)
        cases hq
        obtain ⟨_, _, e0, _⟩ := hf.at i hi2
        rw [hti2] at e0
        have x0 := row_cell ha _ _ e0
        clear hnum p0 p1 p2 hwi hti hti2 hi e0 HK HL hnm hf
        go_enter Tryz.func133, Tryz.ntmps133
        go_wp2_with fail
        go_ret
        exact ⟨_, rfl, rfl, hws, (((Below.refl _ _).alloc (Nat.le_refl _) _).alloc (by simp) _)⟩
      · have HK : Hid (knownF ps names t = (1, valL t.txt.data.toList)) := by show _ = _; unfold knownF; rw [if_neg p0, if_neg p1, if_neg p2]
        have HL : Hid (wL ps names t = dropZ t.txt.data.toList) := by show _ = _; unfold wL; rw [HK.out]; rfl
        obtain ⟨hs6, hdg⟩ := hnum (by rw [HK.out])
        rw [HK.out, HL.out]
        have hv := valL_le _ hdg
        have hv6 : valL t.txt.data.toList < 1000000 := by
          have h1 := hv.2
          have h2 : t.txt.data.toList.length ≤ 6 := by rw [← size_len]; exact hs6
          have h3 : (10 : Int) ^ t.txt.data.toList.length ≤ 10 ^ 6 := by exact_mod_cast Nat.pow_le_pow_right (by decide) h2
          have h4 : (10 : Int) ^ 6 = 1000000 := by decide
          omega
        obtain ⟨m, hm⟩ := Int.eq_ofNat_of_zero_le hv.1
        have hd : decL m = dropZ t.txt.data.toList := by
          have := dec_val _ hdg (fun e => by have h := hw.1; rw [size_len, e] at h; simp at h)
          rw [hm] at this
          exact this
        have HD : Hid _ := hd
        have hds : (dropZ t.txt.data.toList).length ≤ 6 := Nat.le_trans (dropZ_le _) (by rw [← size_len]; exact hs6)
        rw [hm] at hv6 ⊢
        clear hnum p0 p1 p2 HK HL hv hd hm
        go_enter Tryz.func133, Tryz.ntmps133
        go_wp2_with fail
        refine (rDecimal m m _ (Nat.le_refl _) (by omega)).mono ?_
        rintro e w1 ⟨x, rfl, hx, hb1⟩
        have hxs : x.size ≤ 1000 := by rw [size_len, hx, HD.out]; omega
        have HX : Hid _ := hx
        clear hx
        go_wp2_with fail
        go_ret
        exact ⟨x, rfl, by rw [HX.out, HD.out], hxs, (((Below.refl _ _).alloc (Nat.le_refl _) _).alloc (by simp) _).trans (hb1.mono (by simp; omega))⟩

end Go.Proofs.YtnndoagpbcacdaaGreatDoor
