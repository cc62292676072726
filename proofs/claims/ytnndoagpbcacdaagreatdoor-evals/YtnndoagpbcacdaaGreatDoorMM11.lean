import Derived.Test.YtnndoagpbcacdaaGreatDoorMM9
namespace Go.Proofs.YtnndoagpbcacdaaGreatDoor
open Go.RowKit

/-! Package machine: run.go. -/
structure Bd (s : Ms) : Prop where
  l1 : s.stk.length ≤ 1099511620000
  l2 : s.frs.length ≤ 1099511620000
  l3 : s.nds.length ≤ 1099511620000
  l4 : s.fre.length ≤ 1099511620000
  l5 : ∀ n ∈ s.nds, n.1.length ≤ 1000
  fl : flr s ≤ s.stk.length
  s1 : 0 ≤ s.stp
  s2 : s.stp ≤ 1000000
  nb : ∀ x ∈ s.stk, x.1 = 1 → -1000000000 ≤ x.2 ∧ x.2 ≤ 1000000000
  nf : ∀ f ∈ s.frs, -1000000000 ≤ f.nu ∧ f.nu ≤ 1000000000
theorem offs_len : ∀ (l : List Bool) (i : Nat) (acc : List Int), (offs i l acc).length ≤ acc.length + l.length
  | [], _, _ => Nat.le_refl _
  | b :: l, i, acc => by
    have := offs_len l (i + 1) (if b then acc else (i : Int) :: acc)
    rw [offs]
    split at this <;> simp_all <;> omega
theorem need_len (s : Ms) : (needM s).1.length = s.nds.length := by
  obtain ⟨h, _⟩ := need_ok (s := s) (R := fun _ => True) (fun _ _ _ _ _ => trivial) (fun _ _ _ => trivial) (fun _ _ _ => trivial)
  exact h.len
theorem free_len (s : Ms) : (freeM s).fre.length ≤ s.nds.length := by
  have := offs_len (needM s).1 0 []
  rw [need_len] at this
  simpa [freeM] using this

set_option maxHeartbeats 2000000 in
theorem mDeliver (t : Int × Int) (ht : t.1 = 1 → -1000000000 ≤ t.2 ∧ t.2 ≤ 1000000000) (B mb : Nat) (fv : Value) (c : Cf) (s : Ms) (K : Nat → Prop) (w : World) (h : MP w B mb fv c s K) (bd : Bd s) :
    Calls Tryz.prog 78 #[.pointer (some ⟨mb, 0, none⟩), .agg #[.int .i64 t.1, .int .i64 t.2]] w fun e w' => (∃ v, e = .returned v) ∧ Below B w w' ∧ Kept K w w' ∧ MP w' B mb fv c (delM c t s) K := by
  have hB0 : B ≤ w.heap.size := by have := h.lt; have := h.lo; omega
  have HM : Hid (∀ w', Below w.heap.size w w' → MP w' B mb fv c s K) := fun w' hb => h.old hb
  obtain ⟨sv, rv, nv, ev, vs, h⟩ := h
  obtain ⟨ro, rc, rfl⟩ := own_form h.rr
  have c4 := h.c4
  have hmb := h.lt
  have hlo := h.lo
  obtain ⟨t1, t2⟩ := t
  simp only at ht
  cases hf : s.frs with
  | nil =>
    have HE : Hid (delM c (t1, t2) s = finM (t1, t2) s) := by show _ = _; unfold delM; rw [hf]
    rw [HE.out]
    have HA : Hid _ := below_al w (Obj.cells #[.int .i64 t1, .int .i64 t2] 96)
    have HC : Hid _ := mFinish (t1, t2) B mb fv c s K _ (HM.out _ HA.out)
    simp only at HC
    rw [hf] at c4
    simp only [List.length_nil] at c4
    clear h hf HE
    go_enter Tryz.func78, Tryz.ntmps78
    go_wp2_with fail
    refine (show Calls _ _ _ _ _ from HC.out).mono ?_
    rintro e w1 ⟨⟨v1, rfl⟩, hb1, hk1, hm1⟩
    have HM1 : Hid _ := hm1
    clear hm1 HC
    go_wp2_with fail
    exact bodyPost_ret (v := .tuple #[]) (by simp [results, Tryz.results78, go_sem]) rfl ⟨⟨_, rfl⟩, (HA.out.mono hB0).trans hb1, (Kept.old HA.out).trans hk1 HA.out.size, HM1.out⟩
  | cons f r =>
    have hl2 : s.frs.length = r.length + 1 := by rw [hf]; rfl
    obtain ⟨q, cap', hq, hqB, hqlt⟩ := h.rr.form (by omega)
    cases hq
    have hfn := bd.nf f (by rw [hf]; simp)
    have k0 := row_cell h.rr (r.length * 5) _ (by rw [hf]; exact fcs_top f r 0 _ rfl)
    have k1 := row_cell h.rr (r.length * 5 + 1) _ (by rw [hf]; exact fcs_top f r 1 _ rfl)
    have k2 := row_cell h.rr (r.length * 5 + 2) _ (by rw [hf]; exact fcs_top f r 2 _ rfl)
    have k3 := row_cell h.rr (r.length * 5 + 3) _ (by rw [hf]; exact fcs_top f r 3 _ rfl)
    have k4 := row_cell h.rr (r.length * 5 + 4) _ (by rw [hf]; exact fcs_top f r 4 _ rfl)
    obtain ⟨fk, fh, fnd, fpr, fnu⟩ := f
    simp only at hfn k0 k1 k2 k3 k4
    have HE : Hid (delM c (t1, t2) s = if fk = 1 then updM fnd s else if t1 ≠ 1 then { s with out := 3 } else if fk = 2 then askM2 fpr t2 s else compM c fpr fnu t2 s) := by show _ = _; unfold delM; rw [hf]
    rw [HE.out]
    have hr1 : r.length ≤ 1099511620000 := by have := bd.l2; omega
    have g1 : ((r.length : Int) + 1 == 0) = false := by simp; omega
    have g2 : ¬ (r.length : Int) + 1 = 0 := by omega
    rw [hl2] at c4
    have HBD : Hid (Bd s) := bd
    have HC8 : Hid (w.cell? ⟨mb, 8, none⟩ = some (.int .i64 s.out) ∧ w.frozen? ⟨mb, 8, none⟩ = false) := ⟨h.c8, h.fz 8⟩
    have HMS : Hid (MSt w B mb fv c s K sv _ nv ev vs) := h
    clear h hf HE hl2 bd
    have HA : Hid (Below w.heap.size w (((w.alloc (Obj.cells #[.int .i64 t1, .int .i64 t2] 96)).alloc (Obj.cells #[.int .i64 fk, .int .i64 (fh : Int), .int .i64 fnd, .int .i64 fpr, .int .i64 fnu] 191)).drew)) := below_ad w _ _
    have HMW : Hid (MP (((w.alloc (Obj.cells #[.int .i64 t1, .int .i64 t2] 96)).alloc (Obj.cells #[.int .i64 fk, .int .i64 (fh : Int), .int .i64 fnd, .int .i64 fpr, .int .i64 fnu] 191)).drew) B mb fv c s K) := HM.out _ HA.out
    have HB1 : Hid (Below B w (((w.alloc (Obj.cells #[.int .i64 t1, .int .i64 t2] 96)).alloc (Obj.cells #[.int .i64 fk, .int .i64 (fh : Int), .int .i64 fnd, .int .i64 fpr, .int .i64 fnu] 191)).drew)) := HA.out.mono hB0
    have HK1 : Hid (Kept K w (((w.alloc (Obj.cells #[.int .i64 t1, .int .i64 t2] 96)).alloc (Obj.cells #[.int .i64 fk, .int .i64 (fh : Int), .int .i64 fnd, .int .i64 fpr, .int .i64 fnu] 191)).drew)) := Kept.old HA.out
    have hb1 := HBD.out.l1
    have hb2 := HBD.out.l2
    have hb3 := HBD.out.l3
    have hbf := HBD.out.fl
    by_cases h1 : fk = 1
    · subst h1
      have HC : Hid _ := mUpdate 1 (fh : Int) fnd fpr fnu B mb fv c s K _ HMW.out (by omega) (by omega) (by omega) hbf
      clear HMW HM
      go_enter Tryz.func78, Tryz.ntmps78
      go_wp2_with fail
      go_region
      go_wp2_with fail
      refine (show Calls _ _ _ _ _ from HC.out).mono ?_
      rintro e w2 ⟨⟨v2, rfl⟩, hb2, hk2, hm2⟩
      have HM2 : Hid _ := hm2
      clear hm2 HC
      go_wp2_with fail
      exact bodyPost_ret (v := .tuple #[]) (by simp [results, Tryz.results78, go_sem]) rfl ⟨⟨_, rfl⟩, HB1.out.trans hb2, HK1.out.trans hk2 HB1.out.size, HM2.out⟩
    · have h1b : (fk == 1) = false := by simpa using h1
      by_cases ht1 : t1 = 1
      · subst ht1
        have hty := ht rfl
        by_cases h2 : fk = 2
        · subst h2
          have HC : Hid _ := mAskSecond 2 (fh : Int) fnd fpr fnu t2 B mb fv c s K _ HMW.out (by omega) (by omega)
          clear HMW HM
          go_enter Tryz.func78, Tryz.ntmps78
          go_wp2_with fail
          go_region
          go_wp2_with fail
          refine (show Calls _ _ _ _ _ from HC.out).mono ?_
          rintro e w2 ⟨⟨v2, rfl⟩, hb2, hk2, hm2⟩
          have HM2 : Hid _ := hm2
          clear hm2 HC
          go_wp2_with fail
          exact bodyPost_end (v := .tuple #[]) (by simp [results, Tryz.results78, go_sem]) rfl ⟨⟨_, rfl⟩, HB1.out.trans hb2, HK1.out.trans hk2 HB1.out.size, HM2.out⟩
        · have h2b : (fk == 2) = false := by simpa using h2
          have HC : Hid _ := mCompute fk (fh : Int) fnd fpr fnu t2 hfn.1 hfn.2 hty.1 hty.2 B mb fv c s K _ HMW.out (by omega) (by omega) HBD.out.s1 (by have := HBD.out.s2; omega)
          clear HMW HM
          go_enter Tryz.func78, Tryz.ntmps78
          go_wp2_with fail
          go_region
          go_wp2_with fail
          refine (show Calls _ _ _ _ _ from HC.out).mono ?_
          rintro e w2 ⟨⟨v2, rfl⟩, hb2, hk2, hm2⟩
          have HM2 : Hid _ := hm2
          clear hm2 HC
          go_wp2_with fail
          exact bodyPost_end (v := .tuple #[]) (by simp [results, Tryz.results78, go_sem]) rfl ⟨⟨_, rfl⟩, HB1.out.trans hb2, HK1.out.trans hk2 HB1.out.size, HM2.out⟩
      · have htb : (t1 == 1) = false := by simpa using ht1
        have htb2 : (t1 != 1) = true := by simp [ht1]
        have cc8 : w.cell? ⟨mb, 8, none⟩ = some (.int .i64 s.out) := HC8.out.1
        have ff8 : w.frozen? ⟨mb, 8, none⟩ = false := HC8.out.2
        have HK : Hid (¬ K mb) := HMS.out.noK
        have HF : Hid (MSt (w.setCell ⟨mb, 8, none⟩ (.int .i64 3)) B mb fv c { s with out := 3 } K sv _ nv ev vs) := HMS.out.field rfl rfl rfl rfl rfl
        clear HMW HM
        go_enter Tryz.func78, Tryz.ntmps78
        go_wp2_with fail
        go_region
        go_wp2_with fail
        exact bodyPost_ret (v := .tuple #[]) (by simp [results, Tryz.results78, go_sem]) rfl ⟨⟨_, rfl⟩, ((Below.refl B w).setCell (by exact hlo) _).trans ((below_ad _ _ _).mono (by rw [size_set]; exact hB0)), (Kept.set HK.out).trans (Kept.old (below_ad _ _ _)) (by rw [size_set]; exact Nat.le_refl _), _, _, _, _, _, HF.out.old (below_ad _ _ _)⟩

end Go.Proofs.YtnndoagpbcacdaaGreatDoor
namespace Go.Proofs.YtnndoagpbcacdaaGreatDoor
open Go.RowKit

/-! Package machine: call. -/
theorem MP.fresh {w w1 : World} {B mb : Nat} {fv : Value} {c : Cf} {s : Ms} {K : Nat → Prop} (h : MP w B mb fv c s K) (hb : Below w.heap.size w w1) : MP w1 B mb fv c s (fun k => K k ∨ (w.heap.size ≤ k ∧ k < w1.heap.size)) := by
  obtain ⟨sv, rv, nv, ev, vs, h⟩ := h
  exact ⟨_, _, _, _, _, (h.old hb).fromT h.mlt⟩
theorem LinesRd.below {w w' : World} {T : Nat} {v : Value} {L : List Ln} (h : LinesRd w T v L) (hb : Below T w w') : LinesRd w' T v L := LinesRd.keep h hb

theorem takeN_stk : ∀ (n : Nat) (s : Ms), (takeN n s).stk = s.stk
  | 0, _ => rfl
  | n + 1, s => by
    rw [takeN, takeN_stk n (takeM s)]
    unfold takeM
    split <;> rfl

set_option maxRecDepth 100000 in
set_option maxHeartbeats 4000000 in
theorem mCall (t : Tp) (lo : Option Addr) (lc : Nat) (T B mb : Nat) (fv : Value) (c : Cf) (s : Ms) (K : Nat → Prop) (w : World) (h : MP w B mb fv c s K) (bd : Bd s) (hTB : T ≤ B) (hlr : LinesRd w T (.slice lo t.ls.length lc) t.ls) (ha0 : 0 ≤ t.ar) (ha1 : t.ar ≤ 100) (hn1 : 1 ≤ t.ls.length) (hn2 : t.ls.length ≤ 100) (hln : ∀ l ∈ t.ls, l.length ≤ 1000) (hh1 : 0 ≤ c.hp) (hh2 : c.hp ≤ 1099511627770) :
    Calls Tryz.prog 77 #[.pointer (some ⟨mb, 0, none⟩), .agg #[.int .i64 t.ar, .slice lo t.ls.length lc]] w fun e w' => (∃ v, e = .returned v) ∧ Below B w w' ∧ Kept K w w' ∧ MP w' B mb fv c (callM c t s) K := by
  have hB0 : B ≤ w.heap.size := by have := h.lt; have := h.lo; omega
  obtain ⟨ar, ls⟩ := t
  simp only at *
  obtain ⟨na, rfl⟩ := Int.eq_ofNat_of_zero_le ha0
  have HC0 : Hid _ := mMayStep B mb fv c s _ _ (h.box (Obj.cells #[.int .i64 (na : Int), .slice lo ls.length lc] 78))
  have HLR : Hid (∀ w', Below B w w' → LinesRd w' T (.slice lo ls.length lc) ls) := fun w' hb => hlr.below (hb.mono hTB)
  have HBD : Hid (Bd s) := bd
  clear h hlr bd
  by_cases hle : c.bud ≤ s.stp
  · have hd : decide (s.stp < c.bud) = false := by simp; omega
    have HE : Hid (callM c ⟨(na : Int), ls⟩ s = { s with out := 5 }) := if_pos hle
    rw [HE.out]
    rw [hd, if_pos hle] at HC0
    clear HE
    go_enter Tryz.func77, Tryz.ntmps77
    go_wp2_with fail
    refine (show Calls _ _ _ _ _ from HC0.out).mono ?_
    rintro e w0 ⟨rfl, hb0, hk0, hm0⟩
    have HM : Hid _ := hm0
    clear hm0 HC0
    go_wp2_with fail
    exact bodyPost_ret (v := .tuple #[]) (by simp [results, Tryz.results77, go_sem]) rfl ⟨⟨_, rfl⟩, ((Below.refl B w).alloc hB0 _).trans hb0, (Kept.old (below_al w _)).trans (hk0.less fun k hk => .inl hk) (by simp), MP.less HM.out fun k hk => .inl hk⟩
  · have hd : decide (s.stp < c.bud) = true := by simp; omega
    rw [hd, if_neg hle] at HC0
    have HIN : Hid ((ls.length : Int) - 1 = ((ls.length - 1 : Nat) : Int)) := by show _ = _; omega
    have HE : Hid (callM c ⟨(na : Int), ls⟩ s = if ((ls.length - 1 : Nat) : Int) ≤ roomM c (makeM c ((ls.length - 1 : Nat) : Int) s) then layF (popN na (makeM c ((ls.length - 1 : Nat) : Int) s).stk.tail) (takeL (ls.length - 1) { makeM c ((ls.length - 1 : Nat) : Int) s with stp := (makeM c ((ls.length - 1 : Nat) : Int) s).stp + 1, stk := (makeM c ((ls.length - 1 : Nat) : Int) s).stk.tail.drop na }) 0 ls (takeN (ls.length - 1) { makeM c ((ls.length - 1 : Nat) : Int) s with stp := (makeM c ((ls.length - 1 : Nat) : Int) s).stp + 1, stk := (makeM c ((ls.length - 1 : Nat) : Int) s).stk.tail.drop na }) else { makeM c ((ls.length - 1 : Nat) : Int) s with out := 6 }) := by
      show _ = _
      unfold callM
      rw [if_neg hle]
      simp only [HIN.out, Int.toNat_natCast]
    rw [HE.out]
    clear HE
    have hmk : (makeM c ((ls.length - 1 : Nat) : Int) s).stk = s.stk ∧ (makeM c ((ls.length - 1 : Nat) : Int) s).stp = s.stp ∧ (makeM c ((ls.length - 1 : Nat) : Int) s).frs = s.frs ∧ (makeM c ((ls.length - 1 : Nat) : Int) s).nds = s.nds ∧ (makeM c ((ls.length - 1 : Nat) : Int) s).fre.length ≤ 1099511620000 := by
      unfold makeM
      split
      · exact ⟨rfl, rfl, rfl, rfl, Nat.le_trans (free_len s) HBD.out.l3⟩
      · exact ⟨rfl, rfl, rfl, rfl, HBD.out.l4⟩
    have HMK : Hid _ := hmk
    clear hmk
    have HC1 : Hid (∀ w1 K1, MP w1 B mb fv c s K1 → Calls Tryz.prog 117 #[.pointer (some ⟨mb, 0, none⟩), .int .i64 ((ls.length - 1 : Nat) : Int)] w1 fun e w' => e = .returned (.bool (decide (((ls.length - 1 : Nat) : Int) ≤ roomM c (makeM c ((ls.length - 1 : Nat) : Int) s)))) ∧ Below B w1 w' ∧ Kept K1 w1 w' ∧ MP w' B mb fv c (makeM c ((ls.length - 1 : Nat) : Int) s) K1) := fun w1 K1 hm => mMakeRoom _ B mb fv c s K1 w1 hm (by have := HBD.out.l3; omega) (by have := HBD.out.l1; omega) (by have := HBD.out.l2; omega) (fun n hn => by have := HBD.out.l5 n hn; omega) (by have := HBD.out.l4; omega) (by have := free_len s; have := HBD.out.l3; omega) hh1 hh2
    generalize makeM c ((ls.length - 1 : Nat) : Int) s = s1 at *
    generalize hin : ls.length - 1 = n at *
    have hnl : n + 1 = ls.length := by omega
    have HNL : Hid (n + 1 = ls.length) := hnl
    have hin1 : (ls.length : Int) - 1 = (n : Int) := by omega
    clear hin HIN
    go_enter Tryz.func77, Tryz.ntmps77
    go_wp2_with fail
    refine (show Calls _ _ _ _ _ from HC0.out).mono ?_
    rintro e w0 ⟨rfl, hb0, hk0, hm0⟩
    have HBX0 : Hid _ := hk0.blk (.inr rfl) (heap_alloc_new w _)
    have hlt0 : w.heap.size < w0.heap.size := (Array.getElem?_eq_some_iff.1 HBX0.out).1
    obtain ⟨p0, p1⟩ := cells_of2 HBX0.out
    have HB0 : Hid (Below B w w0) := ((Below.refl B w).alloc hB0 _).trans hb0
    have HK0 : Hid (Kept K w w0) := (Kept.old (below_al w _)).trans (hk0.less fun k hk => .inl hk) (by simp)
    have HC : Hid _ := HC1.out w0 _ hm0
    clear HC0 HC1 hb0 hk0 hm0
    go_wp2_with fail
    refine (show Calls _ _ _ _ _ from HC.out).mono ?_
    rintro e w1 ⟨rfl, hb1, hk1, hm1⟩
    have HBX1 : Hid _ := hk1.blk (.inr rfl) HBX0.out
    have hlt1 : w.heap.size < w1.heap.size := (Array.getElem?_eq_some_iff.1 HBX1.out).1
    have HB1 : Hid (Below B w w1) := HB0.out.trans hb1
    have HK1 : Hid (Kept K w w1) := HK0.out.trans (hk1.less fun k hk => .inl hk) HB0.out.size
    obtain ⟨sv, rv, nv, ev, vs, hm1⟩ := hm1
    have c7 := hm1.c7
    have f7 := hm1.fz 7
    have c8 := hm1.c8
    have f8 := hm1.fz 8
    have hmb := hm1.lt
    have hlo := hm1.lo
    have hnk := hm1.noK
    have HM1 : Hid _ := hm1
    clear HC hb1 hk1 hm1 HB0 HK0 HBX0 p0 p1 hlt0
    by_cases hfit : (n : Int) ≤ roomM c s1
    · have hdf : decide ((n : Int) ≤ roomM c s1) = true := by simpa using hfit
      have hstp := HMK.out.2.1
      have hs1 := HBD.out.s1
      have hs2 := HBD.out.s2
      have hstp1 : 0 ≤ s1.stp := by omega
      have hstp2 : s1.stp ≤ 1000000 := by omega
      have HSTK : Hid (s1.stk.length ≤ 1099511620000) := by have := HBD.out.l1; rw [← HMK.out.1] at this; exact this
      clear hstp hs1 hs2
      have HF : Hid (MP (w1.setCell ⟨mb, 7, none⟩ (.int .i64 (s1.stp + 1))) B mb fv c { s1 with stp := s1.stp + 1 } (fun k => K k ∨ k = w.heap.size)) := ⟨_, _, _, _, _, HM1.out.field rfl rfl rfl rfl rfl⟩
      have HB2 : Hid (Below B w (w1.setCell ⟨mb, 7, none⟩ (.int .i64 (s1.stp + 1)))) := HB1.out.setCell (by exact hlo) _
      have HK2 : Hid (Kept K w (w1.setCell ⟨mb, 7, none⟩ (.int .i64 (s1.stp + 1)))) := HK1.out.trans (Kept.set fun hk => hnk (.inl hk)) HB1.out.size
      have HBX2 : Hid _ := (Kept.set (K := fun k => K k ∨ k = w.heap.size) (w := w1) (i := 7) (u := .int .i64 (s1.stp + 1)) hnk).blk (.inr rfl) HBX1.out
      have HC3 : Hid _ := mPop B mb fv c { s1 with stp := s1.stp + 1 } _ _ HF.out (by show s1.stk.length ≤ _; have := HSTK.out; omega)
      generalize hdI ({ s1 with stp := s1.stp + 1 } : Ms).stk = x0 at *
      clear HB1 HK1 HBX1 HF HM1 c8 f8 hnk
      go_wp2_with fail
      refine (show Calls _ _ _ _ _ from HC3.out).mono ?_
      rintro e w3 ⟨rfl, hb3, hk3, ⟨sv3, rv3, nv3, ev3, vs3, hm3⟩⟩
      have HBX3 : Hid _ := hk3.blk (.inr rfl) HBX2.out
      have hlt3 : w.heap.size < w3.heap.size := (Array.getElem?_eq_some_iff.1 HBX3.out).1
      obtain ⟨p0, p1⟩ := cells_of2 HBX3.out
      have HB3 : Hid (Below B w w3) := HB2.out.trans hb3
      have HK3 : Hid (Kept K w w3) := HK2.out.trans (hk3.less fun k hk => .inl hk) HB2.out.size
      have HML : Hid _ := hm3.mlt
      have HC4 : Hid _ := mPopMany na B mb fv c (popM { s1 with stp := s1.stp + 1 }) _ sv3 rv3 nv3 ev3 vs3 w3 hm3 (by show s1.stk.tail.length ≤ _; rw [List.length_tail]; have := HSTK.out; omega) (by omega)
      have HP4 : Hid (({ popM { s1 with stp := s1.stp + 1 } with stk := (popM { s1 with stp := s1.stp + 1 }).stk.drop na } : Ms) = { s1 with stp := s1.stp + 1, stk := s1.stk.tail.drop na } ∧ popN na (popM { s1 with stp := s1.stp + 1 }).stk = popN na s1.stk.tail) := ⟨rfl, rfl⟩
      rw [HP4.out.1, HP4.out.2] at HC4
      clear HC3 hb3 hk3 hm3 HB2 HK2 HBX2 HP4 c7 f7 hmb
      go_wp2_with fail
      refine (show Calls _ _ _ _ _ from HC4.out).mono ?_
      rintro e w4 ⟨av, rfl, hb4, hk4, hr4, sv4, hm4, ho4⟩
      have hs4 := hb4.size
      have HBX4 : Hid _ := hk4.blk (.inr rfl) HBX3.out
      have HB4 : Hid (Below B w w4) := HB3.out.trans hb4
      have HK4 : Hid (Kept K w w4) := HK3.out.trans (hk4.less fun k hk => .inl hk) HB3.out.size
      have HM4 : Hid _ := hm4.fromT (T := w3.heap.size) ⟨HML.out.m, by rw [ho4]; exact HML.out.s, HML.out.r, HML.out.n, HML.out.e, HML.out.v⟩
      have HR4 : Hid (w4.ownsRow w3.heap.size 96 2 av na (acs (popN na s1.stk.tail))) := hr4
      obtain ⟨ao, ac, rfl⟩ := own_form hr4
      have hnd4 : s1.nds.length ≤ 1099511627000 := by have := HBD.out.l3; rw [← HMK.out.2.2.2.1] at this; omega
      have hfr4 : s1.fre.length ≤ 1099511627770 := by have := HMK.out.2.2.2.2; omega
      have HC5 : Hid _ := mTakePlaces n B mb fv c { s1 with stp := s1.stp + 1, stk := s1.stk.tail.drop na } _ sv4 rv3 nv3 ev3 vs3 w4 HM4.out (by omega) hnd4 hfr4
      clear HC4 hb4 hk4 hr4 hm4 ho4 HB3 HK3 HBX3 HML HM4 p0 p1
      go_wp2_with fail
      refine (show Calls _ _ _ _ _ from HC5.out).mono ?_
      rintro e w5 ⟨pv, rfl, hb5, hk5, hr5, hm5⟩
      have hs5 := hb5.size
      have HBX5 : Hid _ := hk5.blk (.inl (.inr rfl)) HBX4.out
      have hlt5 : w.heap.size < w5.heap.size := (Array.getElem?_eq_some_iff.1 HBX5.out).1
      obtain ⟨p0, p1⟩ := cells_of2 HBX5.out
      have HB5 : Hid (Below B w w5) := HB4.out.trans hb5
      have HK5 : Hid (Kept K w w5) := HK4.out.trans (hk5.less fun k hk => .inl (.inl hk)) HB4.out.size
      have HRA : Hid (w5.ownsRow w3.heap.size 96 2 (.slice ao na ac) na (acs (popN na s1.stk.tail))) := own_kept HR4.out hk5 (fun k hk => .inr (HR4.out.lt k hk))
      have HAK : Hid (∀ k, (Value.slice ao na ac).ownBlock = some k → w3.heap.size ≤ k ∧ k < w4.heap.size) := fun k hk => HR4.out.lt k hk
      obtain ⟨po, pc, rfl⟩ := own_form hr5
      have HRP : Hid (w5.ownsRow w4.heap.size 3 1 (.slice po n pc) n (ints (takeL n { s1 with stp := s1.stp + 1, stk := s1.stk.tail.drop na }))) := hr5
      have HM5 : Hid _ := hm5
      have HAL : Hid ((popN na s1.stk.tail).length = na) := popN_len _ _
      have HPL : Hid ((takeL n { s1 with stp := s1.stp + 1, stk := s1.stk.tail.drop na }).length = n) := takeL_len _ _
      have HTN : Hid ((takeN n { s1 with stp := s1.stp + 1, stk := s1.stk.tail.drop na }).nds.length ≤ 1099511627200 ∧ (takeN n { s1 with stp := s1.stp + 1, stk := s1.stk.tail.drop na }).stk.length ≤ 1099511620000) := by
        refine ⟨?_, ?_⟩
        · have h := (takeN_len n { s1 with stp := s1.stp + 1, stk := s1.stk.tail.drop na }).1
          simp only at h
          omega
        · rw [takeN_stk]
          show (s1.stk.tail.drop na).length ≤ _
          rw [List.length_drop, List.length_tail]
          have := HSTK.out
          omega
      generalize hq1 : takeN n { s1 with stp := s1.stp + 1, stk := s1.stk.tail.drop na } = st0 at *
      generalize hq2 : takeL n { s1 with stp := s1.stp + 1, stk := s1.stk.tail.drop na } = PS at *
      generalize hq3 : popN na s1.stk.tail = AR at *
      have HQ1 : Hid _ := hq1
      have HQ2 : Hid _ := hq2
      have HQ3 : Hid _ := hq3
      clear hq1 hq2 hq3
      have HKS : Hid (∀ k, K k → (((K k ∨ k = w.heap.size) ∨ (w3.heap.size ≤ k ∧ k < w4.heap.size)) ∨ (Value.slice po n pc).ownBlock = some k)) := fun k hk => .inl (.inl (.inl hk))
      clear HC5 hb5 hk5 hr5 hm5 HB4 HK4 HBX4 HR4
      go_wp2_with fail
      go_loopw [47] (fun y wr => ∃ (j : Nat) (st : Ms), j ≤ ls.length ∧ y = .int .i64 j ∧ w5.heap.size ≤ wr.heap.size ∧ Hid (Below B w5 wr) ∧ Hid (Kept (fun k => ((K k ∨ k = w.heap.size) ∨ (w3.heap.size ≤ k ∧ k < w4.heap.size)) ∨ (Value.slice po n pc).ownBlock = some k) w5 wr) ∧ Hid (MP wr B mb fv c st (fun k => ((K k ∨ k = w.heap.size) ∨ (w3.heap.size ≤ k ∧ k < w4.heap.size)) ∨ (Value.slice po n pc).ownBlock = some k)) ∧ Hid (layF AR PS j (ls.drop j) st = layF AR PS 0 ls st0) ∧ st.nds.length ≤ 1099511627200 ∧ st.stk.length ≤ 1099511620000 + 1000 * j) (fun y _ => ls.length - (intOf y).toNat)
      case atStart => exact ⟨0, st0, Nat.zero_le _, rfl, Nat.le_refl _, Below.refl _ _, Kept.refl _ _, HM5.out, rfl, HTN.out.1, HTN.out.2⟩
      case round =>
        clear HM5 HTN p0 p1 hlt5
        obtain ⟨j, st, hj, rfl, hsz, HBr, HKr, HMr, HLr, hnd, hst⟩ := hrel
        have HBw : Hid (Below B w wr) := HB5.out.trans HBr.out
        by_cases hjl : j < ls.length
        · obtain ⟨lo', lc', hle', hlc1, hlc2, hcs⟩ := HLR.out wr HBw.out
          cases hle'
          unfold maxLen at hlc2
          rcases hcs with hz | ⟨lb, off, rfl, hlb, hcell⟩
          · omega
          obtain ⟨lv, u0, hat⟩ := hcell j hjl
          have hlbl : lb < wr.heap.size := by have := HBw.out.size; omega
          have hll := hln ls[j] (List.getElem_mem hjl)
          have hTr : T ≤ wr.heap.size := by have := HBw.out.size; omega
          have HC6 : Hid _ := mInst ls[j] AR PS lv (.slice ao na ac) (.slice po n pc) T w3.heap.size w4.heap.size wr hTr hat (by rw [HAL.out]; exact own_kept HRA.out HKr.out (fun k hk => .inl (.inr (HAK.out k hk)))) (by rw [HPL.out]; exact own_kept HRP.out HKr.out (fun k hk => .inr hk)) hll (by rw [HAL.out]; omega) (by rw [HPL.out]; omega)
          have HLE : Hid ((instM ls[j] AR PS).length = ls[j].length) := by show _ = _; simp [instM]
          have HD : Hid (ls.drop j = ls[j] :: ls.drop (j + 1)) := List.drop_eq_getElem_cons hjl
          have hatf : ∃ lo2 lc2, lv = .slice lo2 ls[j].length lc2 := by obtain ⟨a, cp, e, _⟩ := hat; exact ⟨a, cp, e⟩
          obtain ⟨lo2, lc2, hlv⟩ := hatf
          subst hlv
          generalize ls[j] = l at *
          clear hat hcell
          go_wp2_with fail
          refine (show Calls _ _ _ _ _ from HC6.out).mono ?_
          rintro e w6 ⟨v, rfl, hb6, hr6⟩
          have hs6 := hb6.size
          have HM6 : Hid _ := HMr.out.fresh hb6
          have HV6 : Hid (∀ k, v.ownBlock = some k → wr.heap.size ≤ k ∧ k < w6.heap.size) := fun k hk => hr6.lt k hk
          have hBr : B ≤ wr.heap.size := by have := HBw.out.size; omega
          have HB6 : Hid (Below B w5 w6) := HBr.out.trans (hb6.mono hBr)
          have HK6 : Hid (Kept (fun k => ((K k ∨ k = w.heap.size) ∨ (w3.heap.size ≤ k ∧ k < w4.heap.size)) ∨ (Value.slice po n pc).ownBlock = some k) w5 w6) := HKr.out.trans (Kept.old hb6) hsz
          have HR6 : Hid (w6.ownsRow B 96 2 v (instM l AR PS).length (acs (instM l AR PS))) := by rw [HLE.out]; exact ownsRow_base hr6 hBr
          have hil : (instM l AR PS).length ≤ 1000 := by rw [HLE.out]; exact hll
          obtain ⟨vo, vc, rfl⟩ := own_form hr6
          clear HC6 hr6 hb6 HMr HBr HKr u0
          by_cases hj0 : j = 0
          · subst hj0
            have HL2 : Hid (layF AR PS 1 (ls.drop 1) (putM (instM l AR PS) st) = layF AR PS 0 ls st0) := by rw [← HLr.out, HD.out]; rfl
            have HC7 : Hid _ := mPut (instM l AR PS) (.slice vo l.length vc) B B mb fv c st _ w6 HM6.out HR6.out (fun k hk => .inr (HV6.out k hk)) (by omega)
            clear HM6 HR6
            go_wp2_with fail
            refine (show Calls _ _ _ _ _ from HC7.out).mono ?_
            rintro e w7 ⟨⟨v7, rfl⟩, hb7, hk7, hm7⟩
            have hs7 := hb7.size
            have HB7 : Hid (Below B w5 w7) := HB6.out.trans hb7
            have HK7 : Hid _ := HK6.out.trans (hk7.less fun k hk => .inl hk) (by omega)
            have HM7 : Hid _ := hm7.less fun k hk => .inl hk
            have hst7 : (putM (instM l AR PS) st).stk.length ≤ 1099511620000 + 1000 * (0 + 1) := by show (instM l AR PS ++ st.stk).length ≤ _; rw [List.length_append]; omega
            clear HC7 hb7 hk7 hm7
            go_wp2_with fail
            go_roundw
            case rel => exact ⟨0 + 1, _, hjl, by go_num, by omega, HB7.out, HK7.out, HM7.out, HL2.out, hnd, hst7⟩
            case measure => simp [intOf]; omega
          · obtain ⟨i, rfl⟩ : ∃ i, j = i + 1 := ⟨j - 1, by omega⟩
            have hin : i < n := by have := HNL.out; omega
            have hip : i < PS.length := by rw [HPL.out]; exact hin
            have HL2 : Hid (layF AR PS (i + 1 + 1) (ls.drop (i + 1 + 1)) (layM PS[i] (instM l AR PS, false) st) = layF AR PS 0 ls st0) := by
              rw [← HLr.out, HD.out]
              show _ = layF AR PS (i + 2) _ (if i < PS.length then layM (PS[i]?.getD 0) (instM l AR PS, false) st else st)
              rw [if_pos hip, List.getElem?_eq_getElem hip]
              rfl
            have hrp := own_kept HRP.out HK6.out (fun k hk => .inr hk)
            obtain ⟨pq, cap', hq, hqB, hqlt⟩ := hrp.form (by omega)
            cases hq
            have n0 := row_cell hrp i _ (ints_at PS i hip)
            generalize PS[i] = pi at *
            have HC7 : Hid _ := mLay pi (.slice vo l.length vc) (instM l AR PS) false B mb fv c st _ w6 HM6.out HR6.out (fun k hk => .inr (HV6.out k hk)) (by omega)
            have e1 : (((i + 1 : Nat) : Int) - 1) = (i : Int) := by omega
            have g0 : (((i + 1 : Nat) : Int) == 0) = false := by simp; omega
            have g0' : ((i : Int) + 1 == 0) = false := by simp; omega
            have g0'' : ¬ (i : Int) + 1 = 0 := by omega
            have g1 : decide (((i + 1 : Nat) : Int) ≤ (n : Int)) = true := by simp; omega
            have g1' : decide ((i : Int) + 1 ≤ (n : Int)) = true := by simp; omega
            clear hrp HM6 HR6
            go_wp2_with fail
            refine (show Calls _ _ _ _ _ from HC7.out).mono ?_
            rintro e w7 ⟨⟨v7, rfl⟩, hb7, hk7, hm7⟩
            have hs7 := hb7.size
            have HB7 : Hid (Below B w5 w7) := HB6.out.trans hb7
            have HK7 : Hid _ := HK6.out.trans (hk7.less fun k hk => .inl hk) (by omega)
            have HM7 : Hid _ := hm7.less fun k hk => .inl hk
            have hll7 : (layM pi (instM l AR PS, false) st).nds.length = st.nds.length ∧ (layM pi (instM l AR PS, false) st).stk = st.stk := by
              unfold layM
              split
              · exact ⟨by simp, rfl⟩
              · exact ⟨rfl, rfl⟩
            have hnd7 : (layM pi (instM l AR PS, false) st).nds.length ≤ 1099511627200 := by rw [hll7.1]; exact hnd
            have hst7 : (layM pi (instM l AR PS, false) st).stk.length ≤ 1099511620000 + 1000 * (i + 1 + 1) := by rw [hll7.2]; omega
            clear HC7 hb7 hk7 hm7 n0 hll7
            go_wp2_with fail
            go_roundw
            case rel => exact ⟨i + 1 + 1, _, hjl, by go_num, by omega, HB7.out, HK7.out, HM7.out, HL2.out, hnd7, hst7⟩
            case measure => simp [intOf]; omega
        · have hdj : decide ((j : Int) < (ls.length : Int)) = false := by simp; omega
          have hdj2 : ¬ (j : Int) < (ls.length : Int) := by omega
          have HF : Hid (st = layF AR PS 0 ls st0) := by rw [← HLr.out, show ls.drop j = [] from List.drop_eq_nil_of_le (by omega)]; cases j <;> rfl
          have HMF : Hid (MP wr B mb fv c (layF AR PS 0 ls st0) K) := by rw [← HF.out]; exact MP.less HMr.out HKS.out
          clear HF HMr
          go_wp2_with fail
          refine bodyPost_end (v := .tuple #[]) (by simp [results, Tryz.results77, go_sem]) rfl ⟨⟨_, rfl⟩, HBw.out, HK5.out.trans (HKr.out.less HKS.out) HB5.out.size, ?_⟩
          have e : List.drop (na + 1) s1.stk = s1.stk.tail.drop na := by simp
          rw [e, HQ1.out, HQ2.out, HQ3.out]
          exact HMF.out
    · have hdf : decide ((n : Int) ≤ roomM c s1) = false := by simpa using hfit
      have HF : Hid (MP (w1.setCell ⟨mb, 8, none⟩ (.int .i64 6)) B mb fv c { s1 with out := 6 } (fun k => K k ∨ k = w.heap.size)) := ⟨_, _, _, _, _, HM1.out.field rfl rfl rfl rfl rfl⟩
      clear HM1
      go_wp2_with fail
      exact bodyPost_ret (v := .tuple #[]) (by simp [results, Tryz.results77, go_sem]) rfl ⟨⟨_, rfl⟩, HB1.out.setCell (by exact hlo) _, HK1.out.trans (Kept.set fun hk => hnk (.inl hk)) HB1.out.size, MP.less HF.out fun k hk => .inl hk⟩

end Go.Proofs.YtnndoagpbcacdaaGreatDoor
