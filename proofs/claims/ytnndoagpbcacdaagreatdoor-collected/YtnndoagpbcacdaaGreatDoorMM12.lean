import Derived.Test.YtnndoagpbcacdaaGreatDoorMM10
import Derived.Test.YtnndoagpbcacdaaGreatDoorMX8
import Derived.Deep.LoopGhost
namespace Go.Proofs.YtnndoagpbcacdaaGreatDoor
open Go.RowKit

/-! Package machine: call. -/
theorem MP.fresh {w w1 : World} {B mb : Nat} {fv : Value} {c : Cf} {s : Ms} {K : Nat → Prop} (h : MP w B mb fv c s K) (hb : Below w.heap.size w w1) : MP w1 B mb fv c s (fun k => K k ∨ (w.heap.size ≤ k ∧ k < w1.heap.size)) := by
  obtain ⟨sv, rv, nv, ev, vs, h⟩ := h
  exact ⟨_, _, _, _, _, (h.old hb).fromT h.mlt⟩
theorem LinesRd.below {w w' : World} {T : Nat} {v : Value} {L : List Ln} (h : LinesRd w T v L) (hb : Below T w w') : LinesRd w' T v L := LinesRd.keep h hb

theorem takeN_stk : ∀ (n : Nat) (s : Ms), (takeN n s).stk = s.stk
  | 0, _ => rfl
  | n + 1, s => by
    rw [takeN, takeN_stk n (takeM s)]
    unfold takeM
    split <;> rfl

set_option maxRecDepth 100000 in
set_option maxHeartbeats 4000000 in
theorem mCall (t : Tp) (lo : Option Addr) (lc : Nat) (T B mb : Nat) (fv : Value) (c : Cf) (s : Ms) (K : Nat → Prop) (w : World) (h : MP w B mb fv c s K) (bd : Bd s) (hTB : T ≤ B) (hlr : LinesRd w T (.slice lo t.ls.length lc) t.ls) (ha0 : 0 ≤ t.ar) (ha1 : t.ar ≤ 100) (hn1 : 1 ≤ t.ls.length) (hn2 : t.ls.length ≤ 100) (hln : ∀ l ∈ t.ls, l.length ≤ 1000) (hh1 : 0 ≤ c.hp) (hh2 : c.hp ≤ 1099511627770) :
    Calls Tryz.prog 77 #[.pointer (some ⟨mb, 0, none⟩), .agg #[.int .i64 t.ar, .slice lo t.ls.length lc]] w fun e w' => (∃ v, e = .returned v) ∧ Below B w w' ∧ Kept K w w' ∧ MP w' B mb fv c (callM c t s) K := by
  have hB0 : B ≤ w.heap.size := by have := h.lt; have := h.lo; omega
  obtain ⟨ar, ls⟩ := t
  simp only at *
  obtain ⟨na, rfl⟩ := Int.eq_ofNat_of_zero_le ha0
  have HC0 : Hid _ := mMayStep B mb fv c s _ _ (h.box (Obj.cells #[.int .i64 (na : Int), .slice lo ls.length lc] 78))
  have HLR : Hid (∀ w', Below B w w' → LinesRd w' T (.slice lo ls.length lc) ls) := fun w' hb => hlr.below (hb.mono hTB)
  have HBD : Hid (Bd s) := bd
  clear h hlr bd
  by_cases hle : c.bud ≤ s.stp
  · have hd : decide (s.stp < c.bud) = false := by simp; omega
    have HE : Hid (callM c ⟨(na : Int), ls⟩ s = { s with out := 5 }) := if_pos hle
    rw [HE.out]
    rw [hd, if_pos hle] at HC0
    clear HE
    go_enter Tryz.func77, Tryz.ntmps77
    go_wp2_with fail
    refine (show Calls _ _ _ _ _ from HC0.out).mono ?_
    rintro e w0 ⟨rfl, hb0, hk0, hm0⟩
    have HM : Hid _ := hm0
    clear hm0 HC0
    go_wp2_with fail
    exact bodyPost_ret (v := .tuple #[]) (by simp [results, Tryz.results77, go_sem]) rfl ⟨⟨_, rfl⟩, ((Below.refl B w).alloc hB0 _).trans hb0, (Kept.old (below_al w _)).trans (hk0.less fun k hk => .inl hk) (by simp), MP.less HM.out fun k hk => .inl hk⟩
  · have hd : decide (s.stp < c.bud) = true := by simp; omega
    rw [hd, if_neg hle] at HC0
    have HIN : Hid ((ls.length : Int) - 1 = ((ls.length - 1 : Nat) : Int)) := by show _ = _; omega
    have HE : Hid (callM c ⟨(na : Int), ls⟩ s = if ((ls.length - 1 : Nat) : Int) ≤ roomM c (makeM c ((ls.length - 1 : Nat) : Int) s) then layF (popN na (makeM c ((ls.length - 1 : Nat) : Int) s).stk.tail) (takeL (ls.length - 1) { makeM c ((ls.length - 1 : Nat) : Int) s with stp := (makeM c ((ls.length - 1 : Nat) : Int) s).stp + 1, stk := (makeM c ((ls.length - 1 : Nat) : Int) s).stk.tail.drop na }) 0 ls (takeN (ls.length - 1) { makeM c ((ls.length - 1 : Nat) : Int) s with stp := (makeM c ((ls.length - 1 : Nat) : Int) s).stp + 1, stk := (makeM c ((ls.length - 1 : Nat) : Int) s).stk.tail.drop na }) else { makeM c ((ls.length - 1 : Nat) : Int) s with out := 6 }) := by
      show _ = _
      unfold callM
      rw [if_neg hle]
      simp only [HIN.out, Int.toNat_natCast]
    rw [HE.out]
    clear HE
    have hmk : (makeM c ((ls.length - 1 : Nat) : Int) s).stk = s.stk ∧ (makeM c ((ls.length - 1 : Nat) : Int) s).stp = s.stp ∧ (makeM c ((ls.length - 1 : Nat) : Int) s).frs = s.frs ∧ (makeM c ((ls.length - 1 : Nat) : Int) s).nds = s.nds ∧ (makeM c ((ls.length - 1 : Nat) : Int) s).fre.length ≤ 1099511620000 := by
      unfold makeM
      split
      · exact ⟨rfl, rfl, rfl, rfl, Nat.le_trans (free_len s) HBD.out.l3⟩
      · exact ⟨rfl, rfl, rfl, rfl, HBD.out.l4⟩
    have HMK : Hid _ := hmk
    clear hmk
    have HC1 : Hid (∀ w1 K1, MP w1 B mb fv c s K1 → Calls Tryz.prog 117 #[.pointer (some ⟨mb, 0, none⟩), .int .i64 ((ls.length - 1 : Nat) : Int)] w1 fun e w' => e = .returned (.bool (decide (((ls.length - 1 : Nat) : Int) ≤ roomM c (makeM c ((ls.length - 1 : Nat) : Int) s)))) ∧ Below B w1 w' ∧ Kept K1 w1 w' ∧ MP w' B mb fv c (makeM c ((ls.length - 1 : Nat) : Int) s) K1) := fun w1 K1 hm => mMakeRoom _ B mb fv c s K1 w1 hm (by have := HBD.out.l3; omega) (by have := HBD.out.l1; omega) (by have := HBD.out.l2; omega) (fun n hn => by have := HBD.out.l5 n hn; omega) (by have := HBD.out.l4; omega) (by have := free_len s; have := HBD.out.l3; omega) hh1 hh2
    generalize makeM c ((ls.length - 1 : Nat) : Int) s = s1 at *
    generalize hin : ls.length - 1 = n at *
    have hnl : n + 1 = ls.length := by omega
    have HNL : Hid (n + 1 = ls.length) := hnl
    have hin1 : (ls.length : Int) - 1 = (n : Int) := by omega
    clear hin HIN
    go_enter Tryz.func77, Tryz.ntmps77
    go_wp2_with fail
    refine (show Calls _ _ _ _ _ from HC0.out).mono ?_
    rintro e w0 ⟨rfl, hb0, hk0, hm0⟩
    have HBX0 : Hid _ := hk0.blk (.inr rfl) (heap_alloc_new w _)
    have hlt0 : w.heap.size < w0.heap.size := (Array.getElem?_eq_some_iff.1 HBX0.out).1
    obtain ⟨p0, p1⟩ := cells_of2 HBX0.out
    have HB0 : Hid (Below B w w0) := ((Below.refl B w).alloc hB0 _).trans hb0
    have HK0 : Hid (Kept K w w0) := (Kept.old (below_al w _)).trans (hk0.less fun k hk => .inl hk) (by simp)
    have HC : Hid _ := HC1.out w0 _ hm0
    clear HC0 HC1 hb0 hk0 hm0
    go_wp2_with fail
    refine (show Calls _ _ _ _ _ from HC.out).mono ?_
    rintro e w1 ⟨rfl, hb1, hk1, hm1⟩
    have HBX1 : Hid _ := hk1.blk (.inr rfl) HBX0.out
    have hlt1 : w.heap.size < w1.heap.size := (Array.getElem?_eq_some_iff.1 HBX1.out).1
    have HB1 : Hid (Below B w w1) := HB0.out.trans hb1
    have HK1 : Hid (Kept K w w1) := HK0.out.trans (hk1.less fun k hk => .inl hk) HB0.out.size
    obtain ⟨sv, rv, nv, ev, vs, hm1⟩ := hm1
    have c7 := hm1.c7
    have f7 := hm1.fz 7
    have c8 := hm1.c8
    have f8 := hm1.fz 8
    have hmb := hm1.lt
    have hlo := hm1.lo
    have hnk := hm1.noK
    have HM1 : Hid _ := hm1
    clear HC hb1 hk1 hm1 HB0 HK0 HBX0 p0 p1 hlt0
    by_cases hfit : (n : Int) ≤ roomM c s1
    · have hdf : decide ((n : Int) ≤ roomM c s1) = true := by simpa using hfit
      have hstp := HMK.out.2.1
      have hs1 := HBD.out.s1
      have hs2 := HBD.out.s2
      have hstp1 : 0 ≤ s1.stp := by omega
      have hstp2 : s1.stp ≤ 1000000 := by omega
      have HSTK : Hid (s1.stk.length ≤ 1099511620000) := by have := HBD.out.l1; rw [← HMK.out.1] at this; exact this
      clear hstp hs1 hs2
      have HF : Hid (MP (w1.setCell ⟨mb, 7, none⟩ (.int .i64 (s1.stp + 1))) B mb fv c { s1 with stp := s1.stp + 1 } (fun k => K k ∨ k = w.heap.size)) := ⟨_, _, _, _, _, HM1.out.field rfl rfl rfl rfl rfl⟩
      have HB2 : Hid (Below B w (w1.setCell ⟨mb, 7, none⟩ (.int .i64 (s1.stp + 1)))) := HB1.out.setCell (by exact hlo) _
      have HK2 : Hid (Kept K w (w1.setCell ⟨mb, 7, none⟩ (.int .i64 (s1.stp + 1)))) := HK1.out.trans (Kept.set fun hk => hnk (.inl hk)) HB1.out.size
      have HBX2 : Hid _ := (Kept.set (K := fun k => K k ∨ k = w.heap.size) (w := w1) (i := 7) (u := .int .i64 (s1.stp + 1)) hnk).blk (.inr rfl) HBX1.out
      have HC3 : Hid _ := mPop B mb fv c { s1 with stp := s1.stp + 1 } _ _ HF.out (by show s1.stk.length ≤ _; have := HSTK.out; omega)
      generalize hdI ({ s1 with stp := s1.stp + 1 } : Ms).stk = x0 at *
      clear HB1 HK1 HBX1 HF HM1 c8 f8 hnk
      go_wp2_with fail
      refine (show Calls _ _ _ _ _ from HC3.out).mono ?_
      rintro e w3 ⟨rfl, hb3, hk3, ⟨sv3, rv3, nv3, ev3, vs3, hm3⟩⟩
      have HBX3 : Hid _ := hk3.blk (.inr rfl) HBX2.out
      have hlt3 : w.heap.size < w3.heap.size := (Array.getElem?_eq_some_iff.1 HBX3.out).1
      obtain ⟨p0, p1⟩ := cells_of2 HBX3.out
      have HB3 : Hid (Below B w w3) := HB2.out.trans hb3
      have HK3 : Hid (Kept K w w3) := HK2.out.trans (hk3.less fun k hk => .inl hk) HB2.out.size
      have HML : Hid _ := hm3.mlt
      have HC4 : Hid _ := mPopMany na B mb fv c (popM { s1 with stp := s1.stp + 1 }) _ sv3 rv3 nv3 ev3 vs3 w3 hm3 (by show s1.stk.tail.length ≤ _; rw [List.length_tail]; have := HSTK.out; omega) (by omega)
      have HP4 : Hid (({ popM { s1 with stp := s1.stp + 1 } with stk := (popM { s1 with stp := s1.stp + 1 }).stk.drop na } : Ms) = { s1 with stp := s1.stp + 1, stk := s1.stk.tail.drop na } ∧ popN na (popM { s1 with stp := s1.stp + 1 }).stk = popN na s1.stk.tail) := ⟨rfl, rfl⟩
      rw [HP4.out.1, HP4.out.2] at HC4
      clear HC3 hb3 hk3 hm3 HB2 HK2 HBX2 HP4 c7 f7 hmb
      go_wp2_with fail
      refine (show Calls _ _ _ _ _ from HC4.out).mono ?_
      rintro e w4 ⟨av, rfl, hb4, hk4, hr4, sv4, hm4, ho4⟩
      have hs4 := hb4.size
      have HBX4 : Hid _ := hk4.blk (.inr rfl) HBX3.out
      have HB4 : Hid (Below B w w4) := HB3.out.trans hb4
      have HK4 : Hid (Kept K w w4) := HK3.out.trans (hk4.less fun k hk => .inl hk) HB3.out.size
      have HM4 : Hid _ := hm4.fromT (T := w3.heap.size) ⟨HML.out.m, by rw [ho4]; exact HML.out.s, HML.out.r, HML.out.n, HML.out.e, HML.out.v⟩
      have HR4 : Hid (w4.ownsRow w3.heap.size 96 2 av na (acs (popN na s1.stk.tail))) := hr4
      obtain ⟨ao, ac, rfl⟩ := own_form hr4
      have hnd4 : s1.nds.length ≤ 1099511627000 := by have := HBD.out.l3; rw [← HMK.out.2.2.2.1] at this; omega
      have hfr4 : s1.fre.length ≤ 1099511627770 := by have := HMK.out.2.2.2.2; omega
      have HC5 : Hid _ := mTakePlaces n B mb fv c { s1 with stp := s1.stp + 1, stk := s1.stk.tail.drop na } _ sv4 rv3 nv3 ev3 vs3 w4 HM4.out (by omega) hnd4 hfr4
      clear HC4 hb4 hk4 hr4 hm4 ho4 HB3 HK3 HBX3 HML HM4 p0 p1
      go_wp2_with fail
      refine (show Calls _ _ _ _ _ from HC5.out).mono ?_
      rintro e w5 ⟨pv, rfl, hb5, hk5, hr5, hm5⟩
      have hs5 := hb5.size
      have HBX5 : Hid _ := hk5.blk (.inl (.inr rfl)) HBX4.out
      have hlt5 : w.heap.size < w5.heap.size := (Array.getElem?_eq_some_iff.1 HBX5.out).1
      obtain ⟨p0, p1⟩ := cells_of2 HBX5.out
      have HB5 : Hid (Below B w w5) := HB4.out.trans hb5
      have HK5 : Hid (Kept K w w5) := HK4.out.trans (hk5.less fun k hk => .inl (.inl hk)) HB4.out.size
      have HRA : Hid (w5.ownsRow w3.heap.size 96 2 (.slice ao na ac) na (acs (popN na s1.stk.tail))) := own_kept HR4.out hk5 (fun k hk => .inr (HR4.out.lt k hk))
      have HAK : Hid (∀ k, (Value.slice ao na ac).ownBlock = some k → w3.heap.size ≤ k ∧ k < w4.heap.size) := fun k hk => HR4.out.lt k hk
      obtain ⟨po, pc, rfl⟩ := own_form hr5
      have HRP : Hid (w5.ownsRow w4.heap.size 3 1 (.slice po n pc) n (ints (takeL n { s1 with stp := s1.stp + 1, stk := s1.stk.tail.drop na }))) := hr5
      have HM5 : Hid _ := hm5
      have HAL : Hid ((popN na s1.stk.tail).length = na) := popN_len _ _
      have HPL : Hid ((takeL n { s1 with stp := s1.stp + 1, stk := s1.stk.tail.drop na }).length = n) := takeL_len _ _
      have HTN : Hid ((takeN n { s1 with stp := s1.stp + 1, stk := s1.stk.tail.drop na }).nds.length ≤ 1099511627200 ∧ (takeN n { s1 with stp := s1.stp + 1, stk := s1.stk.tail.drop na }).stk.length ≤ 1099511620000) := by
        refine ⟨?_, ?_⟩
        · have h := (takeN_len n { s1 with stp := s1.stp + 1, stk := s1.stk.tail.drop na }).1
          simp only at h
          omega
        · rw [takeN_stk]
          show (s1.stk.tail.drop na).length ≤ _
          rw [List.length_drop, List.length_tail]
          have := HSTK.out
          omega
      generalize hq1 : takeN n { s1 with stp := s1.stp + 1, stk := s1.stk.tail.drop na } = st0 at *
      generalize hq2 : takeL n { s1 with stp := s1.stp + 1, stk := s1.stk.tail.drop na } = PS at *
      generalize hq3 : popN na s1.stk.tail = AR at *
      have HQ1 : Hid _ := hq1
      have HQ2 : Hid _ := hq2
      have HQ3 : Hid _ := hq3
      clear hq1 hq2 hq3
      have HKS : Hid (∀ k, K k → (((K k ∨ k = w.heap.size) ∨ (w3.heap.size ≤ k ∧ k < w4.heap.size)) ∨ (Value.slice po n pc).ownBlock = some k)) := fun k hk => .inl (.inl (.inl hk))
      clear HC5 hb5 hk5 hr5 hm5 HB4 HK4 HBX4 HR4
      go_wp2_with fail
      go_loopw [47] (fun y wr => ∃ (j : Nat) (st : Ms), j ≤ ls.length ∧ y = .int .i64 j ∧ w5.heap.size ≤ wr.heap.size ∧ Hid (Below B w5 wr) ∧ Hid (Kept (fun k => ((K k ∨ k = w.heap.size) ∨ (w3.heap.size ≤ k ∧ k < w4.heap.size)) ∨ (Value.slice po n pc).ownBlock = some k) w5 wr) ∧ Hid (MP wr B mb fv c st (fun k => ((K k ∨ k = w.heap.size) ∨ (w3.heap.size ≤ k ∧ k < w4.heap.size)) ∨ (Value.slice po n pc).ownBlock = some k)) ∧ Hid (layF AR PS j (ls.drop j) st = layF AR PS 0 ls st0) ∧ st.nds.length ≤ 1099511627200 ∧ st.stk.length ≤ 1099511620000 + 1000 * j) (fun y _ => ls.length - (intOf y).toNat)
      case atStart => exact ⟨0, st0, Nat.zero_le _, rfl, Nat.le_refl _, Below.refl _ _, Kept.refl _ _, HM5.out, rfl, HTN.out.1, HTN.out.2⟩
      case round =>
        clear HM5 HTN p0 p1 hlt5
        obtain ⟨j, st, hj, rfl, hsz, HBr, HKr, HMr, HLr, hnd, hst⟩ := hrel
        have HBw : Hid (Below B w wr) := HB5.out.trans HBr.out
        by_cases hjl : j < ls.length
        · obtain ⟨lo', lc', hle', hlc1, hlc2, hcs⟩ := HLR.out wr HBw.out
          cases hle'
          unfold maxLen at hlc2
          rcases hcs with hz | ⟨lb, off, rfl, hlb, hcell⟩
          · omega
          obtain ⟨lv, u0, hat⟩ := hcell j hjl
          have hlbl : lb < wr.heap.size := by have := HBw.out.size; omega
          have hll := hln ls[j] (List.getElem_mem hjl)
          have hTr : T ≤ wr.heap.size := by have := HBw.out.size; omega
          have HC6 : Hid _ := mInst ls[j] AR PS lv (.slice ao na ac) (.slice po n pc) T w3.heap.size w4.heap.size wr hTr hat (by rw [HAL.out]; exact own_kept HRA.out HKr.out (fun k hk => .inl (.inr (HAK.out k hk)))) (by rw [HPL.out]; exact own_kept HRP.out HKr.out (fun k hk => .inr hk)) hll (by rw [HAL.out]; omega) (by rw [HPL.out]; omega)
          have HLE : Hid ((instM ls[j] AR PS).length = ls[j].length) := by show _ = _; simp [instM]
          have HD : Hid (ls.drop j = ls[j] :: ls.drop (j + 1)) := List.drop_eq_getElem_cons hjl
          have hatf : ∃ lo2 lc2, lv = .slice lo2 ls[j].length lc2 := by obtain ⟨a, cp, e, _⟩ := hat; exact ⟨a, cp, e⟩
          obtain ⟨lo2, lc2, hlv⟩ := hatf
          subst hlv
          generalize ls[j] = l at *
          clear hat hcell
          go_wp2_with fail
          refine (show Calls _ _ _ _ _ from HC6.out).mono ?_
          rintro e w6 ⟨v, rfl, hb6, hr6⟩
          have hs6 := hb6.size
          have HM6 : Hid _ := HMr.out.fresh hb6
          have HV6 : Hid (∀ k, v.ownBlock = some k → wr.heap.size ≤ k ∧ k < w6.heap.size) := fun k hk => hr6.lt k hk
          have hBr : B ≤ wr.heap.size := by have := HBw.out.size; omega
          have HB6 : Hid (Below B w5 w6) := HBr.out.trans (hb6.mono hBr)
          have HK6 : Hid (Kept (fun k => ((K k ∨ k = w.heap.size) ∨ (w3.heap.size ≤ k ∧ k < w4.heap.size)) ∨ (Value.slice po n pc).ownBlock = some k) w5 w6) := HKr.out.trans (Kept.old hb6) hsz
          have HR6 : Hid (w6.ownsRow B 96 2 v (instM l AR PS).length (acs (instM l AR PS))) := by rw [HLE.out]; exact ownsRow_base hr6 hBr
          have hil : (instM l AR PS).length ≤ 1000 := by rw [HLE.out]; exact hll
          obtain ⟨vo, vc, rfl⟩ := own_form hr6
          clear HC6 hr6 hb6 HMr HBr HKr u0
          by_cases hj0 : j = 0
          · subst hj0
            have HL2 : Hid (layF AR PS 1 (ls.drop 1) (putM (instM l AR PS) st) = layF AR PS 0 ls st0) := by rw [← HLr.out, HD.out]; rfl
            have HC7 : Hid _ := mPut (instM l AR PS) (.slice vo l.length vc) B B mb fv c st _ w6 HM6.out HR6.out (fun k hk => .inr (HV6.out k hk)) (by omega)
            clear HM6 HR6
            go_wp2_with fail
            refine (show Calls _ _ _ _ _ from HC7.out).mono ?_
            rintro e w7 ⟨⟨v7, rfl⟩, hb7, hk7, hm7⟩
            have hs7 := hb7.size
            have HB7 : Hid (Below B w5 w7) := HB6.out.trans hb7
            have HK7 : Hid _ := HK6.out.trans (hk7.less fun k hk => .inl hk) (by omega)
            have HM7 : Hid _ := hm7.less fun k hk => .inl hk
            have hst7 : (putM (instM l AR PS) st).stk.length ≤ 1099511620000 + 1000 * (0 + 1) := by show (instM l AR PS ++ st.stk).length ≤ _; rw [List.length_append]; omega
            clear HC7 hb7 hk7 hm7
            go_wp2_with fail
            go_roundw
            case rel => exact ⟨0 + 1, _, hjl, by go_num, by omega, HB7.out, HK7.out, HM7.out, HL2.out, hnd, hst7⟩
            case measure => simp [intOf]; omega
          · obtain ⟨i, rfl⟩ : ∃ i, j = i + 1 := ⟨j - 1, by omega⟩
            have hin : i < n := by have := HNL.out; omega
            have hip : i < PS.length := by rw [HPL.out]; exact hin
            have HL2 : Hid (layF AR PS (i + 1 + 1) (ls.drop (i + 1 + 1)) (layM PS[i] (instM l AR PS, false) st) = layF AR PS 0 ls st0) := by
              rw [← HLr.out, HD.out]
              show _ = layF AR PS (i + 2) _ (if i < PS.length then layM (PS[i]?.getD 0) (instM l AR PS, false) st else st)
              rw [if_pos hip, List.getElem?_eq_getElem hip]
              rfl
            have hrp := own_kept HRP.out HK6.out (fun k hk => .inr hk)
            obtain ⟨pq, cap', hq, hqB, hqlt⟩ := hrp.form (by omega)
            cases hq
            have n0 := row_cell hrp i _ (ints_at PS i hip)
            generalize PS[i] = pi at *
            have HC7 : Hid _ := mLay pi (.slice vo l.length vc) (instM l AR PS) false B mb fv c st _ w6 HM6.out HR6.out (fun k hk => .inr (HV6.out k hk)) (by omega)
            have e1 : (((i + 1 : Nat) : Int) - 1) = (i : Int) := by omega
            have g0 : (((i + 1 : Nat) : Int) == 0) = false := by simp; omega
            have g0' : ((i : Int) + 1 == 0) = false := by simp; omega
            have g0'' : ¬ (i : Int) + 1 = 0 := by omega
            have g1 : decide (((i + 1 : Nat) : Int) ≤ (n : Int)) = true := by simp; omega
            have g1' : decide ((i : Int) + 1 ≤ (n : Int)) = true := by simp; omega
            clear hrp HM6 HR6
            go_wp2_with fail
            refine (show Calls _ _ _ _ _ from HC7.out).mono ?_
            rintro e w7 ⟨⟨v7, rfl⟩, hb7, hk7, hm7⟩
            have hs7 := hb7.size
            have HB7 : Hid (Below B w5 w7) := HB6.out.trans hb7
            have HK7 : Hid _ := HK6.out.trans (hk7.less fun k hk => .inl hk) (by omega)
            have HM7 : Hid _ := hm7.less fun k hk => .inl hk
            have hll7 : (layM pi (instM l AR PS, false) st).nds.length = st.nds.length ∧ (layM pi (instM l AR PS, false) st).stk = st.stk := by
              unfold layM
              split
              · exact ⟨by simp, rfl⟩
              · exact ⟨rfl, rfl⟩
            have hnd7 : (layM pi (instM l AR PS, false) st).nds.length ≤ 1099511627200 := by rw [hll7.1]; exact hnd
            have hst7 : (layM pi (instM l AR PS, false) st).stk.length ≤ 1099511620000 + 1000 * (i + 1 + 1) := by rw [hll7.2]; omega
            clear HC7 hb7 hk7 hm7 n0 hll7
            go_wp2_with fail
            go_roundw
            case rel => exact ⟨i + 1 + 1, _, hjl, by go_num, by omega, HB7.out, HK7.out, HM7.out, HL2.out, hnd7, hst7⟩
            case measure => simp [intOf]; omega
        · have hdj : decide ((j : Int) < (ls.length : Int)) = false := by simp; omega
          have hdj2 : ¬ (j : Int) < (ls.length : Int) := by omega
          have HF : Hid (st = layF AR PS 0 ls st0) := by rw [← HLr.out, show ls.drop j = [] from List.drop_eq_nil_of_le (by omega)]; cases j <;> rfl
          have HMF : Hid (MP wr B mb fv c (layF AR PS 0 ls st0) K) := by rw [← HF.out]; exact MP.less HMr.out HKS.out
          clear HF HMr
          go_wp2_with fail
          refine bodyPost_end (v := .tuple #[]) (by simp [results, Tryz.results77, go_sem]) rfl ⟨⟨_, rfl⟩, HBw.out, HK5.out.trans (HKr.out.less HKS.out) HB5.out.size, ?_⟩
          have e : List.drop (na + 1) s1.stk = s1.stk.tail.drop na := by simp
          rw [e, HQ1.out, HQ2.out, HQ3.out]
          exact HMF.out
    · have hdf : decide ((n : Int) ≤ roomM c s1) = false := by simpa using hfit
      have HF : Hid (MP (w1.setCell ⟨mb, 8, none⟩ (.int .i64 6)) B mb fv c { s1 with out := 6 } (fun k => K k ∨ k = w.heap.size)) := ⟨_, _, _, _, _, HM1.out.field rfl rfl rfl rfl rfl⟩
      clear HM1
      go_wp2_with fail
      exact bodyPost_ret (v := .tuple #[]) (by simp [results, Tryz.results77, go_sem]) rfl ⟨⟨_, rfl⟩, HB1.out.setCell (by exact hlo) _, HK1.out.trans (Kept.set fun hk => hnk (.inl hk)) HB1.out.size, MP.less HF.out fun k hk => .inl hk⟩

end Go.Proofs.YtnndoagpbcacdaaGreatDoor
namespace Go.Proofs.YtnndoagpbcacdaaGreatDoor
open Go.RowKit

/-! Package machine: move, Run. -/
structure CfB (c : Cf) : Prop where
  h0 : 0 ≤ c.hp
  h1 : c.hp ≤ 1000000
  ts : ∀ t ∈ c.fs, 0 ≤ t.ar ∧ t.ar ≤ 100 ∧ 1 ≤ t.ls.length ∧ t.ls.length ≤ 100 ∧ ∀ l ∈ t.ls, l.length ≤ 1000
structure Ok (c : Cf) (s : Ms) : Prop where
  bd : Bd s
  tp : (hdI s.stk).1 = 3 → 0 ≤ (hdI s.stk).2 ∧ (hdI s.stk).2 < c.fs.length
theorem tpl_mem {c : Cf} {n : Int} (h0 : 0 ≤ n) (h1 : n < c.fs.length) : tplM c n ∈ c.fs := by
  unfold tplM
  rw [if_pos ⟨h0, h1⟩]
  have hlt : n.toNat < c.fs.length := by omega
  rw [List.getElem?_eq_getElem hlt]
  exact List.getElem_mem hlt

set_option maxRecDepth 100000 in
set_option maxHeartbeats 4000000 in
theorem mMove (T B mb : Nat) (fv : Value) (c : Cf) (s : Ms) (K : Nat → Prop) (w : World) (h : MP w B mb fv c s K) (ok : Ok c s) (hc : CfB c) (hTB : T ≤ B) (hf : FunsRd w T fv c.fs) :
    Calls Tryz.prog 43 #[.pointer (some ⟨mb, 0, none⟩)] w fun e w' => (∃ v, e = .returned v) ∧ Below B w w' ∧ Kept K w w' ∧ MP w' B mb fv c (moveM c s) K := by
  have hB0 : B ≤ w.heap.size := by have := h.lt; have := h.lo; omega
  have HM : Hid (∀ w', Below w.heap.size w w' → MP w' B mb fv c s K) := fun w' hb => h.old hb
  have HFR : Hid (∀ w', Below w.heap.size w w' → FunsRd w' T fv c.fs) := fun w' hb => FunsRd.keep hf (hb.mono (by omega))
  have hlo := h.lo
  have HC1 : Hid (Calls Tryz.prog 74 #[.pointer (some ⟨mb, 0, none⟩)] w fun e w' => e = .returned (.tuple #[.agg #[.int .i64 (hdI s.stk).1, .int .i64 (hdI s.stk).2], .int .i64 (argN s)]) ∧ Below w.heap.size w w') := by
    obtain ⟨sv, rv, nv, ev, vs, h⟩ := h
    exact mLook B mb fv c s K sv rv nv ev vs w h (by have := ok.bd.l1; omega) (by have := ok.bd.l2; omega) (by have := ok.bd.l1; have := ok.bd.fl; omega)
  have HTN : Hid ((hdI s.stk).1 = 1 → -1000000000 ≤ (hdI s.stk).2 ∧ (hdI s.stk).2 ≤ 1000000000) := by
    intro h1
    cases hs : s.stk with
    | nil => rw [hs] at h1; simp [hdI] at h1
    | cons x r =>
      rw [hs] at h1
      exact ok.bd.nb x (by rw [hs]; simp) h1
  have HTP : Hid _ := ok.tp
  have HBD : Hid _ := ok.bd
  have HE : Hid (moveM c s = if (hdI s.stk).1 = 5 then enterM s else if (hdI s.stk).1 = 3 then (if (tplM c (hdI s.stk).2).ar ≤ argN s then callM c (tplM c (hdI s.stk).2) s else delM c (hdI s.stk) s) else if (hdI s.stk).1 = 4 then (if wantM (hdI s.stk).2 ≤ argN s then askM (hdI s.stk).2 s else delM c (hdI s.stk) s) else if 0 < argN s then { s with out := 3 } else delM c (hdI s.stk) s) := rfl
  rw [HE.out]
  clear HE h ok hf
  generalize hdI s.stk = t at *
  obtain ⟨t1, t2⟩ := t
  generalize argN s = an at *
  simp only at *
  generalize hT : tplM c t2 = tp at *
  generalize hW : wantM t2 = wn at *
  have HTQ : Hid (tplM c t2 = tp) := hT
  have HWQ : Hid (wantM t2 = wn) := hW
  clear hT hW
  go_enter Tryz.func43, Tryz.ntmps43
  go_wp2_with fail
  refine (show Calls _ _ _ _ _ from HC1.out).mono ?_
  rintro e w1 ⟨rfl, hb1⟩
  clear HC1
  have hs1 := hb1.size
  have HBW : Hid (Below w.heap.size w (w1.alloc (Obj.cells #[.int .i64 t1, .int .i64 t2] 96))) := hb1.trans ((below_al w1 _).mono hs1)
  have HB1 : Hid (Below B w (w1.alloc (Obj.cells #[.int .i64 t1, .int .i64 t2] 96))) := HBW.out.mono hB0
  have HK1 : Hid (Kept K w (w1.alloc (Obj.cells #[.int .i64 t1, .int .i64 t2] 96))) := Kept.old HBW.out
  have HMW : Hid (MP (w1.alloc (Obj.cells #[.int .i64 t1, .int .i64 t2] 96)) B mb fv c s K) := HM.out _ HBW.out
  have HDW : Hid _ := mDeliver (t1, t2) HTN.out B mb fv c s K _ HMW.out HBD.out
  simp only at HDW
  by_cases h5 : t1 = 5
  · subst h5
    have HC2 : Hid _ := mEnter B mb fv c s K _ HMW.out (by have := HBD.out.l1; omega) (by have := HBD.out.l2; omega) (by have := HBD.out.l3; omega) (fun n hn => by have := HBD.out.l5 n hn; have := HBD.out.l1; omega)
    clear HDW HMW HM HFR hb1
    go_wp2_with fail
    refine (show Calls _ _ _ _ _ from HC2.out).mono ?_
    rintro e w2 ⟨⟨v2, rfl⟩, hb2, hk2, hm2⟩
    have HM2 : Hid _ := hm2
    clear hm2 HC2
    go_wp2_with fail
    exact bodyPost_end (v := .tuple #[]) (by simp [results, Tryz.results43, go_sem]) rfl ⟨⟨_, rfl⟩, HB1.out.trans hb2, HK1.out.trans hk2 HB1.out.size, HM2.out⟩
  · have h5b : (t1 == 5) = false := by simpa using h5
    by_cases h3 : t1 = 3
    · subst h3
      obtain ⟨v0, v1⟩ := HTP.out rfl
      have HT0 : Hid _ := hc.ts _ (tpl_mem v0 v1)
      have HC2 : Hid _ := mTemplate t2 T B mb fv c s K _ HMW.out (by have := HBW.out.size; omega) (HFR.out _ HBW.out)
      rw [HTQ.out] at HT0 HC2
      clear v0 v1 hb1
      go_wp2_with fail
      refine (show Calls _ _ _ _ _ from HC2.out).mono ?_
      rintro e w2 ⟨lo, lc, rfl, hb2, hlr⟩
      clear HC2
      have hs2 := hb2.size
      have hbx := (hb2.block w1.heap.size (by simp)).trans (heap_alloc_new w1 _)
      obtain ⟨q0, q1⟩ := cells_of2 hbx
      have hlt2 : w1.heap.size < w2.heap.size := by simp at hs2; omega
      have HBW2 : Hid (Below w.heap.size w (w2.alloc (Obj.cells #[.int .i64 tp.ar, .slice lo tp.ls.length lc] 78))) := (HBW.out.trans (hb2.mono HBW.out.size)).trans ((below_al w2 _).mono (by have := HBW.out.size; omega))
      have HB2 : Hid (Below B w (w2.alloc (Obj.cells #[.int .i64 tp.ar, .slice lo tp.ls.length lc] 78))) := HBW2.out.mono hB0
      have HK2 : Hid (Kept K w (w2.alloc (Obj.cells #[.int .i64 tp.ar, .slice lo tp.ls.length lc] 78))) := Kept.old HBW2.out
      have HMW2 : Hid (MP (w2.alloc (Obj.cells #[.int .i64 tp.ar, .slice lo tp.ls.length lc] 78)) B mb fv c s K) := HM.out _ HBW2.out
      have HL2 : Hid (LinesRd (w2.alloc (Obj.cells #[.int .i64 tp.ar, .slice lo tp.ls.length lc] 78)) T (.slice lo tp.ls.length lc) tp.ls) := hlr.below ((hb2.mono (by have := HBW.out.size; omega)).trans ((below_al w2 _).mono (by have := HBW.out.size; omega)))
      have hq0' := hbx
      clear HDW HMW HM hbx hlr hb2
      by_cases hle : tp.ar ≤ an
      · have hd : decide (tp.ar ≤ an) = true := by simpa using hle
        have HC3 : Hid _ := mCall tp lo lc T B mb fv c s K _ HMW2.out HBD.out hTB HL2.out HT0.out.1 HT0.out.2.1 HT0.out.2.2.1 HT0.out.2.2.2.1 HT0.out.2.2.2.2 hc.h0 (by have := hc.h1; omega)
        clear HMW2 HL2 hq0'
        go_wp2_with fail
        refine (show Calls _ _ _ _ _ from HC3.out).mono ?_
        rintro e w3 ⟨⟨v3, rfl⟩, hb3, hk3, hm3⟩
        have HM3 : Hid _ := hm3
        clear hm3 HC3 q0 q1
        go_wp2_with fail
        exact bodyPost_end (v := .tuple #[]) (by simp [results, Tryz.results43, go_sem]) rfl ⟨⟨_, rfl⟩, HB2.out.trans hb3, HK2.out.trans hk3 HB2.out.size, HM3.out⟩
      · have hd : decide (tp.ar ≤ an) = false := by simpa using hle
        have HC3 : Hid _ := mDeliver (3, t2) (by intro h; simp at h) B mb fv c s K _ HMW2.out HBD.out
        simp only at HC3
        have hbx2 := (below_al w2 (Obj.cells #[.int .i64 tp.ar, .slice lo tp.ls.length lc] 78)).block w1.heap.size hlt2
        clear HMW2 HL2 hq0' hbx2
        go_wp2_with fail
        refine (show Calls _ _ _ _ _ from HC3.out).mono ?_
        rintro e w3 ⟨⟨v3, rfl⟩, hb3, hk3, hm3⟩
        have HM3 : Hid _ := hm3
        clear hm3 HC3 q0 q1
        go_wp2_with fail
        exact bodyPost_end (v := .tuple #[]) (by simp [results, Tryz.results43, go_sem]) rfl ⟨⟨_, rfl⟩, HB2.out.trans hb3, HK2.out.trans hk3 HB2.out.size, HM3.out⟩
    · have h3b : (t1 == 3) = false := by simpa using h3
      by_cases h4 : t1 = 4
      · subst h4
        have HC2 : Hid (∀ w', Calls Tryz.prog 79 #[.int .i64 t2] w' fun e w'' => e = .returned (.int .i64 (wantM t2)) ∧ w'' = w') := fun w' => mWanted t2 w'
        have HC3 : Hid _ := mAskFirst t2 B mb fv c s K _ HMW.out (by have := HBD.out.l1; omega) (by have := HBD.out.l2; omega)
        rw [HWQ.out] at HC2
        clear HMW HM hb1
        by_cases hle : wn ≤ an
        · have hd : decide (wn ≤ an) = true := by simpa using hle
          go_wp2_with fail
          refine (show Calls _ _ _ _ _ from HC2.out _).mono ?_
          rintro e w2 ⟨rfl, rfl⟩
          clear HC2
          go_wp2_with fail
          refine (show Calls _ _ _ _ _ from HC3.out).mono ?_
          rintro e w3 ⟨⟨v3, rfl⟩, hb3, hk3, hm3⟩
          have HM3 : Hid _ := hm3
          clear hm3 HC3
          go_wp2_with fail
          exact bodyPost_end (v := .tuple #[]) (by simp [results, Tryz.results43, go_sem]) rfl ⟨⟨_, rfl⟩, HB1.out.trans hb3, HK1.out.trans hk3 HB1.out.size, HM3.out⟩
        · have hd : decide (wn ≤ an) = false := by simpa using hle
          go_wp2_with fail
          refine (show Calls _ _ _ _ _ from HC2.out _).mono ?_
          rintro e w2 ⟨rfl, rfl⟩
          clear HC2
          go_wp2_with fail
          refine (show Calls _ _ _ _ _ from HDW.out).mono ?_
          rintro e w3 ⟨⟨v3, rfl⟩, hb3, hk3, hm3⟩
          have HM3 : Hid _ := hm3
          clear hm3 HC3
          go_wp2_with fail
          exact bodyPost_end (v := .tuple #[]) (by simp [results, Tryz.results43, go_sem]) rfl ⟨⟨_, rfl⟩, HB1.out.trans hb3, HK1.out.trans hk3 HB1.out.size, HM3.out⟩
      · have h4b : (t1 == 4) = false := by simpa using h4
        by_cases hpos : 0 < an
        · have hd : decide (0 < an) = true := by simpa using hpos
          obtain ⟨sv, rv, nv, ev, vs, hmw⟩ := HM.out w1 hb1
          have cc8 := hmw.c8
          have ff8 := hmw.fz 8
          have hmbw := hmw.lt
          have HK : Hid (¬ K mb) := hmw.noK
          have HF : Hid (MSt (w1.setCell ⟨mb, 8, none⟩ (.int .i64 3)) B mb fv c { s with out := 3 } K sv rv nv ev vs) := hmw.field rfl rfl rfl rfl rfl
          have HB2 : Hid (Below B w w1) := hb1.mono hB0
          have HKF : Hid (Kept K w ((w1.setCell ⟨mb, 8, none⟩ (.int .i64 3)).alloc (Obj.cells #[.int .i64 t1, .int .i64 t2] 96))) := ((Kept.old hb1).trans (Kept.set HK.out) hs1).trans (Kept.old (below_al _ _)) (by rw [size_set]; exact hs1)
          clear hmw HM HMW HDW hb1
          go_wp2_with fail
          exact bodyPost_end (v := .tuple #[]) (by simp [results, Tryz.results43, go_sem]) rfl ⟨⟨_, rfl⟩, (HB2.out.setCell (by exact hlo) _).trans ((below_al _ _).mono (by rw [size_set]; omega)), HKF.out, _, _, _, _, _, HF.out.old (below_al _ _)⟩
        · have hd : decide (0 < an) = false := by simpa using hpos
          clear HM HMW hb1
          go_wp2_with fail
          refine (show Calls _ _ _ _ _ from HDW.out).mono ?_
          rintro e w3 ⟨⟨v3, rfl⟩, hb3, hk3, hm3⟩
          have HM3 : Hid _ := hm3
          clear hm3 HDW
          go_wp2_with fail
          exact bodyPost_end (v := .tuple #[]) (by simp [results, Tryz.results43, go_sem]) rfl ⟨⟨_, rfl⟩, HB1.out.trans hb3, HK1.out.trans hk3 HB1.out.size, HM3.out⟩

end Go.Proofs.YtnndoagpbcacdaaGreatDoor
namespace Go.Proofs.YtnndoagpbcacdaaGreatDoor
open Go.RowKit

/-! Package machine: Run, of code that is read, with a budget and a heap that may be. -/
theorem iter_done (c : Cf) : ∀ (n : Nat) (s : Ms), s.out ≠ 0 → iterM c n s = s
  | 0, _, _ => rfl
  | n + 1, s, h => by rw [iterM, if_neg h]
theorem iter_one (c : Cf) : ∀ (n : Nat) (s : Ms), (iterM c n s).out = 0 → iterM c (n + 1) s = moveM c (iterM c n s)
  | 0, s, h => by
    have h' : s.out = 0 := h
    simp [iterM, h']
  | n + 1, s, h => by
    by_cases hs : s.out = 0
    · have h2 : (iterM c n (moveM c s)).out = 0 := by rw [iterM, if_pos hs] at h; exact h
      rw [iterM, if_pos hs, iter_one c n (moveM c s) h2, iterM, if_pos hs]
    · rw [iter_done c (n + 1) s hs] at h; exact absurd h hs
theorem iter_out (c : Cf) : ∀ (n m : Nat) (s : Ms), n ≤ m → (iterM c n s).out ≠ 0 → iterM c m s = iterM c n s
  | 0, m, s, _, h => iter_done c m s h
  | n + 1, 0, _, hm, _ => by omega
  | n + 1, m + 1, s, hm, h => by
    by_cases hs : s.out = 0
    · rw [iterM, if_pos hs] at h ⊢
      rw [iterM, if_pos hs]
      exact iter_out c n m _ (by omega) h
    · rw [iter_done c _ s hs, iter_done c _ s hs]

theorem cells_three (W : World) (b : Nat) (a0 a1 a2 : Value) (t : TypeId) (x0 x1 x2 : Value) (h : W.heap[b]? = some (.cells #[a0, a1, a2] t (0, 0))) : (((W.setCell ⟨b, 0, none⟩ x0).setCell ⟨b, 1, none⟩ x1).setCell ⟨b, 2, none⟩ x2).cell? ⟨b, 0, none⟩ = some x0 ∧ (((W.setCell ⟨b, 0, none⟩ x0).setCell ⟨b, 1, none⟩ x1).setCell ⟨b, 2, none⟩ x2).cell? ⟨b, 1, none⟩ = some x1 ∧ (((W.setCell ⟨b, 0, none⟩ x0).setCell ⟨b, 1, none⟩ x1).setCell ⟨b, 2, none⟩ x2).cell? ⟨b, 2, none⟩ = some x2 := by
  have h2 := blk_set (i := 2) x2 (blk_set (i := 1) x1 (blk_set (i := 0) x0 h))
  exact ⟨by rw [cell_of_row _ b 0 _ _ _ h2]; rfl, by rw [cell_of_row _ b 1 _ _ _ h2]; rfl, by rw [cell_of_row _ b 2 _ _ _ h2]; rfl⟩

set_option maxRecDepth 100000 in
set_option maxHeartbeats 4000000 in
theorem mRunOk (s : ByteArray) (bud hp : Int) (cd : Cd) (N : Nat) (w : World) (hs : s.size ≤ maxLen) (hrd : rdC s = some cd) (hre : rdE s = 0) (hb0 : 0 ≤ bud) (hb1 : bud ≤ 2000) (hh0 : 0 ≤ hp) (hh1 : hp ≤ 24000)
    (hc : CfB ⟨cd.fs, bud, hp⟩) (hok : ∀ i, i < N → (iterM ⟨cd.fs, bud, hp⟩ i (initM cd.mn)).out = 0 → Ok ⟨cd.fs, bud, hp⟩ (iterM ⟨cd.fs, bud, hp⟩ i (initM cd.mn))) (hN : (iterM ⟨cd.fs, bud, hp⟩ N (initM cd.mn)).out ≠ 0) :
    Calls Tryz.prog 26 #[.string s, .int .i64 bud, .int .i64 hp] w fun e w' => e = .returned (.tuple #[.agg #[.int .i64 (iterM ⟨cd.fs, bud, hp⟩ N (initM cd.mn)).out, .int .i64 (iterM ⟨cd.fs, bud, hp⟩ N (initM cd.mn)).val, .int .i64 (iterM ⟨cd.fs, bud, hp⟩ N (initM cd.mn)).stp], .int .i64 0]) ∧ Below w.heap.size w w' := by
  have HC1 : Hid _ := pRead s (w.alloc (Obj.cells #[.int .i64 0, .int .i64 0, .int .i64 0] 31)) hs
  rw [hre] at HC1
  generalize rdL s = rl at *
  have HRD : Hid (rdC s = some cd) := hrd
  have HOK : Hid _ := hok
  have HNO : Hid _ := hN
  have HCB : Hid _ := hc
  clear hrd hre hok hN hc
  go_enter Tryz.func26, Tryz.ntmps26
  go_wp2_with fail
  refine (show Calls _ _ _ _ _ from HC1.out).mono ?_
  rintro e w1 ⟨mn, fv, rfl, hbe1, _, hall⟩
  clear HC1
  obtain ⟨hmn, hfo, _⟩ := hall _ HRD.out
  have hfrd := hfo.rd
  obtain ⟨fo, fc, rfl, _, _, _⟩ := hfo.rd
  have HMN : Hid (mn = cd.mn) := hmn
  have hs1 := hbe1.size
  have HX1 : Hid _ := (hbe1.block w.heap.size (by simp)).trans (heap_alloc_new w _)
  have hw1 : w.heap.size < w1.heap.size := by simp at hs1; omega
  have HBW1 : Hid (Below w.heap.size w w1) := ((Below.refl _ w).alloc (Nat.le_refl _) _).trans (hbe1.mono (by simp))
  have hd1 : decide (bud < 0) = false := by simp; omega
  have hd2 : decide (2000 < bud) = false := by simp; omega
  have hd3 : decide (hp < 0) = false := by simp; omega
  have hd4 : decide (24000 < hp) = false := by simp; omega
  have HFR : Hid (FunsRd w1 w1.heap.size (.slice fo cd.fs.length fc) cd.fs) := hfrd
  obtain ⟨W3, hW3⟩ : ∃ W3, W3 = (w1.alloc (Obj.cells #[.int .i64 mn, .slice fo cd.fs.length fc] 57)).alloc (Obj.cells #[.slice fo cd.fs.length fc, .int .i64 bud, .int .i64 hp, .slice none 0 0, .slice none 0 0, .slice none 0 0, .slice none 0 0, .int .i64 0, .int .i64 0, .int .i64 0] 93) := ⟨_, rfl⟩
  have hA3 : Below w1.heap.size w1 W3 := by rw [hW3]; exact below_al2 _ _ _
  have hM3 : MP W3 (w1.heap.size + 1) (w1.heap.size + 1) (.slice fo cd.fs.length fc) ⟨cd.fs, bud, hp⟩ ⟨[], [], [], [], 0, 0, 0⟩ (fun _ => False) := by
    refine ⟨.slice none 0 0, .slice none 0 0, .slice none 0 0, .slice none 0 0, [], ?_, Nat.le_refl _, World.ownsRow_nil _ _ _ _, World.ownsRow_nil _ _ _ _, World.ownsRow_nil _ _ _ _, World.ownsRow_nil _ _ _ _, rfl, fun j hj => by simp at hj, fun k hk => hk.elim, fun k hk => hk.elim⟩
    rw [hW3]
    have := heap_alloc_new (w1.alloc (Obj.cells #[.int .i64 mn, .slice fo cd.fs.length fc] 57)) (Obj.cells #[.slice fo cd.fs.length fc, .int .i64 bud, .int .i64 hp, .slice none 0 0, .slice none 0 0, .slice none 0 0, .slice none 0 0, .int .i64 0, .int .i64 0, .int .i64 0] 93)
    rw [World.size_alloc] at this
    exact this
  have HC2 : Hid _ := mPush (3, mn) _ _ _ _ _ _ W3 hM3 (by simp)
  rw [hW3] at HC2 hA3
  have HA3 : Hid _ := hA3
  clear hM3 hW3 hA3 hall hfo hfrd hmn
  simp only at HC2
  go_wp2_with fail
  refine (show Calls _ _ _ _ _ from HC2.out).mono ?_
  rintro e w4 ⟨⟨v4, rfl⟩, hb4, hk4, hm4⟩
  clear HC2
  have HI : Hid (pushM (3, mn) ⟨[], [], [], [], 0, 0, 0⟩ = initM cd.mn) := by show _ = _; rw [HMN.out]; rfl
  rw [HI.out] at hm4
  have hs4 := hb4.size
  rw [World.size_alloc, World.size_alloc] at hs4
  have HM4 : Hid _ := hm4
  have HB4 : Hid (Below (w1.heap.size + 1) (w1.alloc (Obj.cells #[.int .i64 mn, .slice fo cd.fs.length fc] 57)) w4) := ((Below.refl _ _).alloc (by simp) _).trans hb4
  have HBW4 : Hid (Below w1.heap.size w1 w4) := ((Below.refl _ w1).alloc (Nat.le_refl _) _).trans (HB4.out.mono (by omega))
  clear hb4 hk4 hm4
  generalize hcf : (⟨cd.fs, bud, hp⟩ : Cf) = cf at *
  have HCF : Hid ((⟨cd.fs, bud, hp⟩ : Cf) = cf) := hcf
  clear hcf
  go_wp2_with fail
  go_loopg [] N (fun k wr => k ≤ N ∧ w1.heap.size + 1 < wr.heap.size ∧ Hid (Below w1.heap.size w1 wr) ∧ Hid (MP wr (w1.heap.size + 1) (w1.heap.size + 1) (.slice fo cd.fs.length fc) cf (iterM cf (N - k) (initM cd.mn)) (fun _ => False)))
  case atStart => exact ⟨Nat.le_refl _, by omega, HBW4.out, by rw [Nat.sub_self]; exact HM4.out⟩
  case round =>
    clear HM4 HBW4 HB4 hs4
    obtain ⟨hgk, hsz, HB, HM⟩ := hrel
    obtain ⟨sv, rv, nv, ev, vs, hm⟩ := HM.out
    have c8 := hm.c8
    by_cases ho : (iterM cf (N - gk) (initM cd.mn)).out = 0
    · have hk0 : gk ≠ 0 := by
        intro e
        rw [e, Nat.sub_zero] at ho
        exact HNO.out ho
      obtain ⟨k, rfl⟩ : ∃ k, gk = k + 1 := ⟨gk - 1, by omega⟩
      have hok := HOK.out (N - (k + 1)) (by omega) ho
      have HC : Hid _ := mMove w1.heap.size (w1.heap.size + 1) (w1.heap.size + 1) (.slice fo cd.fs.length fc) cf (iterM cf (N - (k + 1)) (initM cd.mn)) (fun _ => False) wr HM.out hok HCB.out (by omega) (by rw [← HCF.out]; exact FunsRd.keep HFR.out HB.out)
      have HE : Hid (moveM cf (iterM cf (N - (k + 1)) (initM cd.mn)) = iterM cf (N - k) (initM cd.mn)) := by
        rw [show N - k = (N - (k + 1)) + 1 by omega, iter_one cf _ _ ho]; rfl
      rw [HE.out] at HC
      rw [ho] at c8
      clear hm HM HE hok ho
      go_wp2_with fail
      refine (show Calls _ _ _ _ _ from HC.out).mono ?_
      rintro e w5 ⟨⟨v5, rfl⟩, hb5, hk5, hm5⟩
      have hs5 := hb5.size
      have HM5 : Hid _ := hm5
      have HB5 : Hid (Below w1.heap.size w1 w5) := HB.out.trans (hb5.mono (by omega))
      clear HC hb5 hk5 hm5 c8
      go_wp2_with fail
      go_roundg k
      case measure => omega
      case rel => exact ⟨by omega, by omega, HB5.out, HM5.out⟩
    · have HF : Hid (iterM cf N (initM cd.mn) = iterM cf (N - gk) (initM cd.mn)) := iter_out cf _ _ _ (by omega) ho
      have c7 := hm.c7
      have c9 := hm.c9
      have HF2 : Hid (iterM ⟨cd.fs, bud, hp⟩ N (initM cd.mn) = iterM cf (N - gk) (initM cd.mn)) := by have := HF.out; rw [← HCF.out] at this ⊢; exact this
      generalize iterM cf (N - gk) (initM cd.mn) = st at *
      have hob : (st.out == 0) = false := by simpa using ho
      have hX := (HB.out.block w.heap.size hw1).trans HX1.out
      have hwl : w.heap.size < wr.heap.size := by omega
      have r0 := cell_of_row wr w.heap.size 0 _ _ _ hX
      have r1 := cell_of_row wr w.heap.size 1 _ _ _ hX
      have r2 := cell_of_row wr w.heap.size 2 _ _ _ hX
      simp only [List.getElem?_toArray, List.getElem?_cons_succ, List.getElem?_cons_zero] at r0 r1 r2
      have z0 := frozen_of_row wr w.heap.size 0 _ _ hX
      have z1 := frozen_of_row wr w.heap.size 1 _ _ hX
      have z2 := frozen_of_row wr w.heap.size 2 _ _ hX
      have HXX : Hid _ := hX
      clear hm HM HF hX
      go_wp2_with fail
      obtain ⟨q0, q1, q2⟩ := cells_three wr w.heap.size _ _ _ _ (.int .i64 st.out) (.int .i64 st.val) (.int .i64 st.stp) HXX.out
      refine bodyPost_ret (v := .tuple #[.agg #[.int .i64 st.out, .int .i64 st.val, .int .i64 st.stp], .int .i64 0]) (by simp [results, Tryz.results26, go_sem, q0, q1, q2]) rfl ⟨by rw [HF2.out], ?_⟩
      exact (((HBW1.out.trans (HB.out.mono (by omega))).setCell (by exact Nat.le_refl _) _).setCell (by exact Nat.le_refl _) _).setCell (by exact Nat.le_refl _) _

end Go.Proofs.YtnndoagpbcacdaaGreatDoor
