import Derived.Test.YtnndoagpbcacdaaGreatDoorMR6
namespace Go.Proofs.YtnndoagpbcacdaaGreatDoor
open Go.RowKit

def contT (o : Option Nat) (e : Int) (k : Int × Int) : Int × Int := match o with
  | some p => (p, e)
  | none => k
def mainR (ds : List Df) : Int := if whr (ds.map (·.name)) mainB < 0 then 6 else if 0 < (ds[(whr (ds.map (·.name)) mainB).toNat]?.getD df0).ps.length then 6 else 0
def nR (ds : List Df) : Int × Int := contT (twiceF ds 0 ds) 4 (contT (unkF ds ds) 5 (0, mainR ds))

/-- What 'names' reads, in the world wx. -/
structure NR (w wx : World) (q cap : Nat) (ts : List Tk) (s : ByteArray) (lv fv : Value) (ds : List Df) (xs : List Value) (T : Nat) : Prop where
  bel : Below w.heap.size w wx
  trow : wx.ownsRow 0 201 2 (.slice (some ⟨q, 0, none⟩) (ts.length + 1) cap) (ts.length + 1) (rcs (ts ++ [endTk s]))
  drow : wx.ownsRow 0 208 5 lv ds.length xs
  dall : RDList wx T ts ds xs
  frow : wx.ownsRow 0 201 2 fv ds.length (rcs (ds.map (·.name)))
theorem RDList.drewN {w : World} {T : Nat} {ts : List Tk} (n : Nat) {ds : List Df} {xs : List Value} (h : RDList w T ts ds xs) : RDList (w.drewN n) T ts ds xs := h.keep (below_drewN (Below.refl T w) n)
theorem NR.drewN {w wx : World} {q cap : Nat} {ts : List Tk} {s : ByteArray} {lv fv : Value} {ds : List Df} {xs : List Value} {T : Nat} (h : NR w wx q cap ts s lv fv ds xs T) (n : Nat) : NR w (wx.drewN n) q cap ts s lv fv ds xs T :=
  ⟨below_drewN h.bel n, h.trow, h.drow, h.dall.drewN n, h.frow⟩

theorem twiceF_hit' (ds : List Df) (K : Int × Int) (k : Nat) (h : k < ds.length) (hh : hasF (ds.take k) ds[k].name.txt = true) : contT (twiceF ds k (ds.drop k)) 4 K = (((ds[k].name.pos : Nat) : Int), 4) := by
  rw [List.drop_eq_getElem_cons h, twiceF, if_pos hh]; rfl
theorem twiceF_miss' (ds : List Df) (K : Int × Int) (k : Nat) (h : k < ds.length) (hh : hasF (ds.take k) ds[k].name.txt = false) : contT (twiceF ds k (ds.drop k)) 4 K = contT (twiceP ds[k].ps 0 (ds[k].ps.drop 0)) 4 (contT (twiceF ds (k + 1) (ds.drop (k + 1))) 4 K) := by
  rw [List.drop_eq_getElem_cons h, twiceF, hh]
  simp only [Bool.false_eq_true, if_false, List.drop_zero]
  cases twiceP ds[k].ps 0 ds[k].ps <;> rfl
theorem twiceP_hit' (P : List Tk) (K : Int × Int) (j : Nat) (h : j < P.length) (hh : hasP (P.take j) P[j].txt = true) : contT (twiceP P j (P.drop j)) 4 K = (((P[j].pos : Nat) : Int), 4) := by
  rw [List.drop_eq_getElem_cons h, twiceP, if_pos hh]; rfl
theorem twiceP_miss' (P : List Tk) (K : Int × Int) (j : Nat) (h : j < P.length) (hh : hasP (P.take j) P[j].txt = false) : contT (twiceP P j (P.drop j)) 4 K = contT (twiceP P (j + 1) (P.drop (j + 1))) 4 K := by
  rw [List.drop_eq_getElem_cons h, twiceP, hh]; rfl
theorem twiceP_end' (P : List Tk) (K : Int × Int) (j : Nat) (h : ¬ j < P.length) : contT (twiceP P j (P.drop j)) 4 K = K := by
  rw [List.drop_eq_nil_of_le (by omega), twiceP]; rfl

theorem unkF_in' (ds : List Df) {K : Int × Int} (k : Nat) (h : k < ds.length) : contT (unkF ds (ds.drop k)) 5 K = contT (unkB ds ds[k].ps (ds[k].body.drop 0)) 5 (contT (unkF ds (ds.drop (k + 1))) 5 K) := by
  rw [List.drop_eq_getElem_cons h, unkF, List.drop_zero]
  cases unkB ds ds[k].ps ds[k].body <;> rfl
theorem unkB_hit' (ds : List Df) (ps body : List Tk) (K : Int × Int) (j : Nat) (h : j < body.length) (hh : unkT ds ps body[j] = true) : contT (unkB ds ps (body.drop j)) 5 K = (((body[j].pos : Nat) : Int), 5) := by
  rw [List.drop_eq_getElem_cons h, unkB, if_pos hh]; rfl
theorem unkB_miss' (ds : List Df) (ps body : List Tk) (K : Int × Int) (j : Nat) (h : j < body.length) (hh : unkT ds ps body[j] = false) : contT (unkB ds ps (body.drop j)) 5 K = contT (unkB ds ps (body.drop (j + 1))) 5 K := by
  rw [List.drop_eq_getElem_cons h, unkB, hh]; rfl
theorem unkB_end' (ds : List Df) (ps body : List Tk) (K : Int × Int) (j : Nat) (h : ¬ j < body.length) : contT (unkB ds ps (body.drop j)) 5 K = K := by
  rw [List.drop_eq_nil_of_le (by omega), unkB]; rfl

set_option maxRecDepth 100000 in
set_option maxHeartbeats 4000000 in
theorem rNames1 (s : ByteArray) (q cap : Nat) (ts : List Tk) (lv : Value) (ds : List Df) (xs : List Value) (T : Nat) (w : World) (hlt : ts.length ≤ 1000) (hl : ds.length ≤ 1000000) (hlp : ∀ d ∈ ds, d.ps.length ≤ 1000000) (hwt : ∀ t ∈ ts, WT t.txt)
    (htr : w.ownsRow 0 201 2 (.slice (some ⟨q, 0, none⟩) (ts.length + 1) cap) (ts.length + 1) (rcs (ts ++ [endTk s]))) (hdr : w.ownsRow 0 208 5 lv ds.length xs) (hd : RDList w T ts ds xs) (hT : T ≤ w.heap.size) :
    Calls Tryz.prog 84 #[.slice (some ⟨q, 0, none⟩) (ts.length + 1) cap, lv] w fun e w' => e = .returned (.tuple #[.int .i64 (nR ds).1, .int .i64 (nR ds).2]) ∧ Below w.heap.size w w' := by
  generalize hR : nR ds = R
  have HR : Hid (nR ds = R) := hR
  clear hR
  obtain ⟨ao, cap2, rfl⟩ := own_form hdr
  go_enter Tryz.func84, Tryz.ntmps84
  go_wp2_with fail
  refine (rHeads _ ts ds xs T _ hl hdr hd hT).mono ?_
  rintro e w1 ⟨fv, rfl, hb1, hf1⟩
  have hn1 : NR w w1 q cap ts s (.slice ao ds.length cap2) fv ds xs T := ⟨hb1, ownsRow_old htr hb1, ownsRow_old hdr hb1, hd.keep (hb1.mono hT), ownsRow_base hf1 (Nat.zero_le _)⟩
  obtain ⟨fo, fcap, rfl⟩ := own_form hf1
  clear hb1 hf1 htr hdr hd
  go_wp2_with fail
  generalize hK1 : contT (unkF ds ds) 5 (0, mainR ds) = K1
  have HK1 : Hid (contT (unkF ds ds) 5 (0, mainR ds) = K1) := hK1
  have HR1 : Hid (contT (twiceF ds 0 (ds.drop 0)) 4 K1 = R) := by have := HR.out; unfold nR at this; rw [hK1] at this; exact this
  clear HR hK1
  go_loopw [7] (fun a wr => ∃ (k : Nat), k ≤ ds.length ∧ a = .int .i64 k ∧ Hid (contT (twiceF ds k (ds.drop k)) 4 K1 = R) ∧ NR w wr q cap ts s (.slice ao ds.length cap2) (.slice fo ds.length fcap) ds xs T) (fun a _ => ds.length - (intOf a).toNat)
  case atStart => exact ⟨0, Nat.zero_le _, rfl, HR1, hn1⟩
  case round =>
    clear hn1
    obtain ⟨k, hk, rfl, HH, hn⟩ := hrel
    by_cases hlt2 : k < ds.length
    · obtain ⟨qf, cf, hqf, _, _⟩ := hn.frow.form (by omega)
      cases hqf
      obtain ⟨qd, cd, hqd, _, _⟩ := hn.drow.form (by omega)
      cases hqd
      have ⟨f0, f1⟩ := rcs_get (ds.map (·.name)) k ds[k].name (by simp [hlt2])
      have x0 := row_cell hn.frow _ _ f0
      have x1 := row_cell hn.frow _ _ f1
      clear f0 f1
      cases hh : hasF (ds.take k) ds[k].name.txt
      · have hw := whr_neg (ts := (ds.map (·.name)).take k) (s := ds[k].name.txt) (by rw [← List.map_take, hasP_names]; exact hh)
        have HC := (twiceF_miss' ds K1 k hlt2 hh).symm.trans HH.out
        generalize hK2 : contT (twiceF ds (k + 1) (ds.drop (k + 1))) 4 K1 = K2 at HC
        have HK2 : Hid (contT (twiceF ds (k + 1) (ds.drop (k + 1))) 4 K1 = K2) := hK2
        have HC2 : Hid _ := HC
        clear HC hK2 HH
        have hdl : ds[k].ps.length ≤ 1000000 := hlp _ (List.getElem_mem hlt2)
        go_wp2_with fail
        refine (rWhere _ (ds.map (·.name)) k _ _ (by simp; omega) (by simp; omega) (by simpa using hn.frow)).mono ?_
        rintro e w2 ⟨rfl, rfl⟩
        go_wp2_with fail
        clear x0 x1
        go_loopw [9] (fun a wx => ∃ (j : Nat), j ≤ ds[k].ps.length ∧ a = .int .i64 j ∧ Hid (contT (twiceP ds[k].ps j (ds[k].ps.drop j)) 4 K2 = R) ∧ NR w wx q cap ts s (.slice (some ⟨qd, 0, none⟩) ds.length cap2) (.slice (some ⟨qf, 0, none⟩) ds.length fcap) ds xs T) (fun a _ => ds[k].ps.length - (intOf a).toNat)
        case atStart => exact ⟨0, Nat.zero_le _, rfl, HC2, hn⟩
        case round =>
          clear hn
          obtain ⟨j, hj, rfl, HC3, hn⟩ := hrel
          obtain ⟨pv, a, b, t0, t1, t2, t3, t4, hok⟩ := hn.dall.at k hlt2
          have y2 := row_cell hn.drow _ _ t2
          clear t0 t1 t2 t3 t4
          obtain ⟨po, pcap, rfl⟩ := own_form hok.row
          have hki : (k : Int) < (ds.length : Int) := by omega
          have hk0 : (0 : Int) ≤ (k : Int) := by omega
          by_cases hjl : j < ds[k].ps.length
          · obtain ⟨qp, cp, hqp, _, _⟩ := hok.row.form (by omega)
            cases hqp
            have ⟨p0, p1⟩ := rcs_at ds[k].ps j hjl
            have z0 := row_cell hok.row _ _ p0
            have z1 := row_cell hok.row _ _ p1
            have hji : (j : Int) < (ds[k].ps.length : Int) := by omega
            have hj0 : (0 : Int) ≤ (j : Int) := by omega
            clear p0 p1
            have hprow : ∀ n, (wr.drewN n).ownsRow 0 201 2 (.slice (some ⟨qp, 0, none⟩) ds[k].ps.length pcap) ds[k].ps.length (rcs ds[k].ps) := fun _ => hok.row
            cases hp : hasP (ds[k].ps.take j) ds[k].ps[j].txt
            · have HC4 : Hid (contT (twiceP ds[k].ps (j + 1) (ds[k].ps.drop (j + 1))) 4 K2 = R) := (twiceP_miss' _ K2 j hjl hp).symm.trans HC3.out
              have hw2 := whr_neg hp
              go_wp2_with fail
              go_quiet ((go_at_call 131; exact Calls.quiet_of_same (rWhere _ ds[k].ps j _ _ (by omega) (by omega) (hprow _))))
              go_wp2_with fail
              go_roundw
              case rel => exact ⟨j + 1, by omega, by go_num, HC4, hn.drewN _⟩
              case measure => simp [intOf]; omega
            · have HE : Hid ((((ds[k].ps[j].pos : Nat) : Int), (4 : Int)) = R) := (twiceP_hit' _ K2 j hjl hp).symm.trans HC3.out
              have hw2 := whr_pos hp
              go_wp2_with fail
              go_quiet ((go_at_call 131; exact Calls.quiet_of_same (rWhere _ ds[k].ps j _ _ (by omega) (by omega) (hprow _))))
              go_wp2_with fail
              go_ret2
              exact ⟨ret_two HE.out, below_drewN hn.bel _⟩
          · have HC4 : Hid (contT (twiceF ds (k + 1) (ds.drop (k + 1))) 4 K1 = R) := HK2.out.trans ((twiceP_end' _ K2 j hjl).symm.trans HC3.out)
            go_wp2_with fail
            go_roundw
            case rel => exact ⟨k + 1, by omega, by go_num, HC4, hn⟩
            case measure => simp [intOf]; omega
      · have HE : Hid ((((ds[k].name.pos : Nat) : Int), (4 : Int)) = R) := (twiceF_hit' ds K1 k hlt2 hh).symm.trans HH.out
        have hw := whr_pos (ts := (ds.map (·.name)).take k) (s := ds[k].name.txt) (by rw [← List.map_take, hasP_names]; exact hh)
        go_wp2_with fail
        refine (rWhere _ (ds.map (·.name)) k _ _ (by simp; omega) (by simp; omega) (by simpa using hn.frow)).mono ?_
        rintro e w2 ⟨rfl, rfl⟩
        go_wp2_with fail
        go_ret2
        exact ⟨ret_two HE.out, hn.bel⟩
    · have HK : Hid (K1 = R) := by have := HH.out; rw [List.drop_eq_nil_of_le (by omega)] at this; exact this
      clear HH
      go_wp2_with fail
      generalize hU : ds.map (·.name) = names at *
      have hnl : names.length = ds.length := by rw [← hU]; simp
      have HU : Hid (ds.map (·.name) = names) := hU
      clear hU
      have HR2 : Hid (contT (unkF ds (ds.drop 0)) 5 (0, mainR ds) = R) := by have := HK1.out; rw [List.drop_zero]; exact this.trans HK.out
      clear HK HK1 HR1
      go_loopw [10] (fun a wx => ∃ (k : Nat), k ≤ ds.length ∧ a = .int .i64 k ∧ Hid (contT (unkF ds (ds.drop k)) 5 (0, mainR ds) = R) ∧ NR w wx q cap ts s (.slice ao ds.length cap2) (.slice fo ds.length fcap) ds xs T) (fun a _ => ds.length - (intOf a).toNat)
      case atStart => exact ⟨0, Nat.zero_le _, rfl, HR2, hn⟩
      case round =>
        clear hn hlt2 hk
        obtain ⟨k2, hk2, rfl, HH, hn⟩ := hrel
        by_cases hlt3 : k2 < ds.length
        · obtain ⟨qf, cf, hqf, _, _⟩ := hn.frow.form (by omega)
          cases hqf
          obtain ⟨qd, cd, hqd, _, _⟩ := hn.drow.form (by omega)
          cases hqd
          obtain ⟨pv, a, b, t0, t1, t2, t3, t4, hok⟩ := hn.dall.at k2 hlt3
          have y3 := row_cell hn.drow _ _ t3
          have HC := (unkF_in' ds k2 hlt3).symm.trans HH.out
          generalize hK3 : contT (unkF ds (ds.drop (k2 + 1))) 5 (0, mainR ds) = K3 at HC
          have HK3 : Hid (contT (unkF ds (ds.drop (k2 + 1))) 5 (0, mainR ds) = K3) := hK3
          have HC2 : Hid _ := HC
          clear HC hK3 HH
          have hdl : ds[k2].ps.length ≤ 1000000 := hlp _ (List.getElem_mem hlt3)
          have hto := hok.to
          have hle := hok.le
          have hbody := hok.body
          have HB : Hid (∀ j, j < ds[k2].body.length → ts[a + j]? = ds[k2].body[j]?) := hbody
          have HT : Hid (a + ds[k2].body.length = b) := hto
          have y2 := row_cell hn.drow _ _ t2
          have y4 := row_cell hn.drow _ _ t4
          have hpr0 := hok.row
          clear hbody hto hok t0 t1 t2 t3 t4
          have hki : (k2 : Int) < (ds.length : Int) := by omega
          have hk0 : (0 : Int) ≤ (k2 : Int) := by omega
          go_wp2_with fail
          clear y3
          go_loopw [11] (fun v wx => ∃ (j J : Nat), j ≤ ds[k2].body.length ∧ Hid (J = a + j) ∧ v = .int .i64 J ∧ Hid (contT (unkB ds ds[k2].ps (ds[k2].body.drop j)) 5 K3 = R) ∧ NR w wx q cap ts s (.slice (some ⟨qd, 0, none⟩) ds.length cap2) (.slice (some ⟨qf, 0, none⟩) ds.length fcap) ds xs T ∧ ∃ pv, wx.cell? ⟨qd, k2 * 5 + 2, none⟩ = some pv ∧ wx.cell? ⟨qd, k2 * 5 + 4, none⟩ = some (.int .i64 b) ∧ wx.ownsRow 0 201 2 pv ds[k2].ps.length (rcs ds[k2].ps)) (fun v _ => 2000 - (intOf v).toNat)
          case atStart => exact ⟨0, a, Nat.zero_le _, rfl, rfl, HC2, hn, pv, y2, y4, hpr0⟩
          case round =>
            clear hn y2 y4 hpr0
            obtain ⟨j, J, hj, HJ, rfl, HC3, hn, pv, y2, y4, hpr0⟩ := hrel
            obtain ⟨po, pcap, rfl⟩ := own_form hpr0
            have hb := HT.out
            have hJ := HJ.out
            by_cases hjl : j < ds[k2].body.length
            · have hJb : (J : Int) < (b : Int) := by omega
              have hJt : J < ts.length := by omega
              have hget : ts[J]? = some ds[k2].body[j] := by rw [hJ, HB.out j hjl]; exact List.getElem?_eq_getElem hjl
              have hwtj : WT ds[k2].body[j].txt := by
                obtain ⟨h1, h2⟩ := List.getElem?_eq_some_iff.1 hget
                rw [← h2]; exact hwt _ (List.getElem_mem h1)
              have ⟨z0, z1⟩ := rcs_get (ts ++ [endTk s]) J ds[k2].body[j] (by rw [List.getElem?_append_left hJt]; exact hget)
              have x0 := row_cell hn.trow _ _ z0
              have x1 := row_cell hn.trow _ _ z1
              have hJi : (J : Int) < (ts.length : Int) + 1 := by omega
              have hJ0 : (0 : Int) ≤ (J : Int) := by omega
              have hprow : ∀ n, (wr.drewN n).ownsRow 0 201 2 (.slice po ds[k2].ps.length pcap) ds[k2].ps.length (rcs ds[k2].ps) := fun _ => hpr0
              have hkr := kindOf_range ds[k2].body[j].txt
              have HTK1 : Hid (names.take ds.length = names) := by rw [← hnl]; exact List.take_length
              have hF : hasP names ds[k2].body[j].txt = hasF ds ds[k2].body[j].txt := by rw [← HU.out]; exact hasP_names ds _
              have HJ' : Hid (J = a + j) := HJ
              clear hb hJ hget z0 z1 HJ
              by_cases hk1 : kindOf ds[k2].body[j].txt = 1
              · have hs1 : sortK (kindOf ds[k2].body[j].txt) = 1 := by rw [hk1]; rfl
                cases hf : hasF ds ds[k2].body[j].txt
                · have hA : whr names ds[k2].body[j].txt < 0 := whr_neg (hF.trans hf)
                  cases hp : hasP ds[k2].ps ds[k2].body[j].txt
                  · have hB : whr ds[k2].ps ds[k2].body[j].txt < 0 := whr_neg hp
                    have HE : Hid ((((ds[k2].body[j].pos : Nat) : Int), (5 : Int)) = R) := (unkB_hit' ds _ _ K3 j hjl (by simp [unkT, hk1, hf, hp])).symm.trans HC3.out
                    clear hF hkr hk1 hf hp
                    go_wp2_with fail
                    refine (rSort _ _ hwtj).mono ?_
                    rintro e w2 ⟨rfl, rfl⟩
                    go_wp2_with fail
                    refine (rWhere _ names ds.length _ _ (by omega) (by omega) (by rw [hnl, ← HU.out]; exact hn.frow)).mono ?_
                    rintro e w3 ⟨rfl, rfl⟩
                    rw [HTK1.out]
                    go_wp2_with fail
                    go_quiet ((go_at_call 131; exact Calls.quiet_of_same (rWhere _ ds[k2].ps ds[k2].ps.length _ _ (by omega) (by omega) (hprow _))))
                    simp only [List.take_length]
                    go_wp2_with fail
                    go_ret2
                    exact ⟨ret_two HE.out, below_drewN hn.bel _⟩
                  · have hB : ¬ whr ds[k2].ps ds[k2].body[j].txt < 0 := by have := whr_pos hp; omega
                    have hBd : decide (whr ds[k2].ps ds[k2].body[j].txt < 0) = false := by simpa using hB
                    have HE : Hid (contT (unkB ds ds[k2].ps (ds[k2].body.drop (j + 1))) 5 K3 = R) := (unkB_miss' ds _ _ K3 j hjl (by simp [unkT, hp])).symm.trans HC3.out
                    clear hF hkr hk1 hf hp
                    go_wp2_with fail
                    refine (rSort _ _ hwtj).mono ?_
                    rintro e w2 ⟨rfl, rfl⟩
                    go_wp2_with fail
                    refine (rWhere _ names ds.length _ _ (by omega) (by omega) (by rw [hnl, ← HU.out]; exact hn.frow)).mono ?_
                    rintro e w3 ⟨rfl, rfl⟩
                    rw [HTK1.out]
                    go_wp2_with fail
                    go_quiet ((go_at_call 131; exact Calls.quiet_of_same (rWhere _ ds[k2].ps ds[k2].ps.length _ _ (by omega) (by omega) (hprow _))))
                    simp only [List.take_length]
                    go_wp2_with fail
                    go_roundw
                    case rel => exact ⟨j + 1, J + 1, by omega, by have := HJ'.out; show _ = _; omega, by go_num, HE, hn.drewN _, _, y2, y4, hpr0⟩
                    case measure => simp [intOf]; omega
                · have hA : ¬ whr names ds[k2].body[j].txt < 0 := by have := whr_pos (hF.trans hf); omega
                  have hAd : decide (whr names ds[k2].body[j].txt < 0) = false := by simpa using hA
                  have HE : Hid (contT (unkB ds ds[k2].ps (ds[k2].body.drop (j + 1))) 5 K3 = R) := (unkB_miss' ds _ _ K3 j hjl (by simp [unkT, hf])).symm.trans HC3.out
                  clear hF hkr hk1 hf
                  go_wp2_with fail
                  refine (rSort _ _ hwtj).mono ?_
                  rintro e w2 ⟨rfl, rfl⟩
                  go_wp2_with fail
                  refine (rWhere _ names ds.length _ _ (by omega) (by omega) (by rw [hnl, ← HU.out]; exact hn.frow)).mono ?_
                  rintro e w3 ⟨rfl, rfl⟩
                  rw [HTK1.out]
                  go_wp2_with fail
                  go_quiet ((go_at_call 131; exact Calls.quiet_of_same (rWhere _ ds[k2].ps ds[k2].ps.length _ _ (by omega) (by omega) (hprow _))))
                  simp only [List.take_length]
                  go_wp2_with fail
                  go_roundw
                  case rel => exact ⟨j + 1, J + 1, by omega, by have := HJ'.out; show _ = _; omega, by go_num, HE, hn.drewN _, _, y2, y4, hpr0⟩
                  case measure => simp [intOf]; omega
              · have hs1 : (sortK (kindOf ds[k2].body[j].txt) == 1) = false := by
                  rcases k_cases hkr with h | h | h | h | h | h | h | h <;> first | exact absurd h hk1 | (rw [h]; decide)
                have HE : Hid (contT (unkB ds ds[k2].ps (ds[k2].body.drop (j + 1))) 5 K3 = R) := (unkB_miss' ds _ _ K3 j hjl (by simp [unkT, hk1])).symm.trans HC3.out
                clear hF hkr hk1
                go_wp2_with fail
                refine (rSort _ _ hwtj).mono ?_
                rintro e w2 ⟨rfl, rfl⟩
                go_wp2_with fail
                refine (rWhere _ names ds.length _ _ (by omega) (by omega) (by rw [hnl, ← HU.out]; exact hn.frow)).mono ?_
                rintro e w3 ⟨rfl, rfl⟩
                rw [HTK1.out]
                go_wp2_with fail
                go_quiet ((go_at_call 131; exact Calls.quiet_of_same (rWhere _ ds[k2].ps ds[k2].ps.length _ _ (by omega) (by omega) (hprow _))))
                simp only [List.take_length]
                go_wp2_with fail
                go_roundw
                case rel => exact ⟨j + 1, J + 1, by omega, by have := HJ'.out; show _ = _; omega, by go_num, HE, hn.drewN _, _, y2, y4, hpr0⟩
                case measure => simp [intOf]; omega
            · have hJb : ¬ (J : Int) < (b : Int) := by omega
              have HE : Hid (contT (unkF ds (ds.drop (k2 + 1))) 5 (0, mainR ds) = R) := HK3.out.trans ((unkB_end' ds _ _ K3 j hjl).symm.trans HC3.out)
              clear hb hJ
              go_wp2_with fail
              go_roundw
              case rel => exact ⟨k2 + 1, by omega, by go_num, HE, hn⟩
              case measure => simp [intOf]; omega
        · have HE : Hid ((0, mainR ds) = R) := by have := HH.out; rw [List.drop_eq_nil_of_le (by omega)] at this; exact this
          have hm0 : mainR ds = if whr names ⟨#[109, 97, 105, 110]⟩ < 0 then 6 else if 0 < (ds[(whr names ⟨#[109, 97, 105, 110]⟩).toNat]?.getD df0).ps.length then 6 else 0 := by unfold mainR; rw [HU.out]; rfl
          have HM : Hid _ := hm0
          have HTK1 : Hid (names.take ds.length = names) := by rw [← hnl]; exact List.take_length
          clear HH hm0
          by_cases hneg : whr names ⟨#[109, 97, 105, 110]⟩ < 0
          · have HE2 : Hid (((0 : Int), (6 : Int)) = R) := by have := HM.out; rw [if_pos hneg] at this; exact (congrArg (fun x => ((0 : Int), x)) this.symm).trans HE.out
            go_wp2_with fail
            refine (rWhere _ names ds.length _ _ (by omega) (by omega) (by rw [hnl, ← HU.out]; exact hn.frow)).mono ?_
            rintro e w3 ⟨rfl, rfl⟩
            rw [HTK1.out]
            go_wp2_with fail
            go_ret2
            exact ⟨ret_two HE2.out, hn.bel⟩
          · obtain ⟨i, hi⟩ := Int.eq_ofNat_of_zero_le (show 0 ≤ whr names ⟨#[109, 97, 105, 110]⟩ by omega)
            have hil : i < ds.length := by
              rw [← hnl]
              unfold whr at hi
              split at hi
              · rename_i i' h'
                obtain ⟨h1, _⟩ := List.findIdx?_eq_some_iff_getElem.1 h'
                have : i' = i := by omega
                omega
              · omega
            have HE2 : Hid (((0 : Int), (if 0 < ds[i].ps.length then (6 : Int) else 0)) = R) := by
              have := HM.out
              rw [if_neg hneg, hi, Int.toNat_natCast, List.getElem?_eq_getElem hil, Option.getD_some] at this
              exact (congrArg (fun x => ((0 : Int), x)) this.symm).trans HE.out
            clear HM HE
            obtain ⟨qd, cd, hqd, _, _⟩ := hn.drow.form (by omega)
            cases hqd
            obtain ⟨pv, a, b, t0, t1, t2, t3, t4, hok⟩ := hn.dall.at i hil
            have y2 := row_cell hn.drow _ _ t2
            obtain ⟨po, pcap, rfl⟩ := own_form hok.row
            have hii : (i : Int) < (ds.length : Int) := by omega
            have hi0 : (0 : Int) ≤ (i : Int) := by omega
            have hnn : ¬ (i : Int) < 0 := by omega
            clear t0 t1 t2 t3 t4 hok
            have HI : Hid (whr names ⟨#[109, 97, 105, 110]⟩ = (i : Int)) := hi
            clear hi hneg
            by_cases hps : 0 < ds[i].ps.length
            · have hps2 : (0 : Int) < (ds[i].ps.length : Int) := by omega
              rw [if_pos hps] at HE2
              clear hps
              go_wp2_with fail
              refine (rWhere _ names ds.length _ _ (by omega) (by omega) (by rw [hnl, ← HU.out]; exact hn.frow)).mono ?_
              rintro e w3 ⟨rfl, rfl⟩
              rw [HTK1.out, HI.out]
              go_wp2_with fail
              go_ret2
              exact ⟨ret_two HE2.out, hn.bel⟩
            · have hps2 : ¬ (0 : Int) < (ds[i].ps.length : Int) := by omega
              rw [if_neg hps] at HE2
              clear hps
              go_wp2_with fail
              refine (rWhere _ names ds.length _ _ (by omega) (by omega) (by rw [hnl, ← HU.out]; exact hn.frow)).mono ?_
              rintro e w3 ⟨rfl, rfl⟩
              rw [HTK1.out, HI.out]
              go_wp2_with fail
              go_ret2
              exact ⟨ret_two HE2.out, hn.bel⟩

end Go.Proofs.YtnndoagpbcacdaaGreatDoor
namespace Go.Proofs.YtnndoagpbcacdaaGreatDoor
open Go.RowKit

theorem once_from (ds : List Df) : ∀ (n k : Nat), ds.length - k = n → twiceF ds k (ds.drop k) = none → ∀ j (h : j < ds.length), k ≤ j → hasF (ds.take j) ds[j].name.txt = false := by
  intro n
  induction n with
  | zero => intro k hk _ j h hj; omega
  | succ n ih =>
    intro k hk ht j h hj
    have hkl : k < ds.length := by omega
    rw [List.drop_eq_getElem_cons hkl, twiceF] at ht
    cases hf : hasF (ds.take k) ds[k].name.txt
    · rw [hf] at ht
      simp only [Bool.false_eq_true, if_false] at ht
      by_cases hjk : j = k
      · subst hjk; exact hf
      · cases hp : twiceP ds[k].ps 0 ds[k].ps with
        | some p => rw [hp] at ht; simp at ht
        | none => rw [hp] at ht; exact ih (k + 1) (by omega) ht j h (by omega)
    · rw [hf] at ht; simp at ht
theorem main_eq (ds : List Df) : mainE ds = mainR ds := rfl

theorem nR_chk (ds : List Df) : nR ds = (if (orErr (twiceF ds 0 ds) 4).2 ≠ 0 then orErr (twiceF ds 0 ds) 4 else if (orErr (unkF ds ds) 5).2 ≠ 0 then orErr (unkF ds ds) 5 else (0, mainE ds)) := by
  unfold nR
  cases ht : twiceF ds 0 ds with
  | some p => simp [contT, orErr]
  | none =>
    cases hu : unkF ds ds with
    | some p => simp [contT, orErr]
    | none => simp [contT, orErr, main_eq ds]

set_option maxHeartbeats 1000000 in
theorem rCheck (s : ByteArray) (w : World) (hs : s.size ≤ maxLen) :
    Calls Tryz.prog 47 #[.string s] w fun e w' => e = .returned (.tuple #[.int .i64 (chk s).1, .int .i64 (chk s).2]) ∧ Below w.heap.size w w' := by
  unfold maxLen at hs
  generalize hR : chk s = R
  have HR : Hid (chk s = R) := hR
  clear hR
  by_cases hbig : 1000 < s.size
  · have HE : Hid (((0 : Int), (1 : Int)) = R) := by rw [← HR.out]; simp [Hid, chk, hbig]
    go_enter Tryz.func47, Tryz.ntmps47
    go_wp2_with fail
    go_ret2
    exact ⟨ret_two HE.out, Below.refl _ _⟩
  · have hs2 : s.size ≤ 1000 := by omega
    have htl : (toksF s 0).length ≤ 1000 := Nat.le_trans (toksF_len s 0) (by omega)
    have hwt := toksF_wt s hs2 0
    have HR2 := HR.out
    unfold chk at HR2
    rw [if_neg hbig] at HR2
    clear HR
    generalize hts : toksF s 0 = ts at *
    have HTS : Hid (toksF s 0 = ts) := hts
    clear hts
    have HR3 : Hid _ := HR2
    clear HR2
    go_enter Tryz.func47, Tryz.ntmps47
    go_wp2_with fail
    refine (rTokens s _ hs2).mono ?_
    rintro e w1 ⟨v1, rfl, ho1, hb1⟩
    rw [HTS.out] at ho1
    have ho1' := ownsRow_base ho1 (Nat.zero_le _)
    clear ho1
    go_wp2_with fail
    refine (rShape s v1 ts _ hs2 htl hwt ho1').mono ?_
    rintro e w2 ⟨rfl, hb2⟩
    have ho2 := ownsRow_old ho1' hb2
    have hb2' := hb1.trans (hb2.mono hb1.size)
    clear hb1 hb2 ho1'
    by_cases hg : (gAll s.size g0 ts).2 = 0
    · obtain ⟨ds, hshp, hds⟩ := shp_of_all s.size ts hg
      have HR4 := (if_neg (by simpa using hg)).symm.trans HR3.out
      rw [hds, ← nR_chk] at HR4
      have HR5 : Hid (nR ds = R) := HR4
      have hci := cAll_inv ts
      have ok1 : ds.length ≤ 1000000 := by have := hci.i1; rw [hds] at this; omega
      have ok2 : ∀ d ∈ ds, d.ps.length ≤ 1000000 := fun d hd => by have := (hci.i4 d (by rw [hds]; exact hd)).1; omega
      clear HR3 HR4 hci hds
      go_wp2_with fail
      clear hg
      refine (rDefs s v1 ts ds _ htl hwt hshp ho2).mono ?_
      rintro e w3 ⟨lv, rfl, hb3, xs, hr3, hd3⟩
      have ho3 := ownsRow_old ho2 hb3
      have hb3' := hb2'.trans (hb3.mono hb2'.size)
      clear hb3 hb2' ho2
      obtain ⟨q, cap, rfl, _, _⟩ := ho3.form (by omega)
      go_wp2_with fail
      refine (rNames1 s q cap ts lv ds xs _ _ htl ok1 ok2 hwt ho3 hr3 hd3 (Nat.le_refl _)).mono ?_
      rintro e w4 ⟨rfl, hb4⟩
      have hb4' := hb3'.trans (hb4.mono hb3'.size)
      go_wp2_with fail
      go_ret2
      exact ⟨ret_two HR5.out, hb4'⟩
    · have HR6 : Hid _ := (if_pos (by simpa using hg)).symm.trans HR3.out
      have hg' : ((gAll s.size g0 ts).2 == 0) = false := by simpa using hg
      clear HR3
      go_wp2_with fail
      go_ret2
      exact ⟨ret_two HR6.out, hb2'⟩

theorem chk_head : chk ⟨#[109, 97, 105, 110, 32, 61, 32, 120, 59]⟩ = (7, 5) := by decide +kernel

end Go.Proofs.YtnndoagpbcacdaaGreatDoor
