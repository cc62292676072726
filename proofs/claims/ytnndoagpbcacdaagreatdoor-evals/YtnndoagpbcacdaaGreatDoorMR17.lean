import Derived.Test.YtnndoagpbcacdaaGreatDoorMS2
import Derived.Test.YtnndoagpbcacdaaGreatDoorR16
import Derived.Test.YtnndoagpbcacdaaGreatDoorMR9
namespace Go.Proofs.YtnndoagpbcacdaaGreatDoor
open Go.RowKit

/-- The two ways of writing come to the same. -/
def SameShow (ds : List Df) : Prop := ∀ d ∈ ds, ∀ hd a, d.body = hd :: At.toks a → simp3 hd → a.ok → 32 :: (wL d.ps (ds.map (·.name)) hd ++ spL d.ps (ds.map (·.name)) a) = showI d.body false 0

set_option maxRecDepth 100000 in
set_option maxHeartbeats 4000000 in
theorem rShow (s : ByteArray) (ds : List Df) (w : World) (hs : s.size ≤ maxLen) (hchk : (chk s).2 = 0 → s.size ≤ 1000 ∧ Prog (toksF s 0) ds ∧ SameShow ds ∧ (∀ d ∈ ds, DfOk d)) :
    Calls Tryz.prog 49 #[.string s] w fun e w' => ∃ x : ByteArray, e = .returned (.tuple #[.string x, .int .i64 (chk s).2]) ∧ x.data.toList = (if (chk s).2 = 0 then progL ds else []) ∧ Below w.heap.size w w' := by
  by_cases h0 : (chk s).2 = 0
  · obtain ⟨hs2, hp, hss, hdo⟩ := hchk h0
    have HDO : Hid _ := hdo
    have HSS : Hid _ := hss
    have HP : Hid _ := hp
    have hci := cAll_inv (toksF s 0)
    have hce := cAll_shp hp.shq.shp
    have htl := hp.lt
    have hdl : ds.length ≤ 1000 := by rw [← hce]; exact Nat.le_trans hci.i1 htl
    clear hdo hss hce hci htl hchk
    have hpc := hp
    clear hp
    rw [h0]
    simp only [if_true]
    go_enter Tryz.func49, Tryz.ntmps49
    go_wp2_with fail
    refine (rCheck s _ hs).mono ?_
    rintro e w1 ⟨rfl, hb1⟩
    rw [h0]
    go_wp2_with fail
    refine (rProgram s ds _ hs2 hpc).mono ?_
    rintro e w2 ⟨v, mm, rfl, hb2, _, xs, hrow, hfl⟩
    have hb2' := hb1.trans (hb2.mono hb1.size)
    obtain ⟨lo, lcap, rfl⟩ := own_form hrow
    clear hb1 hb2 hpc h0
    have kc := conv_byte
    go_wp2_with fail
    go_loopw [8, 9] (fun x y wr => ∃ (k : Nat) (ox : ByteArray), k ≤ ds.length ∧ y = .int .i64 k ∧ x = .string ox ∧ Hid (ox.data.toList = progL (ds.take k)) ∧ ox.size ≤ k * 5000000 ∧ Below w2.heap.size w2 wr) (fun _ y _ => ds.length - (intOf y).toNat)
    case atStart => exact ⟨0, _, Nat.zero_le _, rfl, rfl, by simp [Hid, progL], Nat.le_refl _, Below.refl _ _⟩
    case round =>
      obtain ⟨k, ox, hk, rfl, rfl, HOX, hox, hb⟩ := hrel
      have hbsz := hb.size
      by_cases hlt : k < ds.length
      · obtain ⟨qd, cd, hqd, _, _⟩ := hrow.form (by omega)
        cases hqd
        have hdm := List.getElem_mem hlt
        obtain ⟨hwn, hwp, hwb, hlp, hlb⟩ := HDO.out ds[k] hdm
        have hns := hwn.2.1
        have hr4 := ownsRow_old hrow hb
        obtain ⟨psv, bv, t0, t1, t2, hfo⟩ := (hfl.keep hb).at k hlt
        have d0 := row_cell hr4 _ _ t0
        have d1 := row_cell hr4 _ _ t1
        have d2 := row_cell hr4 _ _ t2
        obtain ⟨hpr, hplt, ⟨hd0, a0, ys, hbody, hsh, hao, hbr, her⟩, hblt⟩ := hfo
        obtain ⟨po, pcap, rfl⟩ := own_form hpr
        obtain ⟨bo, bcap, rfl⟩ := own_form hbr
        have hba : a0.toks.length < 1001 := by have h1 := congrArg List.length hbody; simp at h1; omega
        have hnum : ∀ t ∈ hd0 :: a0.toks, simp3 t → (knownF ds[k].ps (ds.map (·.name)) t).1 = 1 → t.txt.size ≤ 6 ∧ digL t.txt.data.toList := fun t ht h1 h2 => HP.out.num ds[k] hdm t (HP.out.shq.mem ds[k] hdm t (by rw [hbody]; exact ht)) h1 (by rw [hbody]; exact ht) h2
        have HC : Hid _ := rShown ds[k].name.txt ds[k].ps (ds.map (·.name)) ds (.slice po ds[k].ps.length pcap) (.slice bo (a0.cnt + 1) bcap) (.slice (some ⟨qd, 0, none⟩) ds.length lcap) xs w2.heap.size hlp hdl rfl 1001 hd0 a0 ys (.slice bo (a0.cnt + 1) bcap) wr.drew (by rw [heap_drew]; exact hbsz) hba (Nat.le_refl _) (by rw [← hbody]; exact hwb) hsh hao hnum (World.ownsRow.drew hpr) (World.ownsRow.drew hr4) (FList.drew (hfl.keep hb)) (World.ownsRow.drew hbr) (ER.drew (ER.keep (fun _ _ => rfl) (fun k hk => Nat.lt_of_lt_of_le hk hbsz) her))
        have HSL : Hid _ := HSS.out ds[k] hdm hd0 a0 hbody hsh hao
        have HLL : Hid ((wL ds[k].ps (ds.map (·.name)) hd0 ++ spL ds[k].ps (ds.map (·.name)) a0).length ≤ 2000000) := by
          show _ ≤ _
          have h1 := wL_len ds[k].ps (ds.map (·.name)) (hwb hd0 (by rw [hbody]; simp))
          have h2 := spL_len ds[k].ps (ds.map (·.name)) a0 (fun t ht => hwb t (by rw [hbody]; simp [ht]))
          rw [List.length_append]; omega
        have HB : Hid _ := hbody
        clear t0 t1 t2 hr4 hbody hnum hwb her hbr hfl
        have hox2 : ox.size ≤ 5000000000 := Nat.le_trans hox (Nat.le_trans (Nat.mul_le_mul_right _ (Nat.le_trans hk hdl)) (by decide))
        have HOS : Hid _ := hox
        clear hox
        go_wp2_with fail
        have hn1 : (ox ++ ds[k].name.txt).size = ox.size + ds[k].name.txt.size := ByteArray.size_append
        have HN1 : Hid ((ox ++ ds[k].name.txt).data.toList = progL (ds.take k) ++ ds[k].name.txt.data.toList) := by show _ = _; rw [toL_append, HOX.out]
        generalize ox ++ ds[k].name.txt = ox1 at *
        go_loop [8, 10] (fun x y => ∃ (j : Nat) (oy : ByteArray), j ≤ ds[k].ps.length ∧ y = .int .i64 j ∧ x = .string oy ∧ Hid (oy.data.toList = progL (ds.take k) ++ ds[k].name.txt.data.toList ++ psL (ds[k].ps.take j)) ∧ oy.size ≤ ox.size + 1000 + j * 1001) (fun _ y => ds[k].ps.length - (intOf y).toNat)
        case atStart => exact ⟨0, ox1, Nat.zero_le _, rfl, rfl, by show _ = _; rw [HN1.out]; simp [psL], by omega⟩
        case round =>
          obtain ⟨j, oy, hj, rfl, rfl, HOY, hoy⟩ := hrel
          by_cases hjl : j < ds[k].ps.length
          · obtain ⟨qp, cp, hqp, _, _⟩ := hpr.form (by omega)
            cases hqp
            have x0 := row_cell hpr j (.string ds[k].ps[j].txt) (by unfold strs; rw [List.getElem?_map, List.getElem?_eq_getElem hjl]; rfl)
            have hpw := (hwp ds[k].ps[j] (List.getElem_mem hjl)).2.1
            go_wp2_with fail
            go_round
            case rel =>
              refine ⟨j + 1, _, hjl, by go_num, rfl, ?_, ?_⟩
              · show _ = _
                simp only [toL_append]
                rw [HOY.out, psL_snoc _ _ hjl]
                simp
              · simp only [ByteArray.size_append]
                have : (⟨#[32]⟩ : ByteArray).size = 1 := rfl
                omega
            case measure => simp [intOf]; omega
          · have hj3 : j = ds[k].ps.length := by omega
            subst hj3
            rw [List.take_length] at HOY
            go_wp2_with fail
            go_cut [11] (fun vx wc => ∃ y : ByteArray, vx = .string y ∧ y.data.toList = wL ds[k].ps (ds.map (·.name)) hd0 ++ spL ds[k].ps (ds.map (·.name)) a0 ∧ y.size ≤ 2000000 ∧ Below w2.heap.size w2 wc)
            case first =>
              go_region_with (go_at_call 87; go_must (refine (show Calls _ _ _ _ _ from HC.out).mono ?_); rintro e w1 ⟨y, rfl, hy, hb1⟩)
              all_goals
                go_wp2_with fail
                go_meet
                case rel => exact ⟨y, rfl, hy, by rw [size_len, hy]; exact HLL.out, hb.trans ((Below.drew (Below.refl _ _)).trans (hb1.mono (by simp [heap_drew]; omega)))⟩
            case rest =>
              obtain ⟨y, hx, hy, hys, hbc⟩ := hcut
              rw [hx]
              clear hx
              have HY : Hid _ := hy
              clear hy
              have hnl : (strOfNums [10]).size = 1 := rfl
              go_wp2_with fail
              go_roundw
              case rel =>
                refine ⟨k + 1, _, hlt, by go_num, rfl, ?_, ?_, hbc.alloc hbc.size _⟩
                · show _ = _
                  simp only [toL_append]
                  rw [HOY.out, HY.out, progL_snoc _ _ hlt, defL, ← HSL.out]
                  simp [str_one]
                · have := HOS.out
                  simp only [ByteArray.size_append]
                  have h1 : (⟨#[32, 61, 32]⟩ : ByteArray).size = 3 := rfl
                  have h2 : (⟨#[59]⟩ : ByteArray).size = 1 := rfl
                  omega
              case measure => simp [intOf]; omega
      · have hk2 : k = ds.length := by omega
        subst hk2
        rw [List.take_length] at HOX
        go_wp2_with fail
        go_ret2
        exact ⟨ox, rfl, HOX.out, hb2'.trans (hb.mono hb2'.size)⟩
  · have h0' : ((chk s).2 == 0) = false := by simpa using h0
    rw [if_neg h0]
    clear hchk
    go_enter Tryz.func49, Tryz.ntmps49
    go_wp2_with fail
    refine (rCheck s _ hs).mono ?_
    rintro e w1 ⟨rfl, hb1⟩
    go_wp2_with fail
    go_ret2
    exact ⟨_, rfl, rfl, hb1⟩

end Go.Proofs.YtnndoagpbcacdaaGreatDoor
namespace Go.Proofs.YtnndoagpbcacdaaGreatDoor
open Go.RowKit

/-! Plain: the program's way of writing an application is the tree's. -/
/-! What the tokens of a program are. -/
/-- Numbers are what is neither a primitive nor named. -/
theorem known_num {ds : List Df} {d : Df} {t : Tk} (hw : WT t.txt) (hs : simp3 t) (hnp : ∀ p ∈ d.ps, kindOf p.txt = 1) (hnn : ∀ e ∈ ds, kindOf e.name.txt = 1) (hu : unkT ds d.ps t = false) : (knownF d.ps (ds.map (·.name)) t).1 = 1 ↔ kindOf t.txt = 2 := by
  have hno : kindOf t.txt = 2 → ∀ l : List Tk, (∀ p ∈ l, kindOf p.txt = 1) → ¬ 0 ≤ whr l t.txt := by
    intro h2 l hl h0
    obtain ⟨i, hi, _, he⟩ := whr_get h0
    have := hl l[i] (List.getElem_mem hi)
    rw [he] at this
    omega
  rcases hs with h1 | h2 | h3
  · have hlet := kind_name h1
    have hp0 : ¬ 0 ≤ primL t.txt.toList := by
      rw [primL_other t.txt (fun c hc e => by rw [e] at hlet; simp only [isL, decide_eq_true_eq] at hlet; omega)]; decide
    unfold unkT at hu
    rw [h1] at hu
    simp only [decide_true, Bool.true_and, Bool.and_eq_false_iff, Bool.not_eq_false'] at hu
    constructor
    · intro hk
      exfalso
      unfold knownF at hk
      rw [if_neg hp0] at hk
      rcases hu with hu | hu
      · rw [if_pos (whr_pos hu)] at hk; simp at hk
      · rw [← hasP_names] at hu
        by_cases hq : 0 ≤ whr d.ps t.txt
        · rw [if_pos hq] at hk; simp at hk
        · rw [if_neg hq, if_pos (whr_pos hu)] at hk; simp at hk
    · intro h2; omega
  · refine ⟨fun _ => h2, fun _ => ?_⟩
    have hdg := (kind_num h2).1
    have hp0 : ¬ 0 ≤ primL t.txt.toList := by
      rw [primL_other t.txt (fun c hc e => by rw [e] at hdg; simp only [isD, decide_eq_true_eq] at hdg; omega)]; decide
    unfold knownF
    rw [if_neg hp0, if_neg (hno h2 d.ps hnp), if_neg (hno h2 (ds.map (·.name)) (fun p hp => by obtain ⟨e, he, rfl⟩ := List.mem_map.1 hp; exact hnn e he))]
  · have hpr := kind_prim h3
    have hp0 : 0 ≤ primL t.txt.toList := by
      refine primL_hit t.txt (hw.2.2 ?_ ?_) hpr
      · simp only [isL, decide_eq_false_iff_not]; omega
      · simp only [isD, decide_eq_false_iff_not]; omega
    unfold knownF
    rw [if_pos hp0]
    simp only [show ¬ ((4 : Int) = 1) by decide, false_iff]
    omega

theorem wL_tkL {ds : List Df} {d : Df} {t : Tk} (h : (knownF d.ps (ds.map (·.name)) t).1 = 1 ↔ kindOf t.txt = 2) : wL d.ps (ds.map (·.name)) t = tkL t := by
  unfold wL tkL
  by_cases h2 : kindOf t.txt = 2
  · rw [if_pos (h.2 h2), if_pos h2]
  · rw [if_neg (fun e => h2 (h.1 e)), if_neg h2]
theorem spL_spT {ps names : List Tk} {a : At} (ho : a.ok) (h : ∀ t ∈ a.toks, simp3 t → wL ps names t = tkL t) : spL ps names a = spT a := by
  induction a with
  | nil => rfl
  | sim t r ih => rw [spL, spT, h t (by simp [At.toks]) ho.1, ih ho.2 (fun t ht => h t (by simp [At.toks, ht]))]
  | par o x c ag r ih1 ih2 =>
    obtain ⟨h1, h2, h3, h4, h5⟩ := ho
    have e1 := h x (by simp [At.toks]) h2
    have e2 := ih2 h5 (fun t ht => h t (by simp [At.toks, ht]))
    have e3 := ih1 h4 (fun t ht => h t (by simp [At.toks, ht]))
    by_cases hn : ag = .nil
    · subst hn; rw [spL, spT, e1, e2]
    · rw [spL_par hn, spT_par hn, e1, e2, e3]

/-- All that is wanted of a program. -/
theorem prog_of (s : ByteArray) (h : (chk s).2 = 0) : s.size ≤ 1000 ∧ Prog (toksF s 0) (cAll (toksF s 0)).ds ∧ SameShow (cAll (toksF s 0)).ds ∧ (∀ d ∈ (cAll (toksF s 0)).ds, DfOk d) ∧ (cAll (toksF s 0)).ds.length ≤ 1000 := by
  unfold chk at h
  by_cases hbig : 1000 < s.size
  · rw [if_pos hbig] at h; simp at h
  rw [if_neg hbig] at h
  by_cases hg : (gAll s.size g0 (toksF s 0)).2 = 0
  · rw [if_neg (by simpa using hg)] at h
    have hs2 : s.size ≤ 1000 := by omega
    have htl : (toksF s 0).length ≤ 1000 := Nat.le_trans (toksF_len s 0) (by omega)
    have hwt := toksF_wt s hs2 0
    have hdig := toksF_dig s 0
    obtain ⟨ds, hshq, hds⟩ := shq_of_all s.size (toksF s 0) hg
    have hci := cAll_inv (toksF s 0)
    have hi1 := hci.i1
    have hi4 := hci.i4
    clear hci
    rw [hds] at h hi1 hi4 ⊢
    generalize toksF s 0 = ts at *
    have hu : unkF ds ds = none := by
      cases ht : twiceF ds 0 ds with
      | some p => rw [ht] at h; simp [orErr] at h
      | none =>
        cases hu : unkF ds ds with
        | some p => rw [ht, hu] at h; simp [orErr] at h
        | none => rfl
    have hua := unkF_all hu
    have hnm := hshq.names
    have hkn : ∀ d ∈ ds, ∀ t ∈ d.body, simp3 t → ((knownF d.ps (ds.map (·.name)) t).1 = 1 ↔ kindOf t.txt = 2) := fun d hd t ht hs =>
      known_num (hwt t (hshq.mem d hd t ht)) hs (hnm d hd).2.1 (fun e he => (hnm e he).1) (hua d hd t ht)
    refine ⟨hs2, ⟨hshq, hwt, htl, ?_⟩, ?_, ?_, Nat.le_trans hi1 htl⟩
    · intro d hd t ht hs htb hk
      have h2 := (hkn d hd t htb hs).1 hk
      exact ⟨(kind_num h2).2, hdig t ht (kind_num h2).1⟩
    · intro d hd x a hb hs ha
      have hwb : ∀ t ∈ d.body, WT t.txt := fun t ht => hwt t (hshq.mem d hd t ht)
      rw [hb] at hwb
      rw [hb, show_body hs ha (fun t ht => hwb t (by simp [ht])), wL_tkL (hkn d hd x (by rw [hb]; simp) hs), spL_spT ha (fun t ht hs => wL_tkL (hkn d hd t (by rw [hb]; simp [ht]) hs))]
    · intro d hd
      obtain ⟨h1, h2, h3, h4⟩ := hnm d hd
      exact ⟨hwt _ h3, fun t ht => hwt t (h4 t ht), fun t ht => hwt t (hshq.mem d hd t ht), Nat.le_trans (hi4 d hd).1 htl, Nat.le_trans (hi4 d hd).2 htl⟩
  · rw [if_pos (by simpa using hg)] at h
    exact absurd h hg

end Go.Proofs.YtnndoagpbcacdaaGreatDoor
