import Derived.Test.YtnndoagpbcacdaaGreatDoorMB1
import Derived.Test.YtnndoagpbcacdaaGreatDoorMB0
namespace Go.Proofs.YtnndoagpbcacdaaGreatDoor
open Go.RowKit

theorem tkL_le (t : Tk) : (tkL t).length ≤ t.txt.size := by
  rw [size_len]; unfold tkL; split
  · exact dropZ_le _
  · exact Nat.le_refl _

set_option maxHeartbeats 1000000 in
theorem sShowToken (t : Tk) (w : World) (hs : t.txt.size ≤ 1000) (h0 : 0 < t.txt.size) :
    Calls Tryz.prog 167 #[.agg #[.int .i64 (kindOf t.txt), .int .i64 t.pos, .string t.txt]] w fun e w' => ∃ x : ByteArray, e = .returned (.string x) ∧ x.data.toList = tkL t ∧ Below w.heap.size w w' := by
  by_cases h2 : kindOf t.txt = 2
  · have HT : Hid (tkL t = dropZ t.txt.data.toList) := by show tkL t = _; unfold tkL; rw [if_pos h2]
    go_enter Tryz.func167, Tryz.ntmps167
    go_wp2_with fail
    refine (sWithoutNoughts _ _ hs h0).mono ?_
    rintro e w1 ⟨x, rfl, hx, rfl⟩
    have HX : Hid _ := hx
    clear hx
    go_wp2_with fail
    go_ret
    exact ⟨x, rfl, HX.out.trans HT.out.symm, (Below.refl _ _).alloc (Nat.le_refl _) _⟩
  · have h2' : (kindOf t.txt == 2) = false := by simpa using h2
    have HT : Hid (tkL t = t.txt.data.toList) := by show tkL t = _; unfold tkL; rw [if_neg h2]
    clear h2
    go_enter Tryz.func167, Tryz.ntmps167
    go_wp2_with fail
    go_ret
    exact ⟨_, rfl, HT.out.symm, (Below.refl _ _).alloc (Nat.le_refl _) _⟩

theorem sShowTokenK (t : Tk) (k : Int) (hk : kindOf t.txt = k) (w : World) (hs : t.txt.size ≤ 1000) (h0 : 0 < t.txt.size) :
    Calls Tryz.prog 167 #[.agg #[.int .i64 k, .int .i64 t.pos, .string t.txt]] w fun e w' => ∃ x : ByteArray, e = .returned (.string x) ∧ x.data.toList = tkL t ∧ Below w.heap.size w w' := by
  subst hk; exact sShowToken t w hs h0

theorem showI_end (ts : List Tk) (bo : Bool) (i : Nat) (h : ¬ i < ts.length) : showI ts bo i = [] := by rw [showI, dif_neg h]
theorem showI_skip (ts : List Tk) (bo : Bool) (i : Nat) (h : i < ts.length) (hn : needB ts i = true) : showI ts bo i = showI ts bo (i + 1) := by rw [showI, dif_pos h, if_pos hn]
theorem showI_tok (ts : List Tk) (bo : Bool) (i : Nat) (h : i < ts.length) (hn : needB ts i = false) : showI ts bo i = (if kindOf ts[i].txt ≠ 7 ∧ bo = false then [32] else []) ++ (tkL ts[i] ++ showI ts (decide (kindOf ts[i].txt = 6)) (i + 1)) := by
  rw [showI, dif_pos h, hn]; rfl

set_option maxHeartbeats 4000000 in
theorem sShowBody (v : Value) (ts : List Tk) (w : World) (hl : ts.length ≤ 1000) (hwt : ∀ t ∈ ts, WT t.txt) (hv : w.ownsRow 0 84 3 v ts.length (tcs ts)) :
    Calls Tryz.prog 126 #[v] w fun e w' => ∃ x : ByteArray, e = .returned (.string x) ∧ x.data.toList = showI ts false 0 ∧ x.size ≤ ts.length * 1001 ∧ Below w.heap.size w w' := by
  obtain ⟨ao, cap, rfl⟩ := own_form hv
  generalize hR : showI ts false 0 = R
  have HR : Hid (showI ts false 0 = R) := hR
  clear hR
  go_enter Tryz.func126, Tryz.ntmps126
  go_wp2_with fail
  go_loopw [3, 4, 10] (fun a b c wr => ∃ (i : Nat) (x : ByteArray) (bo : Bool), i ≤ ts.length ∧ c = .int .i64 i ∧ a = .string x ∧ b = .bool bo ∧ Hid (x.data.toList ++ showI ts bo i = R) ∧ x.size ≤ i * 1001 ∧ Below w.heap.size w wr) (fun _ _ c _ => ts.length - (intOf c).toNat)
  case atStart => exact ⟨0, ⟨#[]⟩, false, Nat.zero_le _, rfl, rfl, rfl, HR, Nat.le_refl _, Below.refl _ _⟩
  case round =>
    obtain ⟨i, x, bo, hi, rfl, rfl, rfl, HX, hxs, hb⟩ := hrel
    have hbsz := hb.size
    by_cases hlt : i < ts.length
    · obtain ⟨q, cap', hq, _, hqlt⟩ := hv.form (by omega)
      cases hq
      have hvr := ownsRow_old hv hb
      have ⟨t0, t1, t2⟩ := tcs_at ts i hlt
      have d0 := row_cell hvr _ _ t0
      have d1 := row_cell hvr _ _ t1
      have d2 := row_cell hvr _ _ t2
      clear t0 t1 t2
      have hw := hwt ts[i] (List.getElem_mem hlt)
      have hvn : ∀ o, (wr.alloc o).ownsRow 0 84 3 (.slice (some ⟨q, 0, none⟩) ts.length cap) ts.length (tcs ts) := fun o => hvr.alloc o
      cases hn : needB ts i
      · have HS := showI_tok ts bo i hlt hn
        rw [HS] at HX
        clear HS
        have hx6 : x.size ≤ 2000000 := Nat.le_trans hxs (Nat.le_trans (Nat.mul_le_mul_right _ (Nat.le_trans (Nat.le_of_lt hlt) hl)) (by decide))
        have hstep : ∀ z y : Nat, z ≤ i * 1001 → y ≤ 1001 → z + y ≤ (i + 1) * 1001 := fun z y h1 h2 => by rw [Nat.add_mul, Nat.one_mul]; exact Nat.add_le_add h1 h2
        have HST : Hid _ := hstep
        clear hstep
        by_cases hc : kindOf ts[i].txt ≠ 7 ∧ bo = false
        · obtain ⟨h7, rfl⟩ := hc
          rw [if_pos ⟨h7, rfl⟩] at HX
          go_wp2_with fail
          refine (sIsNeedless _ ts i _ (by omega) hlt (hvn _)).mono ?_
          rintro e w1 ⟨rfl, rfl⟩
          go_wp2_with fail
          refine (sShowToken ts[i] _ hw.2.1 hw.1).mono ?_
          rintro e w2 ⟨y, rfl, hy, hb2⟩
          have hbx := box_later' hb2
          have g0 := cell_of_row w2 wr.heap.size 0 _ _ _ hbx
          simp only [List.getElem?_toArray, List.getElem?_cons_zero] at g0
          have hb3 : Below w.heap.size w w2 := (hb.alloc hbsz _).trans (hb2.mono (by simp; omega))
          have hys : y.size ≤ 1000 := by rw [size_len, hy]; exact Nat.le_trans (tkL_le _) hw.2.1
          have HY : Hid (y.data.toList = tkL ts[i]) := hy
          clear hy hbx hb2
          go_wp2_with fail
          go_roundw
          case rel =>
            refine ⟨i + 1, (x ++ ⟨#[32]⟩) ++ y, _, hlt, by go_num, rfl, rfl, ?_, ?_, hb3⟩
            · show _ = _
              rw [toL_append, toL_append, HY.out, ← HX.out]
              simp
              rfl
            · rw [ByteArray.size_append, ByteArray.size_append, Nat.add_assoc]
              exact HST.out _ _ hxs (by show 1 + y.size ≤ 1001; omega)
          case measure => simp [intOf]; omega
        · rw [if_neg hc, List.nil_append] at HX
          have hor : kindOf ts[i].txt = 7 ∨ bo = true := by
            by_cases h7 : kindOf ts[i].txt = 7
            · exact .inl h7
            · right; cases bo with
              | true => rfl
              | false => exact absurd ⟨h7, rfl⟩ hc
          clear hc
          have HX2 : Hid _ := HX.out
          clear HX
          by_cases h7 : kindOf ts[i].txt = 7
          · clear hor
            have HK : Hid (kindOf ts[i].txt = 7) := h7
            go_wp2_with fail
            refine (sIsNeedless _ ts i _ (by omega) hlt (hvn _)).mono ?_
            rintro e w1 ⟨rfl, rfl⟩
            go_wp2_with fail
            refine (sShowTokenK ts[i] 7 HK.out _ hw.2.1 hw.1).mono ?_
            rintro e w2 ⟨y, rfl, hy, hb2⟩
            have hbx := box_later' hb2
            have g0 := cell_of_row w2 wr.heap.size 0 _ _ _ hbx
            simp only [List.getElem?_toArray, List.getElem?_cons_zero] at g0
            have hb3 : Below w.heap.size w w2 := (hb.alloc hbsz _).trans (hb2.mono (by simp; omega))
            have hys : y.size ≤ 1000 := by rw [size_len, hy]; exact Nat.le_trans (tkL_le _) hw.2.1
            have HY : Hid (y.data.toList = tkL ts[i]) := hy
            clear hy hbx hb2
            go_wp2_with fail
            go_roundw
            case rel =>
              refine ⟨i + 1, x ++ y, _, hlt, by go_num, rfl, rfl, ?_, ?_, hb3⟩
              · show _ = _
                rw [toL_append, HY.out, ← HX2.out]
                simp [HK.out]
                try rfl
              · rw [ByteArray.size_append]
                exact HST.out _ _ hxs (by omega)
            case measure => simp [intOf]; omega
          · obtain rfl : bo = true := by rcases hor with h | h; exact absurd h h7; exact h
            clear hor
            go_wp2_with fail
            refine (sIsNeedless _ ts i _ (by omega) hlt (hvn _)).mono ?_
            rintro e w1 ⟨rfl, rfl⟩
            go_wp2_with fail
            refine (sShowToken ts[i] _ hw.2.1 hw.1).mono ?_
            rintro e w2 ⟨y, rfl, hy, hb2⟩
            have hbx := box_later' hb2
            have g0 := cell_of_row w2 wr.heap.size 0 _ _ _ hbx
            simp only [List.getElem?_toArray, List.getElem?_cons_zero] at g0
            have hb3 : Below w.heap.size w w2 := (hb.alloc hbsz _).trans (hb2.mono (by simp; omega))
            have hys : y.size ≤ 1000 := by rw [size_len, hy]; exact Nat.le_trans (tkL_le _) hw.2.1
            have HY : Hid (y.data.toList = tkL ts[i]) := hy
            clear hy hbx hb2
            go_wp2_with fail
            go_roundw
            case rel =>
              refine ⟨i + 1, x ++ y, _, hlt, by go_num, rfl, rfl, ?_, ?_, hb3⟩
              · show _ = _
                rw [toL_append, HY.out, ← HX2.out]
                simp
                try rfl
              · rw [ByteArray.size_append]
                exact HST.out _ _ hxs (by omega)
            case measure => simp [intOf]; omega
      · have HS : Hid (x.data.toList ++ showI ts bo (i + 1) = R) := by have := HX.out; rw [showI_skip ts bo i hlt hn] at this; exact this
        clear HX
        go_wp2_with fail
        refine (sIsNeedless _ ts i _ (by omega) hlt (hvn _)).mono ?_
        rintro e w1 ⟨rfl, rfl⟩
        go_wp2_with fail
        go_roundw
        case rel => exact ⟨i + 1, x, bo, hlt, by go_num, rfl, rfl, HS, Nat.le_trans hxs (Nat.mul_le_mul_right _ (Nat.le_succ _)), hb.alloc hbsz _⟩
        case measure => simp [intOf]; omega
    · have hx : x.data.toList = R := by have := HX.out; rw [showI_end ts bo i hlt, List.append_nil] at this; exact this
      have HX2 : Hid _ := hx
      clear hx HX
      have hi2 : i = ts.length := by omega
      subst hi2
      go_wp2_with fail
      go_ret
      exact ⟨x, rfl, HX2.out, hxs, hb⟩

end Go.Proofs.YtnndoagpbcacdaaGreatDoor
namespace Go.Proofs.YtnndoagpbcacdaaGreatDoor
open Go.RowKit

def psL (ps : List Tk) : List UInt8 := ps.flatMap fun p => 32 :: p.txt.data.toList
def defL (d : Df) : List UInt8 := d.name.txt.data.toList ++ (psL d.ps ++ ([32, 61] ++ (showI d.body false 0 ++ [59, 10])))
def progL (ds : List Df) : List UInt8 := ds.flatMap defL
/-- A definition's tokens are tokens, and not too many. -/
structure DfOk (d : Df) : Prop where
  n : WT d.name.txt
  ps : ∀ t ∈ d.ps, WT t.txt
  body : ∀ t ∈ d.body, WT t.txt
  lp : d.ps.length ≤ 1000
  lb : d.body.length ≤ 1000

theorem psL_snoc (ps : List Tk) (k : Nat) (h : k < ps.length) : psL (ps.take (k + 1)) = psL (ps.take k) ++ (32 :: ps[k].txt.data.toList) := by
  unfold psL; rw [List.take_succ_eq_append_getElem h, List.flatMap_append]; simp

set_option maxHeartbeats 4000000 in
theorem sShowDefinition (d : Df) (pv bv : Value) (T : Nat) (w : World) (hd : DfOk d) (hok : DOk w T d pv bv) :
    Calls Tryz.prog 81 #[.agg #[.int .i64 (kindOf d.name.txt), .int .i64 d.name.pos, .string d.name.txt, pv, bv]] w fun e w' => ∃ x : ByteArray, e = .returned (.string x) ∧ x.data.toList = defL d ∧ x.size ≤ 4000000 ∧ Below w.heap.size w w' := by
  obtain ⟨⟨nk, nt⟩, ps, body⟩ := d
  obtain ⟨hn, hps, hbd, hlp, hlb⟩ := hd
  obtain ⟨hpr, hbr, _, _⟩ := hok
  simp only at *
  obtain ⟨po, pcap, rfl⟩ := own_form hpr
  obtain ⟨bo, bcap, rfl⟩ := own_form hbr
  generalize hR : defL ⟨⟨nk, nt⟩, ps, body⟩ = R
  have HR : Hid (nt.data.toList ++ (psL ps ++ ([32, 61] ++ (showI body false 0 ++ [59, 10]))) = R) := hR
  clear hR
  have hns := hn.2.1
  go_enter Tryz.func81, Tryz.ntmps81
  go_wp2_with fail
  go_loopw [3, 13] (fun a c wr => ∃ (k : Nat) (x : ByteArray), k ≤ ps.length ∧ c = .int .i64 k ∧ a = .string x ∧ Hid (x.data.toList = nt.data.toList ++ psL (ps.take k)) ∧ x.size ≤ 1000 + k * 1001 ∧ Below w.heap.size w wr ∧ wr.heap[w.heap.size]? = some (.cells #[.int .i64 (kindOf nt), .int .i64 nk, .string nt, .slice po ps.length pcap, .slice bo body.length bcap] 87 (0, 0))) (fun _ c _ => ps.length - (intOf c).toNat)
  case atStart => exact ⟨0, nt, Nat.zero_le _, rfl, rfl, by simp [Hid, psL], by omega, (Below.refl _ _).alloc (Nat.le_refl _) _, heap_alloc_new w _⟩
  case round =>
    obtain ⟨k, x, hk, rfl, rfl, HX, hxs, hb, hbx⟩ := hrel
    have hbsz := hb.size
    have hx6 : x.size ≤ 2000000 := Nat.le_trans hxs (Nat.le_trans (Nat.add_le_add_left (Nat.mul_le_mul_right _ (Nat.le_trans hk hlp)) _) (by decide))
    by_cases hlt : k < ps.length
    · obtain ⟨q, cap', hq, _, hqlt⟩ := hpr.form (by omega)
      cases hq
      have hvr := ownsRow_old hpr hb
      have ⟨t0, t1, t2⟩ := tcs_at ps k hlt
      have d0 := row_cell hvr _ _ t0
      have d1 := row_cell hvr _ _ t1
      have d2 := row_cell hvr _ _ t2
      clear t0 t1 t2 hvr
      have hw := hps ps[k] (List.getElem_mem hlt)
      have hws := hw.2.1
      have hwlt : w.heap.size < wr.heap.size := (Array.getElem?_eq_some_iff.1 hbx).1
      have hst : x.size + (1 + ps[k].txt.size) ≤ 1000 + (k + 1) * 1001 := by rw [Nat.add_mul, Nat.one_mul, ← Nat.add_assoc 1000]; exact Nat.add_le_add hxs (by omega)
      have HST : Hid _ := hst
      clear hst
      go_wp2_with fail
      go_roundw
      case rel =>
        refine ⟨k + 1, x ++ (⟨#[32]⟩ ++ ps[k].txt), hlt, by go_num, rfl, ?_, ?_, hb.alloc hbsz _, (Below.heap_alloc wr _ _ hwlt).trans hbx⟩
        · show _ = _
          rw [toL_append, toL_append, HX.out, psL_snoc ps k hlt]
          simp
        · rw [ByteArray.size_append, ByteArray.size_append]; exact HST.out
      case measure => simp [intOf]; omega
    · have hk2 : k = ps.length := by omega
      subst hk2
      rw [List.take_length] at HX
      have g4 := cell_of_row wr w.heap.size 4 _ _ _ hbx
      simp only [List.getElem?_toArray, List.getElem?_cons_succ, List.getElem?_cons_zero] at g4
      go_wp2_with fail
      refine (sShowBody _ body _ hlb hbd (ownsRow_old hbr hb)).mono ?_
      rintro e w1 ⟨y, rfl, hy, hys, hb1⟩
      have hy6 : y.size ≤ 1001000 := Nat.le_trans hys (Nat.le_trans (Nat.mul_le_mul_right _ hlb) (by decide))
      have HY : Hid _ := hy
      have hb2 := hb.trans (hb1.mono hbsz)
      clear hy hys hb1 g4
      go_wp2_with fail
      go_ret
      refine ⟨_, rfl, ?_, ?_, hb2⟩
      · rw [toL_append, toL_append, toL_append, HX.out, HY.out, ← HR.out]
        simp
      · rw [ByteArray.size_append, ByteArray.size_append, ByteArray.size_append]
        show x.size + 2 + y.size + 2 ≤ _
        omega

theorem progL_snoc (ds : List Df) (k : Nat) (h : k < ds.length) : progL (ds.take (k + 1)) = progL (ds.take k) ++ defL ds[k] := by
  unfold progL; rw [List.take_succ_eq_append_getElem h, List.flatMap_append]; simp

/-- What Show answers. -/
def shw (s : ByteArray) : List UInt8 := if (chk s).2 = 0 then progL (cAll (toksF s 0)).ds else []

set_option maxHeartbeats 4000000 in
theorem sShow (s : ByteArray) (w : World) (hs : s.size ≤ maxLen) (hds : (chk s).2 = 0 → (cAll (toksF s 0)).ds.length ≤ 1000 ∧ ∀ d ∈ (cAll (toksF s 0)).ds, DfOk d) :
    Calls Tryz.prog 46 #[.string s] w fun e w' => ∃ x : ByteArray, e = .returned (.tuple #[.string x, .int .i64 (chk s).2]) ∧ x.data.toList = shw s ∧ Below w.heap.size w w' := by
  by_cases h0 : (chk s).2 = 0
  · obtain ⟨hdl, hdo⟩ := hds h0
    have HS : Hid (shw s = progL (cAll (toksF s 0)).ds) := by show shw s = _; unfold shw; rw [if_pos h0]
    clear hds
    go_enter Tryz.func46, Tryz.ntmps46
    go_wp2_with fail
    refine (sParse s _ hs).mono ?_
    rintro e w1 ⟨lv, rfl, hb1, hdr⟩
    rcases hdr with ⟨hne, _⟩ | ⟨_, hs2, xs, hdr⟩
    · exact absurd h0 hne
    generalize (cAll (toksF s 0)).ds = ds at *
    obtain ⟨ao, cap, rfl⟩ := own_form hdr.row
    go_wp2_with fail
    go_loopw [7, 22] (fun a c wr => ∃ (k : Nat) (x : ByteArray), k ≤ ds.length ∧ c = .int .i64 k ∧ a = .string x ∧ Hid (x.data.toList = progL (ds.take k)) ∧ x.size ≤ k * 4000000 ∧ Below w1.heap.size w1 wr) (fun _ c _ => ds.length - (intOf c).toNat)
    case atStart => exact ⟨0, ⟨#[]⟩, Nat.zero_le _, rfl, rfl, by simp [Hid, progL], Nat.le_refl _, Below.refl _ _⟩
    case round =>
      obtain ⟨k, x, hk, rfl, rfl, HX, hxs, hb⟩ := hrel
      have hbsz := hb.size
      have hx6 : x.size ≤ 4000000000 := Nat.le_trans hxs (Nat.le_trans (Nat.mul_le_mul_right _ (Nat.le_trans hk hdl)) (by decide))
      by_cases hlt : k < ds.length
      · obtain ⟨q, cap', hq, _, hqlt⟩ := hdr.row.form (by omega)
        cases hq
        have hvr := hdr.old (Nat.le_refl _) hb
        obtain ⟨pv, bv, t0, t1, t2, t3, t4, hd⟩ := hvr.all.at k hlt
        have d0 := row_cell hvr.row _ _ t0
        have d1 := row_cell hvr.row _ _ t1
        have d2 := row_cell hvr.row _ _ t2
        have d3 := row_cell hvr.row _ _ t3
        have d4 := row_cell hvr.row _ _ t4
        obtain ⟨o1, p1, rfl⟩ := own_form hd.1
        obtain ⟨o2, p2, rfl⟩ := own_form hd.2.1
        clear t0 t1 t2 t3 t4 hvr
        have hdk := hdo ds[k] (List.getElem_mem hlt)
        have hst : ∀ y : Nat, y ≤ 4000000 → x.size + y ≤ (k + 1) * 4000000 := fun y h => by rw [Nat.add_mul, Nat.one_mul]; exact Nat.add_le_add hxs h
        have HST : Hid _ := hst
        clear hst
        go_wp2_with fail
        refine (sShowDefinition ds[k] _ _ w1.heap.size _ hdk (hd.keep ((Below.refl _ _).alloc hbsz _))).mono ?_
        rintro e w2 ⟨y, rfl, hy, hys, hb2⟩
        have HY : Hid _ := hy
        have hb3 : Below w1.heap.size w1 w2 := (hb.alloc hbsz _).trans (hb2.mono (by simp; omega))
        clear hy hb2 d0 d1 d2 d3 d4
        go_wp2_with fail
        go_roundw
        case rel =>
          refine ⟨k + 1, x ++ y, hlt, by go_num, rfl, ?_, ?_, hb3⟩
          · show _ = _
            rw [toL_append, HX.out, HY.out, progL_snoc ds k hlt]
          · rw [ByteArray.size_append]; exact HST.out _ hys
        case measure => simp [intOf]; omega
      · have hx2 : x.data.toList = progL ds := by have := HX.out; rw [List.take_of_length_le (by omega)] at this; exact this
        have HX2 : Hid _ := hx2
        clear hx2 HX
        go_wp2_with fail
        go_ret2
        exact ⟨x, by rw [h0]; rfl, HX2.out.trans HS.out.symm, hb1.trans (hb.mono hb1.size)⟩
  · have h0' : ((chk s).2 == 0) = false := by simpa using h0
    have HS : Hid (shw s = []) := by show shw s = _; unfold shw; rw [if_neg h0]
    go_enter Tryz.func46, Tryz.ntmps46
    go_wp2_with fail
    refine (sParse s _ hs).mono ?_
    rintro e w1 ⟨lv, rfl, hb1, _⟩
    go_wp2_with fail
    go_ret2
    exact ⟨_, rfl, HS.out.symm, hb1⟩

set_option maxHeartbeats 400000 in
theorem xShow (s : ByteArray) (w : World) (hs : s.size ≤ maxLen) (hds : (chk s).2 = 0 → (cAll (toksF s 0)).ds.length ≤ 1000 ∧ ∀ d ∈ (cAll (toksF s 0)).ds, DfOk d) :
    Calls Tryz.prog 31 #[.string s] w fun e w' => ∃ x : ByteArray, e = .returned (.tuple #[.string x, .int .i64 (chk s).2]) ∧ x.data.toList = shw s ∧ Below w.heap.size w w' := by
  go_enter Tryz.func31, Tryz.ntmps31
  go_wp2_with fail
  refine (sShow s _ hs hds).mono ?_
  rintro e w1 ⟨x, rfl, hx, hb1⟩
  have HX : Hid _ := hx
  clear hx
  go_wp2_with fail
  go_ret2
  exact ⟨x, rfl, HX.out, hb1⟩

end Go.Proofs.YtnndoagpbcacdaaGreatDoor
namespace Go.Proofs.YtnndoagpbcacdaaGreatDoor
open Go.RowKit

theorem Shq.mem {ts : List Tk} {ds : List Df} (h : Shq ts ds) : ∀ d ∈ ds, ∀ t ∈ d.body, t ∈ ts := by
  induction h with
  | nil => intro d hd; simp at hd
  | cons n ps e h a m r ds hn hp he hh ha hm hr ih =>
    intro d hd t ht
    rcases List.mem_cons.1 hd with rfl | hd
    · rcases List.mem_cons.1 ht with rfl | ht
      · simp
      · simp [ht]
    · have := ih d hd t ht
      simp [this]
def spT : At → List UInt8
  | .nil => []
  | .sim t r => 32 :: (tkL t ++ spT r)
  | .par _ h _ .nil r => 32 :: (tkL h ++ spT r)
  | .par _ h _ (.sim t g) r => 32 :: 40 :: (tkL h ++ (spT (.sim t g) ++ 41 :: spT r))
  | .par _ h _ (.par o x c g' g) r => 32 :: 40 :: (tkL h ++ (spT (.par o x c g' g) ++ 41 :: spT r))
theorem spT_par {o h c : Tk} {ag r : At} (hne : ag ≠ .nil) : spT (.par o h c ag r) = 32 :: 40 :: (tkL h ++ (spT ag ++ 41 :: spT r)) := by
  cases ag with
  | nil => exact absurd rfl hne
  | sim t g => exact spT.eq_4 ..
  | par o x c g' g => exact spT.eq_5 ..
theorem kAt_app (pre l : List Tk) (j : Nat) : kAt (pre ++ l) ((pre.length + j : Nat) : Int) = match l[j]? with | some t => kindOf t.txt | none => 0 := by
  unfold kAt
  rw [if_pos (by omega), Int.toNat_natCast, List.getElem?_append_right (by omega), show pre.length + j - pre.length = j by omega]
  cases l[j]? <;> rfl
theorem need_simple (ts : List Tk) (i : Nat) (h : i < ts.length) (hs : simp3 ts[i]) : needB ts i = false := by
  unfold needB
  rw [kAt_in ts i h]
  unfold simp3 at hs
  have h6 : kindOf ts[i].txt ≠ 6 := by omega
  have h7 : kindOf ts[i].txt ≠ 7 := by omega
  simp [h6, h7]
theorem show_simple (ts : List Tk) (bo : Bool) (i : Nat) (h : i < ts.length) (hs : simp3 ts[i]) : showI ts bo i = (if bo then [] else [32]) ++ (tkL ts[i] ++ showI ts false (i + 1)) := by
  rw [showI_tok ts bo i h (need_simple ts i h hs)]
  unfold simp3 at hs
  have h6 : kindOf ts[i].txt ≠ 6 := by omega
  have h7 : kindOf ts[i].txt ≠ 7 := by omega
  simp only [ne_eq, h7, not_false_eq_true, true_and, h6, decide_false]
  cases bo <;> simp
/-- The last but one of an application's tokens opens nothing. -/
def lastK : List Tk → Int
  | [] => 0
  | [t] => kindOf t.txt
  | _ :: r => lastK r
theorem lastK_app (l r : List Tk) (t : Tk) : lastK (l ++ t :: r) = lastK (t :: r) := by
  induction l with
  | nil => rfl
  | cons x l ih =>
    rw [List.cons_append]
    cases hl : l ++ t :: r with
    | nil => simp at hl
    | cons y z => rw [lastK, ← hl, ih]; simp
theorem last_at {a : At} (h : a.ok) (x : Tk) (hx : kindOf x.txt ≠ 6) : lastK (x :: a.toks) ≠ 6 := by
  induction a generalizing x with
  | nil => exact hx
  | sim t r ih =>
    rw [At.toks, lastK]
    · exact ih h.2 t (by have := h.1; unfold simp3 at this; omega)
    · simp
  | par o y c ag r ih1 ih2 =>
    obtain ⟨h1, h2, h3, h4, h5⟩ := h
    rw [At.toks, show x :: o :: y :: (ag.toks ++ c :: r.toks) = (x :: o :: y :: ag.toks) ++ c :: r.toks by simp, lastK_app]
    exact ih2 h5 c (by omega)
theorem sec_at {a : At} (h : a.ok) (hne : a ≠ .nil) (x : Tk) (hx : kindOf x.txt ≠ 6) : lastK (x :: a.toks).dropLast ≠ 6 := by
  induction a generalizing x with
  | nil => exact absurd rfl hne
  | sim t r ih =>
    have ht : kindOf t.txt ≠ 6 := by have := h.1; unfold simp3 at this; omega
    by_cases hr : r = .nil
    · subst hr; exact hx
    · have := ih h.2 hr t ht
      rw [At.toks]
      cases hl : (t :: r.toks).dropLast with
      | nil => rw [List.dropLast_cons_of_ne_nil (by simp), hl]; exact hx
      | cons u v => rw [List.dropLast_cons_of_ne_nil (by simp), hl, lastK, ← hl]; exact this; simp
  | par o y c ag r ih1 ih2 =>
    obtain ⟨h1, h2, h3, h4, h5⟩ := h
    by_cases hr : r = .nil
    · subst hr
      have e : x :: (At.par o y c ag .nil).toks = (x :: o :: y :: ag.toks) ++ [c] := by simp [At.toks]
      rw [e, List.dropLast_concat, show x :: o :: y :: ag.toks = [x, o] ++ y :: ag.toks by simp, lastK_app]
      exact last_at h4 y (by unfold simp3 at h2; omega)
    · have := ih2 h5 hr c (by omega)
      have e : x :: (At.par o y c ag r).toks = (x :: o :: y :: ag.toks) ++ (c :: r.toks) := by simp [At.toks]
      have hrt : r.toks ≠ [] := by
        cases r with
        | nil => exact absurd rfl hr
        | sim t r => simp [At.toks]
        | par o h c g r => simp [At.toks]
      rw [e, List.dropLast_append_of_ne_nil (by simp)]
      cases hl : (c :: r.toks).dropLast with
      | nil => rw [List.dropLast_cons_of_ne_nil hrt] at hl; simp at hl
      | cons u v => rw [lastK_app, ← hl]; exact this
theorem lastK_get (l : List Tk) (h : l ≠ []) : ∃ t, l[l.length - 1]? = some t ∧ lastK l = kindOf t.txt := by
  induction l with
  | nil => exact absurd rfl h
  | cons x l ih =>
    cases l with
    | nil => exact ⟨x, rfl, rfl⟩
    | cons y l =>
      obtain ⟨t, h1, h2⟩ := ih (by simp)
      refine ⟨t, ?_, ?_⟩
      · simpa using h1
      · rw [lastK]; exact h2; simp
theorem tk_open {t : Tk} (h : WT t.txt) (hk : kindOf t.txt = 6) : tkL t = [40] := by
  unfold tkL
  rw [if_neg (by omega), ← ByteArray.toList_eq]
  have := txt_open h
  rw [hk] at this
  simpa using this
theorem tk_close {t : Tk} (h : WT t.txt) (hk : kindOf t.txt = 7) : tkL t = [41] := by
  unfold tkL
  rw [if_neg (by omega), ← ByteArray.toList_eq]
  have := txt_close h
  rw [hk] at this
  simpa using this
theorem show_at (a : At) (h : a.ok) (hw : ∀ t ∈ a.toks, WT t.txt) : ∀ (pre post : List Tk), showI (pre ++ (a.toks ++ post)) false pre.length = spT a ++ showI (pre ++ (a.toks ++ post)) false (pre.length + a.toks.length) := by
  induction a with
  | nil => intro pre post; simp [At.toks, spT]
  | sim t r ih =>
    intro pre post
    have hlt : pre.length < (pre ++ ((At.sim t r).toks ++ post)).length := by simp [At.toks]
    have hg : (pre ++ ((At.sim t r).toks ++ post))[pre.length] = t := by simp [At.toks]
    have h1 := show_simple (pre ++ ((At.sim t r).toks ++ post)) false pre.length hlt (by rw [hg]; exact h.1)
    rw [hg] at h1
    have h2 := ih h.2 (fun t ht => hw t (by simp [At.toks, ht])) (pre ++ [t]) post
    have e : pre ++ [t] ++ (r.toks ++ post) = pre ++ ((At.sim t r).toks ++ post) := by simp [At.toks]
    rw [e] at h2
    simp only [List.length_append, List.length_cons, List.length_nil] at h2
    rw [h1, h2]
    simp [At.toks, spT]
    congr 1
    omega
  | par o x c ag r ih1 ih2 =>
    intro pre post
    obtain ⟨ho, hx, hc, hag, hr⟩ := h
    generalize hL : pre ++ ((At.par o x c ag r).toks ++ post) = L
    have e1 : L = pre ++ (o :: x :: (ag.toks ++ c :: (r.toks ++ post))) := by rw [← hL]; simp [At.toks]
    have hwo := hw o (by simp [At.toks])
    have hwc := hw c (by simp [At.toks])
    have hlen : L.length = pre.length + 3 + ag.toks.length + r.toks.length + post.length := by rw [e1]; simp; omega
    have g0 : L[pre.length]? = some o := by rw [e1]; simp
    have g1 : L[pre.length + 1]? = some x := by rw [e1, List.getElem?_append_right (by omega), show pre.length + 1 - pre.length = 1 by omega]; rfl
    have gc : L[pre.length + 2 + ag.toks.length]? = some c := by
      rw [e1, List.getElem?_append_right (by omega), show pre.length + 2 + ag.toks.length - pre.length = ag.toks.length + 1 + 1 by omega, List.getElem?_cons_succ, List.getElem?_cons_succ, List.getElem?_append_right (by omega), Nat.sub_self]; rfl
    have l0 : pre.length < L.length := by omega
    have l1 : pre.length + 1 < L.length := by omega
    have lc : pre.length + 2 + ag.toks.length < L.length := by omega
    have q0 : L[pre.length] = o := by rw [List.getElem?_eq_getElem l0] at g0; exact Option.some.inj g0
    have q1 : L[pre.length + 1] = x := by rw [List.getElem?_eq_getElem l1] at g1; exact Option.some.inj g1
    have qc : L[pre.length + 2 + ag.toks.length] = c := by rw [List.getElem?_eq_getElem lc] at gc; exact Option.some.inj gc
    have k0 : kAt L (pre.length : Int) = 6 := by rw [kAt_in L _ l0, q0, ho]
    have kc : kAt L ((pre.length + 2 + ag.toks.length : Nat) : Int) = 7 := by rw [kAt_in L _ lc, qc, hc]
    have sx : ∀ bo, showI L bo (pre.length + 1) = (if bo then [] else [32]) ++ (tkL x ++ showI L false (pre.length + 1 + 1)) := by
      intro bo
      have := show_simple L bo (pre.length + 1) l1 (by rw [q1]; exact hx)
      rw [q1] at this; exact this
    have h2 := ih2 hr (fun t ht => hw t (by simp [At.toks, ht])) (pre ++ o :: x :: (ag.toks ++ [c])) post
    have e2 : pre ++ o :: x :: (ag.toks ++ [c]) ++ (r.toks ++ post) = L := by rw [e1]; simp
    rw [e2] at h2
    have el2 : (pre ++ o :: x :: (ag.toks ++ [c])).length = pre.length + 2 + ag.toks.length + 1 := by simp; omega
    rw [el2] at h2
    have etot : pre.length + (At.par o x c ag r).toks.length = pre.length + 2 + ag.toks.length + 1 + r.toks.length := by simp [At.toks]; omega
    rw [etot]
    by_cases hn : ag = .nil
    · subst hn
      simp only [At.toks, List.length_nil, Nat.add_zero] at kc h2 gc lc qc
      have n0 : needB L pre.length = true := by
        unfold needB
        rw [k0, show ((pre.length : Int) + 2) = ((pre.length + 2 : Nat) : Int) by omega, kc]; simp
      have nc : needB L (pre.length + 2) = true := by
        unfold needB
        rw [kc, show (((pre.length + 2 : Nat) : Int) - 2) = (pre.length : Int) by omega, k0]; simp
      rw [showI_skip L false pre.length l0 n0, sx false, showI_skip L false _ lc nc, h2]
      simp [spT, At.toks]
    · rw [spT_par hn]
      have hx6 : kindOf x.txt ≠ 6 := by unfold simp3 at hx; omega
      have hat : ag.toks ≠ [] := by
        cases ag with
        | nil => exact absurd rfl hn
        | sim t r => simp [At.toks]
        | par o h c g r => simp [At.toks]
      have hap : 0 < ag.toks.length := List.length_pos_iff.2 hat
      have k2 : kAt L ((pre.length : Int) + 2) ≠ 7 := by
        rw [show ((pre.length : Int) + 2) = ((pre.length + 2 : Nat) : Int) by omega, e1, kAt_app, List.getElem?_cons_succ, List.getElem?_cons_succ, List.getElem?_append_left hap]
        cases ag with
        | nil => exact absurd rfl hn
        | sim t g => have := hag.1; unfold simp3 at this; simp only [At.toks, List.getElem?_cons_zero]; omega
        | par o' h' c' g' g => have := hag.1; simp only [At.toks, List.getElem?_cons_zero]; omega
      have kcm : kAt L ((pre.length + 2 + ag.toks.length : Nat) - 2 : Int) ≠ 6 := by
        have hsec := sec_at hag hn x hx6
        obtain ⟨u, hu1, hu2⟩ := lastK_get (x :: ag.toks).dropLast (by rw [List.dropLast_cons_of_ne_nil hat]; simp)
        rw [hu2] at hsec
        have hu3 : (x :: ag.toks)[ag.toks.length - 1]? = some u := by
          rw [List.length_dropLast, List.length_cons, Nat.add_sub_cancel] at hu1
          rw [List.getElem?_dropLast] at hu1
          split at hu1
          · exact hu1
          · cases hu1
        have : kAt L ((pre.length + 2 + ag.toks.length : Nat) - 2 : Int) = kindOf u.txt := by
          rw [show ((pre.length + 2 + ag.toks.length : Nat) - 2 : Int) = ((pre.length + ((ag.toks.length - 1) + 1) : Nat) : Int) by omega, e1, kAt_app, List.getElem?_cons_succ, show x :: (ag.toks ++ c :: (r.toks ++ post)) = (x :: ag.toks) ++ c :: (r.toks ++ post) by simp, List.getElem?_append_left (by simp; omega), hu3]
        rw [this]; exact hsec
      have n0 : needB L pre.length = false := by
        unfold needB
        rw [k0]; simp [k2]
      have nc : needB L (pre.length + 2 + ag.toks.length) = false := by
        unfold needB
        rw [kc]; simp only [show ¬ ((7 : Int) = 6) by decide, decide_false, Bool.false_and, Bool.false_or, decide_true, Bool.true_and, decide_eq_false_iff_not]
        exact kcm
      have h1 := ih1 hag (fun t ht => hw t (by simp [At.toks, ht])) (pre ++ [o, x]) (c :: (r.toks ++ post))
      have e3 : pre ++ [o, x] ++ (ag.toks ++ c :: (r.toks ++ post)) = L := by rw [e1]; simp
      rw [e3] at h1
      have el3 : (pre ++ [o, x]).length = pre.length + 2 := by simp
      rw [el3] at h1
      rw [showI_tok L false _ l0 n0, q0, ho, tk_open hwo ho, show decide ((6 : Int) = 6) = true from rfl, sx true, h1, showI_tok L false _ lc nc, qc, hc, tk_close hwc hc, show decide ((7 : Int) = 6) = false from rfl, h2]
      simp
theorem show_body {hd : Tk} {a : At} (hs : simp3 hd) (h : a.ok) (hw : ∀ t ∈ a.toks, WT t.txt) : showI (hd :: a.toks) false 0 = 32 :: (tkL hd ++ spT a) := by
  have h1 := show_simple (hd :: a.toks) false 0 (by simp) hs
  have h2 := show_at a h hw [hd] []
  have h3 := showI_end (hd :: a.toks) false (1 + a.toks.length) (by simp; omega)
  simp only [List.append_nil, List.singleton_append, List.length_cons, List.length_nil, Nat.zero_add] at h2
  rw [h3] at h2
  rw [h1, h2]
  simp
theorem endF_digits (s : ByteArray) (i e : Nat) (hd : isD (bt s i) = true) : ∀ j, e ≤ j → j < endF s i e → isD (bt s j) = true := by
  have hl : isL (bt s i) = false := by
    simp only [isD, isL, decide_eq_true_eq, decide_eq_false_iff_not] at *; omega
  fun_induction endF s i e with
  | case1 e h hg ih =>
    intro j h1 h2
    by_cases hj : j = e
    · subst hj
      simpa [goesB, hl, hd] using hg
    · exact ih j (by omega) h2
  | case2 e h hg => intro j h1 h2; omega
  | case3 e h => intro j h1 h2; omega
theorem bt_extract (s : ByteArray) (i j k : Nat) (hk : i + k < j) (hj : j ≤ s.size) : bt (s.extract i j) k = bt s (i + k) := by
  have h1 : k < (s.extract i j).size := by rw [ByteArray.size_extract]; omega
  rw [← bt_eq _ k h1, ← bt_eq s (i + k) (by omega)]
  rw [ByteArray.getElem_extract]
theorem dig_of (t : ByteArray) (h : ∀ k, k < t.size → isD (bt t k) = true) : digL t.data.toList := by
  intro c hc
  obtain ⟨k, hk, rfl⟩ := List.mem_iff_getElem.1 hc
  have := h k (by rw [size_len]; exact hk)
  rw [bt_get t k hk] at this
  simp only [isD, decide_eq_true_eq] at this
  omega
theorem toksF_dig (s : ByteArray) (i : Nat) : ∀ t ∈ toksF s i, isD (bt t.txt 0) = true → digL t.txt.data.toList := by
  fun_induction toksF s i with
  | case1 i h ih =>
    intro t ht
    rcases List.mem_append.1 ht with ht | ht
    · split at ht
      · simp at ht
      · rename_i hb
        simp only [List.mem_cons, List.not_mem_nil, or_false] at ht
        subst ht
        have h1 := endF_ge s i (i + 1)
        have h2 := endF_le s i (i + 1) (by omega)
        show isD (bt (s.extract i _) 0) = true → digL (s.extract i _).data.toList
        rw [extract_bt s i _ (by omega) h2]
        intro hd
        refine dig_of _ (fun k hk => ?_)
        rw [ByteArray.size_extract] at hk
        rw [bt_extract s i _ k (by omega) h2]
        by_cases hk0 : k = 0
        · subst hk0; exact hd
        · exact endF_digits s i (i + 1) hd (i + k) (by omega) (by omega)
    · exact ih t ht
  | case2 i h => simp
theorem kind_num {t : ByteArray} (h : kindOf t = 2) : isD (bt t 0) = true ∧ t.size ≤ 6 := by
  unfold kindOf kindC at h
  repeat (first | (split at h) | omega)
  all_goals first | omega | (rename_i h1 h2; exact ⟨by assumption, by omega⟩) | skip
theorem kind_name {t : ByteArray} (h : kindOf t = 1) : isL (bt t 0) = true := by
  unfold kindOf kindC at h
  repeat (first | (split at h) | omega)
  all_goals first | omega | assumption
theorem kind_prim {t : ByteArray} (h : kindOf t = 3) : bt t 0 = 43 ∨ bt t 0 = 45 ∨ bt t 0 = 42 ∨ bt t 0 = 60 ∨ bt t 0 = 63 := by
  unfold kindOf kindC at h
  repeat (first | (split at h) | omega)
  all_goals first | omega | assumption
theorem isLD {c : Int} (h : isL c = true) (h' : isD c = true) : False := by
  simp only [isL, isD, decide_eq_true_eq] at h h'; omega
theorem unkB_all {ds : List Df} {ps : List Tk} : ∀ {body : List Tk}, unkB ds ps body = none → ∀ t ∈ body, unkT ds ps t = false
  | [], _, t, ht => by simp at ht
  | x :: r, h, t, ht => by
    unfold unkB at h
    cases hx : unkT ds ps x
    · rw [hx] at h
      rcases List.mem_cons.1 ht with rfl | ht
      · exact hx
      · exact unkB_all (by simpa using h) t ht
    · rw [hx] at h; simp at h
theorem unkF_all {ds : List Df} : ∀ {l : List Df}, unkF ds l = none → ∀ d ∈ l, ∀ t ∈ d.body, unkT ds d.ps t = false
  | [], _, d, hd => by simp at hd
  | x :: r, h, d, hd => by
    unfold unkF at h
    cases hx : unkB ds x.ps x.body with
    | some p => rw [hx] at h; simp at h
    | none =>
      rw [hx] at h
      rcases List.mem_cons.1 hd with rfl | hd
      · exact unkB_all hx
      · exact unkF_all h d hd
theorem Shq.names {ts : List Tk} {ds : List Df} (h : Shq ts ds) : ∀ d ∈ ds, kindOf d.name.txt = 1 ∧ (∀ p ∈ d.ps, kindOf p.txt = 1) ∧ d.name ∈ ts ∧ (∀ p ∈ d.ps, p ∈ ts) := by
  induction h with
  | nil => intro d hd; simp at hd
  | cons n ps e h a m r ds hn hp he hh ha hm hr ih =>
    intro d hd
    rcases List.mem_cons.1 hd with rfl | hd
    · exact ⟨hn, hp, by simp, fun p hp => by simp [hp]⟩
    · obtain ⟨h1, h2, h3, h4⟩ := ih d hd
      exact ⟨h1, h2, by simp [h3], fun p hp => by simp [h4 p hp]⟩
/-- What is wanted of a program, without the document's answer. -/
theorem prog_base (s : ByteArray) (h : (chk s).2 = 0) : s.size ≤ 1000 ∧ Shq (toksF s 0) (cAll (toksF s 0)).ds ∧ (∀ d ∈ (cAll (toksF s 0)).ds, DfOk d ∧ ∀ t ∈ d.body, kindOf t.txt = 2 → t.txt.size ≤ 6 ∧ digL t.txt.data.toList) ∧ (cAll (toksF s 0)).ds.length ≤ 1000 := by
  unfold chk at h
  by_cases hbig : 1000 < s.size
  · rw [if_pos hbig] at h; simp at h
  rw [if_neg hbig] at h
  by_cases hg : (gAll s.size g0 (toksF s 0)).2 = 0
  · have hs2 : s.size ≤ 1000 := by omega
    have htl : (toksF s 0).length ≤ 1000 := Nat.le_trans (toksF_len s 0) (by omega)
    have hwt := toksF_wt s hs2 0
    have hdig := toksF_dig s 0
    obtain ⟨ds, hshq, hds⟩ := shq_of_all s.size (toksF s 0) hg
    have hci := cAll_inv (toksF s 0)
    have hi1 := hci.i1
    have hi4 := hci.i4
    rw [hds] at hi1 hi4 ⊢
    have hnm := hshq.names
    refine ⟨hs2, hshq, fun d hd => ?_, Nat.le_trans hi1 htl⟩
    obtain ⟨h1, h2, h3, h4⟩ := hnm d hd
    exact ⟨⟨hwt _ h3, fun t ht => hwt t (h4 t ht), fun t ht => hwt t (hshq.mem d hd t ht), Nat.le_trans (hi4 d hd).1 htl, Nat.le_trans (hi4 d hd).2 htl⟩, fun t ht hk => ⟨(kind_num hk).2, hdig t (hshq.mem d hd t ht) (kind_num hk).1⟩⟩
  · rw [if_pos (by simpa using hg)] at h
    exact absurd h hg

end Go.Proofs.YtnndoagpbcacdaaGreatDoor
