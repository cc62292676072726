import Derived.Test.YtnndoagpbcacdaaGreatDoorMB1
import Derived.Test.YtnndoagpbcacdaaGreatDoorMB0
namespace Go.Proofs.YtnndoagpbcacdaaGreatDoor
open Go.RowKit

theorem tkL_le (t : Tk) : (tkL t).length ≤ t.txt.size := by
  rw [size_len]; unfold tkL; split
  · exact dropZ_le _
  · exact Nat.le_refl _

set_option maxHeartbeats 1000000 in
theorem sShowToken (t : Tk) (w : World) (hs : t.txt.size ≤ 1000) (h0 : 0 < t.txt.size) :
    Calls Tryz.prog 167 #[.agg #[.int .i64 (kindOf t.txt), .int .i64 t.pos, .string t.txt]] w fun e w' => ∃ x : ByteArray, e = .returned (.string x) ∧ x.data.toList = tkL t ∧ Below w.heap.size w w' := by
  by_cases h2 : kindOf t.txt = 2
  · have HT : Hid (tkL t = dropZ t.txt.data.toList) := by show tkL t = _; unfold tkL; rw [if_pos h2]
    go_enter Tryz.func167, Tryz.ntmps167
    go_wp2_with fail
    refine (sWithoutNoughts _ _ hs h0).mono ?_
    rintro e w1 ⟨x, rfl, hx, rfl⟩
    have HX : Hid _ := hx
    clear hx
    go_wp2_with fail
    go_ret
    exact ⟨x, rfl, HX.out.trans HT.out.symm, (Below.refl _ _).alloc (Nat.le_refl _) _⟩
  · have h2' : (kindOf t.txt == 2) = false := by simpa using h2
    have HT : Hid (tkL t = t.txt.data.toList) := by show tkL t = _; unfold tkL; rw [if_neg h2]
    clear h2
    go_enter Tryz.func167, Tryz.ntmps167
    go_wp2_with fail
    go_ret
    exact ⟨_, rfl, HT.out.symm, (Below.refl _ _).alloc (Nat.le_refl _) _⟩

theorem sShowTokenK (t : Tk) (k : Int) (hk : kindOf t.txt = k) (w : World) (hs : t.txt.size ≤ 1000) (h0 : 0 < t.txt.size) :
    Calls Tryz.prog 167 #[.agg #[.int .i64 k, .int .i64 t.pos, .string t.txt]] w fun e w' => ∃ x : ByteArray, e = .returned (.string x) ∧ x.data.toList = tkL t ∧ Below w.heap.size w w' := by
  subst hk; exact sShowToken t w hs h0

theorem showI_end (ts : List Tk) (bo : Bool) (i : Nat) (h : ¬ i < ts.length) : showI ts bo i = [] := by rw [showI, dif_neg h]
theorem showI_skip (ts : List Tk) (bo : Bool) (i : Nat) (h : i < ts.length) (hn : needB ts i = true) : showI ts bo i = showI ts bo (i + 1) := by rw [showI, dif_pos h, if_pos hn]
theorem showI_tok (ts : List Tk) (bo : Bool) (i : Nat) (h : i < ts.length) (hn : needB ts i = false) : showI ts bo i = (if kindOf ts[i].txt ≠ 7 ∧ bo = false then [32] else []) ++ (tkL ts[i] ++ showI ts (decide (kindOf ts[i].txt = 6)) (i + 1)) := by
  rw [showI, dif_pos h, hn]; rfl

set_option maxHeartbeats 4000000 in
theorem sShowBody (v : Value) (ts : List Tk) (w : World) (hl : ts.length ≤ 1000) (hwt : ∀ t ∈ ts, WT t.txt) (hv : w.ownsRow 0 84 3 v ts.length (tcs ts)) :
    Calls Tryz.prog 126 #[v] w fun e w' => ∃ x : ByteArray, e = .returned (.string x) ∧ x.data.toList = showI ts false 0 ∧ x.size ≤ ts.length * 1001 ∧ Below w.heap.size w w' := by
  obtain ⟨ao, cap, rfl⟩ := own_form hv
  generalize hR : showI ts false 0 = R
  have HR : Hid (showI ts false 0 = R) := hR
  clear hR
  go_enter Tryz.func126, Tryz.ntmps126
  go_wp2_with fail
  go_loopw [3, 4, 10] (fun a b c wr => ∃ (i : Nat) (x : ByteArray) (bo : Bool), i ≤ ts.length ∧ c = .int .i64 i ∧ a = .string x ∧ b = .bool bo ∧ Hid (x.data.toList ++ showI ts bo i = R) ∧ x.size ≤ i * 1001 ∧ Below w.heap.size w wr) (fun _ _ c _ => ts.length - (intOf c).toNat)
  case atStart => exact ⟨0, ⟨#[]⟩, false, Nat.zero_le _, rfl, rfl, rfl, HR, Nat.le_refl _, Below.refl _ _⟩
  case round =>
    obtain ⟨i, x, bo, hi, rfl, rfl, rfl, HX, hxs, hb⟩ := hrel
    have hbsz := hb.size
    by_cases hlt : i < ts.length
    · obtain ⟨q, cap', hq, _, hqlt⟩ := hv.form (by omega)
      cases hq
      have hvr := ownsRow_old hv hb
      have ⟨t0, t1, t2⟩ := tcs_at ts i hlt
      have d0 := row_cell hvr _ _ t0
      have d1 := row_cell hvr _ _ t1
      have d2 := row_cell hvr _ _ t2
      clear t0 t1 t2
      have hw := hwt ts[i] (List.getElem_mem hlt)
      have hvn : ∀ o, (wr.alloc o).ownsRow 0 84 3 (.slice (some ⟨q, 0, none⟩) ts.length cap) ts.length (tcs ts) := fun o => hvr.alloc o
      cases hn : needB ts i
      · have HS := showI_tok ts bo i hlt hn
        rw [HS] at HX
        clear HS
        have hx6 : x.size ≤ 2000000 := Nat.le_trans hxs (Nat.le_trans (Nat.mul_le_mul_right _ (Nat.le_trans (Nat.le_of_lt hlt) hl)) (by decide))
        have hstep : ∀ z y : Nat, z ≤ i * 1001 → y ≤ 1001 → z + y ≤ (i + 1) * 1001 := fun z y h1 h2 => by rw [Nat.add_mul, Nat.one_mul]; exact Nat.add_le_add h1 h2
        have HST : Hid _ := hstep
        clear hstep
        by_cases hc : kindOf ts[i].txt ≠ 7 ∧ bo = false
        · obtain ⟨h7, rfl⟩ := hc
          rw [if_pos ⟨h7, rfl⟩] at HX
          go_wp2_with fail
          refine (sIsNeedless _ ts i _ (by omega) hlt (hvn _)).mono ?_
          rintro e w1 ⟨rfl, rfl⟩
          go_wp2_with fail
          refine (sShowToken ts[i] _ hw.2.1 hw.1).mono ?_
          rintro e w2 ⟨y, rfl, hy, hb2⟩
          have hbx := box_later' hb2
          have g0 := cell_of_row w2 wr.heap.size 0 _ _ _ hbx
          simp only [List.getElem?_toArray, List.getElem?_cons_zero] at g0
          have hb3 : Below w.heap.size w w2 := (hb.alloc hbsz _).trans (hb2.mono (by simp; omega))
          have hys : y.size ≤ 1000 := by rw [size_len, hy]; exact Nat.le_trans (tkL_le _) hw.2.1
          have HY : Hid (y.data.toList = tkL ts[i]) := hy
          clear hy hbx hb2
          go_wp2_with fail
          go_roundw
          case rel =>
            refine ⟨i + 1, (x ++ ⟨#[32]⟩) ++ y, _, hlt, by go_num, rfl, rfl, ?_, ?_, hb3⟩
            · show _ = _
              rw [toL_append, toL_append, HY.out, ← HX.out]
              simp
              rfl
            · rw [ByteArray.size_append, ByteArray.size_append, Nat.add_assoc]
              exact HST.out _ _ hxs (by show 1 + y.size ≤ 1001; omega)
          case measure => simp [intOf]; omega
        · rw [if_neg hc, List.nil_append] at HX
          have hor : kindOf ts[i].txt = 7 ∨ bo = true := by
            by_cases h7 : kindOf ts[i].txt = 7
            · exact .inl h7
            · right; cases bo with
              | true => rfl
              | false => exact absurd ⟨h7, rfl⟩ hc
          clear hc
          have HX2 : Hid _ := HX.out
          clear HX
          by_cases h7 : kindOf ts[i].txt = 7
          · clear hor
            have HK : Hid (kindOf ts[i].txt = 7) := h7
            go_wp2_with fail
            refine (sIsNeedless _ ts i _ (by omega) hlt (hvn _)).mono ?_
            rintro e w1 ⟨rfl, rfl⟩
            go_wp2_with fail
            refine (sShowTokenK ts[i] 7 HK.out _ hw.2.1 hw.1).mono ?_
            rintro e w2 ⟨y, rfl, hy, hb2⟩
            have hbx := box_later' hb2
            have g0 := cell_of_row w2 wr.heap.size 0 _ _ _ hbx
            simp only [List.getElem?_toArray, List.getElem?_cons_zero] at g0
            have hb3 : Below w.heap.size w w2 := (hb.alloc hbsz _).trans (hb2.mono (by simp; omega))
            have hys : y.size ≤ 1000 := by rw [size_len, hy]; exact Nat.le_trans (tkL_le _) hw.2.1
            have HY : Hid (y.data.toList = tkL ts[i]) := hy
            clear hy hbx hb2
            go_wp2_with fail
            go_roundw
            case rel =>
              refine ⟨i + 1, x ++ y, _, hlt, by go_num, rfl, rfl, ?_, ?_, hb3⟩
              · show _ = _
                rw [toL_append, HY.out, ← HX2.out]
                simp [HK.out]
                try rfl
              · rw [ByteArray.size_append]
                exact HST.out _ _ hxs (by omega)
            case measure => simp [intOf]; omega
          · obtain rfl : bo = true := by rcases hor with h | h; exact absurd h h7; exact h
            clear hor
            go_wp2_with fail
            refine (sIsNeedless _ ts i _ (by omega) hlt (hvn _)).mono ?_
            rintro e w1 ⟨rfl, rfl⟩
            go_wp2_with fail
            refine (sShowToken ts[i] _ hw.2.1 hw.1).mono ?_
            rintro e w2 ⟨y, rfl, hy, hb2⟩
            have hbx := box_later' hb2
            have g0 := cell_of_row w2 wr.heap.size 0 _ _ _ hbx
            simp only [List.getElem?_toArray, List.getElem?_cons_zero] at g0
            have hb3 : Below w.heap.size w w2 := (hb.alloc hbsz _).trans (hb2.mono (by simp; omega))
            have hys : y.size ≤ 1000 := by rw [size_len, hy]; exact Nat.le_trans (tkL_le _) hw.2.1
            have HY : Hid (y.data.toList = tkL ts[i]) := hy
            clear hy hbx hb2
            go_wp2_with fail
            go_roundw
            case rel =>
              refine ⟨i + 1, x ++ y, _, hlt, by go_num, rfl, rfl, ?_, ?_, hb3⟩
              · show _ = _
                rw [toL_append, HY.out, ← HX2.out]
                simp
                try rfl
              · rw [ByteArray.size_append]
                exact HST.out _ _ hxs (by omega)
            case measure => simp [intOf]; omega
      · have HS : Hid (x.data.toList ++ showI ts bo (i + 1) = R) := by have := HX.out; rw [showI_skip ts bo i hlt hn] at this; exact this
        clear HX
        go_wp2_with fail
        refine (sIsNeedless _ ts i _ (by omega) hlt (hvn _)).mono ?_
        rintro e w1 ⟨rfl, rfl⟩
        go_wp2_with fail
        go_roundw
        case rel => exact ⟨i + 1, x, bo, hlt, by go_num, rfl, rfl, HS, Nat.le_trans hxs (Nat.mul_le_mul_right _ (Nat.le_succ _)), hb.alloc hbsz _⟩
        case measure => simp [intOf]; omega
    · have hx : x.data.toList = R := by have := HX.out; rw [showI_end ts bo i hlt, List.append_nil] at this; exact this
      have HX2 : Hid _ := hx
      clear hx HX
      have hi2 : i = ts.length := by omega
      subst hi2
      go_wp2_with fail
      go_ret
      exact ⟨x, rfl, HX2.out, hxs, hb⟩

end Go.Proofs.YtnndoagpbcacdaaGreatDoor
namespace Go.Proofs.YtnndoagpbcacdaaGreatDoor
open Go.RowKit

def psL (ps : List Tk) : List UInt8 := ps.flatMap fun p => 32 :: p.txt.data.toList
def defL (d : Df) : List UInt8 := d.name.txt.data.toList ++ (psL d.ps ++ ([32, 61] ++ (showI d.body false 0 ++ [59, 10])))
def progL (ds : List Df) : List UInt8 := ds.flatMap defL
/-- A definition's tokens are tokens, and not too many. -/
structure DfOk (d : Df) : Prop where
  n : WT d.name.txt
  ps : ∀ t ∈ d.ps, WT t.txt
  body : ∀ t ∈ d.body, WT t.txt
  lp : d.ps.length ≤ 1000
  lb : d.body.length ≤ 1000

theorem psL_snoc (ps : List Tk) (k : Nat) (h : k < ps.length) : psL (ps.take (k + 1)) = psL (ps.take k) ++ (32 :: ps[k].txt.data.toList) := by
  unfold psL; rw [List.take_succ_eq_append_getElem h, List.flatMap_append]; simp

set_option maxHeartbeats 4000000 in
theorem sShowDefinition (d : Df) (pv bv : Value) (T : Nat) (w : World) (hd : DfOk d) (hok : DOk w T d pv bv) :
    Calls Tryz.prog 81 #[.agg #[.int .i64 (kindOf d.name.txt), .int .i64 d.name.pos, .string d.name.txt, pv, bv]] w fun e w' => ∃ x : ByteArray, e = .returned (.string x) ∧ x.data.toList = defL d ∧ x.size ≤ 4000000 ∧ Below w.heap.size w w' := by
  obtain ⟨⟨nk, nt⟩, ps, body⟩ := d
  obtain ⟨hn, hps, hbd, hlp, hlb⟩ := hd
  obtain ⟨hpr, hbr, _, _⟩ := hok
  simp only at *
  obtain ⟨po, pcap, rfl⟩ := own_form hpr
  obtain ⟨bo, bcap, rfl⟩ := own_form hbr
  generalize hR : defL ⟨⟨nk, nt⟩, ps, body⟩ = R
  have HR : Hid (nt.data.toList ++ (psL ps ++ ([32, 61] ++ (showI body false 0 ++ [59, 10]))) = R) := hR
  clear hR
  have hns := hn.2.1
  go_enter Tryz.func81, Tryz.ntmps81
  go_wp2_with fail
  go_loopw [3, 13] (fun a c wr => ∃ (k : Nat) (x : ByteArray), k ≤ ps.length ∧ c = .int .i64 k ∧ a = .string x ∧ Hid (x.data.toList = nt.data.toList ++ psL (ps.take k)) ∧ x.size ≤ 1000 + k * 1001 ∧ Below w.heap.size w wr ∧ wr.heap[w.heap.size]? = some (.cells #[.int .i64 (kindOf nt), .int .i64 nk, .string nt, .slice po ps.length pcap, .slice bo body.length bcap] 87 (0, 0))) (fun _ c _ => ps.length - (intOf c).toNat)
  case atStart => exact ⟨0, nt, Nat.zero_le _, rfl, rfl, by simp [Hid, psL], by omega, (Below.refl _ _).alloc (Nat.le_refl _) _, heap_alloc_new w _⟩
  case round =>
    obtain ⟨k, x, hk, rfl, rfl, HX, hxs, hb, hbx⟩ := hrel
    have hbsz := hb.size
    have hx6 : x.size ≤ 2000000 := Nat.le_trans hxs (Nat.le_trans (Nat.add_le_add_left (Nat.mul_le_mul_right _ (Nat.le_trans hk hlp)) _) (by decide))
    by_cases hlt : k < ps.length
    · obtain ⟨q, cap', hq, _, hqlt⟩ := hpr.form (by omega)
      cases hq
      have hvr := ownsRow_old hpr hb
      have ⟨t0, t1, t2⟩ := tcs_at ps k hlt
      have d0 := row_cell hvr _ _ t0
      have d1 := row_cell hvr _ _ t1
      have d2 := row_cell hvr _ _ t2
      clear t0 t1 t2 hvr
      have hw := hps ps[k] (List.getElem_mem hlt)
      have hws := hw.2.1
      have hwlt : w.heap.size < wr.heap.size := (Array.getElem?_eq_some_iff.1 hbx).1
      have hst : x.size + (1 + ps[k].txt.size) ≤ 1000 + (k + 1) * 1001 := by rw [Nat.add_mul, Nat.one_mul, ← Nat.add_assoc 1000]; exact Nat.add_le_add hxs (by omega)
      have HST : Hid _ := hst
      clear hst
      go_wp2_with fail
      go_roundw
      case rel =>
        refine ⟨k + 1, x ++ (⟨#[32]⟩ ++ ps[k].txt), hlt, by go_num, rfl, ?_, ?_, hb.alloc hbsz _, (Below.heap_alloc wr _ _ hwlt).trans hbx⟩
        · show _ = _
          rw [toL_append, toL_append, HX.out, psL_snoc ps k hlt]
          simp
        · rw [ByteArray.size_append, ByteArray.size_append]; exact HST.out
      case measure => simp [intOf]; omega
    · have hk2 : k = ps.length := by omega
      subst hk2
      rw [List.take_length] at HX
      have g4 := cell_of_row wr w.heap.size 4 _ _ _ hbx
      simp only [List.getElem?_toArray, List.getElem?_cons_succ, List.getElem?_cons_zero] at g4
      go_wp2_with fail
      refine (sShowBody _ body _ hlb hbd (ownsRow_old hbr hb)).mono ?_
      rintro e w1 ⟨y, rfl, hy, hys, hb1⟩
      have hy6 : y.size ≤ 1001000 := Nat.le_trans hys (Nat.le_trans (Nat.mul_le_mul_right _ hlb) (by decide))
      have HY : Hid _ := hy
      have hb2 := hb.trans (hb1.mono hbsz)
      clear hy hys hb1 g4
      go_wp2_with fail
      go_ret
      refine ⟨_, rfl, ?_, ?_, hb2⟩
      · rw [toL_append, toL_append, toL_append, HX.out, HY.out, ← HR.out]
        simp
      · rw [ByteArray.size_append, ByteArray.size_append, ByteArray.size_append]
        show x.size + 2 + y.size + 2 ≤ _
        omega

theorem progL_snoc (ds : List Df) (k : Nat) (h : k < ds.length) : progL (ds.take (k + 1)) = progL (ds.take k) ++ defL ds[k] := by
  unfold progL; rw [List.take_succ_eq_append_getElem h, List.flatMap_append]; simp

/-- What Show answers. -/
def shw (s : ByteArray) : List UInt8 := if (chk s).2 = 0 then progL (cAll (toksF s 0)).ds else []

set_option maxHeartbeats 4000000 in
theorem sShow (s : ByteArray) (w : World) (hs : s.size ≤ maxLen) (hds : (chk s).2 = 0 → (cAll (toksF s 0)).ds.length ≤ 1000 ∧ ∀ d ∈ (cAll (toksF s 0)).ds, DfOk d) :
    Calls Tryz.prog 46 #[.string s] w fun e w' => ∃ x : ByteArray, e = .returned (.tuple #[.string x, .int .i64 (chk s).2]) ∧ x.data.toList = shw s ∧ Below w.heap.size w w' := by
  by_cases h0 : (chk s).2 = 0
  · obtain ⟨hdl, hdo⟩ := hds h0
    have HS : Hid (shw s = progL (cAll (toksF s 0)).ds) := by show shw s = _; unfold shw; rw [if_pos h0]
    clear hds
    go_enter Tryz.func46, Tryz.ntmps46
    go_wp2_with fail
    refine (sParse s _ hs).mono ?_
    rintro e w1 ⟨lv, rfl, hb1, hdr⟩
    rcases hdr with ⟨hne, _⟩ | ⟨_, hs2, xs, hdr⟩
    · exact absurd h0 hne
    generalize (cAll (toksF s 0)).ds = ds at *
    obtain ⟨ao, cap, rfl⟩ := own_form hdr.row
    go_wp2_with fail
    go_loopw [7, 22] (fun a c wr => ∃ (k : Nat) (x : ByteArray), k ≤ ds.length ∧ c = .int .i64 k ∧ a = .string x ∧ Hid (x.data.toList = progL (ds.take k)) ∧ x.size ≤ k * 4000000 ∧ Below w1.heap.size w1 wr) (fun _ c _ => ds.length - (intOf c).toNat)
    case atStart => exact ⟨0, ⟨#[]⟩, Nat.zero_le _, rfl, rfl, by simp [Hid, progL], Nat.le_refl _, Below.refl _ _⟩
    case round =>
      obtain ⟨k, x, hk, rfl, rfl, HX, hxs, hb⟩ := hrel
      have hbsz := hb.size
      have hx6 : x.size ≤ 4000000000 := Nat.le_trans hxs (Nat.le_trans (Nat.mul_le_mul_right _ (Nat.le_trans hk hdl)) (by decide))
      by_cases hlt : k < ds.length
      · obtain ⟨q, cap', hq, _, hqlt⟩ := hdr.row.form (by omega)
        cases hq
        have hvr := hdr.old (Nat.le_refl _) hb
        obtain ⟨pv, bv, t0, t1, t2, t3, t4, hd⟩ := hvr.all.at k hlt
        have d0 := row_cell hvr.row _ _ t0
        have d1 := row_cell hvr.row _ _ t1
        have d2 := row_cell hvr.row _ _ t2
        have d3 := row_cell hvr.row _ _ t3
        have d4 := row_cell hvr.row _ _ t4
        obtain ⟨o1, p1, rfl⟩ := own_form hd.1
        obtain ⟨o2, p2, rfl⟩ := own_form hd.2.1
        clear t0 t1 t2 t3 t4 hvr
        have hdk := hdo ds[k] (List.getElem_mem hlt)
        have hst : ∀ y : Nat, y ≤ 4000000 → x.size + y ≤ (k + 1) * 4000000 := fun y h => by rw [Nat.add_mul, Nat.one_mul]; exact Nat.add_le_add hxs h
        have HST : Hid _ := hst
        clear hst
        go_wp2_with fail
        refine (sShowDefinition ds[k] _ _ w1.heap.size _ hdk (hd.keep ((Below.refl _ _).alloc hbsz _))).mono ?_
        rintro e w2 ⟨y, rfl, hy, hys, hb2⟩
        have HY : Hid _ := hy
        have hb3 : Below w1.heap.size w1 w2 := (hb.alloc hbsz _).trans (hb2.mono (by simp; omega))
        clear hy hb2 d0 d1 d2 d3 d4
        go_wp2_with fail
        go_roundw
        case rel =>
          refine ⟨k + 1, x ++ y, hlt, by go_num, rfl, ?_, ?_, hb3⟩
          · show _ = _
            rw [toL_append, HX.out, HY.out, progL_snoc ds k hlt]
          · rw [ByteArray.size_append]; exact HST.out _ hys
        case measure => simp [intOf]; omega
      · have hx2 : x.data.toList = progL ds := by have := HX.out; rw [List.take_of_length_le (by omega)] at this; exact this
        have HX2 : Hid _ := hx2
        clear hx2 HX
        go_wp2_with fail
        go_ret2
        exact ⟨x, by rw [h0]; rfl, HX2.out.trans HS.out.symm, hb1.trans (hb.mono hb1.size)⟩
  · have h0' : ((chk s).2 == 0) = false := by simpa using h0
    have HS : Hid (shw s = []) := by show shw s = _; unfold shw; rw [if_neg h0]
    go_enter Tryz.func46, Tryz.ntmps46
    go_wp2_with fail
    refine (sParse s _ hs).mono ?_
    rintro e w1 ⟨lv, rfl, hb1, _⟩
    go_wp2_with fail
    go_ret2
    exact ⟨_, rfl, HS.out.symm, hb1⟩

set_option maxHeartbeats 400000 in
theorem xShow (s : ByteArray) (w : World) (hs : s.size ≤ maxLen) (hds : (chk s).2 = 0 → (cAll (toksF s 0)).ds.length ≤ 1000 ∧ ∀ d ∈ (cAll (toksF s 0)).ds, DfOk d) :
    Calls Tryz.prog 31 #[.string s] w fun e w' => ∃ x : ByteArray, e = .returned (.tuple #[.string x, .int .i64 (chk s).2]) ∧ x.data.toList = shw s ∧ Below w.heap.size w w' := by
  go_enter Tryz.func31, Tryz.ntmps31
  go_wp2_with fail
  refine (sShow s _ hs hds).mono ?_
  rintro e w1 ⟨x, rfl, hx, hb1⟩
  have HX : Hid _ := hx
  clear hx
  go_wp2_with fail
  go_ret2
  exact ⟨x, rfl, HX.out, hb1⟩

end Go.Proofs.YtnndoagpbcacdaaGreatDoor
