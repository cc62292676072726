import Derived.Test.YtnndoagpbcacdaaGreatDoorMK1
import Derived.Test.YtnndoagpbcacdaaGreatDoorMS2
import Derived.Test.YtnndoagpbcacdaaGreatDoorMB1
import Derived.Test.YtnndoagpbcacdaaGreatDoorMB0
namespace Go.Proofs.YtnndoagpbcacdaaGreatDoor
open Go.RowKit

/-! Package source: compile.go: cutLines. -/
structure Ly where
  L : List Ln
  op : List Nat
def putL (s : Ly) (a : Int × Int) : Ly := match s.op.getLast? with
  | none => s
  | some n => ⟨s.L.set n (s.L[n]?.getD [] ++ [a]), s.op⟩
def begL (s : Ly) : Ly := ⟨s.L ++ [[]], s.op ++ [s.L.length]⟩
def endL (s : Ly) : Ly := ⟨s.L, s.op.dropLast⟩
def stepL (ps : List Tk) (ds : List Df) (t : Tk) (s : Ly) : Ly := if kindOf t.txt = 6 then begL (putL s (5, (s.L.length : Int) - 1)) else if kindOf t.txt = 7 then endL s else putL s (atomF ps ds t)
def cutI (ps : List Tk) (ds : List Df) (ts : List Tk) (s : Ly) (i : Nat) : Ly :=
  if h : i < ts.length then (if needB ts i then cutI ps ds ts s (i + 1) else cutI ps ds ts (stepL ps ds ts[i] s) (i + 1)) else s
termination_by ts.length - i
theorem cutI_end (ps : List Tk) (ds : List Df) (ts : List Tk) (s : Ly) (i : Nat) (h : ¬ i < ts.length) : cutI ps ds ts s i = s := by rw [cutI, dif_neg h]
theorem cutI_skip (ps : List Tk) (ds : List Df) (ts : List Tk) (s : Ly) (i : Nat) (h : i < ts.length) (hn : needB ts i = true) : cutI ps ds ts s i = cutI ps ds ts s (i + 1) := by rw [cutI, dif_pos h, if_pos hn]
theorem cutI_tok (ps : List Tk) (ds : List Df) (ts : List Tk) (s : Ly) (i : Nat) (h : i < ts.length) (hn : needB ts i = false) : cutI ps ds ts s i = cutI ps ds ts (stepL ps ds ts[i] s) (i + 1) := by rw [cutI, dif_pos h, hn]; simp

structure LyOk (n : Nat) (s : Ly) : Prop where
  l : s.L.length ≤ n + 1
  o : s.op.length ≤ n + 1
  e : ∀ l ∈ s.L, l.length ≤ n
theorem LyOk.up {n : Nat} {s : Ly} (h : LyOk n s) : LyOk (n + 1) s := ⟨by have := h.l; omega, by have := h.o; omega, fun l hl => Nat.le_succ_of_le (h.e l hl)⟩
theorem putL_len (s : Ly) (a : Int × Int) : (putL s a).L.length = s.L.length ∧ (putL s a).op = s.op := by
  unfold putL; split <;> simp
theorem LyOk.put {n : Nat} {s : Ly} (h : LyOk n s) (a : Int × Int) : LyOk (n + 1) (putL s a) := by
  obtain ⟨h1, h2⟩ := putL_len s a
  refine ⟨by rw [h1]; have := h.l; omega, by rw [h2]; have := h.o; omega, ?_⟩
  unfold putL
  split
  · exact h.up.e
  · rename_i m hm
    intro l hl
    rcases List.mem_or_eq_of_mem_set hl with hl | rfl
    · exact h.up.e l hl
    · rw [List.length_append]
      have : (s.L[m]?.getD []).length ≤ n := by
        cases hq : s.L[m]? with
        | none => simp
        | some x => simpa using h.e x (List.mem_of_getElem? hq)
      simp; omega
theorem LyOk.beg {n : Nat} {s : Ly} (h1 : s.L.length ≤ n) (h2 : s.op.length ≤ n) (h3 : ∀ l ∈ s.L, l.length ≤ n) : LyOk n (begL s) :=
  ⟨by simp [begL]; omega, by simp [begL]; omega, fun l hl => by
    simp only [begL, List.mem_append, List.mem_cons, List.not_mem_nil, or_false] at hl
    rcases hl with hl | rfl
    · exact h3 l hl
    · simp⟩

set_option maxHeartbeats 1000000 in
theorem sPutAll (b : Nat) (lv ov : Value) (s : Ly) (vs : List Value) (a : Int × Int) (w : World) (h : Lay w b lv ov s.L vs s.op) (hk : LyOk 1500 s) :
    Calls Tryz.prog 67 #[.pointer (some ⟨b, 0, none⟩), .agg #[.int .i64 a.1, .int .i64 a.2]] w fun e w' => (∃ v, e = .returned v) ∧ Below b w w' ∧ ∃ vs', Lay w' b lv ov (putL s a).L vs' (putL s a).op := by
  obtain ⟨L, op⟩ := s
  have h1 := hk.l
  have h2 := hk.o
  have h3 := hk.e
  simp only at *
  cases hq : op.getLast? with
  | none =>
    have hn : op = [] := List.getLast?_eq_none_iff.1 hq
    subst hn
    refine (sPutNil b lv ov L vs a w h).mono ?_
    rintro e w1 ⟨e1, e2, e3⟩
    exact ⟨e1, e2, vs, e3⟩
  | some n =>
    obtain ⟨op', rfl⟩ := List.getLast?_eq_some_iff.1 hq
    have hn : n < L.length := h.lt n (by simp)
    have he : (putL ⟨L, op' ++ [n]⟩ a) = ⟨L.set n (L[n] ++ [a]), op' ++ [n]⟩ := by
      unfold putL
      simp [List.getElem?_eq_getElem hn]
    rw [he]
    exact sPut b lv ov L vs op' n a w h hn (by omega) (by simp at h2; omega) (by have := h3 L[n] (List.getElem_mem hn); omega)

theorem Lay.ow {w : World} {b : Nat} {lv ov : Value} {L : List Ln} {vs : List Value} {op : List Nat} (h : Lay w b lv ov L vs op) : LinesOw w w.heap.size lv L :=
  ⟨vs, ownsRow_base h.lrow (Nat.zero_le _), fun k hk => (h.lrow.lt k hk).2, fun j hj => by obtain ⟨v, e1, e2⟩ := h.rows j hj; exact ⟨v, e1, ownsRow_base e2 (Nat.zero_le _), fun k hk => (e2.lt k hk).2⟩⟩

/-- The lines of a definition. -/
def cutLs (ps : List Tk) (ds : List Df) (body : List Tk) : List Ln := (cutI ps ds body (begL ⟨[], []⟩) 0).L

set_option maxRecDepth 100000 in
set_option maxHeartbeats 4000000 in
theorem sCutLines (ds : List Df) (xs : List Value) (lv0 : Value) (T : Nat) (d : Df) (pv bv : Value) (w : World) (hl : ds.length ≤ 1000) (hlp : d.ps.length ≤ 1000) (hlb : d.body.length ≤ 1000) (hv : DR w lv0 ds xs T) (hT : T ≤ w.heap.size) (hok : DOk w T d pv bv)
    (hnum : ∀ t ∈ d.body, kindOf t.txt = 2 → t.txt.size ≤ 6 ∧ digL t.txt.data.toList) :
    Calls Tryz.prog 39 #[lv0, .agg #[.int .i64 (kindOf d.name.txt), .int .i64 d.name.pos, .string d.name.txt, pv, bv]] w fun e w' => ∃ lv, e = .returned lv ∧ Below w.heap.size w w' ∧ LinesOw w' w'.heap.size lv (cutLs d.ps ds d.body) := by
  obtain ⟨lo, lcap, rfl⟩ := own_form hv.row
  obtain ⟨po, pcap, rfl⟩ := own_form hok.1
  obtain ⟨bo, bcap, rfl⟩ := own_form hok.2.1
  generalize hR : cutI d.ps ds d.body (begL ⟨[], []⟩) 0 = R
  have HR : Hid (cutI d.ps ds d.body (begL ⟨[], []⟩) 0 = R) := hR
  have HRL : Hid (cutLs d.ps ds d.body = R.L) := congrArg Ly.L hR
  rw [HRL.out]
  clear hR HRL
  have HNUM : Hid _ := hnum
  clear hnum
  obtain ⟨nm, ps, ts⟩ := d
  simp only at *
  have HB0 : Hid (Lay ((w.alloc (Obj.cells #[.int .i64 (kindOf nm.txt), .int .i64 nm.pos, .string nm.txt, .slice po ps.length pcap, .slice bo ts.length bcap] 87)).alloc (Obj.cells #[.slice none 0 0, .slice none 0 0] 120)) (w.heap.size + 1) (.slice none 0 0) (.slice none 0 0) [] [] []) := by
    refine ⟨?_, World.ownsRow_nil _ _ _ _, World.ownsRow_nil _ _ _ _, fun j hj => by simp at hj, fun i j vi vj k _ h1 => by simp at h1, fun n hn => by simp at hn⟩
    have := heap_alloc_new (w.alloc (Obj.cells #[.int .i64 (kindOf nm.txt), .int .i64 nm.pos, .string nm.txt, .slice po ps.length pcap, .slice bo ts.length bcap] 87)) (Obj.cells #[.slice none 0 0, .slice none 0 0] 120)
    simpa using this
  have HBG : Hid _ := sBeginLine _ _ _ _ _ _ _ HB0.out (by simp) (by simp)
  go_enter Tryz.func39, Tryz.ntmps39
  go_wp2_with fail
  refine (show Calls _ _ _ _ _ from HBG.out).mono ?_
  rintro e w1 ⟨⟨v1, rfl⟩, hb1, lv1, ov1, hlay1⟩
  clear HBG HB0
  have hbA : Below (w.heap.size + 1) (w.alloc (Obj.cells #[.int .i64 (kindOf nm.txt), .int .i64 nm.pos, .string nm.txt, .slice po ps.length pcap, .slice bo ts.length bcap] 87)) w1 := ((Below.refl _ _).alloc (by simp) _).trans hb1
  clear hb1
  have hbx := (hbA.block w.heap.size (by omega)).trans (heap_alloc_new w _)
  have B2 := cell_of_row w1 w.heap.size 2 _ _ _ hbx
  have B4 := cell_of_row w1 w.heap.size 4 _ _ _ hbx
  simp only [List.getElem?_toArray, List.getElem?_cons_succ, List.getElem?_cons_zero] at B2 B4
  go_wp2_with fail
  go_loopw [14] (fun x wr => ∃ (i : Nat) (s : Ly) (lv ov : Value) (vs : List Value), i ≤ ts.length ∧ x = .int .i64 i ∧ Hid (cutI ps ds ts s i = R) ∧ LyOk i s ∧ Below (w.heap.size + 1) (w.alloc (Obj.cells #[.int .i64 (kindOf nm.txt), .int .i64 nm.pos, .string nm.txt, .slice po ps.length pcap, .slice bo ts.length bcap] 87)) wr ∧ Lay wr (w.heap.size + 1) lv ov s.L vs s.op) (fun x _ => ts.length - (intOf x).toNat)
  case atStart => exact ⟨0, begL ⟨[], []⟩, _, _, _, Nat.zero_le _, rfl, HR, LyOk.beg (by simp) (by simp) (by simp), hbA, hlay1⟩
  case round =>
    clear B2 B4 hbx hbA hlay1 HR
    obtain ⟨i, s, lv, ov, vs, hi, rfl, HC, hk, hb, hlay⟩ := hrel
    have hbw : Below w.heap.size w wr := ((Below.refl _ _).alloc (Nat.le_refl _) _).trans (hb.mono (by omega))
    have hbx := (hb.block w.heap.size (by omega)).trans (heap_alloc_new w _)
    have B0 := cell_of_row wr w.heap.size 0 _ _ _ hbx
    have B1 := cell_of_row wr w.heap.size 1 _ _ _ hbx
    have B2 := cell_of_row wr w.heap.size 2 _ _ _ hbx
    have B3 := cell_of_row wr w.heap.size 3 _ _ _ hbx
    have B4 := cell_of_row wr w.heap.size 4 _ _ _ hbx
    simp only [List.getElem?_toArray, List.getElem?_cons_succ, List.getElem?_cons_zero] at B0 B1 B2 B3 B4
    have hbsz := hlay.blt
    have hwlt : w.heap.size < wr.heap.size := by omega
    have L0 := cell_of_row wr (w.heap.size + 1) 0 _ _ _ hlay.box
    simp only [List.getElem?_toArray, List.getElem?_cons_zero] at L0
    obtain ⟨llo, llcap, hlv⟩ := own_form hlay.lrow
    subst hlv
    by_cases hlt : i < ts.length
    · have hrow : wr.ownsRow 0 84 3 (.slice bo ts.length bcap) ts.length (tcs ts) := ownsRow_old hok.2.1 hbw
      obtain ⟨q, cap', hq, _, hqlt⟩ := hrow.form (by omega)
      cases hq
      have ⟨t0, t1, t2⟩ := tcs_at ts i hlt
      have d0 := row_cell hrow _ _ t0
      have d1 := row_cell hrow _ _ t1
      have d2 := row_cell hrow _ _ t2
      clear t0 t1 t2
      have HN : Hid (∀ o, Calls Tryz.prog 66 #[.slice (some ⟨q, 0, none⟩) ts.length bcap, .int .i64 i] (wr.alloc o) fun e w' => e = .returned (.bool (needB ts i)) ∧ w' = (wr.alloc o)) := fun o => sIsNeedless _ ts i _ (by omega) hlt (hrow.alloc o)
      cases hn : needB ts i
      · have HC2 : Hid (cutI ps ds ts (stepL ps ds ts[i] s) (i + 1) = R) := (cutI_tok ps ds ts s i hlt hn).symm.trans HC.out
        rw [hn] at HN
        clear hn HC
        unfold stepL at HC2
        by_cases h6 : kindOf ts[i].txt = 6
        · rw [if_pos h6] at HC2
          rw [h6] at d0
          have HP : Hid (∀ o, Calls Tryz.prog 67 #[.pointer (some ⟨w.heap.size + 1, 0, none⟩), .agg #[.int .i64 5, .int .i64 ((s.L.length : Int) - 1)]] (wr.alloc o) fun e w' => (∃ v, e = .returned v) ∧ Below (w.heap.size + 1) (wr.alloc o) w' ∧ ∃ vs', Lay w' (w.heap.size + 1) _ ov (putL s (5, (s.L.length : Int) - 1)).L vs' (putL s (5, (s.L.length : Int) - 1)).op) := fun o => sPutAll _ _ _ s vs (5, (s.L.length : Int) - 1) _ (hlay.alloc o) ⟨by have := hk.l; omega, by have := hk.o; omega, fun l hl => by have := hk.e l hl; omega⟩
          have hk1 := hk.l
          have hk2 := hk.put (5, (s.L.length : Int) - 1)
          obtain ⟨e1, e2⟩ := putL_len s (5, (s.L.length : Int) - 1)
          have hko := hk.o
          generalize putL s (5, (s.L.length : Int) - 1) = s2 at *
          go_wp2_with fail
          refine (show Calls _ _ _ _ _ from HN.out _).mono ?_
          rintro e w1 ⟨rfl, rfl⟩
          go_wp2_with fail
          refine (show Calls _ _ _ _ _ from HP.out _).mono ?_
          rintro e w2 ⟨⟨v2, rfl⟩, hb2, vs2, hlay2⟩
          have HBG : Hid _ := sBeginLine _ _ _ _ _ _ _ hlay2 (by omega) (by rw [e2]; omega)
          clear HP HN
          go_wp2_with fail
          refine (show Calls _ _ _ _ _ from HBG.out).mono ?_
          rintro e w3 ⟨⟨v3, rfl⟩, hb3, lv3, ov3, hlay3⟩
          clear HBG
          go_wp2_with fail
          go_roundw
          case rel => exact ⟨i + 1, begL s2, lv3, ov3, _, hlt, by go_num, HC2, LyOk.beg (by omega) (by rw [e2]; omega) hk2.e, (hb.trans (((Below.refl _ _).alloc (by omega) _).trans (hb2.trans hb3))), hlay3⟩
          case measure => simp [intOf]; omega
        · rw [if_neg h6] at HC2
          have h6' : (kindOf ts[i].txt == 6) = false := by simpa using h6
          by_cases h7 : kindOf ts[i].txt = 7
          · rw [if_pos h7] at HC2
            rw [h7] at d0
            have HE : Hid (∀ o, _) := fun o => sEndLine _ _ _ _ _ _ _ (hlay.alloc o) (by have := hk.o; omega)
            clear h6 h6' h7
            go_wp2_with fail
            refine (show Calls _ _ _ _ _ from HN.out _).mono ?_
            rintro e w1 ⟨rfl, rfl⟩
            go_wp2_with fail
            refine (show Calls _ _ _ _ _ from HE.out _).mono ?_
            rintro e w2 ⟨⟨v2, rfl⟩, hb2, ov2, hlay2⟩
            clear HE HN
            go_wp2_with fail
            go_roundw
            case rel => exact ⟨i + 1, endL s, _, ov2, vs, hlt, by go_num, HC2, ⟨by have := hk.l; simp [endL]; omega, by have := hk.o; simp [endL]; omega, fun l hl => Nat.le_succ_of_le (hk.e l hl)⟩, (hb.trans (((Below.refl _ _).alloc (by omega) _).trans hb2)), hlay2⟩
            case measure => simp [intOf]; omega
          · rw [if_neg h7] at HC2
            have h7' : (kindOf ts[i].txt == 7) = false := by simpa using h7
            have hsz2 : w.heap.size ≤ wr.heap.size := hbw.size
            have HA : Hid _ := sSimpleAtom ds xs _ T ⟨nm, ps, ts⟩ _ _ ts[i] (wr.alloc (Obj.cells #[.int .i64 (kindOf ts[i].txt), .int .i64 ts[i].pos, .string ts[i].txt] 84)) hl hlp ((hv.old hT hbw).old (by omega) ((Below.refl _ _).alloc (Nat.le_refl _) _)) (by simp; omega) ((hok.keep (hbw.mono hT)).keep ((Below.refl _ _).alloc (by omega) _)) (HNUM.out ts[i] (List.getElem_mem hlt))
            have HP : Hid (∀ w', Below wr.heap.size wr w' → ∀ o, Calls Tryz.prog 67 #[.pointer (some ⟨w.heap.size + 1, 0, none⟩), .agg #[.int .i64 (atomF ps ds ts[i]).1, .int .i64 (atomF ps ds ts[i]).2]] (w'.alloc o) fun e w2 => (∃ v, e = .returned v) ∧ Below (w.heap.size + 1) (w'.alloc o) w2 ∧ ∃ vs', Lay w2 (w.heap.size + 1) _ ov (putL s (atomF ps ds ts[i])).L vs' (putL s (atomF ps ds ts[i])).op) := fun w' h' o => sPutAll _ _ _ s vs (atomF ps ds ts[i]) _ ((hlay.old h').alloc o) ⟨by have := hk.l; omega, by have := hk.o; omega, fun l hl => by have := hk.e l hl; omega⟩
            have hk2 := hk.put (atomF ps ds ts[i])
            simp only at HA
            generalize atomF ps ds ts[i] = A at *
            go_wp2_with fail
            refine (show Calls _ _ _ _ _ from HN.out _).mono ?_
            rintro e w1 ⟨rfl, rfl⟩
            go_wp2_with fail
            refine (show Calls _ _ _ _ _ from HA.out).mono ?_
            rintro e w2 ⟨rfl, hb2⟩
            have hb2w : Below wr.heap.size wr w2 := ((Below.refl _ _).alloc (Nat.le_refl _) _).trans (hb2.mono (by simp))
            clear HA HN
            go_wp2_with fail
            refine (show Calls _ _ _ _ _ from HP.out w2 hb2w _).mono ?_
            rintro e w3 ⟨⟨v3, rfl⟩, hb3, vs3, hlay3⟩
            clear HP
            go_wp2_with fail
            go_roundw
            case rel => exact ⟨i + 1, putL s A, _, ov, vs3, hlt, by go_num, HC2, hk2, (hb.trans ((hb2w.mono (by omega)).trans (((Below.refl _ _).alloc (by have := hb2w.size; omega) _).trans hb3))), hlay3⟩
            case measure => simp [intOf]; omega
      · have HC2 : Hid (cutI ps ds ts s (i + 1) = R) := (cutI_skip ps ds ts s i hlt hn).symm.trans HC.out
        rw [hn] at HN
        clear hn HC
        go_wp2_with fail
        refine (show Calls _ _ _ _ _ from HN.out _).mono ?_
        rintro e w1 ⟨rfl, rfl⟩
        go_wp2_with fail
        go_roundw
        case rel => exact ⟨i + 1, s, _, ov, vs, hlt, by go_num, HC2, hk.up, hb.alloc (by omega) _, hlay.alloc _⟩
        case measure => simp [intOf]; omega
    · have HE : Hid (s = R) := (cutI_end ps ds ts s i hlt).symm.trans HC.out
      go_wp2_with fail
      go_ret
      exact ⟨_, rfl, hbw, by rw [← HE.out]; exact hlay.ow⟩

end Go.Proofs.YtnndoagpbcacdaaGreatDoor
namespace Go.Proofs.YtnndoagpbcacdaaGreatDoor
open Go.RowKit

/-- The code of a program. -/
def tpOf (ds : List Df) (d : Df) : Tp := ⟨d.ps.length, cutLs d.ps ds d.body⟩
def codeOf (ds : List Df) : Cd := ⟨fnd ds mainB, ds.map (tpOf ds)⟩
def cmpL (s : ByteArray) : List UInt8 := if (chk s).2 = 0 then wrL (codeOf (cAll (toksF s 0)).ds) else []
def cmpE (s : ByteArray) : Int := if (chk s).2 = 0 then wrE (codeOf (cAll (toksF s 0)).ds) else (chk s).2
theorem two_later_drew {w w1 : World} {o o2 : Obj} (hb : Below ((w.alloc o).alloc o2).drew.heap.size ((w.alloc o).alloc o2).drew w1) : w1.heap[w.heap.size]? = some o ∧ w1.heap[w.heap.size + 1]? = some o2 :=
  two_later (w1 := w1) ((Below.drew (Below.refl _ _)).trans hb)

set_option maxRecDepth 100000 in
set_option maxHeartbeats 4000000 in
theorem sCompile (s : ByteArray) (w : World) (hs : s.size ≤ maxLen) (ht : Tab w)
    (hds : (chk s).2 = 0 → (cAll (toksF s 0)).ds.length ≤ 1000 ∧ ∀ d ∈ (cAll (toksF s 0)).ds, DfOk d ∧ ∀ t ∈ d.body, kindOf t.txt = 2 → t.txt.size ≤ 6 ∧ digL t.txt.data.toList) :
    Calls Tryz.prog 25 #[.string s] w fun e w' => ∃ x : ByteArray, e = .returned (.tuple #[.string x, .int .i64 (cmpE s)]) ∧ x.data.toList = cmpL s ∧ x.size ≤ 20000 ∧ Below w.heap.size w w' := by
  by_cases h0 : (chk s).2 = 0
  · obtain ⟨hdl, hdo⟩ := hds h0
    have HE : Hid (cmpE s = wrE (codeOf (cAll (toksF s 0)).ds)) := by show _ = _; unfold cmpE; rw [if_pos h0]
    have HL : Hid (cmpL s = wrL (codeOf (cAll (toksF s 0)).ds)) := by show _ = _; unfold cmpL; rw [if_pos h0]
    rw [HE.out, HL.out]
    clear hds HE HL
    generalize hQ1 : wrE (codeOf (cAll (toksF s 0)).ds) = RE
    generalize hQ2 : wrL (codeOf (cAll (toksF s 0)).ds) = RL
    have HQ1 : Hid (wrE (codeOf (cAll (toksF s 0)).ds) = RE) := hQ1
    have HQ2 : Hid (wrL (codeOf (cAll (toksF s 0)).ds) = RL) := hQ2
    clear hQ1 hQ2
    have HT : Hid (Tab w) := ht
    clear ht
    obtain ⟨i, hi, hz0, hz1, hz2⟩ := info_parts Tryz.infoTemplate
    go_enter Tryz.func25, Tryz.ntmps25
    go_wp2_with fail
    refine (sParse s _ hs).mono ?_
    rintro e w1 ⟨lv, rfl, hb1, hdr⟩
    rcases hdr with ⟨hne, _⟩ | ⟨_, hs2, xs, hdr⟩
    · exact absurd h0 hne
    rw [h0]
    have HDO : Hid _ := hdo
    clear hdo h0
    generalize (cAll (toksF s 0)).ds = ds at *
    obtain ⟨ao, cap, rfl⟩ := own_form hdr.row
    have HF : Hid _ := sFindFunction _ ds xs w1.heap.size mainB w1 (by omega) hdr (Nat.le_refl _)
    go_wp2_with fail
    refine (show Calls _ _ _ _ _ from HF.out).mono ?_
    rintro e w2 ⟨rfl, hb2⟩
    clear HF
    have hb2' := hb1.trans (hb2.mono hb1.size)
    have hdr2 := hdr.old (Nat.le_refl _) hb2
    have hT2 := hb2.size
    have HT2 : Hid (Tab w2) := Tab.below HT.out hb2'
    clear hdr hb1 hb2 HT
    generalize hM : fnd ds mainB = mn
    have HM : Hid (fnd ds mainB = mn) := hM
    clear hM
    go_wp2_with fail
    go_loopw [25] (fun a wr => ∃ (k T : Nat) (fv : Value) (ys : List Value), k ≤ ds.length ∧ a = .int .i64 k ∧ Below w2.heap.size w2 wr ∧ wr.heap[w2.heap.size]? = some (.cells #[.int .i64 mn, fv] 57 (0, 0)) ∧ w2.heap.size < T ∧ T ≤ wr.heap.size ∧ wr.ownsRow (w2.heap.size + 1) 78 2 fv k ys ∧ FuOw wr T ((ds.take k).map (tpOf ds)) ys) (fun a _ => ds.length - (intOf a).toNat)
    case atStart => exact ⟨0, w2.heap.size + 1, .slice none 0 0, [], Nat.zero_le _, rfl, (Below.refl _ _).alloc (Nat.le_refl _) _, heap_alloc_new w2 _, by omega, by simp, World.ownsRow_nil _ _ _ _, rfl⟩
    case round =>
      obtain ⟨k, T, fv, ys, hk, rfl, hb, hbox, hlo, hhi, hrow, hfu⟩ := hrel
      have hbsz := hb.size
      have hwlt : w2.heap.size < wr.heap.size := by omega
      have C0 := cell_of_row wr w2.heap.size 0 _ _ _ hbox
      have C1 := cell_of_row wr w2.heap.size 1 _ _ _ hbox
      simp only [List.getElem?_toArray, List.getElem?_cons_succ, List.getElem?_cons_zero] at C0 C1
      obtain ⟨fo, fcap, rfl⟩ := own_form hrow
      have hvr := hdr2.old hT2 hb
      by_cases hlt : k < ds.length
      · obtain ⟨q, cap', hq, _, hqlt⟩ := hdr2.row.form (by omega)
        cases hq
        obtain ⟨pv, bv, t0, t1, t2, t3, t4, hd⟩ := hvr.all.at k hlt
        have d0 := row_cell hvr.row _ _ t0
        have d1 := row_cell hvr.row _ _ t1
        have d2 := row_cell hvr.row _ _ t2
        have d3 := row_cell hvr.row _ _ t3
        have d4 := row_cell hvr.row _ _ t4
        obtain ⟨o1, p1, rfl⟩ := own_form hd.1
        obtain ⟨o2, p2, rfl⟩ := own_form hd.2.1
        clear t0 t1 t2 t3 t4
        obtain ⟨hdk, hnk⟩ := HDO.out ds[k] (List.getElem_mem hlt)
        have hlp := hdk.lp
        have HC : Hid _ := fun w' (hw : Below wr.heap.size wr w') => sCutLines ds xs (.slice (some ⟨q, 0, none⟩) ds.length cap) w1.heap.size ds[k] (.slice o1 ds[k].ps.length p1) (.slice o2 ds[k].body.length p2) w' hdl hlp hdk.lb (hvr.old (by omega) hw) (by have := hw.size; omega) (hd.keep (hw.mono (by omega))) hnk
        have HTP : Hid (tpOf ds ds[k] = ⟨ds[k].ps.length, cutLs ds[k].ps ds ds[k].body⟩) := rfl
        have HMP : Hid _ := map_snoc (tpOf ds) ds k hlt
        generalize cutLs ds[k].ps ds ds[k].body = CL at *
        have HC2 : Hid (Calls Tryz.prog 39 #[.slice (some ⟨q, 0, none⟩) ds.length cap, .agg #[.int .i64 (kindOf ds[k].name.txt), .int .i64 ds[k].name.pos, .string ds[k].name.txt, .slice o1 ds[k].ps.length p1, .slice o2 ds[k].body.length p2]] (wr.alloc (Obj.cells #[.int .i64 (kindOf ds[k].name.txt), .int .i64 ds[k].name.pos, .string ds[k].name.txt, .slice o1 ds[k].ps.length p1, .slice o2 ds[k].body.length p2] 87)).drew fun e w3 => ∃ a b, e = .returned (.slice a CL.length b) ∧ w3.cell? ⟨wr.heap.size, 3, none⟩ = some (.slice o1 ds[k].ps.length p1) ∧ wr.heap.size < w3.heap.size ∧ Hid (Below wr.heap.size wr w3 ∧ LinesOw w3 w3.heap.size (.slice a CL.length b) CL)) := by
          refine (show Calls _ _ _ _ _ from HC.out _ (Below.drew ((Below.refl _ _).alloc (Nat.le_refl _) _))).mono ?_
          rintro e w3 ⟨lv3, rfl, hb3, how3⟩
          obtain ⟨lo3, lc3, hlv3⟩ : ∃ a b, lv3 = .slice a CL.length b := by obtain ⟨vs, h1, _⟩ := how3; obtain ⟨a, b, e⟩ := own_form h1; exact ⟨a, b, e⟩
          subst hlv3
          have hbx3 := box_later hb3
          exact ⟨lo3, lc3, rfl, by rw [cell_of_row w3 wr.heap.size 3 _ _ _ hbx3]; rfl, (Array.getElem?_eq_some_iff.1 hbx3).1, (Below.drew ((Below.refl _ _).alloc (Nat.le_refl _) _)).trans (hb3.mono (by simp [heap_drew])), how3⟩
        have HC3 : Hid (Calls Tryz.prog 39 #[.slice (some ⟨q, 0, none⟩) ds.length cap, .agg #[.int .i64 (kindOf ds[k].name.txt), .int .i64 ds[k].name.pos, .string ds[k].name.txt, .slice o1 ds[k].ps.length p1, .slice o2 ds[k].body.length p2]] ((wr.alloc (Obj.cells #[.int .i64 (kindOf ds[k].name.txt), .int .i64 ds[k].name.pos, .string ds[k].name.txt, .slice o1 ds[k].ps.length p1, .slice o2 ds[k].body.length p2] 87)).alloc (Obj.cells #[.int .i64 0, .slice none 0 0] 78)).drew fun e w3 => ∃ a b, e = .returned (.slice a CL.length b) ∧ w3.cell? ⟨wr.heap.size, 3, none⟩ = some (.slice o1 ds[k].ps.length p1) ∧ wr.heap.size < w3.heap.size ∧ w3.cell? ⟨wr.heap.size + 1, 0, none⟩ = some (.int .i64 0) ∧ w3.cell? ⟨wr.heap.size + 1, 1, none⟩ = some (.slice none 0 0) ∧ w3.frozen? ⟨wr.heap.size + 1, 0, none⟩ = false ∧ w3.frozen? ⟨wr.heap.size + 1, 1, none⟩ = false ∧ Hid (w3.heap[wr.heap.size + 1]? = some (.cells #[.int .i64 0, .slice none 0 0] 78 (0, 0))) ∧ Hid (Below wr.heap.size wr w3 ∧ LinesOw w3 w3.heap.size (.slice a CL.length b) CL)) := by
          refine (show Calls _ _ _ _ _ from HC.out _ (Below.drew (((Below.refl _ _).alloc (Nat.le_refl _) _).alloc (by simp) _))).mono ?_
          rintro e w3 ⟨lv3, rfl, hb3, how3⟩
          obtain ⟨lo3, lc3, hlv3⟩ : ∃ a b, lv3 = .slice a CL.length b := by obtain ⟨vs, h1, _⟩ := how3; obtain ⟨a, b, e⟩ := own_form h1; exact ⟨a, b, e⟩
          subst hlv3
          obtain ⟨x1, x2⟩ := two_later_drew hb3
          exact ⟨lo3, lc3, rfl, by rw [cell_of_row w3 wr.heap.size 3 _ _ _ x1]; rfl, (Array.getElem?_eq_some_iff.1 x1).1, by rw [cell_of_row w3 (wr.heap.size + 1) 0 _ _ _ x2]; rfl, by rw [cell_of_row w3 (wr.heap.size + 1) 1 _ _ _ x2]; rfl, frozen_of_row w3 _ 0 _ _ x2, frozen_of_row w3 _ 1 _ _ x2, x2, (Below.drew (((Below.refl _ _).alloc (Nat.le_refl _) _).alloc (by simp) _)).trans (hb3.mono (by simp [heap_drew]; omega)), how3⟩
        clear hvr hd hdk hnk HC
        go_wp2_with fail
        go_cut [10] (fun vx wc => ∃ (c : Nat) (lv : Value), vx = .pointer (some ⟨c, 0, none⟩) ∧ wc.heap[c]? = some (.cells #[.int .i64 ds[k].ps.length, lv] 78 (0, 0)) ∧ wr.heap.size ≤ c ∧ Below wr.heap.size wr wc ∧ LinesOw wc wc.heap.size lv CL)
        case first =>
          go_region_with (go_at_call 39; first
            | (refine (show Calls _ _ _ _ _ from HC2.out).mono ?_; rintro e w3 ⟨lo3, lc3, rfl, y3, hsz3, HW3⟩)
            | (refine (show Calls _ _ _ _ _ from HC3.out).mono ?_; rintro e w3 ⟨lo3, lc3, rfl, y3, hsz3, z0, z1, fz0, fz1, HZB, HW3⟩))
          all_goals
            go_wp2_with fail
            go_meet
            case rel =>
              first
              | exact ⟨w3.heap.size, _, rfl, heap_alloc_new w3 _, by omega, HW3.out.1.alloc (by omega) _, (HW3.out.2.keep ((Below.refl _ _).alloc (Nat.le_refl _) _)).up (by simp)⟩
              | exact ⟨wr.heap.size + 1, _, rfl, blk_set _ (blk_set _ HZB.out), by omega, (HW3.out.1.setCell (by show wr.heap.size ≤ wr.heap.size + 1; omega) _).setCell (by show wr.heap.size ≤ wr.heap.size + 1; omega) _, (HW3.out.2.setT HZB.out |>.setT (blk_set _ HZB.out)).up (by simp [World.setCell])⟩
        case rest =>
          obtain ⟨c, lv3, rfl, hcb, hcge, hbc, how⟩ := hcut
          clear HC2 HC3 d0 d1 d2 d3 d4 C0 C1
          have hbox2 := (hbc.block w2.heap.size hwlt).trans hbox
          have C1 := cell_of_row wc w2.heap.size 1 _ _ _ hbox2
          have D0 := cell_of_row wc c 0 _ _ _ hcb
          have D1 := cell_of_row wc c 1 _ _ _ hcb
          simp only [List.getElem?_toArray, List.getElem?_cons_succ, List.getElem?_cons_zero] at C1 D0 D1
          have hrow2 := ownsRow_old hrow hbc
          have hfu2 := (hfu.keep (hbc.mono hhi)).up (Nat.le_trans hhi hbc.size)
          have hcsz := hbc.size
          obtain ⟨lo3, lc3, hlv3⟩ : ∃ a b, lv3 = .slice a CL.length b := by obtain ⟨vs, h1, _⟩ := how; obtain ⟨a, b, e⟩ := own_form h1; exact ⟨a, b, e⟩
          subst hlv3
          go_wp2_with (at_builtin; go_must (refine wpList_append_lies _ rfl _ _ _ rfl (w2.heap.size + 1) 78 i _ 2 32 Tryz.underlying55 hi hz0 hz1 hz2 rfl (by omega) (.slice fo k fcap) k ys rfl ?hown _ 1 _ [.int .i64 ds[k].ps.length, .slice lo3 CL.length lc3] rfl rfl ?hnews ?h1 (by omega) ?h63 ?hbytes ?hbase _ rfl ?_))
          case hown => exact hrow2.alloc _
          case hnews => exact World.news_of_block (heap_alloc_new wc _)
          case h1 => simp [Value.oneCell']
          case h63 => unfold maxLen; omega
          case hbytes => omega
          case hbase => simp; omega
          intro g cap2 w4 hown4 hgrow4 hat4 hlt4
          have hbox4 := grown_type (hrow2.alloc _) hgrow4 (by decide) ((Below.heap_alloc wc _ _ (by omega)).trans hbox2)
          have E1 := cell_of_row w4 w2.heap.size 1 _ _ _ hbox4
          simp only [List.getElem?_toArray, List.getElem?_cons_succ, List.getElem?_cons_zero] at E1
          have f1 := frozen_of_row w4 w2.heap.size 1 _ _ hbox4
          have hbel4 : Below w2.heap.size w2 w4 := ((hb.trans (hbc.mono hbsz)).alloc (by omega) _).grown hgrow4 (by simp; omega) (fun k hk => by have := (hrow2.lt k hk).1; omega)
          have hfu4 : FuOw w4 wc.heap.size ((ds.take (k + 1)).map (tpOf ds)) (ys ++ [.int .i64 ds[k].ps.length, .slice lo3 CL.length lc3]) := by
            rw [HMP.out, HTP.out]
            exact FuOw.type (hrow2.alloc _) hgrow4 ((FuOw.snoc (t := ⟨ds[k].ps.length, CL⟩) how hfu2).keep ((Below.refl _ _).alloc (Nat.le_refl _) _))
          have hsz4 := hgrow4.size
          simp only [World.size_alloc] at hsz4
          clear hgrow4 hat4 hlt4 C1 D0 D1
          go_wp2_with fail
          go_roundw
          case rel => exact ⟨k + 1, wc.heap.size, _, _, hlt, by go_num, hbel4.setCell (by exact Nat.le_refl _) _, blk_set _ hbox4, by omega, by simp [World.setCell]; omega, ownsRow_set hown4 hbox4 (by decide), FuOw.set hbox4 hfu4⟩
          case measure => simp [intOf]; omega
      · have hk2 : k = ds.length := by omega
        subst hk2
        rw [List.take_length] at hfu
        have hfr : FunsRd wr wr.heap.size (.slice fo ds.length fcap) (codeOf ds).fs := FuOw.rd (by simp only [codeOf, List.length_map]; exact ownsRow_base hrow (Nat.zero_le _)) (fun k hk => (hrow.lt k hk).2) (hfu.up hhi)
        have HW : Hid _ := pWrite (codeOf ds) _ wr.heap.size wr (Nat.le_refl _) hfr (Tab.below HT2.out hb)
        have HMN : Hid ((codeOf ds).mn = mn) := HM.out
        rw [HMN.out, HQ1.out, HQ2.out] at HW
        clear hfr hfu
        go_wp2_with fail
        refine (show Calls _ _ _ _ _ from HW.out).mono ?_
        rintro e w3 ⟨x, rfl, hx, hxs, hb3⟩
        go_wp2_with fail
        go_ret2
        exact ⟨x, rfl, hx, hxs, hb2'.trans ((hb.trans (hb3.mono hbsz)).mono hb2'.size)⟩
  · have h0' : ((chk s).2 == 0) = false := by simpa using h0
    have HE : Hid (cmpE s = (chk s).2) := by show _ = _; unfold cmpE; rw [if_neg h0]
    have HS : Hid (cmpL s = []) := by show _ = _; unfold cmpL; rw [if_neg h0]
    rw [HE.out]
    go_enter Tryz.func25, Tryz.ntmps25
    go_wp2_with fail
    refine (sParse s _ hs).mono ?_
    rintro e w1 ⟨lv, rfl, hb1, _⟩
    go_wp2_with fail
    go_ret2
    exact ⟨_, rfl, HS.out.symm, by decide, hb1⟩

end Go.Proofs.YtnndoagpbcacdaaGreatDoor
namespace Go.Proofs.YtnndoagpbcacdaaGreatDoor
open Go.RowKit

set_option maxHeartbeats 400000 in
theorem xCompile (s : ByteArray) (w : World) (hs : s.size ≤ maxLen) (ht : Tab w) :
    Calls Tryz.prog 14 #[.string s] w fun e w' => ∃ x : ByteArray, e = .returned (.tuple #[.string x, .int .i64 (cmpE s)]) ∧ x.data.toList = cmpL s ∧ x.size ≤ 20000 ∧ Below w.heap.size w w' := by
  have HC : Hid _ := sCompile s w hs ht (fun h => ⟨(prog_base s h).2.2.2, (prog_base s h).2.2.1⟩)
  go_enter Tryz.func14, Tryz.ntmps14
  go_wp2_with fail
  refine (show Calls _ _ _ _ _ from HC.out).mono ?_
  rintro e w1 ⟨x, rfl, hx, hxs, hb1⟩
  go_wp2_with fail
  go_ret2
  exact ⟨x, rfl, hx, hxs, hb1⟩

end Go.Proofs.YtnndoagpbcacdaaGreatDoor
namespace Go.Proofs.YtnndoagpbcacdaaGreatDoor
open Go.RowKit

def At.isNil : At → Bool
  | .nil => true
  | _ => false
theorem At.isNil_iff {a : At} : a.isNil = true ↔ a = .nil := by cases a <;> simp [At.isNil]
theorem At.isNil_ne {a : At} (h : a ≠ .nil) : a.isNil = false := by cases a <;> simp_all [At.isNil]
def unT : At → Nat
  | .nil => 0
  | .sim _ r => unT r
  | .par _ _ _ ag r => if ag.isNil then unT r else 1 + unT ag + unT r
def ownT (f : Tk → Int × Int) : At → Nat → Ln
  | .nil, _ => []
  | .sim t r, k => f t :: ownT f r k
  | .par _ h _ ag r, k => if ag.isNil then f h :: ownT f r k else (5, (k : Int)) :: ownT f r (k + 1 + unT ag)
def restT (f : Tk → Int × Int) : At → Nat → List Ln
  | .nil, _ => []
  | .sim _ r, k => restT f r k
  | .par _ h _ ag r, k => if ag.isNil then restT f r k else (f h :: ownT f ag (k + 1)) :: (restT f ag (k + 1) ++ restT f r (k + 1 + unT ag))
theorem restT_len (f : Tk → Int × Int) (a : At) : ∀ k, (restT f a k).length = unT a := by
  induction a with
  | nil => intro k; rfl
  | sim t r ih => intro k; exact ih k
  | par o h c ag r ih1 ih2 =>
    intro k
    by_cases hn : ag.isNil = true
    · simp [restT, unT, hn, ih2]
    · simp [restT, unT, hn, ih1, ih2]; omega

end Go.Proofs.YtnndoagpbcacdaaGreatDoor
namespace Go.Proofs.YtnndoagpbcacdaaGreatDoor
open Go.RowKit

def addL (L : List Ln) (n : Nat) (X : Ln) : List Ln := L.set n (L[n]?.getD [] ++ X)
theorem addL_len (L : List Ln) (n : Nat) (X : Ln) : (addL L n X).length = L.length := by simp [addL]
theorem addL_nil (L : List Ln) (n : Nat) (h : n < L.length) : addL L n [] = L := by
  unfold addL
  rw [List.getElem?_eq_getElem h, Option.getD_some, List.append_nil, List.set_getElem_self]
theorem addL_addL (L : List Ln) (n : Nat) (X Y : Ln) (h : n < L.length) : addL (addL L n X) n Y = addL L n (X ++ Y) := by
  unfold addL
  rw [List.getElem?_set_self h, Option.getD_some, List.set_set, List.append_assoc]
theorem addL_app (L M : List Ln) (n : Nat) (X : Ln) (h : n < L.length) : addL (L ++ M) n X = addL L n X ++ M := by
  unfold addL
  rw [List.getElem?_append_left h, List.set_append_left _ _ h]
theorem addL_last (L : List Ln) (x : Ln) (X : Ln) : addL (L ++ [x]) L.length X = L ++ [x ++ X] := by
  unfold addL
  rw [List.getElem?_append_right (Nat.le_refl _), Nat.sub_self, List.getElem?_cons_zero, Option.getD_some, List.set_append_right _ _ (Nat.le_refl _), Nat.sub_self]
  rfl
theorem putL_eq (L : List Ln) (op : List Nat) (n : Nat) (a : Int × Int) : putL ⟨L, op ++ [n]⟩ a = ⟨addL L n [a], op ++ [n]⟩ := by
  unfold putL addL
  simp
theorem step_simple (ps : List Tk) (ds : List Df) (t : Tk) (s : Ly) (h : simp3 t) : stepL ps ds t s = putL s (atomF ps ds t) := by
  unfold simp3 at h
  unfold stepL
  rw [if_neg (by omega), if_neg (by omega)]
theorem cut_simple (ps : List Tk) (ds : List Df) (ts : List Tk) (L : List Ln) (op : List Nat) (n i : Nat) (h : i < ts.length) (hs : simp3 ts[i]) : cutI ps ds ts ⟨L, op ++ [n]⟩ i = cutI ps ds ts ⟨addL L n [atomF ps ds ts[i]], op ++ [n]⟩ (i + 1) := by
  rw [cutI_tok ps ds ts _ i h (need_simple ts i h hs), step_simple _ _ _ _ hs, putL_eq]
theorem cut_at (ps : List Tk) (ds : List Df) (a : At) (h : a.ok) : ∀ (pre post : List Tk) (L : List Ln) (op : List Nat) (n : Nat), n < L.length → cutI ps ds (pre ++ (a.toks ++ post)) ⟨L, op ++ [n]⟩ pre.length = cutI ps ds (pre ++ (a.toks ++ post)) ⟨addL L n (ownT (atomF ps ds) a (L.length - 1)) ++ restT (atomF ps ds) a (L.length - 1), op ++ [n]⟩ (pre.length + a.toks.length) := by
  induction a with
  | nil => intro pre post L op n hn; simp [At.toks, ownT, restT, addL_nil L n hn]
  | sim t r ih =>
    intro pre post L op n hn
    have hlt : pre.length < (pre ++ ((At.sim t r).toks ++ post)).length := by simp [At.toks]
    have hg : (pre ++ ((At.sim t r).toks ++ post))[pre.length] = t := by simp [At.toks]
    have h1 := cut_simple ps ds (pre ++ ((At.sim t r).toks ++ post)) L op n pre.length hlt (by rw [hg]; exact h.1)
    rw [hg] at h1
    have h2 := ih h.2 (pre ++ [t]) post (addL L n [atomF ps ds t]) op n (by rw [addL_len]; exact hn)
    have e : pre ++ [t] ++ (r.toks ++ post) = pre ++ ((At.sim t r).toks ++ post) := by simp [At.toks]
    rw [e, addL_len, addL_addL _ _ _ _ hn] at h2
    simp only [List.length_append, List.length_cons, List.length_nil] at h2
    rw [h1, h2]
    simp only [At.toks, ownT, restT, List.length_cons, List.singleton_append]
    rw [show pre.length + (0 + 1) + r.toks.length = pre.length + (r.toks.length + 1) by omega]
  | par o x c ag r ih1 ih2 =>
    intro pre post L op n hn
    obtain ⟨ho, hx, hc, hag, hr⟩ := h
    generalize hT : pre ++ ((At.par o x c ag r).toks ++ post) = T
    have e1 : T = pre ++ (o :: x :: (ag.toks ++ c :: (r.toks ++ post))) := by rw [← hT]; simp [At.toks]
    have hlen : T.length = pre.length + 3 + ag.toks.length + r.toks.length + post.length := by rw [e1]; simp; omega
    have g0 : T[pre.length]? = some o := by rw [e1]; simp
    have g1 : T[pre.length + 1]? = some x := by rw [e1, List.getElem?_append_right (by omega), show pre.length + 1 - pre.length = 1 by omega]; rfl
    have gc : T[pre.length + 2 + ag.toks.length]? = some c := by
      rw [e1, List.getElem?_append_right (by omega), show pre.length + 2 + ag.toks.length - pre.length = ag.toks.length + 1 + 1 by omega, List.getElem?_cons_succ, List.getElem?_cons_succ, List.getElem?_append_right (by omega), Nat.sub_self]; rfl
    have l0 : pre.length < T.length := by omega
    have l1 : pre.length + 1 < T.length := by omega
    have lc : pre.length + 2 + ag.toks.length < T.length := by omega
    have q0 : T[pre.length] = o := by rw [List.getElem?_eq_getElem l0] at g0; exact Option.some.inj g0
    have q1 : T[pre.length + 1] = x := by rw [List.getElem?_eq_getElem l1] at g1; exact Option.some.inj g1
    have qc : T[pre.length + 2 + ag.toks.length] = c := by rw [List.getElem?_eq_getElem lc] at gc; exact Option.some.inj gc
    have k0 : kAt T (pre.length : Int) = 6 := by rw [kAt_in T _ l0, q0, ho]
    have kc : kAt T ((pre.length + 2 + ag.toks.length : Nat) : Int) = 7 := by rw [kAt_in T _ lc, qc, hc]
    have sx : ∀ (L : List Ln) (op : List Nat) (n : Nat), cutI ps ds T ⟨L, op ++ [n]⟩ (pre.length + 1) = cutI ps ds T ⟨addL L n [atomF ps ds x], op ++ [n]⟩ (pre.length + 1 + 1) := by
      intro L op n
      have := cut_simple ps ds T L op n (pre.length + 1) l1 (by rw [q1]; exact hx)
      rw [q1] at this; exact this
    have e2 : pre ++ o :: x :: (ag.toks ++ [c]) ++ (r.toks ++ post) = T := by rw [e1]; simp
    have el2 : (pre ++ o :: x :: (ag.toks ++ [c])).length = pre.length + 2 + ag.toks.length + 1 := by simp; omega
    have etot : pre.length + (At.par o x c ag r).toks.length = pre.length + 2 + ag.toks.length + 1 + r.toks.length := by simp [At.toks]; omega
    have h2 := fun L n hn => ih2 hr (pre ++ o :: x :: (ag.toks ++ [c])) post L op n hn
    rw [e2, el2] at h2
    rw [etot]
    by_cases hnn : ag = .nil
    · subst hnn
      simp only [At.toks, List.length_nil, Nat.add_zero] at kc h2 gc lc qc
      have n0 : needB T pre.length = true := by
        unfold needB
        rw [k0, show ((pre.length : Int) + 2) = ((pre.length + 2 : Nat) : Int) by omega, kc]; simp
      have nc : needB T (pre.length + 2) = true := by
        unfold needB
        rw [kc, show (((pre.length + 2 : Nat) : Int) - 2) = (pre.length : Int) by omega, k0]; simp
      rw [cutI_skip ps ds T _ pre.length l0 n0, sx, cutI_skip ps ds T _ _ lc nc, h2 _ n (by rw [addL_len]; exact hn), addL_len, addL_addL _ _ _ _ hn]
      simp [ownT, restT, At.isNil, At.toks]
    · have hx6 : kindOf x.txt ≠ 6 := by unfold simp3 at hx; omega
      have hat : ag.toks ≠ [] := by
        cases ag with
        | nil => exact absurd rfl hnn
        | sim t r => simp [At.toks]
        | par o h c g r => simp [At.toks]
      have hap : 0 < ag.toks.length := List.length_pos_iff.2 hat
      have k2 : kAt T ((pre.length : Int) + 2) ≠ 7 := by
        rw [show ((pre.length : Int) + 2) = ((pre.length + 2 : Nat) : Int) by omega, e1, kAt_app, List.getElem?_cons_succ, List.getElem?_cons_succ, List.getElem?_append_left hap]
        cases ag with
        | nil => exact absurd rfl hnn
        | sim t g => have := hag.1; unfold simp3 at this; simp only [At.toks, List.getElem?_cons_zero]; omega
        | par o' h' c' g' g => have := hag.1; simp only [At.toks, List.getElem?_cons_zero]; omega
      have kcm : kAt T ((pre.length + 2 + ag.toks.length : Nat) - 2 : Int) ≠ 6 := by
        have hsec := sec_at hag hnn x hx6
        obtain ⟨u, hu1, hu2⟩ := lastK_get (x :: ag.toks).dropLast (by rw [List.dropLast_cons_of_ne_nil hat]; simp)
        rw [hu2] at hsec
        have hu3 : (x :: ag.toks)[ag.toks.length - 1]? = some u := by
          rw [List.length_dropLast, List.length_cons, Nat.add_sub_cancel] at hu1
          rw [List.getElem?_dropLast] at hu1
          split at hu1
          · exact hu1
          · cases hu1
        have : kAt T ((pre.length + 2 + ag.toks.length : Nat) - 2 : Int) = kindOf u.txt := by
          rw [show ((pre.length + 2 + ag.toks.length : Nat) - 2 : Int) = ((pre.length + ((ag.toks.length - 1) + 1) : Nat) : Int) by omega, e1, kAt_app, List.getElem?_cons_succ, show x :: (ag.toks ++ c :: (r.toks ++ post)) = (x :: ag.toks) ++ c :: (r.toks ++ post) by simp, List.getElem?_append_left (by simp; omega), hu3]
        rw [this]; exact hsec
      have n0 : needB T pre.length = false := by
        unfold needB
        rw [k0]; simp [k2]
      have nc : needB T (pre.length + 2 + ag.toks.length) = false := by
        unfold needB
        rw [kc]; simp only [show ¬ ((7 : Int) = 6) by decide, decide_false, Bool.false_and, Bool.false_or, decide_true, Bool.true_and, decide_eq_false_iff_not]
        exact kcm
      have e3 : pre ++ [o, x] ++ (ag.toks ++ c :: (r.toks ++ post)) = T := by rw [e1]; simp
      have el3 : (pre ++ [o, x]).length = pre.length + 2 := by simp
      have h1 := fun L op n hn => ih1 hag (pre ++ [o, x]) (c :: (r.toks ++ post)) L op n hn
      rw [e3, el3] at h1
      have hk : ((L.length - 1 : Nat) : Int) = (L.length : Int) - 1 := by omega
      have s0 : stepL ps ds o ⟨L, op ++ [n]⟩ = ⟨addL L n [(5, ((L.length - 1 : Nat) : Int))] ++ [[]], (op ++ [n]) ++ [(addL L n [(5, ((L.length - 1 : Nat) : Int))]).length]⟩ := by
        unfold stepL
        rw [if_pos ho, putL_eq, begL, hk]
      have sc : ∀ (M : List Ln) (m : Nat), stepL ps ds c ⟨M, (op ++ [n]) ++ [m]⟩ = ⟨M, op ++ [n]⟩ := by
        intro M m
        unfold stepL endL
        rw [if_neg (by omega), if_pos hc]
        simp
      rw [cutI_tok ps ds T _ _ l0 n0, q0, s0, sx, addL_last, List.nil_append, h1 _ _ _ (by simp), addL_last, cutI_tok ps ds T _ _ lc nc, qc, sc]
      have hlen2 : (addL L n [(5, ((L.length - 1 : Nat) : Int))] ++ [[atomF ps ds x]]).length - 1 = (L.length - 1) + 1 := by simp [addL_len]; omega
      rw [hlen2, h2 _ n (by simp [addL_len]; omega)]
      have hlen3 : (addL L n [(5, ((L.length - 1 : Nat) : Int))] ++ [[atomF ps ds x] ++ ownT (atomF ps ds) ag (L.length - 1 + 1)] ++ restT (atomF ps ds) ag (L.length - 1 + 1)).length - 1 = (L.length - 1) + 1 + unT ag := by simp [addL_len, restT_len]; omega
      rw [hlen3, List.append_assoc, addL_app _ _ _ _ (by rw [addL_len]; exact hn), addL_addL _ _ _ _ hn]
      simp [ownT, restT, At.isNil_ne hnn]
theorem cut_body (ps : List Tk) (ds : List Df) {hd : Tk} {a : At} (hs : simp3 hd) (h : a.ok) : cutLs ps ds (hd :: a.toks) = ownT (atomF ps ds) (.sim hd a) 0 :: restT (atomF ps ds) (.sim hd a) 0 := by
  have h1 := cut_simple ps ds (hd :: a.toks) [[]] [] 0 0 (by simp) hs
  have h2 := cut_at ps ds a h [hd] [] [[atomF ps ds hd]] [] 0 (by simp)
  have h3 : ∀ s, cutI ps ds (hd :: a.toks) s (1 + a.toks.length) = s := fun s => cutI_end ps ds (hd :: a.toks) s (1 + a.toks.length) (by simp; omega)
  simp only [List.append_nil, List.singleton_append, List.length_cons, List.length_nil, Nat.zero_add, List.nil_append] at h1 h2
  rw [h3] at h2
  unfold cutLs
  have hb : begL ⟨[], []⟩ = ⟨[[]], [0]⟩ := rfl
  rw [hb, h1]
  have ha : addL [[]] 0 [atomF ps ds hd] = [[atomF ps ds hd]] := rfl
  rw [show (hd :: a.toks)[0] = hd from rfl, ha, h2]
  simp [addL, ownT, restT]

end Go.Proofs.YtnndoagpbcacdaaGreatDoor
