import Derived.Test.YtnndoagpbcacdaaGreatDoorMK2
import Derived.Test.YtnndoagpbcacdaaGreatDoorMB1
import Derived.Test.YtnndoagpbcacdaaGreatDoorMB0
namespace Go.Proofs.YtnndoagpbcacdaaGreatDoor
open Go.RowKit

/-! Package source: compile.go: cutLines. -/
structure Ly where
  L : List Ln
  op : List Nat
def putL (s : Ly) (a : Int × Int) : Ly := match s.op.getLast? with
  | none => s
  | some n => ⟨s.L.set n (s.L[n]?.getD [] ++ [a]), s.op⟩
def begL (s : Ly) : Ly := ⟨s.L ++ [[]], s.op ++ [s.L.length]⟩
def endL (s : Ly) : Ly := ⟨s.L, s.op.dropLast⟩
def stepL (ps : List Tk) (ds : List Df) (t : Tk) (s : Ly) : Ly := if kindOf t.txt = 6 then begL (putL s (5, (s.L.length : Int) - 1)) else if kindOf t.txt = 7 then endL s else putL s (atomF ps ds t)
def cutI (ps : List Tk) (ds : List Df) (ts : List Tk) (s : Ly) (i : Nat) : Ly :=
  if h : i < ts.length then (if needB ts i then cutI ps ds ts s (i + 1) else cutI ps ds ts (stepL ps ds ts[i] s) (i + 1)) else s
termination_by ts.length - i
theorem cutI_end (ps : List Tk) (ds : List Df) (ts : List Tk) (s : Ly) (i : Nat) (h : ¬ i < ts.length) : cutI ps ds ts s i = s := by rw [cutI, dif_neg h]
theorem cutI_skip (ps : List Tk) (ds : List Df) (ts : List Tk) (s : Ly) (i : Nat) (h : i < ts.length) (hn : needB ts i = true) : cutI ps ds ts s i = cutI ps ds ts s (i + 1) := by rw [cutI, dif_pos h, if_pos hn]
theorem cutI_tok (ps : List Tk) (ds : List Df) (ts : List Tk) (s : Ly) (i : Nat) (h : i < ts.length) (hn : needB ts i = false) : cutI ps ds ts s i = cutI ps ds ts (stepL ps ds ts[i] s) (i + 1) := by rw [cutI, dif_pos h, hn]; simp

structure LyOk (n : Nat) (s : Ly) : Prop where
  l : s.L.length ≤ n + 1
  o : s.op.length ≤ n + 1
  e : ∀ l ∈ s.L, l.length ≤ n
theorem LyOk.up {n : Nat} {s : Ly} (h : LyOk n s) : LyOk (n + 1) s := ⟨by have := h.l; omega, by have := h.o; omega, fun l hl => Nat.le_succ_of_le (h.e l hl)⟩
theorem putL_len (s : Ly) (a : Int × Int) : (putL s a).L.length = s.L.length ∧ (putL s a).op = s.op := by
  unfold putL; split <;> simp
theorem LyOk.put {n : Nat} {s : Ly} (h : LyOk n s) (a : Int × Int) : LyOk (n + 1) (putL s a) := by
  obtain ⟨h1, h2⟩ := putL_len s a
  refine ⟨by rw [h1]; have := h.l; omega, by rw [h2]; have := h.o; omega, ?_⟩
  unfold putL
  split
  · exact h.up.e
  · rename_i m hm
    intro l hl
    rcases List.mem_or_eq_of_mem_set hl with hl | rfl
    · exact h.up.e l hl
    · rw [List.length_append]
      have : (s.L[m]?.getD []).length ≤ n := by
        cases hq : s.L[m]? with
        | none => simp
        | some x => simpa using h.e x (List.mem_of_getElem? hq)
      simp; omega
theorem LyOk.beg {n : Nat} {s : Ly} (h1 : s.L.length ≤ n) (h2 : s.op.length ≤ n) (h3 : ∀ l ∈ s.L, l.length ≤ n) : LyOk n (begL s) :=
  ⟨by simp [begL]; omega, by simp [begL]; omega, fun l hl => by
    simp only [begL, List.mem_append, List.mem_cons, List.not_mem_nil, or_false] at hl
    rcases hl with hl | rfl
    · exact h3 l hl
    · simp⟩

set_option maxHeartbeats 1000000 in
theorem sPutAll (b : Nat) (lv ov : Value) (s : Ly) (vs : List Value) (a : Int × Int) (w : World) (h : Lay w b lv ov s.L vs s.op) (hk : LyOk 1500 s) :
    Calls Tryz.prog 67 #[.pointer (some ⟨b, 0, none⟩), .agg #[.int .i64 a.1, .int .i64 a.2]] w fun e w' => (∃ v, e = .returned v) ∧ Below b w w' ∧ ∃ vs', Lay w' b lv ov (putL s a).L vs' (putL s a).op := by
  obtain ⟨L, op⟩ := s
  have h1 := hk.l
  have h2 := hk.o
  have h3 := hk.e
  simp only at *
  cases hq : op.getLast? with
  | none =>
    have hn : op = [] := List.getLast?_eq_none_iff.1 hq
    subst hn
    refine (sPutNil b lv ov L vs a w h).mono ?_
    rintro e w1 ⟨e1, e2, e3⟩
    exact ⟨e1, e2, vs, e3⟩
  | some n =>
    obtain ⟨op', rfl⟩ := List.getLast?_eq_some_iff.1 hq
    have hn : n < L.length := h.lt n (by simp)
    have he : (putL ⟨L, op' ++ [n]⟩ a) = ⟨L.set n (L[n] ++ [a]), op' ++ [n]⟩ := by
      unfold putL
      simp [List.getElem?_eq_getElem hn]
    rw [he]
    exact sPut b lv ov L vs op' n a w h hn (by omega) (by simp at h2; omega) (by have := h3 L[n] (List.getElem_mem hn); omega)

theorem Lay.ow {w : World} {b : Nat} {lv ov : Value} {L : List Ln} {vs : List Value} {op : List Nat} (h : Lay w b lv ov L vs op) : LinesOw w w.heap.size lv L :=
  ⟨vs, ownsRow_base h.lrow (Nat.zero_le _), fun k hk => (h.lrow.lt k hk).2, fun j hj => by obtain ⟨v, e1, e2⟩ := h.rows j hj; exact ⟨v, e1, ownsRow_base e2 (Nat.zero_le _), fun k hk => (e2.lt k hk).2⟩⟩

/-- The lines of a definition. -/
def cutLs (ps : List Tk) (ds : List Df) (body : List Tk) : List Ln := (cutI ps ds body (begL ⟨[], []⟩) 0).L

set_option maxRecDepth 100000 in
set_option maxHeartbeats 4000000 in
theorem sCutLines (ds : List Df) (xs : List Value) (lv0 : Value) (T : Nat) (d : Df) (pv bv : Value) (w : World) (hl : ds.length ≤ 1000) (hlp : d.ps.length ≤ 1000) (hlb : d.body.length ≤ 1000) (hv : DR w lv0 ds xs T) (hT : T ≤ w.heap.size) (hok : DOk w T d pv bv)
    (hnum : ∀ t ∈ d.body, kindOf t.txt = 2 → t.txt.size ≤ 6 ∧ digL t.txt.data.toList) :
    Calls Tryz.prog 39 #[lv0, .agg #[.int .i64 (kindOf d.name.txt), .int .i64 d.name.pos, .string d.name.txt, pv, bv]] w fun e w' => ∃ lv, e = .returned lv ∧ Below w.heap.size w w' ∧ LinesOw w' w'.heap.size lv (cutLs d.ps ds d.body) := by
  obtain ⟨lo, lcap, rfl⟩ := own_form hv.row
  obtain ⟨po, pcap, rfl⟩ := own_form hok.1
  obtain ⟨bo, bcap, rfl⟩ := own_form hok.2.1
  generalize hR : cutI d.ps ds d.body (begL ⟨[], []⟩) 0 = R
  have HR : Hid (cutI d.ps ds d.body (begL ⟨[], []⟩) 0 = R) := hR
  have HRL : Hid (cutLs d.ps ds d.body = R.L) := congrArg Ly.L hR
  rw [HRL.out]
  clear hR HRL
  have HNUM : Hid _ := hnum
  clear hnum
  obtain ⟨nm, ps, ts⟩ := d
  simp only at *
  have HB0 : Hid (Lay ((w.alloc (Obj.cells #[.int .i64 (kindOf nm.txt), .int .i64 nm.pos, .string nm.txt, .slice po ps.length pcap, .slice bo ts.length bcap] 87)).alloc (Obj.cells #[.slice none 0 0, .slice none 0 0] 120)) (w.heap.size + 1) (.slice none 0 0) (.slice none 0 0) [] [] []) := by
    refine ⟨?_, World.ownsRow_nil _ _ _ _, World.ownsRow_nil _ _ _ _, fun j hj => by simp at hj, fun i j vi vj k _ h1 => by simp at h1, fun n hn => by simp at hn⟩
    have := heap_alloc_new (w.alloc (Obj.cells #[.int .i64 (kindOf nm.txt), .int .i64 nm.pos, .string nm.txt, .slice po ps.length pcap, .slice bo ts.length bcap] 87)) (Obj.cells #[.slice none 0 0, .slice none 0 0] 120)
    simpa using this
  have HBG : Hid _ := sBeginLine _ _ _ _ _ _ _ HB0.out (by simp) (by simp)
  go_enter Tryz.func39, Tryz.ntmps39
  go_wp2_with fail
  refine (show Calls _ _ _ _ _ from HBG.out).mono ?_
  rintro e w1 ⟨⟨v1, rfl⟩, hb1, lv1, ov1, hlay1⟩
  clear HBG HB0
  have hbA : Below (w.heap.size + 1) (w.alloc (Obj.cells #[.int .i64 (kindOf nm.txt), .int .i64 nm.pos, .string nm.txt, .slice po ps.length pcap, .slice bo ts.length bcap] 87)) w1 := ((Below.refl _ _).alloc (by simp) _).trans hb1
  clear hb1
  have hbx := (hbA.block w.heap.size (by omega)).trans (heap_alloc_new w _)
  have B2 := cell_of_row w1 w.heap.size 2 _ _ _ hbx
  have B4 := cell_of_row w1 w.heap.size 4 _ _ _ hbx
  simp only [List.getElem?_toArray, List.getElem?_cons_succ, List.getElem?_cons_zero] at B2 B4
  go_wp2_with fail
  go_loopw [14] (fun x wr => ∃ (i : Nat) (s : Ly) (lv ov : Value) (vs : List Value), i ≤ ts.length ∧ x = .int .i64 i ∧ Hid (cutI ps ds ts s i = R) ∧ LyOk i s ∧ Below (w.heap.size + 1) (w.alloc (Obj.cells #[.int .i64 (kindOf nm.txt), .int .i64 nm.pos, .string nm.txt, .slice po ps.length pcap, .slice bo ts.length bcap] 87)) wr ∧ Lay wr (w.heap.size + 1) lv ov s.L vs s.op) (fun x _ => ts.length - (intOf x).toNat)
  case atStart => exact ⟨0, begL ⟨[], []⟩, _, _, _, Nat.zero_le _, rfl, HR, LyOk.beg (by simp) (by simp) (by simp), hbA, hlay1⟩
  case round =>
    clear B2 B4 hbx hbA hlay1 HR
    obtain ⟨i, s, lv, ov, vs, hi, rfl, HC, hk, hb, hlay⟩ := hrel
    have hbw : Below w.heap.size w wr := ((Below.refl _ _).alloc (Nat.le_refl _) _).trans (hb.mono (by omega))
    have hbx := (hb.block w.heap.size (by omega)).trans (heap_alloc_new w _)
    have B0 := cell_of_row wr w.heap.size 0 _ _ _ hbx
    have B1 := cell_of_row wr w.heap.size 1 _ _ _ hbx
    have B2 := cell_of_row wr w.heap.size 2 _ _ _ hbx
    have B3 := cell_of_row wr w.heap.size 3 _ _ _ hbx
    have B4 := cell_of_row wr w.heap.size 4 _ _ _ hbx
    simp only [List.getElem?_toArray, List.getElem?_cons_succ, List.getElem?_cons_zero] at B0 B1 B2 B3 B4
    have hbsz := hlay.blt
    have hwlt : w.heap.size < wr.heap.size := by omega
    have L0 := cell_of_row wr (w.heap.size + 1) 0 _ _ _ hlay.box
    simp only [List.getElem?_toArray, List.getElem?_cons_zero] at L0
    obtain ⟨llo, llcap, hlv⟩ := own_form hlay.lrow
    subst hlv
    by_cases hlt : i < ts.length
    · have hrow : wr.ownsRow 0 84 3 (.slice bo ts.length bcap) ts.length (tcs ts) := ownsRow_old hok.2.1 hbw
      obtain ⟨q, cap', hq, _, hqlt⟩ := hrow.form (by omega)
      cases hq
      have ⟨t0, t1, t2⟩ := tcs_at ts i hlt
      have d0 := row_cell hrow _ _ t0
      have d1 := row_cell hrow _ _ t1
      have d2 := row_cell hrow _ _ t2
      clear t0 t1 t2
      have HN : Hid (∀ o, Calls Tryz.prog 66 #[.slice (some ⟨q, 0, none⟩) ts.length bcap, .int .i64 i] (wr.alloc o) fun e w' => e = .returned (.bool (needB ts i)) ∧ w' = (wr.alloc o)) := fun o => sIsNeedless _ ts i _ (by omega) hlt (hrow.alloc o)
      cases hn : needB ts i
      · have HC2 : Hid (cutI ps ds ts (stepL ps ds ts[i] s) (i + 1) = R) := (cutI_tok ps ds ts s i hlt hn).symm.trans HC.out
        rw [hn] at HN
        clear hn HC
        unfold stepL at HC2
        by_cases h6 : kindOf ts[i].txt = 6
        · rw [if_pos h6] at HC2
          rw [h6] at d0
          have HP : Hid (∀ o, Calls Tryz.prog 67 #[.pointer (some ⟨w.heap.size + 1, 0, none⟩), .agg #[.int .i64 5, .int .i64 ((s.L.length : Int) - 1)]] (wr.alloc o) fun e w' => (∃ v, e = .returned v) ∧ Below (w.heap.size + 1) (wr.alloc o) w' ∧ ∃ vs', Lay w' (w.heap.size + 1) _ ov (putL s (5, (s.L.length : Int) - 1)).L vs' (putL s (5, (s.L.length : Int) - 1)).op) := fun o => sPutAll _ _ _ s vs (5, (s.L.length : Int) - 1) _ (hlay.alloc o) ⟨by have := hk.l; omega, by have := hk.o; omega, fun l hl => by have := hk.e l hl; omega⟩
          have hk1 := hk.l
          have hk2 := hk.put (5, (s.L.length : Int) - 1)
          obtain ⟨e1, e2⟩ := putL_len s (5, (s.L.length : Int) - 1)
          have hko := hk.o
          generalize putL s (5, (s.L.length : Int) - 1) = s2 at *
          go_wp2_with fail
          refine (show Calls _ _ _ _ _ from HN.out _).mono ?_
          rintro e w1 ⟨rfl, rfl⟩
          go_wp2_with fail
          refine (show Calls _ _ _ _ _ from HP.out _).mono ?_
          rintro e w2 ⟨⟨v2, rfl⟩, hb2, vs2, hlay2⟩
          have HBG : Hid _ := sBeginLine _ _ _ _ _ _ _ hlay2 (by omega) (by rw [e2]; omega)
          clear HP HN
          go_wp2_with fail
          refine (show Calls _ _ _ _ _ from HBG.out).mono ?_
          rintro e w3 ⟨⟨v3, rfl⟩, hb3, lv3, ov3, hlay3⟩
          clear HBG
          go_wp2_with fail
          go_roundw
          case rel => exact ⟨i + 1, begL s2, lv3, ov3, _, hlt, by go_num, HC2, LyOk.beg (by omega) (by rw [e2]; omega) hk2.e, (hb.trans (((Below.refl _ _).alloc (by omega) _).trans (hb2.trans hb3))), hlay3⟩
          case measure => simp [intOf]; omega
        · rw [if_neg h6] at HC2
          have h6' : (kindOf ts[i].txt == 6) = false := by simpa using h6
          by_cases h7 : kindOf ts[i].txt = 7
          · rw [if_pos h7] at HC2
            rw [h7] at d0
            have HE : Hid (∀ o, _) := fun o => sEndLine _ _ _ _ _ _ _ (hlay.alloc o) (by have := hk.o; omega)
            clear h6 h6' h7
            go_wp2_with fail
            refine (show Calls _ _ _ _ _ from HN.out _).mono ?_
            rintro e w1 ⟨rfl, rfl⟩
            go_wp2_with fail
            refine (show Calls _ _ _ _ _ from HE.out _).mono ?_
            rintro e w2 ⟨⟨v2, rfl⟩, hb2, ov2, hlay2⟩
            clear HE HN
            go_wp2_with fail
            go_roundw
            case rel => exact ⟨i + 1, endL s, _, ov2, vs, hlt, by go_num, HC2, ⟨by have := hk.l; simp [endL]; omega, by have := hk.o; simp [endL]; omega, fun l hl => Nat.le_succ_of_le (hk.e l hl)⟩, (hb.trans (((Below.refl _ _).alloc (by omega) _).trans hb2)), hlay2⟩
            case measure => simp [intOf]; omega
          · rw [if_neg h7] at HC2
            have h7' : (kindOf ts[i].txt == 7) = false := by simpa using h7
            have hsz2 : w.heap.size ≤ wr.heap.size := hbw.size
            have HA : Hid _ := sSimpleAtom ds xs _ T ⟨nm, ps, ts⟩ _ _ ts[i] (wr.alloc (Obj.cells #[.int .i64 (kindOf ts[i].txt), .int .i64 ts[i].pos, .string ts[i].txt] 84)) hl hlp ((hv.old hT hbw).old (by omega) ((Below.refl _ _).alloc (Nat.le_refl _) _)) (by simp; omega) ((hok.keep (hbw.mono hT)).keep ((Below.refl _ _).alloc (by omega) _)) (HNUM.out ts[i] (List.getElem_mem hlt))
            have HP : Hid (∀ w', Below wr.heap.size wr w' → ∀ o, Calls Tryz.prog 67 #[.pointer (some ⟨w.heap.size + 1, 0, none⟩), .agg #[.int .i64 (atomF ps ds ts[i]).1, .int .i64 (atomF ps ds ts[i]).2]] (w'.alloc o) fun e w2 => (∃ v, e = .returned v) ∧ Below (w.heap.size + 1) (w'.alloc o) w2 ∧ ∃ vs', Lay w2 (w.heap.size + 1) _ ov (putL s (atomF ps ds ts[i])).L vs' (putL s (atomF ps ds ts[i])).op) := fun w' h' o => sPutAll _ _ _ s vs (atomF ps ds ts[i]) _ ((hlay.old h').alloc o) ⟨by have := hk.l; omega, by have := hk.o; omega, fun l hl => by have := hk.e l hl; omega⟩
            have hk2 := hk.put (atomF ps ds ts[i])
            simp only at HA
            generalize atomF ps ds ts[i] = A at *
            go_wp2_with fail
            refine (show Calls _ _ _ _ _ from HN.out _).mono ?_
            rintro e w1 ⟨rfl, rfl⟩
            go_wp2_with fail
            refine (show Calls _ _ _ _ _ from HA.out).mono ?_
            rintro e w2 ⟨rfl, hb2⟩
            have hb2w : Below wr.heap.size wr w2 := ((Below.refl _ _).alloc (Nat.le_refl _) _).trans (hb2.mono (by simp))
            clear HA HN
            go_wp2_with fail
            refine (show Calls _ _ _ _ _ from HP.out w2 hb2w _).mono ?_
            rintro e w3 ⟨⟨v3, rfl⟩, hb3, vs3, hlay3⟩
            clear HP
            go_wp2_with fail
            go_roundw
            case rel => exact ⟨i + 1, putL s A, _, ov, vs3, hlt, by go_num, HC2, hk2, (hb.trans ((hb2w.mono (by omega)).trans (((Below.refl _ _).alloc (by have := hb2w.size; omega) _).trans hb3))), hlay3⟩
            case measure => simp [intOf]; omega
      · have HC2 : Hid (cutI ps ds ts s (i + 1) = R) := (cutI_skip ps ds ts s i hlt hn).symm.trans HC.out
        rw [hn] at HN
        clear hn HC
        go_wp2_with fail
        refine (show Calls _ _ _ _ _ from HN.out _).mono ?_
        rintro e w1 ⟨rfl, rfl⟩
        go_wp2_with fail
        go_roundw
        case rel => exact ⟨i + 1, s, _, ov, vs, hlt, by go_num, HC2, hk.up, hb.alloc (by omega) _, hlay.alloc _⟩
        case measure => simp [intOf]; omega
    · have HE : Hid (s = R) := (cutI_end ps ds ts s i hlt).symm.trans HC.out
      go_wp2_with fail
      go_ret
      exact ⟨_, rfl, hbw, by rw [← HE.out]; exact hlay.ow⟩

end Go.Proofs.YtnndoagpbcacdaaGreatDoor
namespace Go.Proofs.YtnndoagpbcacdaaGreatDoor
open Go.RowKit

def At.isNil : At → Bool
  | .nil => true
  | _ => false
theorem At.isNil_iff {a : At} : a.isNil = true ↔ a = .nil := by cases a <;> simp [At.isNil]
theorem At.isNil_ne {a : At} (h : a ≠ .nil) : a.isNil = false := by cases a <;> simp_all [At.isNil]
def unT : At → Nat
  | .nil => 0
  | .sim _ r => unT r
  | .par _ _ _ ag r => if ag.isNil then unT r else 1 + unT ag + unT r
def ownT (f : Tk → Int × Int) : At → Nat → Ln
  | .nil, _ => []
  | .sim t r, k => f t :: ownT f r k
  | .par _ h _ ag r, k => if ag.isNil then f h :: ownT f r k else (5, (k : Int)) :: ownT f r (k + 1 + unT ag)
def restT (f : Tk → Int × Int) : At → Nat → List Ln
  | .nil, _ => []
  | .sim _ r, k => restT f r k
  | .par _ h _ ag r, k => if ag.isNil then restT f r k else (f h :: ownT f ag (k + 1)) :: (restT f ag (k + 1) ++ restT f r (k + 1 + unT ag))
theorem restT_len (f : Tk → Int × Int) (a : At) : ∀ k, (restT f a k).length = unT a := by
  induction a with
  | nil => intro k; rfl
  | sim t r ih => intro k; exact ih k
  | par o h c ag r ih1 ih2 =>
    intro k
    by_cases hn : ag.isNil = true
    · simp [restT, unT, hn, ih2]
    · simp [restT, unT, hn, ih1, ih2]; omega

end Go.Proofs.YtnndoagpbcacdaaGreatDoor
