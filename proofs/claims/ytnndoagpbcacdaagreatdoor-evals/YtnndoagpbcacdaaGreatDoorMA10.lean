import Derived.Test.YtnndoagpbcacdaaGreatDoorMA8
namespace Go.Proofs.YtnndoagpbcacdaaGreatDoor
open Go.RowKit

def unkT (ds : List Df) (ps : List Tk) (t : Tk) : Bool := decide (kindOf t.txt = 1) && !hasP ps t.txt && !hasF ds t.txt
def unkB (ds : List Df) (ps : List Tk) : List Tk → Option Nat
  | [] => none
  | t :: r => if unkT ds ps t then some t.pos else unkB ds ps r
def unkF (ds : List Df) : List Df → Option Nat
  | [] => none
  | d :: r => match unkB ds d.ps d.body with
    | some p => some p
    | none => unkF ds r
def contU (ps body : List Tk) (ds : List Df) (k j : Nat) : Int × Int := match unkB ds ps (body.drop j) with
  | some p => (p, 5)
  | none => orErr (unkF ds (ds.drop (k + 1))) 5
theorem unkF_in (ds : List Df) (k : Nat) (h : k < ds.length) : orErr (unkF ds (ds.drop k)) 5 = contU ds[k].ps ds[k].body ds k 0 := by
  rw [List.drop_eq_getElem_cons h, unkF, contU, List.drop_zero]
  cases unkB ds ds[k].ps ds[k].body <;> rfl
theorem contU_hit (ps body : List Tk) (ds : List Df) (k j : Nat) (h : j < body.length) (hh : unkT ds ps body[j] = true) : contU ps body ds k j = (((body[j].pos : Nat) : Int), 5) := by
  rw [contU, List.drop_eq_getElem_cons h, unkB, if_pos hh]
theorem contU_miss (ps body : List Tk) (ds : List Df) (k j : Nat) (h : j < body.length) (hh : unkT ds ps body[j] = false) : contU ps body ds k j = contU ps body ds k (j + 1) := by
  rw [contU, List.drop_eq_getElem_cons h, unkB, hh]; rfl
theorem contU_end (ps body : List Tk) (ds : List Df) (k j : Nat) (h : ¬ j < body.length) : contU ps body ds k j = orErr (unkF ds (ds.drop (k + 1))) 5 := by
  rw [contU, List.drop_eq_nil_of_le (by omega), unkB]
theorem box_later' {w w1 : World} {o : Obj} (hb : Below (w.alloc o).heap.size (w.alloc o) w1) : w1.heap[w.heap.size]? = some o :=
  (hb.block w.heap.size (by simp)).trans (heap_alloc_new w o)

set_option maxHeartbeats 4000000 in
theorem sCheckNames (v : Value) (ds : List Df) (xs : List Value) (T : Nat) (w : World) (hl : ds.length ≤ 1000000) (hlp : ∀ d ∈ ds, d.ps.length ≤ 1000000) (hlb : ∀ d ∈ ds, d.body.length ≤ 1000000) (hv : DR w v ds xs T) (hT : T ≤ w.heap.size) :
    Calls Tryz.prog 63 #[v] w fun e w' => e = .returned (.tuple #[.int .i64 (orErr (unkF ds ds) 5).1, .int .i64 (orErr (unkF ds ds) 5).2]) ∧ Below w.heap.size w w' := by
  obtain ⟨ao, cap, rfl⟩ := own_form hv.row
  generalize hR : orErr (unkF ds ds) 5 = R
  have HR : Hid (orErr (unkF ds ds) 5 = R) := hR
  clear hR
  go_enter Tryz.func63, Tryz.ntmps63
  go_wp2_with fail
  go_loopw [10] (fun a wr => ∃ (k : Nat), k ≤ ds.length ∧ a = .int .i64 k ∧ Hid (orErr (unkF ds (ds.drop k)) 5 = R) ∧ Below w.heap.size w wr) (fun a _ => ds.length - (intOf a).toNat)
  case atStart => exact ⟨0, Nat.zero_le _, rfl, HR, Below.refl _ _⟩
  case round =>
    obtain ⟨k, hk, rfl, HH, hb⟩ := hrel
    by_cases hlt : k < ds.length
    · obtain ⟨q, cap', hq, _, hqlt⟩ := hv.row.form (by omega)
      cases hq
      have hvr := hv.old hT hb
      obtain ⟨pv, bv, t0, t1, t2, t3, t4, hd⟩ := hvr.all.at k hlt
      have d0 := row_cell hvr.row _ _ t0
      have d1 := row_cell hvr.row _ _ t1
      have d2 := row_cell hvr.row _ _ t2
      have d3 := row_cell hvr.row _ _ t3
      have d4 := row_cell hvr.row _ _ t4
      obtain ⟨o1, p1, rfl⟩ := own_form hd.1
      obtain ⟨o2, p2, rfl⟩ := own_form hd.2.1
      clear t0 t1 t2 t3 t4
      have hdl : ds[k].ps.length ≤ 1000000 := hlp _ (List.getElem_mem hlt)
      have hdb : ds[k].body.length ≤ 1000000 := hlb _ (List.getElem_mem hlt)
      have HC : Hid (contU ds[k].ps ds[k].body ds k 0 = R) := (unkF_in ds k hlt).symm.trans HH.out
      clear HH
      obtain ⟨wo, rfl⟩ : ∃ wo : World, wo = wr := ⟨_, rfl⟩
      go_wp2_with fail
      obtain ⟨⟨nm, P, C⟩, hD⟩ : ∃ D, ds[k] = D := ⟨_, rfl⟩
      simp only [hD] at *
      go_loopw [17] (fun a wx => ∃ (j : Nat), j ≤ C.length ∧ a = .int .i64 j ∧ Hid (contU P C ds k j = R) ∧ Below w.heap.size w wx ∧ wx.ownsRow 0 84 3 (.slice o1 P.length p1) P.length (tcs P) ∧ wx.ownsRow 0 84 3 (.slice o2 C.length p2) C.length (tcs C) ∧ wx.heap[wo.heap.size]? = some (.cells #[.int .i64 (kindOf nm.txt), .int .i64 nm.pos, .string nm.txt, .slice o1 P.length p1, .slice o2 C.length p2] 87 (0, 0))) (fun a _ => C.length - (intOf a).toNat)
      case atStart => exact ⟨0, Nat.zero_le _, rfl, HC, hb.alloc hb.size _, hd.1.alloc _, hd.2.1.alloc _, heap_alloc_new wo _⟩
      case round =>
        obtain ⟨j, hj, rfl, HC2, hb2, hp2, hc2, hbx⟩ := hrel
        clear hd d0 d1 d2 d3 d4 hvr hb
        by_cases hjl : j < C.length
        · obtain ⟨q1, cap1, hq1, _, _⟩ := hc2.form (by omega)
          cases hq1
          have ⟨s0, s1, s2⟩ := tcs_at C j hjl
          have x0 := row_cell hc2 _ _ s0
          have x1 := row_cell hc2 _ _ s1
          have x2 := row_cell hc2 _ _ s2
          have g3 := cell_of_row wr wo.heap.size 3 _ _ _ hbx
          simp only [List.getElem?_toArray, List.getElem?_cons_succ, List.getElem?_cons_zero] at g3
          have hwo : wo.heap.size < wr.heap.size := (Array.getElem?_eq_some_iff.1 hbx).1
          clear s0 s1 s2
          by_cases h1 : kindOf C[j].txt = 1
          · cases hp : hasP P C[j].txt
            · cases hf : hasF ds C[j].txt
              · have HE : Hid ((((C[j].pos : Nat) : Int), (5 : Int)) = R) := (contU_hit P C ds k j hjl (by simp [unkT, h1, hp, hf])).symm.trans HC2.out
                go_wp2_with fail
                refine (sFindParameter _ P _ _ (by omega) (hp2.alloc _)).mono ?_
                rintro e w2 ⟨rfl, hb3⟩
                rw [whr_none hp]
                have hbp := box_later' hb3
                have g2 := cell_of_row w2 wr.heap.size 2 _ _ _ hbp
                simp only [List.getElem?_toArray, List.getElem?_cons_succ, List.getElem?_cons_zero] at g2
                have hb4 : Below w.heap.size w w2 := (hb2.alloc hb2.size _).trans (Below.mono hb3 (by simp; have := hb2.size; omega))
                have hsz2 := hb3.size
                simp at hsz2
                go_wp2_with fail
                refine (sFindFunction _ ds xs T _ _ (by omega) (hv.old hT hb4) (by have := hb4.size; omega)).mono ?_
                rintro e w3 ⟨rfl, hb5⟩
                rw [fnd_none hf]
                have g1 := (cell_of_row w3 wr.heap.size 1 _ _ _ ((hb5.block wr.heap.size (by omega)).trans hbp))
                simp only [List.getElem?_toArray, List.getElem?_cons_succ, List.getElem?_cons_zero] at g1
                go_wp2_with fail
                go_ret2
                exact ⟨ret_two HE.out, hb4.trans (hb5.mono hb4.size)⟩
              · have HE : Hid (contU P C ds k (j + 1) = R) := (contU_miss P C ds k j hjl (by simp [unkT, h1, hp, hf])).symm.trans HC2.out
                go_wp2_with fail
                refine (sFindParameter _ P _ _ (by omega) (hp2.alloc _)).mono ?_
                rintro e w2 ⟨rfl, hb3⟩
                rw [whr_none hp]
                have hbp := box_later' hb3
                have g2 := cell_of_row w2 wr.heap.size 2 _ _ _ hbp
                simp only [List.getElem?_toArray, List.getElem?_cons_succ, List.getElem?_cons_zero] at g2
                have hb4 : Below w.heap.size w w2 := (hb2.alloc hb2.size _).trans (Below.mono hb3 (by simp; have := hb2.size; omega))
                have hsz2 := hb3.size
                simp at hsz2
                have hbx2 := (hb3.block wo.heap.size (by simp; omega)).trans ((Below.heap_alloc wr _ _ hwo).trans hbx)
                have hp3 := ownsRow_old (hp2.alloc _) hb3
                have hc3 := ownsRow_old (hc2.alloc _) hb3
                clear g3
                go_wp2_with fail
                refine (sFindFunction _ ds xs T _ _ (by omega) (hv.old hT hb4) (by have := hb4.size; omega)).mono ?_
                rintro e w3 ⟨rfl, hb5⟩
                obtain ⟨i2, _, hi2⟩ := fnd_some hf
                rw [hi2]
                clear hi2
                go_wp2_with fail
                go_roundw
                case rel => exact ⟨j + 1, by omega, by go_num, HE, hb4.trans (hb5.mono hb4.size), ownsRow_old hp3 hb5, ownsRow_old hc3 hb5, (hb5.block wo.heap.size (by omega)).trans hbx2⟩
                case measure => simp [intOf]; omega
            · have HE : Hid (contU P C ds k (j + 1) = R) := (contU_miss P C ds k j hjl (by simp [unkT, hp])).symm.trans HC2.out
              go_wp2_with fail
              refine (sFindParameter _ P _ _ (by omega) (hp2.alloc _)).mono ?_
              rintro e w2 ⟨rfl, hb3⟩
              obtain ⟨i2, _, hi2⟩ := whr_some hp
              rw [hi2]
              clear hi2
              have hb4 : Below w.heap.size w w2 := (hb2.alloc hb2.size _).trans (Below.mono hb3 (by simp; have := hb2.size; omega))
              have hbx2 := (hb3.block wo.heap.size (by simp; omega)).trans ((Below.heap_alloc wr _ _ hwo).trans hbx)
              have hp3 := ownsRow_old (hp2.alloc _) hb3
              have hc3 := ownsRow_old (hc2.alloc _) hb3
              clear g3
              go_wp2_with fail
              go_roundw
              case rel => exact ⟨j + 1, by omega, by go_num, HE, hb4, hp3, hc3, hbx2⟩
              case measure => simp [intOf]; omega
          · have h1' : (kindOf C[j].txt == 1) = false := by simpa using h1
            have HE : Hid (contU P C ds k (j + 1) = R) := (contU_miss P C ds k j hjl (by simp [unkT, h1])).symm.trans HC2.out
            go_wp2_with fail
            go_roundw
            case rel => exact ⟨j + 1, by omega, by go_num, HE, hb2.alloc hb2.size _, hp2.alloc _, hc2.alloc _, (Below.heap_alloc wr _ _ hwo).trans hbx⟩
            case measure => simp [intOf]; omega
        · have HE : Hid (orErr (unkF ds (ds.drop (k + 1))) 5 = R) := (contU_end P C ds k j hjl).symm.trans HC2.out
          go_wp2_with fail
          go_roundw
          case rel => exact ⟨k + 1, by omega, by go_num, HE, hb2⟩
          case measure => simp [intOf]; omega
    · have HE : Hid (((0 : Int), (0 : Int)) = R) := by have := HH.out; rw [List.drop_eq_nil_of_le (by omega)] at this; exact this
      go_wp2_with fail
      go_ret2
      exact ⟨ret_two HE.out, hb⟩

/-- 'main', as bytes. -/
def mainB : ByteArray := ⟨#[109, 97, 105, 110]⟩
def mainE (ds : List Df) : Int := if fnd ds mainB < 0 then 6 else if 0 < (ds[(fnd ds mainB).toNat]?.getD df0).ps.length then 6 else 0

set_option maxHeartbeats 1000000 in
theorem sCheckMain (v : Value) (ds : List Df) (xs : List Value) (T : Nat) (w : World) (hl : ds.length ≤ 1000000) (hlp : ∀ d ∈ ds, d.ps.length ≤ 1000000) (hv : DR w v ds xs T) (hT : T ≤ w.heap.size) :
    Calls Tryz.prog 64 #[v] w fun e w' => e = .returned (.int .i64 (mainE ds)) ∧ Below w.heap.size w w' := by
  obtain ⟨ao, cap, rfl⟩ := own_form hv.row
  go_enter Tryz.func64, Tryz.ntmps64
  go_wp2_with fail
  refine (sFindFunction _ ds xs T _ _ (by omega) hv hT).mono ?_
  rintro e w1 ⟨rfl, hb⟩
  cases hf : hasF ds mainB
  · have hz := fnd_none hf
    have HN2 : Hid (mainE ds = 6) := by show mainE ds = 6; unfold mainE; rw [hz]; rfl
    rw [show fnd ds ⟨#[109, 97, 105, 110]⟩ = -1 from hz]
    go_wp2_with fail
    go_ret
    exact ⟨ret_int HN2.out.symm, hb⟩
  · obtain ⟨k, hlt, hz⟩ := fnd_some hf
    have hm0 : mainE ds = if 0 < ds[k].ps.length then 6 else 0 := by
      unfold mainE; rw [hz, if_neg (by omega), Int.toNat_natCast, List.getElem?_eq_getElem hlt, Option.getD_some]
    have hpl := hlp _ (List.getElem_mem hlt)
    rw [show fnd ds ⟨#[109, 97, 105, 110]⟩ = (k : Int) from hz]
    clear hz
    obtain ⟨q, cap', hq, _, hqlt⟩ := hv.row.form (by omega)
    cases hq
    have hvr := hv.old hT hb
    obtain ⟨pv, bv, t0, t1, t2, t3, t4, hd⟩ := hvr.all.at k hlt
    have d0 := row_cell hvr.row _ _ t0
    have d1 := row_cell hvr.row _ _ t1
    have d2 := row_cell hvr.row _ _ t2
    have d3 := row_cell hvr.row _ _ t3
    have d4 := row_cell hvr.row _ _ t4
    obtain ⟨o1, p1, rfl⟩ := own_form hd.1
    obtain ⟨o2, p2, rfl⟩ := own_form hd.2.1
    clear t0 t1 t2 t3 t4 hvr hd
    by_cases hz : 0 < ds[k].ps.length
    · have HN2 : Hid (mainE ds = 6) := by rw [hm0, if_pos hz]; exact rfl
      have hz' : (0 : Int) < (ds[k].ps.length : Int) := by omega
      clear hz hm0
      go_wp2_with fail
      go_ret
      exact ⟨ret_int HN2.out.symm, hb⟩
    · have HN2 : Hid (mainE ds = 0) := by rw [hm0, if_neg hz]; exact rfl
      have hz' : ¬ (0 : Int) < (ds[k].ps.length : Int) := by omega
      clear hz hm0
      go_wp2_with fail
      go_ret
      exact ⟨ret_int HN2.out.symm, hb⟩

end Go.Proofs.YtnndoagpbcacdaaGreatDoor
namespace Go.Proofs.YtnndoagpbcacdaaGreatDoor
open Go.RowKit

theorem toksF_len (s : ByteArray) (i : Nat) : (toksF s i).length ≤ s.size - i := by
  fun_induction toksF s i with
  | case1 i h ih =>
    have := endF_ge s i (i + 1)
    have h2 := endF_le s i (i + 1) (by omega)
    rw [List.length_append]
    split <;> simp <;> omega
  | case2 i h => simp

structure CInv (n : Nat) (c : Cs) : Prop where
  i1 : c.ds.length ≤ n
  i2 : c.d.ps.length ≤ n
  i3 : c.d.body.length ≤ n
  i4 : ∀ d ∈ c.ds, d.ps.length ≤ n ∧ d.body.length ≤ n
theorem CInv.step {n : Nat} {c : Cs} (h : CInv n c) (t : Tk) : CInv (n + 1) (cStep c t) := by
  obtain ⟨h1, h2, h3, h4⟩ := h
  have h4' : ∀ d ∈ c.ds, d.ps.length ≤ n + 1 ∧ d.body.length ≤ n + 1 := fun d hd => ⟨Nat.le_succ_of_le (h4 d hd).1, Nat.le_succ_of_le (h4 d hd).2⟩
  unfold cStep
  split
  · refine ⟨by simp; omega, by simp [df0], by simp [df0], ?_⟩
    intro d hd
    simp only [List.mem_append, List.mem_cons, List.not_mem_nil, or_false] at hd
    rcases hd with hd | rfl
    · exact h4' d hd
    · exact ⟨Nat.le_succ_of_le h2, Nat.le_succ_of_le h3⟩
  · split
    · exact ⟨Nat.le_succ_of_le h1, Nat.le_succ_of_le h2, Nat.le_succ_of_le h3, h4'⟩
    · split
      · exact ⟨Nat.le_succ_of_le h1, Nat.le_succ_of_le h2, Nat.le_succ_of_le h3, h4'⟩
      · split
        · exact ⟨Nat.le_succ_of_le h1, by simp; omega, Nat.le_succ_of_le h3, h4'⟩
        · exact ⟨Nat.le_succ_of_le h1, Nat.le_succ_of_le h2, by simp; omega, h4'⟩
theorem CInv.all (ts : List Tk) : ∀ (n : Nat) (c : Cs), CInv n c → CInv (n + ts.length) (ts.foldl cStep c) := by
  induction ts with
  | nil => intro n c h; exact h
  | cons t r ih => intro n c h; have := ih (n + 1) _ (h.step t); simp only [List.foldl_cons, List.length_cons]; rw [show n + (r.length + 1) = n + 1 + r.length by omega]; exact this
theorem cAll_inv (ts : List Tk) : CInv ts.length (cAll ts) := by
  have := CInv.all ts 0 ⟨[], df0, 0⟩ ⟨by simp, by simp [df0], by simp [df0], by simp⟩
  rw [Nat.zero_add] at this
  exact this

/-- The place and the error of a text's first fault; (0, 0): it is a program. -/
def chk (s : ByteArray) : Int × Int :=
  if 1000 < s.size then (0, 1)
  else if (gAll s.size g0 (toksF s 0)).2 ≠ 0 then gAll s.size g0 (toksF s 0)
  else if (orErr (twiceF (cAll (toksF s 0)).ds 0 (cAll (toksF s 0)).ds) 4).2 ≠ 0 then orErr (twiceF (cAll (toksF s 0)).ds 0 (cAll (toksF s 0)).ds) 4
  else if (orErr (unkF (cAll (toksF s 0)).ds (cAll (toksF s 0)).ds) 5).2 ≠ 0 then orErr (unkF (cAll (toksF s 0)).ds (cAll (toksF s 0)).ds) 5
  else (0, mainE (cAll (toksF s 0)).ds)

theorem ret_three {v : Value} {a b : Int × Int} (h : a = b) : Ending.returned (.tuple #[v, .int .i64 a.1, .int .i64 a.2]) = .returned (.tuple #[v, .int .i64 b.1, .int .i64 b.2]) := by rw [h]

set_option maxHeartbeats 1000000 in
theorem sParse (s : ByteArray) (w : World) (hs : s.size ≤ maxLen) :
    Calls Tryz.prog 37 #[.string s] w fun e w' => ∃ lv, e = .returned (.tuple #[lv, .int .i64 (chk s).1, .int .i64 (chk s).2]) ∧ Below w.heap.size w w' ∧ (((chk s).2 ≠ 0 ∧ lv = .slice none 0 0) ∨ ((chk s).2 = 0 ∧ s.size ≤ 1000 ∧ ∃ xs, DR w' lv (cAll (toksF s 0)).ds xs w'.heap.size)) := by
  unfold maxLen at hs
  generalize hR : chk s = R
  have HR : Hid (chk s = R) := hR
  clear hR
  by_cases hbig : 1000 < s.size
  · have HE : Hid (((0 : Int), (1 : Int)) = R) := by rw [← HR.out]; simp [Hid, chk, hbig]
    go_enter Tryz.func37, Tryz.ntmps37
    go_wp2_with fail
    go_ret3
    exact ⟨_, ret_three HE.out, Below.refl _ _, .inl ⟨by rw [← HE.out]; simp, rfl⟩⟩
  · have hs2 : s.size ≤ 1000 := by omega
    have htl : (toksF s 0).length ≤ 1000 := Nat.le_trans (toksF_len s 0) (by omega)
    have hci := cAll_inv (toksF s 0)
    have HR2 := HR.out
    unfold chk at HR2
    rw [if_neg hbig] at HR2
    clear HR
    generalize hts : toksF s 0 = ts at *
    have HTS : Hid (toksF s 0 = ts) := hts
    clear hts
    have ok1 : (cAll ts).ds.length ≤ 1000000 := by have := hci.i1; omega
    have ok2 : ∀ d ∈ (cAll ts).ds, d.ps.length ≤ 1000000 := fun d hd => by have := (hci.i4 d hd).1; omega
    have ok3 : ∀ d ∈ (cAll ts).ds, d.body.length ≤ 1000000 := fun d hd => by have := (hci.i4 d hd).2; omega
    clear hci
    have HR3 : Hid _ := HR2
    clear HR2
    go_enter Tryz.func37, Tryz.ntmps37
    go_wp2_with fail
    refine (sCutTokens s _ hs2).mono ?_
    rintro e w1 ⟨v1, rfl, ho1, hb1⟩
    rw [HTS.out] at ho1
    have ho1' := ownsRow_base ho1 (Nat.zero_le _)
    clear ho1
    go_wp2_with fail
    refine (sCheckGrammar s v1 ts _ hs2 htl ho1').mono ?_
    rintro e w2 ⟨rfl, hb2⟩
    have ho2 := ownsRow_old ho1' hb2
    have hb2' := hb1.trans (hb2.mono hb1.size)
    clear hb1 hb2 ho1'
    by_cases hg : (gAll s.size g0 ts).2 = 0
    · have HR4 : Hid _ := (if_neg (by simpa using hg)).symm.trans HR3.out
      clear HR3
      go_wp2_with fail
      clear hg
      refine (sCutDefinitions v1 ts _ htl ho2).mono ?_
      rintro e w3 ⟨v3, rfl, hb3, xs, hr3, hd3⟩
      have hdr : DR w3 v3 (cAll ts).ds xs w3.heap.size := ⟨hr3, hd3⟩
      have hb3' := hb2'.trans (hb3.mono hb2'.size)
      clear hb3 hb2' hr3 hd3 ho2
      go_wp2_with fail
      refine (sCheckTwice v3 _ xs _ _ ok1 ok2 hdr (Nat.le_refl _)).mono ?_
      rintro e w4 ⟨rfl, hb4⟩
      have hdr4 := hdr.old (Nat.le_refl _) hb4
      have hT4 := hb4.size
      have hb4' := hb3'.trans (hb4.mono hb3'.size)
      clear hb4 hb3' hdr
      by_cases h4 : (orErr (twiceF (cAll ts).ds 0 (cAll ts).ds) 4).2 = 0
      · have HR5 : Hid _ := (if_neg (by simpa using h4)).symm.trans HR4.out
        clear HR4
        go_wp2_with fail
        clear h4
        refine (sCheckNames v3 _ xs _ _ ok1 ok2 ok3 hdr4 hT4).mono ?_
        rintro e w5 ⟨rfl, hb5⟩
        have hdr5 := hdr4.old hT4 hb5
        have hT5 := Nat.le_trans hT4 hb5.size
        have hb5' := hb4'.trans (hb5.mono hb4'.size)
        clear hb5 hb4' hdr4 hT4
        by_cases h5 : (orErr (unkF (cAll ts).ds (cAll ts).ds) 5).2 = 0
        · have HR6 : Hid ((0, mainE (cAll ts).ds) = R) := (if_neg (by simpa using h5)).symm.trans HR5.out
          clear HR5
          go_wp2_with fail
          clear h5
          refine (sCheckMain v3 _ xs _ _ ok1 ok2 hdr5 hT5).mono ?_
          rintro e w6 ⟨rfl, hb6⟩
          have hdr6 := hdr5.old hT5 hb6
          have hT6 := Nat.le_trans hT5 hb6.size
          have hb6' := hb5'.trans (hb6.mono hb5'.size)
          clear hb6 hb5' hdr5 hT5
          by_cases h6 : mainE (cAll ts).ds = 0
          · go_wp2_with fail
            go_ret3
            refine ⟨_, ret_three (a := (0, 0)) (Eq.trans (by rw [h6]) HR6.out), hb6', .inr ⟨(congrArg Prod.snd HR6.out).symm.trans h6, hs2, xs, ?_⟩⟩
            exact ⟨hdr6.row, hdr6.all.up hT6⟩
          · have h6' : (mainE (cAll ts).ds == 0) = false := by simpa using h6
            go_wp2_with fail
            go_ret3
            exact ⟨_, ret_three HR6.out, hb6', .inl ⟨by rw [← HR6.out]; exact h6, rfl⟩⟩
        · have HR6 : Hid _ := (if_pos (by simpa using h5)).symm.trans HR5.out
          have h5' : ((orErr (unkF (cAll ts).ds (cAll ts).ds) 5).2 == 0) = false := by simpa using h5
          clear HR5
          go_wp2_with fail
          go_ret3
          exact ⟨_, ret_three HR6.out, hb5', .inl ⟨by rw [← HR6.out]; exact h5, rfl⟩⟩
      · have HR6 : Hid _ := (if_pos (by simpa using h4)).symm.trans HR4.out
        have h4' : ((orErr (twiceF (cAll ts).ds 0 (cAll ts).ds) 4).2 == 0) = false := by simpa using h4
        clear HR4
        go_wp2_with fail
        go_ret3
        exact ⟨_, ret_three HR6.out, hb4', .inl ⟨by rw [← HR6.out]; exact h4, rfl⟩⟩
    · have HR6 : Hid _ := (if_pos (by simpa using hg)).symm.trans HR3.out
      have hg' : ((gAll s.size g0 ts).2 == 0) = false := by simpa using hg
      clear HR3
      go_wp2_with fail
      go_ret3
      exact ⟨_, ret_three HR6.out, hb2', .inl ⟨by rw [← HR6.out]; exact hg, rfl⟩⟩

set_option maxHeartbeats 400000 in
theorem sCheck (s : ByteArray) (w : World) (hs : s.size ≤ maxLen) :
    Calls Tryz.prog 45 #[.string s] w fun e w' => e = .returned (.tuple #[.int .i64 (chk s).1, .int .i64 (chk s).2]) ∧ Below w.heap.size w w' := by
  go_enter Tryz.func45, Tryz.ntmps45
  go_wp2_with fail
  refine (sParse s _ hs).mono ?_
  rintro e w1 ⟨lv, rfl, hb1, _⟩
  go_wp2_with fail
  go_ret2
  exact ⟨rfl, hb1⟩

set_option maxHeartbeats 400000 in
theorem xCheck (s : ByteArray) (w : World) (hs : s.size ≤ maxLen) :
    Calls Tryz.prog 30 #[.string s] w fun e w' => e = .returned (.tuple #[.int .i64 (chk s).1, .int .i64 (chk s).2]) ∧ Below w.heap.size w w' := by
  go_enter Tryz.func30, Tryz.ntmps30
  go_wp2_with fail
  refine (sCheck s _ hs).mono ?_
  rintro e w1 ⟨rfl, hb1⟩
  go_wp2_with fail
  go_ret2
  exact ⟨rfl, hb1⟩

end Go.Proofs.YtnndoagpbcacdaaGreatDoor
