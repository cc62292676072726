import Derived.Test.YtnndoagpbcacdaaGreatDoorA8
import Derived.Deep.RegionWith
namespace Go.Proofs.YtnndoagpbcacdaaGreatDoor
open Go.RowKit

def hasP (ps : List Tk) (n : ByteArray) : Bool := ps.any fun p => p.txt.toList == n.toList
def hasF (ds : List Df) (n : ByteArray) : Bool := ds.any fun d => d.name.txt.toList == n.toList

theorem any_take_succ {α : Type} (l : List α) (f : α → Bool) (k : Nat) (h : k < l.length) : (l.take (k + 1)).any f = ((l.take k).any f || f l[k]) := by
  rw [List.take_succ_eq_append_getElem h, List.any_append]; simp only [List.any_cons, List.any_nil, Bool.or_false]
theorem any_hit {α : Type} (l : List α) (f : α → Bool) (k : Nat) (h : k < l.length) (hf : f l[k] = true) : l.any f = true := by
  rw [List.any_eq_true]; exact ⟨l[k], List.getElem_mem h, hf⟩

/-- Which token has this text; -1: none. -/
def whr (ts : List Tk) (s : ByteArray) : Int := match ts.findIdx? (fun t => t.txt.toList == s.toList) with
  | some i => (i : Int)
  | none => -1
theorem whr_hasP (ts : List Tk) (s : ByteArray) : decide (0 ≤ whr ts s) = hasP ts s := by
  unfold whr hasP
  cases h : ts.findIdx? (fun t => t.txt.toList == s.toList) with
  | none =>
    rw [List.findIdx?_eq_none_iff] at h
    have : ts.any (fun p => p.txt.toList == s.toList) = false := by
      rw [List.any_eq_false]; intro x hx; simpa using h x hx
    rw [this]; rfl
  | some i =>
    have := List.findIdx?_eq_some_iff_getElem.1 h
    obtain ⟨hi, h1, _⟩ := this
    rw [any_hit ts _ i hi h1]
    simp
theorem whr_pos {ts : List Tk} {s : ByteArray} (h : hasP ts s = true) : 0 ≤ whr ts s := by rw [← whr_hasP] at h; simpa using h
theorem whr_neg {ts : List Tk} {s : ByteArray} (h : hasP ts s = false) : whr ts s < 0 := by rw [← whr_hasP] at h; simpa using h
theorem hasP_names (ds : List Df) (s : ByteArray) : hasP (ds.map (·.name)) s = hasF ds s := by
  unfold hasP hasF; rw [List.any_map]; rfl

theorem whr_take_hit {ts : List Tk} {n : ByteArray} (k : Nat) (h : k < ts.length) (h0 : hasP (ts.take k) n = false) (he : (ts[k].txt.toList == n.toList) = true) : whr ts n = (k : Int) := by
  have : ts.findIdx? (fun t => t.txt.toList == n.toList) = some k := by
    rw [List.findIdx?_eq_some_iff_getElem]
    refine ⟨h, he, ?_⟩
    intro j hj
    unfold hasP at h0
    rw [List.any_eq_false] at h0
    have := h0 ts[j] (List.mem_take_iff_getElem.2 ⟨j, by omega, rfl⟩)
    simpa using this
  unfold whr; rw [this]
theorem whr_none {ts : List Tk} {n : ByteArray} (h0 : hasP ts n = false) : whr ts n = -1 := by
  have : ts.findIdx? (fun t => t.txt.toList == n.toList) = none := by
    rw [List.findIdx?_eq_none_iff]
    unfold hasP at h0
    rw [List.any_eq_false] at h0
    intro x hx; simpa using h0 x hx
  unfold whr; rw [this]
theorem whr_some {ts : List Tk} {n : ByteArray} (h0 : hasP ts n = true) : ∃ i : Nat, i < ts.length ∧ whr ts n = (i : Int) := by
  have h := whr_pos h0
  unfold whr at h ⊢
  cases hf : ts.findIdx? (fun t => t.txt.toList == n.toList) with
  | none => rw [hf] at h; simp at h
  | some i => exact ⟨i, (List.findIdx?_eq_some_iff_getElem.1 hf).1, rfl⟩

set_option maxHeartbeats 400000 in
theorem sFindParameter (v : Value) (ps : List Tk) (n : ByteArray) (w : World) (hl : ps.length ≤ 1000000) (hv : w.ownsRow 0 84 3 v ps.length (tcs ps)) :
    Calls Tryz.prog 101 #[v, .string n] w fun e w' => e = .returned (.int .i64 (whr ps n)) ∧ Below w.heap.size w w' := by
  obtain ⟨ao, cap, rfl⟩ := own_form hv
  go_enter Tryz.func101, Tryz.ntmps101
  go_wp2_with fail
  go_loopw [9] (fun a wr => ∃ (k : Nat), k ≤ ps.length ∧ a = .int .i64 k ∧ Hid (hasP (ps.take k) n = false) ∧ Below w.heap.size w wr) (fun a _ => ps.length - (intOf a).toNat)
  case atStart => exact ⟨0, Nat.zero_le _, rfl, by simp [Hid, hasP], Below.refl _ _⟩
  case round =>
    obtain ⟨k, hk, rfl, HH, hb⟩ := hrel
    by_cases hlt : k < ps.length
    · obtain ⟨q, cap', hq, _, hqlt⟩ := hv.form (by omega)
      cases hq
      have hvr := ownsRow_old hv hb
      have ⟨t0, t1, t2⟩ := tcs_at ps k hlt
      have d0 := row_cell hvr _ _ t0
      have d1 := row_cell hvr _ _ t1
      have d2 := row_cell hvr _ _ t2
      clear t0 t1 t2 hvr
      cases he : (ps[k].txt.toList == n.toList)
      · go_wp2_with fail
        go_roundw
        case rel => exact ⟨k + 1, by omega, by go_num, by show hasP _ _ = _; unfold hasP; rw [any_take_succ _ _ _ hlt]; simp only [he, Bool.or_false]; exact HH.out, hb.alloc hb.size _⟩
        case measure => simp [intOf]; omega
      · have HE : Hid ((k : Int) = whr ps n) := (whr_take_hit k hlt HH.out he).symm
        go_wp2_with fail
        go_ret
        exact ⟨ret_int HE.out, hb.alloc hb.size _⟩
    · have HE : Hid ((-1 : Int) = whr ps n) := by have := HH.out; rw [List.take_of_length_le (by omega)] at this; exact (whr_none this).symm
      go_wp2_with fail
      go_ret
      exact ⟨ret_int HE.out, hb⟩

theorem DList.at {w : World} {T : Nat} : ∀ {ds : List Df} {xs : List Value}, DList w T ds xs → ∀ (i : Nat) (h : i < ds.length), ∃ pv bv, xs[i * 5]? = some (.int .i64 (kindOf (ds[i]'h).name.txt)) ∧ xs[i * 5 + 1]? = some (.int .i64 (ds[i]'h).name.pos) ∧ xs[i * 5 + 2]? = some (.string (ds[i]'h).name.txt) ∧ xs[i * 5 + 3]? = some pv ∧ xs[i * 5 + 4]? = some bv ∧ DOk w T (ds[i]'h) pv bv
  | [], _, _, i, h => by simp at h
  | d :: ds, _, ⟨pv, bv, r, rfl, h2, h3⟩, 0, _ => ⟨pv, bv, rfl, rfl, rfl, rfl, rfl, h2⟩
  | d :: ds, _, ⟨pv, bv, r, rfl, h2, h3⟩, i + 1, h => by
    obtain ⟨p, b, e0, e1, e2, e3, e4, e5⟩ := DList.at h3 i (by simpa using h)
    refine ⟨p, b, ?_, ?_, ?_, ?_, ?_, e5⟩
    · rw [show (i + 1) * 5 = i * 5 + 1 + 1 + 1 + 1 + 1 by omega]; exact e0
    · rw [show (i + 1) * 5 + 1 = (i * 5 + 1) + 1 + 1 + 1 + 1 + 1 by omega]; exact e1
    · rw [show (i + 1) * 5 + 2 = (i * 5 + 2) + 1 + 1 + 1 + 1 + 1 by omega]; exact e2
    · rw [show (i + 1) * 5 + 3 = (i * 5 + 3) + 1 + 1 + 1 + 1 + 1 by omega]; exact e3
    · rw [show (i + 1) * 5 + 4 = (i * 5 + 4) + 1 + 1 + 1 + 1 + 1 by omega]; exact e4

/-- Definitions in memory, for reading. -/
structure DR (w : World) (v : Value) (ds : List Df) (xs : List Value) (T : Nat) : Prop where
  row : w.ownsRow 0 87 5 v ds.length xs
  all : DList w T ds xs
theorem DR.old {w w' : World} {v : Value} {ds : List Df} {xs : List Value} {T : Nat} (h : DR w v ds xs T) (hT : T ≤ w.heap.size) (hb : Below w.heap.size w w') : DR w' v ds xs T :=
  ⟨ownsRow_old h.row hb, h.all.keep (hb.mono hT)⟩
theorem ownsRow_take {w : World} {base : Nat} {e : TypeId} {size n q cap m : Nat} {xs : List Value} (h : w.ownsRow base e size (.slice (some ⟨q, 0, none⟩) n cap) n xs) (hm : m ≤ n) : w.ownsRow base e size (.slice (some ⟨q, 0, none⟩) m cap) m (xs.take (m * size)) := by
  obtain ⟨h1, h2⟩ := h
  have hms : m * size ≤ n * size := Nat.mul_le_mul_right _ hm
  refine ⟨by rw [List.length_take, h1, Nat.min_eq_left hms], ?_⟩
  rcases h2 with ⟨h0, _⟩ | ⟨g, cap', cur, h0, hg, hh, hn, hc, hs, ht⟩
  · cases h0
  · cases h0
    refine .inr ⟨q, cap, cur, rfl, hg, hh, by omega, hc, hs, ?_⟩
    rw [← ht, List.take_take, Nat.min_eq_left hms]
theorem DList.take {w : World} {T : Nat} : ∀ {ds : List Df} {xs : List Value}, DList w T ds xs → ∀ i, DList w T (ds.take i) (xs.take (i * 5))
  | _, xs, h, 0 => by simp [DList]
  | [], _, h, i + 1 => by rw [show _ = ([] : List Value) from h]; simp [DList]
  | d :: ds, _, ⟨pv, bv, r, rfl, h2, h3⟩, i + 1 => by
    have := DList.take h3 i
    refine ⟨pv, bv, r.take (i * 5), ?_, h2, this⟩
    rw [show (i + 1) * 5 = i * 5 + 1 + 1 + 1 + 1 + 1 by omega]
    rfl
theorem tcs_take (ts : List Tk) (i : Nat) : (tcs ts).take (i * 3) = tcs (ts.take i) := by
  induction ts generalizing i with
  | nil => simp [tcs]
  | cons t r ih =>
    cases i with
    | zero => simp [tcs]
    | succ i =>
      have := ih i
      simp only [tcs, List.flatMap_cons, tcells, List.take_succ_cons] at this ⊢
      rw [show (i + 1) * 3 = i * 3 + 1 + 1 + 1 by omega]
      simp [this]

def fnd (ds : List Df) (n : ByteArray) : Int := whr (ds.map (·.name)) n
theorem fnd_none {ds : List Df} {n : ByteArray} (h : hasF ds n = false) : fnd ds n = -1 := whr_none (by rw [hasP_names]; exact h)
theorem fnd_some {ds : List Df} {n : ByteArray} (h : hasF ds n = true) : ∃ i : Nat, i < ds.length ∧ fnd ds n = (i : Int) := by
  obtain ⟨i, h1, h2⟩ := whr_some (ts := ds.map (·.name)) (n := n) (by rw [hasP_names]; exact h)
  exact ⟨i, by simpa using h1, h2⟩

set_option maxHeartbeats 400000 in
theorem sFindFunction (v : Value) (ds : List Df) (xs : List Value) (T : Nat) (n : ByteArray) (w : World) (hl : ds.length ≤ 1000000) (hv : DR w v ds xs T) (hT : T ≤ w.heap.size) :
    Calls Tryz.prog 38 #[v, .string n] w fun e w' => e = .returned (.int .i64 (fnd ds n)) ∧ Below w.heap.size w w' := by
  obtain ⟨ao, cap, rfl⟩ := own_form hv.row
  go_enter Tryz.func38, Tryz.ntmps38
  go_wp2_with fail
  go_loopw [9] (fun a wr => ∃ (k : Nat), k ≤ ds.length ∧ a = .int .i64 k ∧ Hid (hasF (ds.take k) n = false) ∧ Below w.heap.size w wr) (fun a _ => ds.length - (intOf a).toNat)
  case atStart => exact ⟨0, Nat.zero_le _, rfl, by simp [Hid, hasF], Below.refl _ _⟩
  case round =>
    obtain ⟨k, hk, rfl, HH, hb⟩ := hrel
    by_cases hlt : k < ds.length
    · obtain ⟨q, cap', hq, _, hqlt⟩ := hv.row.form (by omega)
      cases hq
      have hvr := hv.old hT hb
      obtain ⟨pv, bv, t0, t1, t2, t3, t4, hd⟩ := hvr.all.at k hlt
      have d0 := row_cell hvr.row _ _ t0
      have d1 := row_cell hvr.row _ _ t1
      have d2 := row_cell hvr.row _ _ t2
      have d3 := row_cell hvr.row _ _ t3
      have d4 := row_cell hvr.row _ _ t4
      obtain ⟨o1, p1, rfl⟩ := own_form hd.1
      obtain ⟨o2, p2, rfl⟩ := own_form hd.2.1
      clear t0 t1 t2 t3 t4 hvr hd
      cases he : (ds[k].name.txt.toList == n.toList)
      · go_wp2_with fail
        go_roundw
        case rel => exact ⟨k + 1, by omega, by go_num, by show hasF _ _ = _; unfold hasF; rw [any_take_succ _ _ _ hlt]; simp only [he, Bool.or_false]; exact HH.out, hb.alloc hb.size _⟩
        case measure => simp [intOf]; omega
      · have HE : Hid ((k : Int) = fnd ds n) := (whr_take_hit k (by simpa using hlt) (by rw [← List.map_take, hasP_names]; exact HH.out) (by simpa using he)).symm
        go_wp2_with fail
        go_ret
        exact ⟨ret_int HE.out, hb.alloc hb.size _⟩
    · have HE : Hid ((-1 : Int) = fnd ds n) := by have := HH.out; rw [List.take_of_length_le (by omega)] at this; exact (fnd_none this).symm
      go_wp2_with fail
      go_ret
      exact ⟨ret_int HE.out, hb⟩

/-- The place and the error of the first name that is given twice: from definition i on. -/
def twiceP (ps : List Tk) : Nat → List Tk → Option Nat
  | _, [] => none
  | j, p :: r => if hasP (ps.take j) p.txt then some p.pos else twiceP ps (j + 1) r
def twiceF (ds : List Df) : Nat → List Df → Option Nat
  | _, [] => none
  | i, d :: r => if hasF (ds.take i) d.name.txt then some d.name.pos else match twiceP d.ps 0 d.ps with
    | some p => some p
    | none => twiceF ds (i + 1) r
def orErr (o : Option Nat) (e : Int) : Int × Int := match o with
  | some p => (p, e)
  | none => (0, 0)

theorem DR.take {w : World} {q cap k T : Nat} {ds : List Df} {xs : List Value} (h : DR w (.slice (some ⟨q, 0, none⟩) ds.length cap) ds xs T) (hk : k ≤ ds.length) : DR w (.slice (some ⟨q, 0, none⟩) k cap) (ds.take k) (xs.take (k * 5)) T :=
  ⟨by rw [List.length_take, Nat.min_eq_left hk]; exact ownsRow_take h.row hk, h.all.take k⟩
theorem tok_take {w : World} {base q cap k : Nat} {ts : List Tk} (h : w.ownsRow base 84 3 (.slice (some ⟨q, 0, none⟩) ts.length cap) ts.length (tcs ts)) (hk : k ≤ ts.length) : w.ownsRow base 84 3 (.slice (some ⟨q, 0, none⟩) k cap) (ts.take k).length (tcs (ts.take k)) := by
  rw [List.length_take, Nat.min_eq_left hk, ← tcs_take]; exact ownsRow_take h hk
theorem box_later {w w1 : World} {o : Obj} (hb : Below (w.alloc o).drew.heap.size (w.alloc o).drew w1) : w1.heap[w.heap.size]? = some o :=
  (hb.block w.heap.size (by simp [heap_drew])).trans (heap_alloc_new w o)
def contR (P : List Tk) (ds : List Df) (k j : Nat) : Int × Int := match twiceP P j (P.drop j) with
  | some p => (p, 4)
  | none => orErr (twiceF ds (k + 1) (ds.drop (k + 1))) 4
theorem twiceF_hit (ds : List Df) (k : Nat) (h : k < ds.length) (hh : hasF (ds.take k) ds[k].name.txt = true) : orErr (twiceF ds k (ds.drop k)) 4 = (((ds[k].name.pos : Nat) : Int), 4) := by
  rw [List.drop_eq_getElem_cons h, twiceF, if_pos hh]; rfl
theorem twiceF_miss (ds : List Df) (k : Nat) (h : k < ds.length) (hh : hasF (ds.take k) ds[k].name.txt = false) : orErr (twiceF ds k (ds.drop k)) 4 = contR ds[k].ps ds k 0 := by
  rw [List.drop_eq_getElem_cons h, twiceF, hh, contR]
  simp only [Bool.false_eq_true, if_false, List.drop_zero]
  cases twiceP ds[k].ps 0 ds[k].ps <;> rfl
theorem contR_hit (P : List Tk) (ds : List Df) (k j : Nat) (h : j < P.length) (hh : hasP (P.take j) P[j].txt = true) : contR P ds k j = (((P[j].pos : Nat) : Int), 4) := by
  rw [contR, List.drop_eq_getElem_cons h, twiceP, if_pos hh]
theorem contR_miss (P : List Tk) (ds : List Df) (k j : Nat) (h : j < P.length) (hh : hasP (P.take j) P[j].txt = false) : contR P ds k j = contR P ds k (j + 1) := by
  rw [contR, List.drop_eq_getElem_cons h, twiceP, hh]; rfl
theorem contR_end (P : List Tk) (ds : List Df) (k j : Nat) (h : ¬ j < P.length) : contR P ds k j = orErr (twiceF ds (k + 1) (ds.drop (k + 1))) 4 := by
  rw [contR, List.drop_eq_nil_of_le (by omega), twiceP]

set_option maxHeartbeats 4000000 in
theorem sCheckTwice (v : Value) (ds : List Df) (xs : List Value) (T : Nat) (w : World) (hl : ds.length ≤ 1000000) (hlp : ∀ d ∈ ds, d.ps.length ≤ 1000000) (hv : DR w v ds xs T) (hT : T ≤ w.heap.size) :
    Calls Tryz.prog 62 #[v] w fun e w' => e = .returned (.tuple #[.int .i64 (orErr (twiceF ds 0 ds) 4).1, .int .i64 (orErr (twiceF ds 0 ds) 4).2]) ∧ Below w.heap.size w w' := by
  obtain ⟨ao, cap, rfl⟩ := own_form hv.row
  generalize hR : orErr (twiceF ds 0 ds) 4 = R
  have HR : Hid (orErr (twiceF ds 0 ds) 4 = R) := hR
  clear hR
  go_enter Tryz.func62, Tryz.ntmps62
  go_wp2_with fail
  go_loopw [10] (fun a wr => ∃ (k : Nat), k ≤ ds.length ∧ a = .int .i64 k ∧ Hid (orErr (twiceF ds k (ds.drop k)) 4 = R) ∧ Below w.heap.size w wr) (fun a _ => ds.length - (intOf a).toNat)
  case atStart => exact ⟨0, Nat.zero_le _, rfl, HR, Below.refl _ _⟩
  case round =>
    obtain ⟨k, hk, rfl, HH, hb⟩ := hrel
    by_cases hlt : k < ds.length
    · obtain ⟨q, cap', hq, _, hqlt⟩ := hv.row.form (by omega)
      cases hq
      have hvr := hv.old hT hb
      obtain ⟨pv, bv, t0, t1, t2, t3, t4, hd⟩ := hvr.all.at k hlt
      have d0 := row_cell hvr.row _ _ t0
      have d1 := row_cell hvr.row _ _ t1
      have d2 := row_cell hvr.row _ _ t2
      have d3 := row_cell hvr.row _ _ t3
      have d4 := row_cell hvr.row _ _ t4
      obtain ⟨o1, p1, rfl⟩ := own_form hd.1
      obtain ⟨o2, p2, rfl⟩ := own_form hd.2.1
      clear t0 t1 t2 t3 t4
      have hcapl : ds.length ≤ cap := own_cap hv.row
      have hkc : (k : Int) ≤ (cap : Int) := by omega
      have hk0 : (0 : Int) ≤ (k : Int) := by omega
      have hdl : ds[k].ps.length ≤ 1000000 := hlp _ (List.getElem_mem hlt)
      have hdT : T ≤ wr.heap.size := Nat.le_trans hT hb.size
      go_wp2_with fail
      go_region_with (go_at_call 38; go_must (refine (sFindFunction _ (ds.take k) (xs.take (k * 5)) T _ _ (by simp; omega) (by exact DR.take (hvr.old hdT (Below.drew ((Below.refl _ _).alloc (Nat.le_refl _) _))) (by omega)) (by simp; omega)).mono ?_); rintro e w1 ⟨rfl, hb1⟩)
      all_goals
        have hbx := box_later (w := wr) (w1 := w1) hb1
        have hb2 : Below w.heap.size w w1 := (Below.drew (hb.alloc hb.size _)).trans (Below.mono hb1 (by simp [heap_drew]; have := hb.size; omega))
        have hp2 := ownsRow_old (World.ownsRow.drew (hd.1.alloc _)) hb1
        clear hb1 hb
        cases hf : hasF (ds.take k) ds[k].name.txt
        · rw [fnd_none hf]
          have HC : Hid (contR ds[k].ps ds k 0 = R) := (twiceF_miss ds k hlt hf).symm.trans HH.out
          have g3 := cell_of_row w1 wr.heap.size 3 _ _ _ hbx
          simp only [List.getElem?_toArray, List.getElem?_cons_succ, List.getElem?_cons_zero] at g3
          obtain ⟨wo, rfl⟩ : ∃ wo : World, wo = wr := ⟨_, rfl⟩
          go_wp2_with fail
          generalize hP : ds[k].ps = P at *
          clear g3
          go_loopw [29] (fun a wx => ∃ (j : Nat), j ≤ P.length ∧ a = .int .i64 j ∧ Hid (contR P ds k j = R) ∧ Below w.heap.size w wx ∧ wx.ownsRow 0 84 3 (.slice o1 P.length p1) P.length (tcs P) ∧ wx.heap[wo.heap.size]? = some (.cells #[.int .i64 (kindOf ds[k].name.txt), .int .i64 ds[k].name.pos, .string ds[k].name.txt, .slice o1 P.length p1, .slice o2 ds[k].body.length p2] 87 (0, 0))) (fun a _ => P.length - (intOf a).toNat)
          case atStart => exact ⟨0, Nat.zero_le _, rfl, HC, hb2, hp2, hbx⟩
          case round =>
            clear hp2 hb2 hbx
            obtain ⟨j, hj, rfl, HC2, hb2, hp2, hbx⟩ := hrel
            by_cases hjl : j < P.length
            · obtain ⟨q1, cap1, hq1, _, _⟩ := hp2.form (by omega)
              cases hq1
              have ⟨s0, s1, s2⟩ := tcs_at P j hjl
              have x0 := row_cell hp2 _ _ s0
              have x1 := row_cell hp2 _ _ s1
              have x2 := row_cell hp2 _ _ s2
              have g3 := cell_of_row wr wo.heap.size 3 _ _ _ hbx
              simp only [List.getElem?_toArray, List.getElem?_cons_succ, List.getElem?_cons_zero] at g3
              have hwo : wo.heap.size < wr.heap.size := (Array.getElem?_eq_some_iff.1 hbx).1
              have hc1 : P.length ≤ p1 := own_cap hp2
              have hc2 : (j : Int) ≤ (p1 : Int) := by omega
              have hc3 : (0 : Int) ≤ (j : Int) := by omega
              clear s0 s1 s2 d0 d1 d2 d3 d4
              go_wp2_with fail
              go_region_with (go_at_call 101; go_must (refine (sFindParameter _ (P.take j) _ _ (by simp; omega) (by exact tok_take (World.ownsRow.drew (hp2.alloc _)) (by omega))).mono ?_); rintro e w2 ⟨rfl, hb3⟩)
              all_goals
                have hbp := box_later (w := wr) (w1 := w2) hb3
                have hbx2 := (hb3.block wo.heap.size (by simp [heap_drew]; omega)).trans ((Below.heap_alloc wr _ _ hwo).trans hbx)
                have hp3 := ownsRow_old (World.ownsRow.drew (hp2.alloc _)) hb3
                have hb4 : Below w.heap.size w w2 := (Below.drew (hb2.alloc hb2.size _)).trans (Below.mono hb3 (by simp [heap_drew]; have := hb2.size; omega))
                clear hb3 hbx hp2 hb2 g3 x0 x1 x2
                cases hf2 : hasP (P.take j) P[j].txt
                · rw [whr_none hf2]
                  have HC3 : Hid (contR P ds k (j + 1) = R) := (contR_miss P ds k j hjl hf2).symm.trans HC2.out
                  go_wp2_with fail
                  go_roundw
                  case rel => exact ⟨j + 1, by omega, by go_num, HC3, hb4, hp3, hbx2⟩
                  case measure => simp [intOf]; omega
                · obtain ⟨i2, _, hi2⟩ := whr_some hf2
                  rw [hi2]
                  clear hi2
                  have HE : Hid ((((P[j].pos : Nat) : Int), (4 : Int)) = R) := (contR_hit P ds k j hjl hf2).symm.trans HC2.out
                  have g1 := cell_of_row w2 wr.heap.size 1 _ _ _ hbp
                  simp only [List.getElem?_toArray, List.getElem?_cons_succ, List.getElem?_cons_zero] at g1
                  go_wp2_with fail
                  go_ret2
                  exact ⟨ret_two HE.out, hb4⟩
            · have HC3 : Hid (orErr (twiceF ds (k + 1) (ds.drop (k + 1))) 4 = R) := (contR_end P ds k j hjl).symm.trans HC2.out
              go_wp2_with fail
              go_roundw
              case rel => exact ⟨k + 1, by omega, by go_num, HC3, hb2⟩
              case measure => simp [intOf]; omega
        · obtain ⟨i2, _, hi2⟩ := fnd_some hf
          rw [hi2]
          clear hi2
          have HE : Hid ((((ds[k].name.pos : Nat) : Int), (4 : Int)) = R) := (twiceF_hit ds k hlt hf).symm.trans HH.out
          have g1 := cell_of_row w1 wr.heap.size 1 _ _ _ hbx
          simp only [List.getElem?_toArray, List.getElem?_cons_succ, List.getElem?_cons_zero] at g1
          go_wp2_with fail
          go_ret2
          exact ⟨ret_two HE.out, hb2⟩
    · have HE : Hid (((0 : Int), (0 : Int)) = R) := by have := HH.out; rw [List.drop_eq_nil_of_le (by omega)] at this; exact this
      go_wp2_with fail
      go_ret2
      exact ⟨ret_two HE.out, hb⟩

end Go.Proofs.YtnndoagpbcacdaaGreatDoor
