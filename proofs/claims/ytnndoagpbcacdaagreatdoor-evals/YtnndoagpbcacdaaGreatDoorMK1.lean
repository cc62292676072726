import Derived.Test.YtnndoagpbcacdaaGreatDoorMW5
import Derived.Test.YtnndoagpbcacdaaGreatDoorMS2
import Derived.Test.YtnndoagpbcacdaaGreatDoorMB0
import Derived.Deep.QuietTactic
import Derived.BigQuiet
namespace Go.Proofs.YtnndoagpbcacdaaGreatDoor
open Go.RowKit

/-! Package source: compile.go: atoms. -/
set_option maxHeartbeats 1000000 in
theorem sNumberOf (s : ByteArray) (w : World) (hs : s.size ≤ 6) (hd : digL s.data.toList) :
    Calls Tryz.prog 103 #[.string s] w fun e w' => e = .returned (.int .i64 (valL s.data.toList)) ∧ w' = w := by
  have HSL : Hid (s.size = s.data.toList.length) := size_len s
  go_enter Tryz.func103, Tryz.ntmps103
  go_wp2_with fail
  go_loop [3, 4] (fun a b => ∃ k : Nat, k ≤ s.size ∧ b = .int .i64 k ∧ a = .int .i64 (valL (s.data.toList.take k))) (fun _ b => s.size - (intOf b).toNat)
  case atStart => exact ⟨0, Nat.zero_le _, rfl, rfl⟩
  case round =>
    obtain ⟨k, hk, rfl, rfl⟩ := hrel
    by_cases hlt : k < s.size
    · have hkl : k < s.data.toList.length := by rw [← HSL.out]; exact hlt
      have hbk := bt_eq s k hlt
      have hbg := bt_get s k hkl
      have hdk := hd _ (List.getElem_mem hkl)
      have hb1 : 48 ≤ bt s k := by rw [hbg]; omega
      have hb2 : bt s k ≤ 57 := by rw [hbg]; omega
      have hv := valL_le (s.data.toList.take k) (fun c hc => hd c (List.mem_of_mem_take hc))
      have hv0 := hv.1
      have hv1 : valL (s.data.toList.take k) ≤ 99999 := by
        have h1 := hv.2
        have h2 : (s.data.toList.take k).length ≤ 5 := by rw [List.length_take]; omega
        have h3 : (10 : Int) ^ (s.data.toList.take k).length ≤ 10 ^ 5 := by exact_mod_cast Nat.pow_le_pow_right (by decide) h2
        have h4 : (10 : Int) ^ 5 = 100000 := by decide
        omega
      have HN : Hid (valL (s.data.toList.take (k + 1)) = 10 * valL (s.data.toList.take k) + (bt s k - 48)) := by
        show _ = _
        rw [List.take_succ_eq_append_getElem hkl, valL_snoc, hbg]
      clear hv hbg hdk
      go_wp2_with fail
      go_round
      case rel => exact ⟨k + 1, hlt, by go_num, by rw [HN.out]⟩
      case measure => simp [intOf]; omega
    · have hk2 : k = s.size := by omega
      have HE : Hid (s.data.toList.take k = s.data.toList) := List.take_of_length_le (by rw [← HSL.out]; omega)
      rw [HE.out]
      go_wp2_with fail
      go_ret
      exact ⟨rfl, rfl⟩

def primP (l : List UInt8) : Int := if l == [43] then 0 else if l == [45] then 1 else if l == [42] then 2 else if l == [60] then 3 else 4
set_option maxHeartbeats 1000000 in
theorem sPrimOf (s : ByteArray) (w : World) :
    Calls Tryz.prog 104 #[.string s] w fun e w' => e = .returned (.int .i64 (primP s.toList)) ∧ w' = w := by
  cases h1 : (s.toList == [43])
  · cases h2 : (s.toList == [45])
    · cases h3 : (s.toList == [42])
      · cases h4 : (s.toList == [60])
        · have HE : Hid ((4 : Int) = primP s.toList) := by simp [Hid, primP, h1, h2, h3, h4]
          go_enter Tryz.func104, Tryz.ntmps104
          go_wp2_with fail
          go_ret
          exact ⟨ret_int HE.out, rfl⟩
        · have HE : Hid ((3 : Int) = primP s.toList) := by simp [Hid, primP, h1, h2, h3, h4]
          go_enter Tryz.func104, Tryz.ntmps104
          go_wp2_with fail
          go_ret
          exact ⟨ret_int HE.out, rfl⟩
      · have HE : Hid ((2 : Int) = primP s.toList) := by simp [Hid, primP, h1, h2, h3]
        go_enter Tryz.func104, Tryz.ntmps104
        go_wp2_with fail
        go_ret
        exact ⟨ret_int HE.out, rfl⟩
    · have HE : Hid ((1 : Int) = primP s.toList) := by simp [Hid, primP, h1, h2]
      go_enter Tryz.func104, Tryz.ntmps104
      go_wp2_with fail
      go_ret
      exact ⟨ret_int HE.out, rfl⟩
  · have HE : Hid ((0 : Int) = primP s.toList) := by simp [Hid, primP, h1]
    go_enter Tryz.func104, Tryz.ntmps104
    go_wp2_with fail
    go_ret
    exact ⟨ret_int HE.out, rfl⟩

def atomF (ps : List Tk) (ds : List Df) (t : Tk) : Int × Int :=
  if kindOf t.txt = 2 then (1, valL t.txt.data.toList) else if kindOf t.txt = 3 then (4, primP t.txt.toList) else if 0 ≤ whr ps t.txt then (2, whr ps t.txt) else (3, fnd ds t.txt)

theorem three_later {w w1 : World} {o o2 o3 : Obj} (hb : Below (((w.alloc o).alloc o2).alloc o3).heap.size (((w.alloc o).alloc o2).alloc o3) w1) : w1.heap[w.heap.size]? = some o ∧ w1.heap[w.heap.size + 1]? = some o2 ∧ w1.heap[w.heap.size + 2]? = some o3 := by
  have h := two_later (w := w) (o := o) (o2 := o2) (w1 := (w.alloc o).alloc o2) (Below.refl _ _)
  refine ⟨(hb.block w.heap.size (by simp; omega)).trans ((Below.heap_alloc _ _ _ (by simp; omega)).trans h.1), (hb.block (w.heap.size + 1) (by simp)).trans ((Below.heap_alloc _ _ _ (by simp)).trans h.2), ?_⟩
  have := heap_alloc_new ((w.alloc o).alloc o2) o3
  simp only [World.size_alloc] at this
  exact (hb.block (w.heap.size + 2) (by simp)).trans this

set_option maxHeartbeats 4000000 in
theorem sSimpleAtom (ds : List Df) (xs : List Value) (lv : Value) (T : Nat) (d : Df) (pv bv : Value) (t : Tk) (w : World) (hl : ds.length ≤ 1000) (hlp : d.ps.length ≤ 1000) (hv : DR w lv ds xs T) (hT : T ≤ w.heap.size) (hok : DOk w T d pv bv)
    (hnum : kindOf t.txt = 2 → t.txt.size ≤ 6 ∧ digL t.txt.data.toList) :
    Calls Tryz.prog 69 #[lv, .agg #[.int .i64 (kindOf d.name.txt), .int .i64 d.name.pos, .string d.name.txt, pv, bv], .agg #[.int .i64 (kindOf t.txt), .int .i64 t.pos, .string t.txt]] w fun e w' => e = .returned (.agg #[.int .i64 (atomF d.ps ds t).1, .int .i64 (atomF d.ps ds t).2]) ∧ Below w.heap.size w w' := by
  obtain ⟨lo, lcap, rfl⟩ := own_form hv.row
  obtain ⟨po, pcap, rfl⟩ := own_form hok.1
  obtain ⟨bo, bcap, rfl⟩ := own_form hok.2.1
  have hb3 : Below w.heap.size w (((w.alloc (Obj.cells #[.int .i64 (kindOf d.name.txt), .int .i64 d.name.pos, .string d.name.txt, .slice po d.ps.length pcap, .slice bo d.body.length bcap] 87)).alloc (Obj.cells #[.int .i64 (kindOf t.txt), .int .i64 t.pos, .string t.txt] 84)).alloc (Obj.cells #[.int .i64 0, .int .i64 0] 75)) := (((Below.refl _ _).alloc (Nat.le_refl _) _).alloc (by simp) _).alloc (by simp; omega) _
  by_cases h2 : kindOf t.txt = 2
  · have HK : Hid (atomF d.ps ds t = (1, valL t.txt.data.toList)) := by simp [Hid, atomF, h2]
    rw [HK.out]
    obtain ⟨h6, hdg⟩ := hnum h2
    have HC : Hid _ := fun w => sNumberOf t.txt w h6 hdg
    rw [h2]
    clear hnum
    go_enter Tryz.func69, Tryz.ntmps69
    go_wp2_with fail
    refine (show Calls _ _ _ _ _ from HC.out _).mono ?_
    rintro e w1 ⟨rfl, rfl⟩
    go_wp2_with fail
    exact bodyPost_ret (v := .agg #[.int .i64 1, .int .i64 (valL t.txt.data.toList)]) (by simp [results, Tryz.results69, go_sem]) rfl ⟨rfl, (((Below.refl _ _).alloc (Nat.le_refl _) _).alloc (by simp) _).alloc (by simp; omega) _⟩
  by_cases h3 : kindOf t.txt = 3
  · have HK : Hid (atomF d.ps ds t = (4, primP t.txt.toList)) := by simp [Hid, atomF, h3]
    rw [HK.out]
    have HC : Hid _ := fun w => sPrimOf t.txt w
    rw [h3]
    clear hnum
    go_enter Tryz.func69, Tryz.ntmps69
    go_wp2_with fail
    refine (show Calls _ _ _ _ _ from HC.out _).mono ?_
    rintro e w1 ⟨rfl, rfl⟩
    go_wp2_with fail
    exact bodyPost_ret (v := .agg #[.int .i64 4, .int .i64 (primP t.txt.toList)]) (by simp [results, Tryz.results69, go_sem]) rfl ⟨rfl, (((Below.refl _ _).alloc (Nat.le_refl _) _).alloc (by simp) _).alloc (by simp; omega) _⟩
  have h2' : (kindOf t.txt == 2) = false := by simpa using h2
  have h3' : (kindOf t.txt == 3) = false := by simpa using h3
  have HP : Hid _ := sFindParameter _ d.ps t.txt _ (by omega) (ownsRow_old hok.1 hb3)
  by_cases h4 : 0 ≤ whr d.ps t.txt
  · have HK : Hid (atomF d.ps ds t = (2, whr d.ps t.txt)) := by simp [Hid, atomF, h2, h3, h4]
    rw [HK.out]
    go_enter Tryz.func69, Tryz.ntmps69
    go_wp2_with fail
    refine (show Calls _ _ _ _ _ from HP.out).mono ?_
    rintro e w1 ⟨rfl, hb1⟩
    obtain ⟨x1, x2, x3⟩ := three_later hb1
    have y0 := cell_of_row w1 (w.heap.size + 2) 0 _ _ _ x3
    have y1 := cell_of_row w1 (w.heap.size + 2) 1 _ _ _ x3
    simp only [List.getElem?_toArray, List.getElem?_cons_succ, List.getElem?_cons_zero] at y0 y1
    have q0 : (w1.setCell ⟨w.heap.size + 1 + 1, 0, none⟩ (.int .i64 2)).cell? ⟨w.heap.size + 1 + 1, 0, none⟩ = some (.int .i64 2) := by rw [cell_of_row _ _ _ _ _ _ (blk_set _ x3)]; rfl
    have q1 : ((w1.setCell ⟨w.heap.size + 1 + 1, 0, none⟩ (.int .i64 2)).setCell ⟨w.heap.size + 1 + 1, 1, none⟩ (.int .i64 (whr d.ps t.txt))).cell? ⟨w.heap.size + 1 + 1, 1, none⟩ = some (.int .i64 (whr d.ps t.txt)) := by rw [cell_of_row _ _ _ _ _ _ (blk_set _ (blk_set _ x3))]; rfl
    have f0 := frozen_of_row w1 (w.heap.size + 2) 0 _ _ x3
    have f1 := frozen_of_row w1 (w.heap.size + 2) 1 _ _ x3
    go_wp2_with fail
    exact bodyPost_ret (v := .agg #[.int .i64 2, .int .i64 (whr d.ps t.txt)]) (by simp [results, Tryz.results69, go_sem, q0, q1]) rfl ⟨rfl, ((hb3.trans (hb1.mono hb3.size)).setCell (by show _ ≤ w.heap.size + 1 + 1; omega) _).setCell (by show _ ≤ w.heap.size + 1 + 1; omega) _⟩
  · have HK : Hid (atomF d.ps ds t = (3, fnd ds t.txt)) := by simp [Hid, atomF, h2, h3, h4]
    rw [HK.out]
    have h4' : decide (0 ≤ whr d.ps t.txt) = false := by simpa using h4
    go_enter Tryz.func69, Tryz.ntmps69
    go_wp2_with fail
    refine (show Calls _ _ _ _ _ from HP.out).mono ?_
    rintro e w1 ⟨rfl, hb1⟩
    obtain ⟨x1, x2, x3⟩ := three_later hb1
    have hbw := hb3.trans (hb1.mono hb3.size)
    have z2 := cell_of_row w1 (w.heap.size + 1) 2 _ _ _ x2
    simp only [List.getElem?_toArray, List.getElem?_cons_succ, List.getElem?_cons_zero] at z2
    have HF : Hid _ := sFindFunction _ ds xs T t.txt w1 (by omega) (hv.old hT hbw) (Nat.le_trans hT hbw.size)
    have hsz := (Array.getElem?_eq_some_iff.1 x3).1
    go_wp2_with fail
    refine (show Calls _ _ _ _ _ from HF.out).mono ?_
    rintro e w2 ⟨rfl, hb2⟩
    have x4 := (hb2.block (w.heap.size + 2) hsz).trans x3
    have y0 := cell_of_row w2 (w.heap.size + 2) 0 _ _ _ x4
    have y1 := cell_of_row w2 (w.heap.size + 2) 1 _ _ _ x4
    simp only [List.getElem?_toArray, List.getElem?_cons_succ, List.getElem?_cons_zero] at y0 y1
    have q0 : (w2.setCell ⟨w.heap.size + 1 + 1, 0, none⟩ (.int .i64 3)).cell? ⟨w.heap.size + 1 + 1, 0, none⟩ = some (.int .i64 3) := by rw [cell_of_row _ _ _ _ _ _ (blk_set _ x4)]; rfl
    have q1 : ((w2.setCell ⟨w.heap.size + 1 + 1, 0, none⟩ (.int .i64 3)).setCell ⟨w.heap.size + 1 + 1, 1, none⟩ (.int .i64 (fnd ds t.txt))).cell? ⟨w.heap.size + 1 + 1, 1, none⟩ = some (.int .i64 (fnd ds t.txt)) := by rw [cell_of_row _ _ _ _ _ _ (blk_set _ (blk_set _ x4))]; rfl
    have f0 := frozen_of_row w2 (w.heap.size + 2) 0 _ _ x4
    have f1 := frozen_of_row w2 (w.heap.size + 2) 1 _ _ x4
    clear z2
    go_wp2_with fail
    exact bodyPost_ret (v := .agg #[.int .i64 3, .int .i64 (fnd ds t.txt)]) (by simp [results, Tryz.results69, go_sem, q0, q1]) rfl ⟨rfl, ((hbw.trans (hb2.mono hbw.size)).setCell (by show _ ≤ w.heap.size + 1 + 1; omega) _).setCell (by show _ ≤ w.heap.size + 1 + 1; omega) _⟩

end Go.Proofs.YtnndoagpbcacdaaGreatDoor
namespace Go.Proofs.YtnndoagpbcacdaaGreatDoor
open Go.RowKit

/-! Package source: compile.go: the layout of a template in memory. -/
def nums (l : List Nat) : List Value := l.map fun (n : Nat) => .int .i64 (n : Int)
theorem nums_snoc (l : List Nat) (n : Nat) : nums (l ++ [n]) = nums l ++ [.int .i64 n] := by simp [nums]

structure Lay (w : World) (b : Nat) (lv ov : Value) (L : List Ln) (vs : List Value) (op : List Nat) : Prop where
  box : w.heap[b]? = some (.cells #[lv, ov] 120 (0, 0))
  lrow : w.ownsRow (b + 1) 76 1 lv L.length vs
  orow : w.ownsRow (b + 1) 3 1 ov op.length (nums op)
  rows : ∀ j (h : j < L.length), ∃ v, vs[j]? = some v ∧ w.ownsRow (b + 1) 75 2 v L[j].length (acs L[j])
  ne : ∀ (i j : Nat) (vi vj : Value) (k : Nat), i ≠ j → vs[i]? = some vi → vs[j]? = some vj → vi.ownBlock = some k → vj.ownBlock ≠ some k
  lt : ∀ n ∈ op, n < L.length

theorem Lay.len {w : World} {b : Nat} {lv ov : Value} {L : List Ln} {vs : List Value} {op : List Nat} (h : Lay w b lv ov L vs op) : vs.length = L.length := by have := h.lrow.1; simpa using this
theorem Lay.blt {w : World} {b : Nat} {lv ov : Value} {L : List Ln} {vs : List Value} {op : List Nat} (h : Lay w b lv ov L vs op) : b < w.heap.size := (Array.getElem?_eq_some_iff.1 h.box).1
theorem Lay.old {w w' : World} {b : Nat} {lv ov : Value} {L : List Ln} {vs : List Value} {op : List Nat} (h : Lay w b lv ov L vs op) (hb : Below w.heap.size w w') : Lay w' b lv ov L vs op :=
  ⟨(hb.block b h.blt).trans h.box, ownsRow_old h.lrow hb, ownsRow_old h.orow hb, fun j hj => by obtain ⟨v, h1, h2⟩ := h.rows j hj; exact ⟨v, h1, ownsRow_old h2 hb⟩, h.ne, h.lt⟩
theorem Lay.alloc {w : World} {b : Nat} {lv ov : Value} {L : List Ln} {vs : List Value} {op : List Nat} (h : Lay w b lv ov L vs op) (o : Obj) : Lay (w.alloc o) b lv ov L vs op := h.old ((Below.refl _ _).alloc (Nat.le_refl _) _)
theorem Lay.drew {w : World} {b : Nat} {lv ov : Value} {L : List Ln} {vs : List Value} {op : List Nat} (h : Lay w b lv ov L vs op) : Lay w.drew b lv ov L vs op := h.old (Below.drew (Below.refl _ _))

/-- An open line more. -/
theorem Lay.pushO {w w2 : World} {b n : Nat} {lv ov nv : Value} {L : List Ln} {vs : List Value} {op : List Nat} (h : Lay w b lv ov L vs op) (_hn : n < L.length + 1)
    (hown : w2.ownsRow (b + 1) 3 1 nv (op.length + 1) (nums op ++ [.int .i64 n])) (hgrow : w.grownBy w2 ov.ownBlock) :
    w2.heap[b]? = some (.cells #[lv, ov] 120 (0, 0)) ∧ Below b w w2 ∧ ((w2.setCell ⟨b, 1, none⟩ nv).heap[b]? = some (.cells #[lv, nv] 120 (0, 0)) ∧ (w2.setCell ⟨b, 1, none⟩ nv).ownsRow (b + 1) 76 1 lv L.length vs ∧ (w2.setCell ⟨b, 1, none⟩ nv).ownsRow (b + 1) 3 1 nv (op ++ [n]).length (nums (op ++ [n])) ∧ (∀ j (h : j < L.length), ∃ v, vs[j]? = some v ∧ (w2.setCell ⟨b, 1, none⟩ nv).ownsRow (b + 1) 75 2 v L[j].length (acs L[j]))) := by
  have hb2 := grown_type h.orow hgrow (by decide) h.box
  refine ⟨hb2, (Below.refl b w).grown hgrow (Nat.le_of_lt h.blt) (fun k hk => by have := (h.orow.lt k hk).1; omega), blk_set _ hb2, ownsRow_set (own_grown_type h.orow hgrow (by decide) h.lrow) hb2 (by decide), ?_, ?_⟩
  · rw [nums_snoc, List.length_append]; exact ownsRow_set hown hb2 (by decide)
  · intro j hj
    obtain ⟨v, h1, h2⟩ := h.rows j hj
    exact ⟨v, h1, ownsRow_set (own_grown_type h.orow hgrow (by decide) h2) hb2 (by decide)⟩

/-- A line more. -/
theorem Lay.pushL {w w2 : World} {b : Nat} {lv ov nv : Value} {L : List Ln} {vs : List Value} {op : List Nat}
    (hbox : w.heap[b]? = some (.cells #[lv, ov] 120 (0, 0))) (hl : w.ownsRow (b + 1) 76 1 lv L.length vs) (ho : w.ownsRow (b + 1) 3 1 ov op.length (nums op)) (hr : ∀ j (h : j < L.length), ∃ v, vs[j]? = some v ∧ w.ownsRow (b + 1) 75 2 v L[j].length (acs L[j]))
    (hne : ∀ (i j : Nat) (vi vj : Value) (k : Nat), i ≠ j → vs[i]? = some vi → vs[j]? = some vj → vi.ownBlock = some k → vj.ownBlock ≠ some k) (hlt : ∀ n ∈ op, n < L.length + 1)
    (hown : w2.ownsRow (b + 1) 76 1 nv (L.length + 1) (vs ++ [.slice none 0 0])) (hgrow : w.grownBy w2 lv.ownBlock) :
    w2.heap[b]? = some (.cells #[lv, ov] 120 (0, 0)) ∧ Below b w w2 ∧ Lay (w2.setCell ⟨b, 0, none⟩ nv) b nv ov (L ++ [[]]) (vs ++ [.slice none 0 0]) op := by
  have hb2 := grown_type hl hgrow (by decide) hbox
  have hvl : vs.length = L.length := by have := hl.1; simpa using this
  have hblt : b < w.heap.size := (Array.getElem?_eq_some_iff.1 hbox).1
  refine ⟨hb2, (Below.refl b w).grown hgrow (Nat.le_of_lt hblt) (fun k hk => by have := (hl.lt k hk).1; omega), blk_set _ hb2, ?_, ownsRow_set (own_grown_type hl hgrow (by decide) ho) hb2 (by decide), ?_, ?_, fun n hn => by rw [List.length_append]; exact hlt n hn⟩
  · rw [List.length_append]; exact ownsRow_set hown hb2 (by decide)
  · intro j hj
    rw [List.length_append] at hj
    simp only [List.length_cons, List.length_nil] at hj
    by_cases hjl : j < L.length
    · obtain ⟨v, h1, h2⟩ := hr j hjl
      refine ⟨v, by rw [List.getElem?_append_left (by omega)]; exact h1, ?_⟩
      rw [List.getElem_append_left hjl]
      exact ownsRow_set (own_grown_type hl hgrow (by decide) h2) hb2 (by decide)
    · have e : j = L.length := by omega
      subst e
      refine ⟨.slice none 0 0, by rw [List.getElem?_append_right (by omega)]; simp [hvl], ?_⟩
      rw [List.getElem_append_right (Nat.le_refl _)]
      simp only [Nat.sub_self, List.getElem_cons_zero]
      exact World.ownsRow_nil _ _ _ _
  · intro i j vi vj k hij h1 h2 h3
    have nil : ∀ (m : Nat) (v : Value), (vs ++ [Value.slice none 0 0])[m]? = some v → vs[m]? = some v ∨ v.ownBlock = none := by
      intro m v hm
      by_cases hml : m < vs.length
      · left; rw [List.getElem?_append_left hml] at hm; exact hm
      · right
        rw [List.getElem?_append_right (by omega)] at hm
        cases hd : m - vs.length with
        | zero => rw [hd] at hm; simp at hm; subst hm; rfl
        | succ q => rw [hd] at hm; simp at hm
    rcases nil i vi h1 with h1' | h1'
    · rcases nil j vj h2 with h2' | h2'
      · exact hne i j vi vj k hij h1' h2' h3
      · rw [h2']; simp
    · rw [h1'] at h3; cases h3

/-- An atom more, in line n. -/
theorem Lay.pushA {w w2 : World} {b n q cap g cap2 H : Nat} {ov v : Value} {L : List Ln} {vs : List Value} {op : List Nat} {a : Int × Int} (h : Lay w b (.slice (some ⟨q, 0, none⟩) L.length cap) ov L vs op) (hn : n < L.length) (hv : vs[n]? = some v)
    (hown : w2.ownsRow (b + 1) 75 2 (.slice (some ⟨g, 0, none⟩) (L[n].length + 1) cap2) (L[n].length + 1) (acs L[n] ++ [.int .i64 a.1, .int .i64 a.2])) (hgrow : w.grownBy w2 v.ownBlock) (hat : v.ownBlock = some g ∨ g = H) (hH : w.heap.size = H) :
    Below b w w2 ∧ w2.ownsRow (b + 1) 76 1 (.slice (some ⟨q, 0, none⟩) L.length cap) L.length vs ∧ w2.heap[b]? = some (.cells #[.slice (some ⟨q, 0, none⟩) L.length cap, ov] 120 (0, 0)) ∧ Lay (w2.setCell ⟨q, n, none⟩ (.slice (some ⟨g, 0, none⟩) (L[n].length + 1) cap2)) b (.slice (some ⟨q, 0, none⟩) L.length cap) ov (L.set n (L[n] ++ [a])) (vs.set n (.slice (some ⟨g, 0, none⟩) (L[n].length + 1) cap2)) op := by
  obtain ⟨v', hv', hrow⟩ := h.rows n hn
  rw [hv] at hv'
  cases hv'
  have hl2 := own_grown_type hrow hgrow (by decide) h.lrow
  have ho2 := own_grown_type hrow hgrow (by decide) h.orow
  have hb2 := grown_type hrow hgrow (by decide) h.box
  have hbel : Below b w w2 := (Below.refl b w).grown hgrow (Nat.le_of_lt h.blt) (fun k hk => by have := (hrow.lt k hk).1; omega)
  obtain ⟨q', cap', hq, hqb, hqlt⟩ := hl2.form (by omega)
  cases hq
  have hqblk : ∃ cs, w2.heap[q]? = some (.cells cs 76 (0, 0)) := by
    rcases hl2.2 with ⟨h0, _⟩ | ⟨g', cap', cur, h0, hg, hh, _⟩
    · cases h0
    · cases h0; exact ⟨cur, hh⟩
  obtain ⟨cs, hqc⟩ := hqblk
  have hqb' : b ≠ q := by have := (hl2.lt q rfl).1; omega
  refine ⟨hbel, hl2, hb2, ?_, ?_, ownsRow_set ho2 hqc (by decide), ?_, ?_, fun m hm => by rw [List.length_set]; exact h.lt m hm⟩
  · rw [heap_set_ne _ hqb']; exact hb2
  · rw [List.length_set]; exact ownsRow_store _ hl2
  · intro j hj
    have hj' : j < L.length := by rw [List.length_set] at hj; exact hj
    by_cases hjn : j = n
    · subst hjn
      refine ⟨_, List.getElem?_set_self (by rw [h.len]; exact hj'), ?_⟩
      rw [List.getElem_set_self, List.length_append, acs_snoc]
      exact ownsRow_set hown hqc (by decide)
    · obtain ⟨u, h1, h2⟩ := h.rows j hj'
      refine ⟨u, by rw [List.getElem?_set_ne (by omega)]; exact h1, ?_⟩
      rw [List.getElem_set_ne (by omega)]
      refine ownsRow_set (h2.kept hgrow ?_) hqc (by decide)
      cases hq : u.ownBlock with
      | none => exact .inl rfl
      | some k => right; intro e; exact h.ne j n u v k hjn h1 hv hq e.symm
  · intro i j vi vj k hij h1 h2 h3 h4
    by_cases hi : i = n
    · subst hi
      rw [List.getElem?_set_self (by rw [h.len]; exact hn)] at h1
      rw [List.getElem?_set_ne (by omega)] at h2
      cases h1
      simp only [Value.ownBlock, Option.some.injEq] at h3
      subst h3
      rcases hat with hat | hat
      · exact h.ne i j v vj _ hij hv h2 hat h4
      · have hjl : j < L.length := by rw [← h.len]; exact (List.getElem?_eq_some_iff.1 h2).1
        obtain ⟨u, e1, e2⟩ := h.rows j hjl
        rw [h2] at e1
        cases e1
        have := (e2.lt _ h4).2
        omega
    · rw [List.getElem?_set_ne (by omega)] at h1
      by_cases hj : j = n
      · subst hj
        rw [List.getElem?_set_self (by rw [h.len]; exact hn)] at h2
        cases h2
        simp only [Value.ownBlock, Option.some.injEq] at h4
        subst h4
        rcases hat with hat | hat
        · exact h.ne i j vi v _ hij h1 hv h3 hat
        · have hil : i < L.length := by rw [← h.len]; exact (List.getElem?_eq_some_iff.1 h1).1
          obtain ⟨u, e1, e2⟩ := h.rows i hil
          rw [h1] at e1
          cases e1
          have := (e2.lt _ h3).2
          omega
      · rw [List.getElem?_set_ne (by omega)] at h2
        exact h.ne i j vi vj k hij h1 h2 h3 h4

end Go.Proofs.YtnndoagpbcacdaaGreatDoor
namespace Go.Proofs.YtnndoagpbcacdaaGreatDoor
open Go.RowKit

set_option maxRecDepth 100000 in
set_option maxHeartbeats 4000000 in
theorem sBeginLine (b : Nat) (lv ov : Value) (L : List Ln) (vs : List Value) (op : List Nat) (w : World) (h : Lay w b lv ov L vs op) (hL : L.length ≤ 2000) (ho : op.length ≤ 2000) :
    Calls Tryz.prog 65 #[.pointer (some ⟨b, 0, none⟩)] w fun e w' => (∃ v, e = .returned v) ∧ Below b w w' ∧ ∃ lv' ov', Lay w' b lv' ov' (L ++ [[]]) (vs ++ [.slice none 0 0]) (op ++ [L.length]) := by
  obtain ⟨i, hi, hz0, hz1, hz2⟩ := info_parts Tryz.infoInt
  obtain ⟨i2, hi2, hy0, hy1, hy2⟩ := info_parts Tryz.infoLine
  obtain ⟨lo, lcap, rfl⟩ := own_form h.lrow
  obtain ⟨oo, ocap, rfl⟩ := own_form h.orow
  have c0 := cell_of_row w b 0 _ _ _ h.box
  have c1 := cell_of_row w b 1 _ _ _ h.box
  simp only [List.getElem?_toArray, List.getElem?_cons_succ, List.getElem?_cons_zero] at c0 c1
  have f1 := frozen_of_row w b 1 _ _ h.box
  have hblt := h.blt
  go_enter Tryz.func65, Tryz.ntmps65
  go_wp2_with fail
  go_region_law ((refine step_append_lies _ (by rfl) _ _ _ (by rfl) (b + 1) 3 i _ 1 8 Tryz.underlying35 hi hz0 hz1 hz2 rfl (by omega) (.slice oo op.length ocap) op.length (nums op) (by rfl) (by exact World.ownsRow.drew (h.orow.alloc _)) _ 1 _ [.int .i64 L.length] (by rfl) rfl (by exact World.news_of_block (heap_alloc_new w _)) (by simp [Value.oneCell']) (by omega) (by unfold maxLen; omega) (by omega) (by simp; omega) _ rfl ?_; intro q cap w2 hown2 hgrow hat hlt2; have HPO : Hid _ := Lay.pushO ((h.alloc _).drew) (n := L.length) (Nat.lt_succ_self _) hown2 hgrow; have c1b := cell_of_row w2 b 1 _ _ _ HPO.out.1; simp only [List.getElem?_toArray, List.getElem?_cons_succ, List.getElem?_cons_zero] at c1b; have f1b := frozen_of_row w2 b 1 _ _ HPO.out.1; clear hat hlt2 hgrow hown2))
  all_goals
    obtain ⟨hb2, hbel2, hbox3, hl3, ho3, hr3⟩ := HPO.out
    clear HPO c0 c1 f1 c1b f1b
    have hlt3 : b < w2.heap.size := (Array.getElem?_eq_some_iff.1 hb2).1
    have c0 := cell_of_row _ b 0 _ _ _ hbox3
    simp only [List.getElem?_toArray, List.getElem?_cons_zero] at c0
    have HB : Hid _ := hbel2
    have HNE : Hid _ := h.ne
    have HLT : Hid _ := h.lt
    have HW : Hid (w2.heap.size = (w2.setCell ⟨b, 1, none⟩ (.slice (some ⟨q, 0, none⟩) (op.length + 1) cap)).heap.size) := by simp [Hid, World.setCell]
    generalize hw3 : w2.setCell ⟨b, 1, none⟩ (.slice (some ⟨q, 0, none⟩) (op.length + 1) cap) = w3 at *
    have HB3 : Hid (Below b w w3) := by rw [← hw3]; exact ((Below.drew ((Below.refl b w).alloc (Nat.le_of_lt hblt) _)).trans HB.out).setCell (Nat.le_refl _) _
    clear hw3 hbel2 HB hb2
    have hs3 := HW.out
    clear HW
    go_wp2_with (at_builtin; go_must (refine wpList_append_lies _ rfl _ _ _ rfl (b + 1) 76 i2 _ 1 24 Tryz.underlying50 hi2 hy0 hy1 hy2 rfl (by omega) (.slice lo L.length lcap) L.length vs rfl ?hown _ 1 _ [.slice none 0 0] rfl rfl ?hnews ?h1 (by omega) ?h63 ?hbytes ?hbase _ rfl ?_))
    case hown => exact hl3.alloc _
    case hnews => exact World.news_of_block (heap_alloc_new w3 _)
    case h1 => simp [Value.oneCell']
    case h63 => unfold maxLen; omega
    case hbytes => omega
    case hbase => simp; omega
    intro g2 cap2 w4 hown4 hgrow4 hat4 hlt4
    have hA : ∀ o, Below b w3 (w3.alloc o) := fun o => (Below.refl b w3).alloc (by omega) o
    obtain ⟨hb4, hbel4, hlay⟩ := Lay.pushL (w := w3.alloc _) ((Below.heap_alloc w3 _ b (by omega)).trans hbox3) (hl3.alloc _) (ho3.alloc _) (fun j hj => by obtain ⟨v, e1, e2⟩ := hr3 j hj; exact ⟨v, e1, e2.alloc _⟩) HNE.out (fun n hn => by rcases List.mem_append.1 hn with hn | hn; exact Nat.lt_succ_of_lt (HLT.out n hn); simp at hn; omega) hown4 hgrow4
    have c0b := cell_of_row w4 b 0 _ _ _ hb4
    simp only [List.getElem?_toArray, List.getElem?_cons_zero] at c0b
    have f0b := frozen_of_row w4 b 0 _ _ hb4
    go_wp2_with fail
    refine bodyPost_end (v := .tuple #[]) (by simp [results, Tryz.results65, go_sem]) rfl ⟨⟨_, rfl⟩, ?_, _, _, hlay⟩
    exact (HB3.out.trans ((hA _).trans hbel4)).setCell (Nat.le_refl _) _

set_option maxRecDepth 100000 in
set_option maxHeartbeats 4000000 in
theorem sEndLine (b : Nat) (lv ov : Value) (L : List Ln) (vs : List Value) (op : List Nat) (w : World) (h : Lay w b lv ov L vs op) (ho : op.length ≤ 2000) :
    Calls Tryz.prog 68 #[.pointer (some ⟨b, 0, none⟩)] w fun e w' => (∃ v, e = .returned v) ∧ Below b w w' ∧ ∃ ov', Lay w' b lv ov' L vs op.dropLast := by
  obtain ⟨oo, ocap, rfl⟩ := own_form h.orow
  have c1 := cell_of_row w b 1 _ _ _ h.box
  simp only [List.getElem?_toArray, List.getElem?_cons_succ, List.getElem?_cons_zero] at c1
  have f1 := frozen_of_row w b 1 _ _ h.box
  have hblt := h.blt
  by_cases h0 : op.length = 0
  · have h0' : op = [] := List.length_eq_zero_iff.1 h0
    have hcz : ¬ (0 : Int) ≤ (op.length : Int) - 1 := by omega
    have hcz' : decide ((0 : Int) ≤ (op.length : Int) - 1) = false := by simpa using hcz
    have HE : Hid (op.dropLast = op) := by rw [h0']; exact rfl
    clear h0 h0'
    go_enter Tryz.func68, Tryz.ntmps68
    go_wp2_with fail
    refine bodyPost_end (v := .tuple #[]) (by simp [results, Tryz.results68, go_sem]) rfl ⟨⟨_, rfl⟩, Below.refl _ _, .slice oo op.length ocap, ?_⟩
    rw [HE.out]
    exact h
  · obtain ⟨q, cap', hq, _, hqlt⟩ := h.orow.form (by omega)
    cases hq
    have hcap := own_cap h.orow
    obtain ⟨m, hm⟩ : ∃ m : Nat, op.length = m + 1 := ⟨op.length - 1, by omega⟩
    have HD : Hid (nums op.dropLast = (nums op).take m ∧ op.dropLast.length = m) := by
      refine ⟨?_, by rw [List.length_dropLast]; omega⟩
      unfold nums
      rw [List.dropLast_eq_take, List.map_take, hm]; rfl
    have HR : Hid (w.ownsRow (b + 1) 3 1 (.slice (some ⟨q, 0, none⟩) m ocap) m (nums op.dropLast)) := by
      have := ownsRow_take h.orow (m := m) (by omega)
      rw [HD.out.1]; rw [Nat.mul_one] at this; exact this
    rw [hm] at c1 hcap
    have HL : Hid (∀ n ∈ op.dropLast, n < L.length) := fun n hn => h.lt n (List.dropLast_subset _ hn)
    have hm2 : m ≤ 2000 := by omega
    clear hm h0
    go_enter Tryz.func68, Tryz.ntmps68
    go_wp2_with fail
    refine bodyPost_end (v := .tuple #[]) (by simp [results, Tryz.results68, go_sem]) rfl ⟨⟨_, rfl⟩, ?_, .slice (some ⟨q, 0, none⟩) m ocap, ?_⟩
    · exact (Below.refl b w).setCell (by exact Nat.le_refl b) _
    · refine ⟨blk_set _ h.box, ownsRow_set h.lrow h.box (by decide), ?_, fun j hj => ?_, h.ne, HL.out⟩
      · rw [HD.out.2]; exact ownsRow_set HR.out h.box (by decide)
      · obtain ⟨v, e1, e2⟩ := h.rows j hj
        exact ⟨v, e1, ownsRow_set e2 h.box (by decide)⟩

end Go.Proofs.YtnndoagpbcacdaaGreatDoor
namespace Go.Proofs.YtnndoagpbcacdaaGreatDoor
open Go.RowKit

theorem nums_at (op : List Nat) (n : Nat) : (nums (op ++ [n]))[op.length]? = some (.int .i64 n) := by
  rw [nums_snoc, List.getElem?_append_right (by simp [nums])]
  simp [nums]

theorem size_adn (w : World) (o o2 : Obj) (k : Nat) : (((w.alloc o).drewN k).alloc o2).heap.size = w.heap.size + 1 + 1 := by
  have e : ((w.alloc o).drewN k).heap.size = w.heap.size + 1 := by show (w.alloc o).heap.size = _; simp
  rw [World.size_alloc, e]
theorem new_adn (w : World) (o o2 : Obj) (k : Nat) : (((w.alloc o).drewN k).alloc o2).heap[w.heap.size + 1]? = some o2 := by
  have e : ((w.alloc o).drewN k).heap.size = w.heap.size + 1 := by show (w.alloc o).heap.size = _; simp
  rw [← e]; exact heap_alloc_new _ _
theorem own_frozen {w : World} {base : Nat} {e : TypeId} {size n q m cap : Nat} {xs : List Value} (h : w.ownsRow base e size (.slice (some ⟨q, 0, none⟩) m cap) n xs) (i : Nat) : w.frozen? ⟨q, i, none⟩ = false := by
  rcases h.2 with ⟨h0, _⟩ | ⟨g', cap', cur, h0, hg, hh, _⟩
  · cases h0
  · cases h0; exact frozen_of_row w q i _ _ hh

set_option maxRecDepth 100000 in
set_option maxHeartbeats 4000000 in
theorem sPut (b : Nat) (lv ov : Value) (L : List Ln) (vs : List Value) (op : List Nat) (n : Nat) (a : Int × Int) (w : World) (h : Lay w b lv ov L vs (op ++ [n])) (hn : n < L.length) (hL : L.length ≤ 2000) (ho : op.length ≤ 2000) (hl : L[n].length ≤ 2000) :
    Calls Tryz.prog 67 #[.pointer (some ⟨b, 0, none⟩), .agg #[.int .i64 a.1, .int .i64 a.2]] w fun e w' => (∃ v, e = .returned v) ∧ Below b w w' ∧ ∃ vs', Lay w' b lv ov (L.set n (L[n] ++ [a])) vs' (op ++ [n]) := by
  obtain ⟨i, hi, hz0, hz1, hz2⟩ := info_parts Tryz.infoAtom
  obtain ⟨lo, lcap, rfl⟩ := own_form h.lrow
  obtain ⟨oo, ocap, rfl⟩ := own_form h.orow
  have hol : (op ++ [n]).length = op.length + 1 := by simp
  obtain ⟨q, cap', hq, hqb, hqlt⟩ := h.lrow.form (by omega)
  cases hq
  obtain ⟨qo, cap', hq, hqob, hqolt⟩ := h.orow.form (by omega)
  cases hq
  have c0 := cell_of_row w b 0 _ _ _ h.box
  have c1 := cell_of_row w b 1 _ _ _ h.box
  simp only [List.getElem?_toArray, List.getElem?_cons_succ, List.getElem?_cons_zero] at c0 c1
  have HOC : Hid _ := row_cell h.orow op.length _ (nums_at op n)
  obtain ⟨v, hv, hrow⟩ := h.rows n hn
  have HVC : Hid _ := row_cell h.lrow n _ hv
  have hblt := h.blt
  rw [hol] at c1
  obtain ⟨vo, vcap, rfl⟩ := own_form hrow
  obtain ⟨a1, a2⟩ := a
  simp only at *
  have k0 : w.cell? ⟨qo, op.length, none⟩ = some (.int .i64 n) := HOC.out
  have k1 : w.cell? ⟨q, n, none⟩ = some (.slice vo L[n].length vcap) := HVC.out
  clear HOC HVC
  go_enter Tryz.func67, Tryz.ntmps67
  go_wp2_with fail
  have g0 : decide ((op.length : Int) < 0) = false := by simp
  have g1 : decide ((L.length : Int) ≤ (n : Int)) = false := by simp; omega
  have g1n : ¬ (L.length : Int) ≤ (n : Int) := by omega
  go_quiet (fail)
  go_wp2_with fail
  have HQ : Hid (Lay (((w.alloc (Obj.cells #[.int .i64 a1, .int .i64 a2] 75)).drewN (nq + 1)).alloc (Obj.cells #[.int .i64 a1, .int .i64 a2] 75)) b (.slice (some ⟨q, 0, none⟩) L.length lcap) (.slice (some ⟨qo, 0, none⟩) (op ++ [n]).length ocap) L vs (op ++ [n])) := ((h.alloc _).old (below_drewN (Below.refl _ _) _)).alloc _
  have HNB : Hid _ := new_adn w (Obj.cells #[.int .i64 a1, .int .i64 a2] 75) (Obj.cells #[.int .i64 a1, .int .i64 a2] 75) (nq + 1)
  have HRW : Hid _ := (ownsRow_old (hrow.alloc (Obj.cells #[.int .i64 a1, .int .i64 a2] 75)) (below_drewN (Below.refl _ _) (nq + 1))).alloc (Obj.cells #[.int .i64 a1, .int .i64 a2] 75)
  have HBW : Hid (Below b w (((w.alloc (Obj.cells #[.int .i64 a1, .int .i64 a2] 75)).drewN (nq + 1)).alloc (Obj.cells #[.int .i64 a1, .int .i64 a2] 75))) := (below_drewN ((Below.refl b w).alloc (Nat.le_of_lt hblt) _) _).alloc (by show b ≤ (w.alloc _).heap.size; simp; omega) _
  have HV : Hid _ := hv
  go_region_law ((refine step_append_lies _ (by rfl) _ _ _ (by rfl) (b + 1) 75 i _ 2 16 Tryz.underlying76 hi hz0 hz1 hz2 rfl (by omega) (.slice vo L[n].length vcap) L[n].length (acs L[n]) (by rfl) (by exact HRW.out) _ 1 _ [.int .i64 a1, .int .i64 a2] (by rfl) rfl (by exact World.news_of_block HNB.out) (by simp [Value.oneCell']) (by omega) (by unfold maxLen; omega) (by omega) (by simp; omega) _ rfl ?_; intro g cap2 w2 hown2 hgrow hat hlt2; have HPA : Hid _ := Lay.pushA (a := (a1, a2)) HQ.out hn HV.out hown2 hgrow hat rfl; have kc := row_cell HPA.out.2.1 n _ HV.out; have kf := own_frozen HPA.out.2.1 n; have kb := cell_of_row w2 b 0 _ _ _ HPA.out.2.2.1; simp only [List.getElem?_toArray, List.getElem?_cons_zero] at kb; clear hown2 hgrow hat hlt2))
  all_goals
    refine bodyPost_end (v := .tuple #[]) (by simp [results, Tryz.results67, go_sem]) rfl ⟨⟨_, rfl⟩, ?_, _, HPA.out.2.2.2⟩
    exact (HBW.out.trans HPA.out.1).setCell (by show b ≤ q; omega) _

set_option maxHeartbeats 4000000 in
theorem sPutNil (b : Nat) (lv ov : Value) (L : List Ln) (vs : List Value) (a : Int × Int) (w : World) (h : Lay w b lv ov L vs []) :
    Calls Tryz.prog 67 #[.pointer (some ⟨b, 0, none⟩), .agg #[.int .i64 a.1, .int .i64 a.2]] w fun e w' => (∃ v, e = .returned v) ∧ Below b w w' ∧ Lay w' b lv ov L vs [] := by
  obtain ⟨oo, ocap, rfl⟩ := own_form h.orow
  have c1 := cell_of_row w b 1 _ _ _ h.box
  simp only [List.getElem?_toArray, List.getElem?_cons_succ, List.getElem?_cons_zero, List.length_nil] at c1
  have hblt := h.blt
  go_enter Tryz.func67, Tryz.ntmps67
  go_wp2_with fail
  go_quiet (fail)
  go_wp2_with fail
  refine bodyPost_ret (v := .tuple #[]) (by simp [results, Tryz.results67, go_sem]) rfl ?_
  exact ⟨⟨_, rfl⟩, below_drewN ((Below.refl b w).alloc (Nat.le_of_lt hblt) _) _, (h.alloc _).old (below_drewN (Below.refl _ _) _)⟩

end Go.Proofs.YtnndoagpbcacdaaGreatDoor
