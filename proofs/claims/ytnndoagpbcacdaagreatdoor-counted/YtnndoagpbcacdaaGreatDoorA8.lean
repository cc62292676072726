import Derived.Test.YtnndoagpbcacdaaGreatDoorMA4
namespace Go.Proofs.YtnndoagpbcacdaaGreatDoor
open Go.RowKit

/-! Definitions. -/
structure Df where
  name : Tk
  ps : List Tk
  body : List Tk
def tk0 : Tk := ⟨0, ByteArray.empty⟩
def df0 : Df := ⟨tk0, [], []⟩

structure Cs where
  ds : List Df
  d : Df
  aw : Int
def cStep (c : Cs) (t : Tk) : Cs :=
  if kindOf t.txt = 5 then ⟨c.ds ++ [c.d], df0, 0⟩
  else if kindOf t.txt = 4 then ⟨c.ds, c.d, 2⟩
  else if c.aw = 0 then ⟨c.ds, { c.d with name := t }, 1⟩
  else if c.aw = 1 then ⟨c.ds, { c.d with ps := c.d.ps ++ [t] }, c.aw⟩
  else ⟨c.ds, { c.d with body := c.d.body ++ [t] }, c.aw⟩
def cAll (ts : List Tk) : Cs := ts.foldl cStep ⟨[], df0, 0⟩

def DOk (w : World) (T : Nat) (d : Df) (pv bv : Value) : Prop :=
  w.ownsRow 0 84 3 pv d.ps.length (tcs d.ps) ∧ w.ownsRow 0 84 3 bv d.body.length (tcs d.body) ∧ (∀ k, pv.ownBlock = some k → k < T) ∧ (∀ k, bv.ownBlock = some k → k < T)
def dcells (d : Df) (pv bv : Value) : List Value := [.int .i64 (kindOf d.name.txt), .int .i64 d.name.pos, .string d.name.txt, pv, bv]
def DList (w : World) (T : Nat) : List Df → List Value → Prop
  | [], xs => xs = []
  | d :: ds, xs => ∃ pv bv r, xs = dcells d pv bv ++ r ∧ DOk w T d pv bv ∧ DList w T ds r

theorem DOk.keep {w w' : World} {T : Nat} {d : Df} {pv bv : Value} (h : DOk w T d pv bv) (hb : Below T w w') : DOk w' T d pv bv :=
  ⟨ownsRow_below h.1 hb h.2.2.1, ownsRow_below h.2.1 hb h.2.2.2, h.2.2.1, h.2.2.2⟩
theorem DOk.up {w : World} {T T' : Nat} {d : Df} {pv bv : Value} (h : DOk w T d pv bv) (hT : T ≤ T') : DOk w T' d pv bv :=
  ⟨h.1, h.2.1, fun k hk => Nat.lt_of_lt_of_le (h.2.2.1 k hk) hT, fun k hk => Nat.lt_of_lt_of_le (h.2.2.2 k hk) hT⟩
theorem DList.keep {w w' : World} {T : Nat} (hb : Below T w w') : ∀ {ds : List Df} {xs : List Value}, DList w T ds xs → DList w' T ds xs
  | [], _, h => h
  | _ :: _, _, ⟨pv, bv, r, h1, h2, h3⟩ => ⟨pv, bv, r, h1, h2.keep hb, DList.keep hb h3⟩
theorem DList.up {w : World} {T T' : Nat} (hT : T ≤ T') : ∀ {ds : List Df} {xs : List Value}, DList w T ds xs → DList w T' ds xs
  | [], _, h => h
  | _ :: _, _, ⟨pv, bv, r, h1, h2, h3⟩ => ⟨pv, bv, r, h1, h2.up hT, DList.up hT h3⟩
theorem DList.snoc {w : World} {T : Nat} {d : Df} {pv bv : Value} (hd : DOk w T d pv bv) : ∀ {ds : List Df} {xs : List Value}, DList w T ds xs → DList w T (ds ++ [d]) (xs ++ dcells d pv bv)
  | [], _, h => by rw [show _ = ([] : List Value) from h]; exact ⟨pv, bv, [], by simp, hd, rfl⟩
  | _ :: _, _, ⟨p, b, r, h1, h2, h3⟩ => ⟨p, b, r ++ dcells d pv bv, by rw [h1]; simp, h2, DList.snoc hd h3⟩

theorem DOk.set {w : World} {T b i : Nat} {u : Value} {cs : Array Value} {d : Df} {pv bv : Value} (h : DOk w T d pv bv) (hb : w.heap[b]? = some (.cells cs 87 (0, 0))) : DOk (w.setCell ⟨b, i, none⟩ u) T d pv bv :=
  ⟨ownsRow_set h.1 hb (by decide), ownsRow_set h.2.1 hb (by decide), h.2.2.1, h.2.2.2⟩
theorem DList.set {w : World} {T b i : Nat} {u : Value} {cs : Array Value} (hb : w.heap[b]? = some (.cells cs 87 (0, 0))) : ∀ {ds : List Df} {xs : List Value}, DList w T ds xs → DList (w.setCell ⟨b, i, none⟩ u) T ds xs
  | [], _, h => h
  | _ :: _, _, ⟨pv, bv, r, h1, h2, h3⟩ => ⟨pv, bv, r, h1, h2.set hb, DList.set hb h3⟩

/-- What 'cutDefinitions' holds in memory at a round's head, beside the box B of the definition that is being made. -/
structure CR (B : Nat) (w0 w : World) (T : Nat) (lv : Value) (ds : List Df) (ps body : List Tk) (xs : List Value) (pv bv : Value) : Prop where
  bel : Below B w0 w
  lo : B < T
  hi : T ≤ w.heap.size
  lrow : w.ownsRow (B + 1) 87 5 lv ds.length xs
  done : DList w T ds xs
  prow : w.ownsRow T 84 3 pv ps.length (tcs ps)
  brow : w.ownsRow T 84 3 bv body.length (tcs body)
  ne : ∀ k, pv.ownBlock = some k → bv.ownBlock ≠ some k
def CBox (w : World) (B : Nat) (t : Tk) (pv bv : Value) : Prop :=
  w.heap[B]? = some (.cells #[.int .i64 (kindOf t.txt), .int .i64 t.pos, .string t.txt, pv, bv] 87 (0, 0))

theorem CR.set {B T i : Nat} {w0 w : World} {lv pv bv u : Value} {ds : List Df} {ps body : List Tk} {xs : List Value} {cs : Array Value} (h : CR B w0 w T lv ds ps body xs pv bv) (hb : w.heap[B]? = some (.cells cs 87 (0, 0))) : CR B w0 (w.setCell ⟨B, i, none⟩ u) T lv ds ps body xs pv bv :=
  ⟨h.bel.setCell (Nat.le_refl _) _, h.lo, by have := h.hi; simp [World.setCell]; exact this, ownsRow_setCell_below h.lrow (by simp) _, h.done.set hb, ownsRow_set h.prow hb (by decide), ownsRow_set h.brow hb (by decide), h.ne⟩
theorem CR.alloc {B T : Nat} {w0 w : World} {lv pv bv : Value} {ds : List Df} {ps body : List Tk} {xs : List Value} (h : CR B w0 w T lv ds ps body xs pv bv) (o : Obj) : CR B w0 (w.alloc o) T lv ds ps body xs pv bv :=
  ⟨h.bel.alloc (by have := h.lo; have := h.hi; omega) o, h.lo, by have := h.hi; simp; omega, h.lrow.alloc o, h.done.keep ((Below.refl T w).alloc h.hi o), h.prow.alloc o, h.brow.alloc o, h.ne⟩
theorem CBox.alloc {B : Nat} {w : World} {t : Tk} {pv bv : Value} (h : CBox w B t pv bv) (o : Obj) : CBox (w.alloc o) B t pv bv :=
  (Below.heap_alloc w o B (Array.getElem?_eq_some_iff.1 h).1).trans h
theorem grown_type {w w' : World} {base : Nat} {e t : TypeId} {size n k : Nat} {v : Value} {xs : List Value} {cs : Array Value} {fr : Nat × Nat} (hr : w.ownsRow base e size v n xs) (hg : w.grownBy w' v.ownBlock) (hne : t ≠ e) (h : w.heap[k]? = some (.cells cs t fr)) : w'.heap[k]? = some (.cells cs t fr) := by
  have hlt : k < w.heap.size := (Array.getElem?_eq_some_iff.1 h).1
  rw [hg.block k hlt ?_]
  · exact h
  · intro e1
    rcases hr.2 with ⟨rfl, _⟩ | ⟨q, cap, cur, rfl, _, hq, _⟩
    · simp [Value.ownBlock] at e1
    · simp [Value.ownBlock] at e1
      subst e1
      rw [hq] at h
      simp at h
      exact hne h.2.1.symm
theorem own_grown_type {w w' : World} {base base' : Nat} {e t : TypeId} {size size' n n' : Nat} {v v' : Value} {xs xs' : List Value} (hr : w.ownsRow base e size v n xs) (hg : w.grownBy w' v.ownBlock) (hne : t ≠ e) (h : w.ownsRow base' t size' v' n' xs') : w'.ownsRow base' t size' v' n' xs' := by
  refine ⟨h.1, ?_⟩
  rcases h.2 with hn | ⟨g, cap, cur, hv, hb, hh, r⟩
  · exact .inl hn
  · exact .inr ⟨g, cap, cur, hv, hb, grown_type hr hg hne hh, r⟩

/-- A parameter more. -/
theorem CR.pushP {B T : Nat} {w0 w w1 : World} {lv pv bv : Value} {ds : List Df} {ps body : List Tk} {xs : List Value} {t : Tk} {g cap H : Nat} (h : CR B w0 w T lv ds ps body xs pv bv)
    (hown : w1.ownsRow T 84 3 (.slice (some ⟨g, 0, none⟩) (ps.length + 1) cap) (ps.length + 1) (tcs ps ++ tcells t)) (hgrow : w.grownBy w1 pv.ownBlock) (hat : pv.ownBlock = some g ∨ g = H) (hH : w.heap.size = H) :
    CR B w0 w1 T lv ds (ps ++ [t]) body xs (.slice (some ⟨g, 0, none⟩) (ps.length + 1) cap) bv := by
  have hT : ∀ k, pv.ownBlock = some k → T ≤ k := fun k hk => (h.prow.lt k hk).1
  have hb : Below T w w1 := (Below.refl T w).grown hgrow h.hi hT
  have hbv : bv.ownBlock = none ∨ bv.ownBlock ≠ pv.ownBlock := by
    cases hq : bv.ownBlock with
    | none => exact .inl rfl
    | some k => right; intro e; exact h.ne k e.symm hq
  refine ⟨h.bel.trans (hb.mono (by have := h.lo; omega)), h.lo, Nat.le_trans h.hi hgrow.size, own_grown_type h.prow hgrow (by decide) h.lrow, h.done.keep hb, ?_, h.brow.kept hgrow hbv, ?_⟩
  · rw [tcs_snoc, List.length_append]; exact hown
  · intro k hk hk2
    simp only [Value.ownBlock, Option.some.injEq] at hk
    subst hk
    rcases hat with hat | hat
    · exact h.ne _ hat hk2
    · have := (h.brow.lt _ hk2).2; omega
/-- A token of the application more. -/
theorem CR.pushB {B T : Nat} {w0 w w1 : World} {lv pv bv : Value} {ds : List Df} {ps body : List Tk} {xs : List Value} {t : Tk} {g cap H : Nat} (h : CR B w0 w T lv ds ps body xs pv bv)
    (hown : w1.ownsRow T 84 3 (.slice (some ⟨g, 0, none⟩) (body.length + 1) cap) (body.length + 1) (tcs body ++ tcells t)) (hgrow : w.grownBy w1 bv.ownBlock) (hat : bv.ownBlock = some g ∨ g = H) (hH : w.heap.size = H) :
    CR B w0 w1 T lv ds ps (body ++ [t]) xs pv (.slice (some ⟨g, 0, none⟩) (body.length + 1) cap) := by
  have hT : ∀ k, bv.ownBlock = some k → T ≤ k := fun k hk => (h.brow.lt k hk).1
  have hb : Below T w w1 := (Below.refl T w).grown hgrow h.hi hT
  have hpv : pv.ownBlock = none ∨ pv.ownBlock ≠ bv.ownBlock := by
    cases hq : pv.ownBlock with
    | none => exact .inl rfl
    | some k => right; intro e; exact h.ne k hq e.symm
  refine ⟨h.bel.trans (hb.mono (by have := h.lo; omega)), h.lo, Nat.le_trans h.hi hgrow.size, own_grown_type h.brow hgrow (by decide) h.lrow, h.done.keep hb, h.prow.kept hgrow hpv, ?_, ?_⟩
  · rw [tcs_snoc, List.length_append]; exact hown
  · intro k hk hk2
    simp only [Value.ownBlock, Option.some.injEq] at hk2
    subst hk2
    rcases hat with hat | hat
    · exact h.ne _ hk hat
    · have := (h.prow.lt _ hk).2; omega
theorem DOk.type {w w' : World} {base T size n : Nat} {v : Value} {xs : List Value} (hr : w.ownsRow base 87 size v n xs) (hg : w.grownBy w' v.ownBlock) {d : Df} {pv bv : Value} (h : DOk w T d pv bv) : DOk w' T d pv bv :=
  ⟨own_grown_type hr hg (by decide) h.1, own_grown_type hr hg (by decide) h.2.1, h.2.2.1, h.2.2.2⟩
theorem DList.type {w w' : World} {base T size n : Nat} {v : Value} {xs0 : List Value} (hr : w.ownsRow base 87 size v n xs0) (hg : w.grownBy w' v.ownBlock) : ∀ {ds : List Df} {xs : List Value}, DList w T ds xs → DList w' T ds xs
  | [], _, h => h
  | _ :: _, _, ⟨pv, bv, r, h1, h2, h3⟩ => ⟨pv, bv, r, h1, h2.type hr hg, DList.type hr hg h3⟩
/-- A definition is done. -/
theorem CR.pushD {B T : Nat} {w0 w w1 : World} {lv pv bv nv : Value} {ds : List Df} {d : Df} {xs : List Value} (h : CR B w0 w T lv ds d.ps d.body xs pv bv)
    (hown : w1.ownsRow (B + 1) 87 5 nv (ds.length + 1) (xs ++ dcells d pv bv)) (hgrow : w.grownBy w1 lv.ownBlock) :
    CR B w0 w1 w.heap.size nv (ds ++ [d]) [] [] (xs ++ dcells d pv bv) (.slice none 0 0) (.slice none 0 0) := by
  have hlo := h.lo
  have hhi := h.hi
  have hd : DOk w w.heap.size d pv bv := ⟨ownsRow_base h.prow (Nat.zero_le _), ownsRow_base h.brow (Nat.zero_le _), fun k hk => (h.prow.lt k hk).2, fun k hk => (h.brow.lt k hk).2⟩
  refine ⟨h.bel.grown hgrow (by omega) (fun k hk => by have := (h.lrow.lt k hk).1; omega), by omega, hgrow.size, by rw [List.length_append]; exact hown, ?_, World.ownsRow_nil _ _ _ _, World.ownsRow_nil _ _ _ _, ?_⟩
  · exact DList.type h.lrow hgrow (DList.snoc hd (h.done.up hhi))
  · intro k hk; simp [Value.ownBlock] at hk

theorem CBox.name {B : Nat} {w : World} {t : Tk} {pv bv : Value} (h : CBox w B t pv bv) (t' : Tk) : CBox (((w.setCell ⟨B, 0, none⟩ (.int .i64 (kindOf t'.txt))).setCell ⟨B, 1, none⟩ (.int .i64 t'.pos)).setCell ⟨B, 2, none⟩ (.string t'.txt)) B t' pv bv :=
  blk_set _ (blk_set _ (blk_set _ h))
theorem CR.zero {B T : Nat} {w0 w : World} {lv pv bv pv' bv' : Value} {ds : List Df} {ps body : List Tk} {xs : List Value} {t : Tk} (h : CR B w0 w T lv ds ps body xs pv bv) (hb : CBox w B t pv' bv') :
    CR B w0 (((((w.setCell ⟨B, 0, none⟩ (.int .i64 0)).setCell ⟨B, 1, none⟩ (.int .i64 0)).setCell ⟨B, 2, none⟩ (.string ⟨#[]⟩)).setCell ⟨B, 3, none⟩ (.slice none 0 0)).setCell ⟨B, 4, none⟩ (.slice none 0 0)) T lv ds ps body xs pv bv ∧
    CBox (((((w.setCell ⟨B, 0, none⟩ (.int .i64 0)).setCell ⟨B, 1, none⟩ (.int .i64 0)).setCell ⟨B, 2, none⟩ (.string ⟨#[]⟩)).setCell ⟨B, 3, none⟩ (.slice none 0 0)).setCell ⟨B, 4, none⟩ (.slice none 0 0)) B tk0 (.slice none 0 0) (.slice none 0 0) := by
  have h0 := blk_set (i := 0) (.int .i64 0) hb
  have h1 := blk_set (i := 1) (.int .i64 0) h0
  have h2 := blk_set (i := 2) (.string ⟨#[]⟩) h1
  have h3 := blk_set (i := 3) (.slice none 0 0) h2
  exact ⟨((((h.set hb).set h0).set h1).set h2).set h3, blk_set _ h3⟩

theorem kind0 : kindOf ByteArray.empty = 0 := by decide
theorem Tryz.infoDef : (Tryz.prog.info? 87).map (fun i => (i.zero, i.size, i.bytes)) = some (some (.agg #[.int .i64 0, .int .i64 0, .string ByteArray.empty, .slice none 0 0, .slice none 0 0]), 5, 80) := by kernel_rfl

theorem cTake (ts : List Tk) (k : Nat) (h : k < ts.length) (c : Cs) (hc : (ts.take k).foldl cStep ⟨[], df0, 0⟩ = c) : (ts.take (k + 1)).foldl cStep ⟨[], df0, 0⟩ = cStep c ts[k] := by
  rw [List.take_succ_eq_append_getElem h, List.foldl_append, hc]; rfl
theorem dcells_one (d : Df) (pv bv : Value) (h1 : pv.oneCell' = true) (h2 : bv.oneCell' = true) : ∀ u ∈ dcells d pv bv, u.oneCell' = true := by
  intro u hu
  simp only [dcells, List.mem_cons, List.not_mem_nil, or_false] at hu
  rcases hu with rfl | rfl | rfl | rfl | rfl <;> first | rfl | assumption
theorem own_one {w : World} {base : Nat} {e : TypeId} {size n : Nat} {v : Value} {xs : List Value} (h : w.ownsRow base e size v n xs) : v.oneCell' = true := by
  obtain ⟨ao, cap, rfl⟩ := own_form h
  rfl

set_option maxHeartbeats 2000000 in
theorem sCutDefinitions (v : Value) (ts : List Tk) (w : World) (hl : ts.length ≤ 1000) (hv : w.ownsRow 0 84 3 v ts.length (tcs ts)) :
    Calls Tryz.prog 61 #[v] w fun e w' => ∃ lv, e = .returned lv ∧ Below w.heap.size w w' ∧ ∃ xs, w'.ownsRow 0 87 5 lv (cAll ts).ds.length xs ∧ DList w' w'.heap.size (cAll ts).ds xs := by
  obtain ⟨ao, cap, rfl⟩ := own_form hv
  go_enter Tryz.func61, Tryz.ntmps61
  go_wp2_with fail
  go_loopw [3, 5, 10] (fun lv aw a wr => ∃ (k T : Nat) (c : Cs) (xs : List Value) (pv bv : Value), k ≤ ts.length ∧ a = .int .i64 k ∧ aw = .int .i64 c.aw ∧ Hid ((ts.take k).foldl cStep ⟨[], df0, 0⟩ = c) ∧ CR w.heap.size w wr T lv c.ds c.d.ps c.d.body xs pv bv ∧ CBox wr w.heap.size c.d.name pv bv ∧ c.ds.length ≤ k ∧ c.d.ps.length ≤ k ∧ c.d.body.length ≤ k) (fun _ _ a _ => ts.length - (intOf a).toNat)
  case atStart =>
    refine ⟨0, w.heap.size + 1, ⟨[], df0, 0⟩, [], .slice none 0 0, .slice none 0 0, Nat.zero_le _, rfl, rfl, rfl, ?_, heap_alloc_new w _, Nat.le_refl _, Nat.le_refl _, Nat.le_refl _⟩
    exact ⟨(Below.refl _ _).alloc (Nat.le_refl _) _, by omega, by simp, World.ownsRow_nil _ _ _ _, rfl, World.ownsRow_nil _ _ _ _, World.ownsRow_nil _ _ _ _, fun k hk => by simp [Value.ownBlock] at hk⟩
  case round =>
    obtain ⟨k, T, c, xs, pv, bv, hk, rfl, rfl, HF, hrep, hbox, hc1, hc2, hc3⟩ := hrel
    by_cases hlt : k < ts.length
    · obtain ⟨q, cap', hq, _, hqlt⟩ := hv.form (by omega)
      cases hq
      have hvr := ownsRow_old hv hrep.bel
      have ⟨t0, t1, t2⟩ := tcs_at ts k hlt
      have d0 := row_cell hvr _ _ t0
      have d1 := row_cell hvr _ _ t1
      have d2 := row_cell hvr _ _ t2
      clear t0 t1 t2 hvr
      have b0 := cell_of_row wr w.heap.size 0 _ _ _ hbox
      have b1 := cell_of_row wr w.heap.size 1 _ _ _ hbox
      have b2 := cell_of_row wr w.heap.size 2 _ _ _ hbox
      have b3 := cell_of_row wr w.heap.size 3 _ _ _ hbox
      have b4 := cell_of_row wr w.heap.size 4 _ _ _ hbox
      have fz := fun j => frozen_of_row wr w.heap.size j _ _ hbox
      simp only [List.getElem?_toArray, List.getElem?_cons_succ, List.getElem?_cons_zero] at b0 b1 b2 b3 b4
      have hBs : w.heap.size < wr.heap.size := by have := hrep.lo; have := hrep.hi; omega
      have HF2 : Hid ((ts.take (k + 1)).foldl cStep ⟨[], df0, 0⟩ = cStep c ts[k]) := cTake ts k hlt c HF.out
      clear HF
      by_cases h5 : kindOf ts[k].txt = 5
      · obtain ⟨i, hi, hz0, hz1, hz2⟩ := info_parts Tryz.infoDef
        rw [show cStep c ts[k] = ⟨c.ds ++ [c.d], df0, 0⟩ by simp [cStep, h5]] at HF2
        have ho1 := own_one hrep.prow
        have ho2 := own_one hrep.brow
        have HO1 : Hid (pv.oneCell' = true) := ho1
        have HO2 : Hid (bv.oneCell' = true) := ho2
        clear ho1 ho2
        go_wp2_with (at_builtin; go_must (refine wpList_append_lies _ rfl _ _ _ rfl (w.heap.size + 1) 87 i _ 5 80 Tryz.underlying79 hi hz0 hz1 hz2 rfl (by omega) u3 c.ds.length xs rfl ?hownA _ 1 _ (dcells c.d pv bv) rfl rfl ?hnewsA ?h1A (by omega) ?h63A ?hbytesA ?hbaseA _ rfl ?_))
        case hownA => exact (hrep.lrow.alloc _).alloc _
        case hnewsA => exact World.news_of_block (heap_alloc2_new wr _ _)
        case h1A => exact dcells_one _ _ _ HO1.out HO2.out
        case h63A => unfold maxLen; omega
        case hbytesA => omega
        case hbaseA => simp; omega
        intro g cap1 w1 hown1 hgrow hat hlt1
        have hbox1 : CBox w1 w.heap.size c.d.name pv bv := (hgrow.block w.heap.size (by simp; omega) (fun e => by have := (hrep.lrow.lt _ e.symm).1; omega)).trans ((hbox.alloc _).alloc _)
        have hrep1 := CR.pushD (d := c.d) ((hrep.alloc _).alloc _) hown1 hgrow
        have g0 := cell_of_row w1 w.heap.size 0 _ _ _ hbox1
        have g1 := cell_of_row w1 w.heap.size 1 _ _ _ hbox1
        have g2 := cell_of_row w1 w.heap.size 2 _ _ _ hbox1
        have g3 := cell_of_row w1 w.heap.size 3 _ _ _ hbox1
        have g4 := cell_of_row w1 w.heap.size 4 _ _ _ hbox1
        have gz := fun j => frozen_of_row w1 w.heap.size j _ _ hbox1
        simp only [List.getElem?_toArray, List.getElem?_cons_succ, List.getElem?_cons_zero] at g0 g1 g2 g3 g4
        clear hi hz0 hz1 hz2 b0 b1 b2 b3 b4 fz d0 d1 d2
        go_wp2_with fail
        go_roundw
        case rel =>
          have z := hrep1.zero hbox1
          exact ⟨k + 1, _, ⟨c.ds ++ [c.d], df0, 0⟩, _, _, _, by omega, by go_num, rfl, HF2, z.1, z.2, by simp; omega, Nat.zero_le _, Nat.zero_le _⟩
        case measure => simp [intOf]; omega
      · have h5' : (kindOf ts[k].txt == 5) = false := by simpa using h5
        by_cases h4 : kindOf ts[k].txt = 4
        · rw [show cStep c ts[k] = ⟨c.ds, c.d, 2⟩ by simp [cStep, h4]] at HF2
          clear h5 h5'
          go_wp2_with fail
          go_roundw
          case rel => exact ⟨k + 1, T, ⟨c.ds, c.d, 2⟩, xs, pv, bv, by omega, by go_num, rfl, HF2, hrep.alloc _, hbox.alloc _, Nat.le_succ_of_le hc1, Nat.le_succ_of_le hc2, Nat.le_succ_of_le hc3⟩
          case measure => simp [intOf]; omega
        · have h4' : (kindOf ts[k].txt == 4) = false := by simpa using h4
          by_cases h0 : c.aw = 0
          · rw [show cStep c ts[k] = ⟨c.ds, { c.d with name := ts[k] }, 1⟩ by simp [cStep, h5, h4, h0]] at HF2
            clear h5 h4
            go_wp2_with fail
            go_roundw
            case rel => exact ⟨k + 1, T, ⟨c.ds, { c.d with name := ts[k] }, 1⟩, xs, pv, bv, by omega, by go_num, rfl, HF2, (((hrep.set hbox).set (blk_set _ hbox)).set (blk_set _ (blk_set _ hbox))).alloc _, (hbox.name ts[k]).alloc _, Nat.le_succ_of_le hc1, Nat.le_succ_of_le hc2, Nat.le_succ_of_le hc3⟩
            case measure => simp [intOf]; omega
          · have h0' : (c.aw == 0) = false := by simpa using h0
            obtain ⟨i, hi, hz0, hz1, hz2⟩ := info_parts Tryz.infoTok
            by_cases h1 : c.aw = 1
            · rw [show cStep c ts[k] = ⟨c.ds, { c.d with ps := c.d.ps ++ [ts[k]] }, c.aw⟩ by simp [cStep, h5, h4, h1]] at HF2
              clear h5 h4 h0 h0'
              go_wp2_with (at_builtin; go_must (refine wpList_append_lies _ rfl _ _ _ rfl T 84 i _ 3 32 Tryz.underlying85 hi hz0 hz1 hz2 rfl (by omega) pv c.d.ps.length (tcs c.d.ps) rfl ?hownP _ 1 _ (tcells ts[k]) rfl rfl ?hnewsP ?h1P (by omega) ?h63P ?hbytesP ?hbaseP _ rfl ?_))
              case hownP => exact (hrep.prow.alloc _).alloc _
              case hnewsP => exact fun _ _ h => h
              case h1P => exact tcells_one _
              case h63P => unfold maxLen; omega
              case hbytesP => omega
              case hbaseP => have := hrep.hi; simp; omega
              intro g cap1 w1 hown1 hgrow hat hlt1
              have hbox1 : CBox w1 w.heap.size c.d.name pv bv := grown_type (((hrep.prow).alloc _).alloc _) hgrow (by decide) ((hbox.alloc _).alloc _)
              have hrep1 := ((hrep.alloc _).alloc _).pushP (t := ts[k]) hown1 hgrow hat (by simp)
              have g3 := cell_of_row w1 w.heap.size 3 _ _ _ hbox1
              have gz := frozen_of_row w1 w.heap.size 3 _ _ hbox1
              simp only [List.getElem?_toArray, List.getElem?_cons_succ, List.getElem?_cons_zero] at g3
              go_wp2_with fail
              go_roundw
              case rel => exact ⟨k + 1, T, ⟨c.ds, { c.d with ps := c.d.ps ++ [ts[k]] }, c.aw⟩, xs, _, _, by omega, by go_num, by simp [*], HF2, hrep1.set hbox1, blk_set _ hbox1, Nat.le_succ_of_le hc1, by simp; omega, by exact Nat.le_succ_of_le hc3⟩
              case measure => simp [intOf]; omega
            · have h1' : (c.aw == 1) = false := by simpa using h1
              rw [show cStep c ts[k] = ⟨c.ds, { c.d with body := c.d.body ++ [ts[k]] }, c.aw⟩ by simp [cStep, h5, h4, h1, h0]] at HF2
              clear h5 h4 h0 h1
              go_wp2_with (at_builtin; go_must (refine wpList_append_lies _ rfl _ _ _ rfl T 84 i _ 3 32 Tryz.underlying85 hi hz0 hz1 hz2 rfl (by omega) bv c.d.body.length (tcs c.d.body) rfl ?hownB _ 1 _ (tcells ts[k]) rfl rfl ?hnewsB ?h1B (by omega) ?h63B ?hbytesB ?hbaseB _ rfl ?_))
              case hownB => exact (hrep.brow.alloc _).alloc _
              case hnewsB => exact fun _ _ h => h
              case h1B => exact tcells_one _
              case h63B => unfold maxLen; omega
              case hbytesB => omega
              case hbaseB => have := hrep.hi; simp; omega
              intro g cap1 w1 hown1 hgrow hat hlt1
              have hbox1 : CBox w1 w.heap.size c.d.name pv bv := grown_type (((hrep.brow).alloc _).alloc _) hgrow (by decide) ((hbox.alloc _).alloc _)
              have hrep1 := ((hrep.alloc _).alloc _).pushB (t := ts[k]) hown1 hgrow hat (by simp)
              have g3 := cell_of_row w1 w.heap.size 4 _ _ _ hbox1
              have gz := frozen_of_row w1 w.heap.size 4 _ _ hbox1
              simp only [List.getElem?_toArray, List.getElem?_cons_succ, List.getElem?_cons_zero] at g3
              go_wp2_with fail
              go_roundw
              case rel => exact ⟨k + 1, T, ⟨c.ds, { c.d with body := c.d.body ++ [ts[k]] }, c.aw⟩, xs, _, _, by omega, by go_num, by simp [*], HF2, hrep1.set hbox1, blk_set _ hbox1, Nat.le_succ_of_le hc1, by exact Nat.le_succ_of_le hc2, by simp; omega⟩
              case measure => simp [intOf]; omega
    · have e1 : cAll ts = c := by have := HF.out; rw [List.take_of_length_le (by omega)] at this; exact this
      subst e1
      go_wp2_with fail
      go_ret
      exact ⟨_, rfl, hrep.bel, xs, ownsRow_base hrep.lrow (Nat.zero_le _), hrep.done.up hrep.hi⟩

end Go.Proofs.YtnndoagpbcacdaaGreatDoor
