import Derived.Test.YtnndoagpbcacdaaGreatDoorMA4
import Derived.Deep.RegionWith
namespace Go.Proofs.YtnndoagpbcacdaaGreatDoor
open Go.RowKit

/-! Definitions. -/
structure Df where
  name : Tk
  ps : List Tk
  body : List Tk
def tk0 : Tk := ⟨0, ByteArray.empty⟩
def df0 : Df := ⟨tk0, [], []⟩

structure Cs where
  ds : List Df
  d : Df
  aw : Int
def cStep (c : Cs) (t : Tk) : Cs :=
  if kindOf t.txt = 5 then ⟨c.ds ++ [c.d], df0, 0⟩
  else if kindOf t.txt = 4 then ⟨c.ds, c.d, 2⟩
  else if c.aw = 0 then ⟨c.ds, { c.d with name := t }, 1⟩
  else if c.aw = 1 then ⟨c.ds, { c.d with ps := c.d.ps ++ [t] }, c.aw⟩
  else ⟨c.ds, { c.d with body := c.d.body ++ [t] }, c.aw⟩
def cAll (ts : List Tk) : Cs := ts.foldl cStep ⟨[], df0, 0⟩

def DOk (w : World) (T : Nat) (d : Df) (pv bv : Value) : Prop :=
  w.ownsRow 0 84 3 pv d.ps.length (tcs d.ps) ∧ w.ownsRow 0 84 3 bv d.body.length (tcs d.body) ∧ (∀ k, pv.ownBlock = some k → k < T) ∧ (∀ k, bv.ownBlock = some k → k < T)
def dcells (d : Df) (pv bv : Value) : List Value := [.int .i64 (kindOf d.name.txt), .int .i64 d.name.pos, .string d.name.txt, pv, bv]
def DList (w : World) (T : Nat) : List Df → List Value → Prop
  | [], xs => xs = []
  | d :: ds, xs => ∃ pv bv r, xs = dcells d pv bv ++ r ∧ DOk w T d pv bv ∧ DList w T ds r

theorem DOk.keep {w w' : World} {T : Nat} {d : Df} {pv bv : Value} (h : DOk w T d pv bv) (hb : Below T w w') : DOk w' T d pv bv :=
  ⟨ownsRow_below h.1 hb h.2.2.1, ownsRow_below h.2.1 hb h.2.2.2, h.2.2.1, h.2.2.2⟩
theorem DOk.up {w : World} {T T' : Nat} {d : Df} {pv bv : Value} (h : DOk w T d pv bv) (hT : T ≤ T') : DOk w T' d pv bv :=
  ⟨h.1, h.2.1, fun k hk => Nat.lt_of_lt_of_le (h.2.2.1 k hk) hT, fun k hk => Nat.lt_of_lt_of_le (h.2.2.2 k hk) hT⟩
theorem DList.keep {w w' : World} {T : Nat} (hb : Below T w w') : ∀ {ds : List Df} {xs : List Value}, DList w T ds xs → DList w' T ds xs
  | [], _, h => h
  | _ :: _, _, ⟨pv, bv, r, h1, h2, h3⟩ => ⟨pv, bv, r, h1, h2.keep hb, DList.keep hb h3⟩
theorem DList.up {w : World} {T T' : Nat} (hT : T ≤ T') : ∀ {ds : List Df} {xs : List Value}, DList w T ds xs → DList w T' ds xs
  | [], _, h => h
  | _ :: _, _, ⟨pv, bv, r, h1, h2, h3⟩ => ⟨pv, bv, r, h1, h2.up hT, DList.up hT h3⟩
theorem DList.snoc {w : World} {T : Nat} {d : Df} {pv bv : Value} (hd : DOk w T d pv bv) : ∀ {ds : List Df} {xs : List Value}, DList w T ds xs → DList w T (ds ++ [d]) (xs ++ dcells d pv bv)
  | [], _, h => by rw [show _ = ([] : List Value) from h]; exact ⟨pv, bv, [], by simp, hd, rfl⟩
  | _ :: _, _, ⟨p, b, r, h1, h2, h3⟩ => ⟨p, b, r ++ dcells d pv bv, by rw [h1]; simp, h2, DList.snoc hd h3⟩

theorem DOk.set {w : World} {T b i : Nat} {u : Value} {cs : Array Value} {d : Df} {pv bv : Value} (h : DOk w T d pv bv) (hb : w.heap[b]? = some (.cells cs 87 (0, 0))) : DOk (w.setCell ⟨b, i, none⟩ u) T d pv bv :=
  ⟨ownsRow_set h.1 hb (by decide), ownsRow_set h.2.1 hb (by decide), h.2.2.1, h.2.2.2⟩
theorem DList.set {w : World} {T b i : Nat} {u : Value} {cs : Array Value} (hb : w.heap[b]? = some (.cells cs 87 (0, 0))) : ∀ {ds : List Df} {xs : List Value}, DList w T ds xs → DList (w.setCell ⟨b, i, none⟩ u) T ds xs
  | [], _, h => h
  | _ :: _, _, ⟨pv, bv, r, h1, h2, h3⟩ => ⟨pv, bv, r, h1, h2.set hb, DList.set hb h3⟩

/-- What 'cutDefinitions' holds in memory at a round's head, beside the box B of the definition that is being made. -/
structure CR (B : Nat) (w0 w : World) (T : Nat) (lv : Value) (ds : List Df) (ps body : List Tk) (xs : List Value) (pv bv : Value) : Prop where
  bel : Below B w0 w
  lo : B < T
  hi : T ≤ w.heap.size
  lrow : w.ownsRow (B + 1) 87 5 lv ds.length xs
  done : DList w T ds xs
  prow : w.ownsRow T 84 3 pv ps.length (tcs ps)
  brow : w.ownsRow T 84 3 bv body.length (tcs body)
  ne : ∀ k, pv.ownBlock = some k → bv.ownBlock ≠ some k
def CBox (w : World) (B : Nat) (t : Tk) (pv bv : Value) : Prop :=
  w.heap[B]? = some (.cells #[.int .i64 (kindOf t.txt), .int .i64 t.pos, .string t.txt, pv, bv] 87 (0, 0))

theorem CR.set {B T i : Nat} {w0 w : World} {lv pv bv u : Value} {ds : List Df} {ps body : List Tk} {xs : List Value} {cs : Array Value} (h : CR B w0 w T lv ds ps body xs pv bv) (hb : w.heap[B]? = some (.cells cs 87 (0, 0))) : CR B w0 (w.setCell ⟨B, i, none⟩ u) T lv ds ps body xs pv bv :=
  ⟨h.bel.setCell (Nat.le_refl _) _, h.lo, by have := h.hi; simp [World.setCell]; exact this, ownsRow_setCell_below h.lrow (by simp) _, h.done.set hb, ownsRow_set h.prow hb (by decide), ownsRow_set h.brow hb (by decide), h.ne⟩
theorem CR.alloc {B T : Nat} {w0 w : World} {lv pv bv : Value} {ds : List Df} {ps body : List Tk} {xs : List Value} (h : CR B w0 w T lv ds ps body xs pv bv) (o : Obj) : CR B w0 (w.alloc o) T lv ds ps body xs pv bv :=
  ⟨h.bel.alloc (by have := h.lo; have := h.hi; omega) o, h.lo, by have := h.hi; simp; omega, h.lrow.alloc o, h.done.keep ((Below.refl T w).alloc h.hi o), h.prow.alloc o, h.brow.alloc o, h.ne⟩
theorem CBox.alloc {B : Nat} {w : World} {t : Tk} {pv bv : Value} (h : CBox w B t pv bv) (o : Obj) : CBox (w.alloc o) B t pv bv :=
  (Below.heap_alloc w o B (Array.getElem?_eq_some_iff.1 h).1).trans h
theorem grown_type {w w' : World} {base : Nat} {e t : TypeId} {size n k : Nat} {v : Value} {xs : List Value} {cs : Array Value} {fr : Nat × Nat} (hr : w.ownsRow base e size v n xs) (hg : w.grownBy w' v.ownBlock) (hne : t ≠ e) (h : w.heap[k]? = some (.cells cs t fr)) : w'.heap[k]? = some (.cells cs t fr) := by
  have hlt : k < w.heap.size := (Array.getElem?_eq_some_iff.1 h).1
  rw [hg.block k hlt ?_]
  · exact h
  · intro e1
    rcases hr.2 with ⟨rfl, _⟩ | ⟨q, cap, cur, rfl, _, hq, _⟩
    · simp [Value.ownBlock] at e1
    · simp [Value.ownBlock] at e1
      subst e1
      rw [hq] at h
      simp at h
      exact hne h.2.1.symm
theorem own_grown_type {w w' : World} {base base' : Nat} {e t : TypeId} {size size' n n' : Nat} {v v' : Value} {xs xs' : List Value} (hr : w.ownsRow base e size v n xs) (hg : w.grownBy w' v.ownBlock) (hne : t ≠ e) (h : w.ownsRow base' t size' v' n' xs') : w'.ownsRow base' t size' v' n' xs' := by
  refine ⟨h.1, ?_⟩
  rcases h.2 with hn | ⟨g, cap, cur, hv, hb, hh, r⟩
  · exact .inl hn
  · exact .inr ⟨g, cap, cur, hv, hb, grown_type hr hg hne hh, r⟩

/-- A parameter more. -/
theorem CR.pushP {B T : Nat} {w0 w w1 : World} {lv pv bv : Value} {ds : List Df} {ps body : List Tk} {xs : List Value} {t : Tk} {g cap H : Nat} (h : CR B w0 w T lv ds ps body xs pv bv)
    (hown : w1.ownsRow T 84 3 (.slice (some ⟨g, 0, none⟩) (ps.length + 1) cap) (ps.length + 1) (tcs ps ++ tcells t)) (hgrow : w.grownBy w1 pv.ownBlock) (hat : pv.ownBlock = some g ∨ g = H) (hH : w.heap.size = H) :
    CR B w0 w1 T lv ds (ps ++ [t]) body xs (.slice (some ⟨g, 0, none⟩) (ps.length + 1) cap) bv := by
  have hT : ∀ k, pv.ownBlock = some k → T ≤ k := fun k hk => (h.prow.lt k hk).1
  have hb : Below T w w1 := (Below.refl T w).grown hgrow h.hi hT
  have hbv : bv.ownBlock = none ∨ bv.ownBlock ≠ pv.ownBlock := by
    cases hq : bv.ownBlock with
    | none => exact .inl rfl
    | some k => right; intro e; exact h.ne k e.symm hq
  refine ⟨h.bel.trans (hb.mono (by have := h.lo; omega)), h.lo, Nat.le_trans h.hi hgrow.size, own_grown_type h.prow hgrow (by decide) h.lrow, h.done.keep hb, ?_, h.brow.kept hgrow hbv, ?_⟩
  · rw [tcs_snoc, List.length_append]; exact hown
  · intro k hk hk2
    simp only [Value.ownBlock, Option.some.injEq] at hk
    subst hk
    rcases hat with hat | hat
    · exact h.ne _ hat hk2
    · have := (h.brow.lt _ hk2).2; omega
/-- A token of the application more. -/
theorem CR.pushB {B T : Nat} {w0 w w1 : World} {lv pv bv : Value} {ds : List Df} {ps body : List Tk} {xs : List Value} {t : Tk} {g cap H : Nat} (h : CR B w0 w T lv ds ps body xs pv bv)
    (hown : w1.ownsRow T 84 3 (.slice (some ⟨g, 0, none⟩) (body.length + 1) cap) (body.length + 1) (tcs body ++ tcells t)) (hgrow : w.grownBy w1 bv.ownBlock) (hat : bv.ownBlock = some g ∨ g = H) (hH : w.heap.size = H) :
    CR B w0 w1 T lv ds ps (body ++ [t]) xs pv (.slice (some ⟨g, 0, none⟩) (body.length + 1) cap) := by
  have hT : ∀ k, bv.ownBlock = some k → T ≤ k := fun k hk => (h.brow.lt k hk).1
  have hb : Below T w w1 := (Below.refl T w).grown hgrow h.hi hT
  have hpv : pv.ownBlock = none ∨ pv.ownBlock ≠ bv.ownBlock := by
    cases hq : pv.ownBlock with
    | none => exact .inl rfl
    | some k => right; intro e; exact h.ne k hq e.symm
  refine ⟨h.bel.trans (hb.mono (by have := h.lo; omega)), h.lo, Nat.le_trans h.hi hgrow.size, own_grown_type h.brow hgrow (by decide) h.lrow, h.done.keep hb, h.prow.kept hgrow hpv, ?_, ?_⟩
  · rw [tcs_snoc, List.length_append]; exact hown
  · intro k hk hk2
    simp only [Value.ownBlock, Option.some.injEq] at hk2
    subst hk2
    rcases hat with hat | hat
    · exact h.ne _ hk hat
    · have := (h.prow.lt _ hk).2; omega
theorem DOk.type {w w' : World} {base T size n : Nat} {v : Value} {xs : List Value} (hr : w.ownsRow base 87 size v n xs) (hg : w.grownBy w' v.ownBlock) {d : Df} {pv bv : Value} (h : DOk w T d pv bv) : DOk w' T d pv bv :=
  ⟨own_grown_type hr hg (by decide) h.1, own_grown_type hr hg (by decide) h.2.1, h.2.2.1, h.2.2.2⟩
theorem DList.type {w w' : World} {base T size n : Nat} {v : Value} {xs0 : List Value} (hr : w.ownsRow base 87 size v n xs0) (hg : w.grownBy w' v.ownBlock) : ∀ {ds : List Df} {xs : List Value}, DList w T ds xs → DList w' T ds xs
  | [], _, h => h
  | _ :: _, _, ⟨pv, bv, r, h1, h2, h3⟩ => ⟨pv, bv, r, h1, h2.type hr hg, DList.type hr hg h3⟩
/-- A definition is done. -/
theorem CR.pushD {B T : Nat} {w0 w w1 : World} {lv pv bv nv : Value} {ds : List Df} {d : Df} {xs : List Value} (h : CR B w0 w T lv ds d.ps d.body xs pv bv)
    (hown : w1.ownsRow (B + 1) 87 5 nv (ds.length + 1) (xs ++ dcells d pv bv)) (hgrow : w.grownBy w1 lv.ownBlock) :
    CR B w0 w1 w.heap.size nv (ds ++ [d]) [] [] (xs ++ dcells d pv bv) (.slice none 0 0) (.slice none 0 0) := by
  have hlo := h.lo
  have hhi := h.hi
  have hd : DOk w w.heap.size d pv bv := ⟨ownsRow_base h.prow (Nat.zero_le _), ownsRow_base h.brow (Nat.zero_le _), fun k hk => (h.prow.lt k hk).2, fun k hk => (h.brow.lt k hk).2⟩
  refine ⟨h.bel.grown hgrow (by omega) (fun k hk => by have := (h.lrow.lt k hk).1; omega), by omega, hgrow.size, by rw [List.length_append]; exact hown, ?_, World.ownsRow_nil _ _ _ _, World.ownsRow_nil _ _ _ _, ?_⟩
  · exact DList.type h.lrow hgrow (DList.snoc hd (h.done.up hhi))
  · intro k hk; simp [Value.ownBlock] at hk

theorem CBox.name {B : Nat} {w : World} {t : Tk} {pv bv : Value} (h : CBox w B t pv bv) (t' : Tk) : CBox (((w.setCell ⟨B, 0, none⟩ (.int .i64 (kindOf t'.txt))).setCell ⟨B, 1, none⟩ (.int .i64 t'.pos)).setCell ⟨B, 2, none⟩ (.string t'.txt)) B t' pv bv :=
  blk_set _ (blk_set _ (blk_set _ h))
theorem CR.zero {B T : Nat} {w0 w : World} {lv pv bv pv' bv' : Value} {ds : List Df} {ps body : List Tk} {xs : List Value} {t : Tk} (h : CR B w0 w T lv ds ps body xs pv bv) (hb : CBox w B t pv' bv') :
    CR B w0 (((((w.setCell ⟨B, 0, none⟩ (.int .i64 0)).setCell ⟨B, 1, none⟩ (.int .i64 0)).setCell ⟨B, 2, none⟩ (.string ⟨#[]⟩)).setCell ⟨B, 3, none⟩ (.slice none 0 0)).setCell ⟨B, 4, none⟩ (.slice none 0 0)) T lv ds ps body xs pv bv ∧
    CBox (((((w.setCell ⟨B, 0, none⟩ (.int .i64 0)).setCell ⟨B, 1, none⟩ (.int .i64 0)).setCell ⟨B, 2, none⟩ (.string ⟨#[]⟩)).setCell ⟨B, 3, none⟩ (.slice none 0 0)).setCell ⟨B, 4, none⟩ (.slice none 0 0)) B tk0 (.slice none 0 0) (.slice none 0 0) := by
  have h0 := blk_set (i := 0) (.int .i64 0) hb
  have h1 := blk_set (i := 1) (.int .i64 0) h0
  have h2 := blk_set (i := 2) (.string ⟨#[]⟩) h1
  have h3 := blk_set (i := 3) (.slice none 0 0) h2
  exact ⟨((((h.set hb).set h0).set h1).set h2).set h3, blk_set _ h3⟩

theorem kind0 : kindOf ByteArray.empty = 0 := by decide
theorem Tryz.infoDef : (Tryz.prog.info? 87).map (fun i => (i.zero, i.size, i.bytes)) = some (some (.agg #[.int .i64 0, .int .i64 0, .string ByteArray.empty, .slice none 0 0, .slice none 0 0]), 5, 80) := by kernel_rfl

theorem cTake (ts : List Tk) (k : Nat) (h : k < ts.length) (c : Cs) (hc : (ts.take k).foldl cStep ⟨[], df0, 0⟩ = c) : (ts.take (k + 1)).foldl cStep ⟨[], df0, 0⟩ = cStep c ts[k] := by
  rw [List.take_succ_eq_append_getElem h, List.foldl_append, hc]; rfl
theorem dcells_one (d : Df) (pv bv : Value) (h1 : pv.oneCell' = true) (h2 : bv.oneCell' = true) : ∀ u ∈ dcells d pv bv, u.oneCell' = true := by
  intro u hu
  simp only [dcells, List.mem_cons, List.not_mem_nil, or_false] at hu
  rcases hu with rfl | rfl | rfl | rfl | rfl <;> first | rfl | assumption
theorem own_one {w : World} {base : Nat} {e : TypeId} {size n : Nat} {v : Value} {xs : List Value} (h : w.ownsRow base e size v n xs) : v.oneCell' = true := by
  obtain ⟨ao, cap, rfl⟩ := own_form h
  rfl

set_option maxHeartbeats 2000000 in
theorem sCutDefinitions (v : Value) (ts : List Tk) (w : World) (hl : ts.length ≤ 1000) (hv : w.ownsRow 0 84 3 v ts.length (tcs ts)) :
    Calls Tryz.prog 61 #[v] w fun e w' => ∃ lv, e = .returned lv ∧ Below w.heap.size w w' ∧ ∃ xs, w'.ownsRow 0 87 5 lv (cAll ts).ds.length xs ∧ DList w' w'.heap.size (cAll ts).ds xs := by
  obtain ⟨ao, cap, rfl⟩ := own_form hv
  go_enter Tryz.func61, Tryz.ntmps61
  go_wp2_with fail
  go_loopw [3, 5, 10] (fun lv aw a wr => ∃ (k T : Nat) (c : Cs) (xs : List Value) (pv bv : Value), k ≤ ts.length ∧ a = .int .i64 k ∧ aw = .int .i64 c.aw ∧ Hid ((ts.take k).foldl cStep ⟨[], df0, 0⟩ = c) ∧ CR w.heap.size w wr T lv c.ds c.d.ps c.d.body xs pv bv ∧ CBox wr w.heap.size c.d.name pv bv ∧ c.ds.length ≤ k ∧ c.d.ps.length ≤ k ∧ c.d.body.length ≤ k) (fun _ _ a _ => ts.length - (intOf a).toNat)
  case atStart =>
    refine ⟨0, w.heap.size + 1, ⟨[], df0, 0⟩, [], .slice none 0 0, .slice none 0 0, Nat.zero_le _, rfl, rfl, rfl, ?_, heap_alloc_new w _, Nat.le_refl _, Nat.le_refl _, Nat.le_refl _⟩
    exact ⟨(Below.refl _ _).alloc (Nat.le_refl _) _, by omega, by simp, World.ownsRow_nil _ _ _ _, rfl, World.ownsRow_nil _ _ _ _, World.ownsRow_nil _ _ _ _, fun k hk => by simp [Value.ownBlock] at hk⟩
  case round =>
    obtain ⟨k, T, c, xs, pv, bv, hk, rfl, rfl, HF, hrep, hbox, hc1, hc2, hc3⟩ := hrel
    by_cases hlt : k < ts.length
    · obtain ⟨q, cap', hq, _, hqlt⟩ := hv.form (by omega)
      cases hq
      have hvr := ownsRow_old hv hrep.bel
      have ⟨t0, t1, t2⟩ := tcs_at ts k hlt
      have d0 := row_cell hvr _ _ t0
      have d1 := row_cell hvr _ _ t1
      have d2 := row_cell hvr _ _ t2
      clear t0 t1 t2 hvr
      have b0 := cell_of_row wr w.heap.size 0 _ _ _ hbox
      have b1 := cell_of_row wr w.heap.size 1 _ _ _ hbox
      have b2 := cell_of_row wr w.heap.size 2 _ _ _ hbox
      have b3 := cell_of_row wr w.heap.size 3 _ _ _ hbox
      have b4 := cell_of_row wr w.heap.size 4 _ _ _ hbox
      have fz := fun j => frozen_of_row wr w.heap.size j _ _ hbox
      simp only [List.getElem?_toArray, List.getElem?_cons_succ, List.getElem?_cons_zero] at b0 b1 b2 b3 b4
      have hBs : w.heap.size < wr.heap.size := by have := hrep.lo; have := hrep.hi; omega
      have HF2 : Hid ((ts.take (k + 1)).foldl cStep ⟨[], df0, 0⟩ = cStep c ts[k]) := cTake ts k hlt c HF.out
      clear HF
      by_cases h5 : kindOf ts[k].txt = 5
      · obtain ⟨i, hi, hz0, hz1, hz2⟩ := info_parts Tryz.infoDef
        rw [show cStep c ts[k] = ⟨c.ds ++ [c.d], df0, 0⟩ by simp [cStep, h5]] at HF2
        have ho1 := own_one hrep.prow
        have ho2 := own_one hrep.brow
        have HO1 : Hid (pv.oneCell' = true) := ho1
        have HO2 : Hid (bv.oneCell' = true) := ho2
        clear ho1 ho2
        go_wp2_with (at_builtin; go_must (refine wpList_append_lies _ rfl _ _ _ rfl (w.heap.size + 1) 87 i _ 5 80 Tryz.underlying79 hi hz0 hz1 hz2 rfl (by omega) u3 c.ds.length xs rfl ?hownA _ 1 _ (dcells c.d pv bv) rfl rfl ?hnewsA ?h1A (by omega) ?h63A ?hbytesA ?hbaseA _ rfl ?_))
        case hownA => exact (hrep.lrow.alloc _).alloc _
        case hnewsA => exact World.news_of_block (heap_alloc2_new wr _ _)
        case h1A => exact dcells_one _ _ _ HO1.out HO2.out
        case h63A => unfold maxLen; omega
        case hbytesA => omega
        case hbaseA => simp; omega
        intro g cap1 w1 hown1 hgrow hat hlt1
        have hbox1 : CBox w1 w.heap.size c.d.name pv bv := (hgrow.block w.heap.size (by simp; omega) (fun e => by have := (hrep.lrow.lt _ e.symm).1; omega)).trans ((hbox.alloc _).alloc _)
        have hrep1 := CR.pushD (d := c.d) ((hrep.alloc _).alloc _) hown1 hgrow
        have g0 := cell_of_row w1 w.heap.size 0 _ _ _ hbox1
        have g1 := cell_of_row w1 w.heap.size 1 _ _ _ hbox1
        have g2 := cell_of_row w1 w.heap.size 2 _ _ _ hbox1
        have g3 := cell_of_row w1 w.heap.size 3 _ _ _ hbox1
        have g4 := cell_of_row w1 w.heap.size 4 _ _ _ hbox1
        have gz := fun j => frozen_of_row w1 w.heap.size j _ _ hbox1
        simp only [List.getElem?_toArray, List.getElem?_cons_succ, List.getElem?_cons_zero] at g0 g1 g2 g3 g4
        clear hi hz0 hz1 hz2 b0 b1 b2 b3 b4 fz d0 d1 d2
        go_wp2_with fail
        go_roundw
        case rel =>
          have z := hrep1.zero hbox1
          exact ⟨k + 1, _, ⟨c.ds ++ [c.d], df0, 0⟩, _, _, _, by omega, by go_num, rfl, HF2, z.1, z.2, by simp; omega, Nat.zero_le _, Nat.zero_le _⟩
        case measure => simp [intOf]; omega
      · have h5' : (kindOf ts[k].txt == 5) = false := by simpa using h5
        by_cases h4 : kindOf ts[k].txt = 4
        · rw [show cStep c ts[k] = ⟨c.ds, c.d, 2⟩ by simp [cStep, h4]] at HF2
          clear h5 h5'
          go_wp2_with fail
          go_roundw
          case rel => exact ⟨k + 1, T, ⟨c.ds, c.d, 2⟩, xs, pv, bv, by omega, by go_num, rfl, HF2, hrep.alloc _, hbox.alloc _, Nat.le_succ_of_le hc1, Nat.le_succ_of_le hc2, Nat.le_succ_of_le hc3⟩
          case measure => simp [intOf]; omega
        · have h4' : (kindOf ts[k].txt == 4) = false := by simpa using h4
          by_cases h0 : c.aw = 0
          · rw [show cStep c ts[k] = ⟨c.ds, { c.d with name := ts[k] }, 1⟩ by simp [cStep, h5, h4, h0]] at HF2
            clear h5 h4
            go_wp2_with fail
            go_roundw
            case rel => exact ⟨k + 1, T, ⟨c.ds, { c.d with name := ts[k] }, 1⟩, xs, pv, bv, by omega, by go_num, rfl, HF2, (((hrep.set hbox).set (blk_set _ hbox)).set (blk_set _ (blk_set _ hbox))).alloc _, (hbox.name ts[k]).alloc _, Nat.le_succ_of_le hc1, Nat.le_succ_of_le hc2, Nat.le_succ_of_le hc3⟩
            case measure => simp [intOf]; omega
          · have h0' : (c.aw == 0) = false := by simpa using h0
            obtain ⟨i, hi, hz0, hz1, hz2⟩ := info_parts Tryz.infoTok
            by_cases h1 : c.aw = 1
            · rw [show cStep c ts[k] = ⟨c.ds, { c.d with ps := c.d.ps ++ [ts[k]] }, c.aw⟩ by simp [cStep, h5, h4, h1]] at HF2
              clear h5 h4 h0 h0'
              go_wp2_with (at_builtin; go_must (refine wpList_append_lies _ rfl _ _ _ rfl T 84 i _ 3 32 Tryz.underlying85 hi hz0 hz1 hz2 rfl (by omega) pv c.d.ps.length (tcs c.d.ps) rfl ?hownP _ 1 _ (tcells ts[k]) rfl rfl ?hnewsP ?h1P (by omega) ?h63P ?hbytesP ?hbaseP _ rfl ?_))
              case hownP => exact (hrep.prow.alloc _).alloc _
              case hnewsP => exact fun _ _ h => h
              case h1P => exact tcells_one _
              case h63P => unfold maxLen; omega
              case hbytesP => omega
              case hbaseP => have := hrep.hi; simp; omega
              intro g cap1 w1 hown1 hgrow hat hlt1
              have hbox1 : CBox w1 w.heap.size c.d.name pv bv := grown_type (((hrep.prow).alloc _).alloc _) hgrow (by decide) ((hbox.alloc _).alloc _)
              have hrep1 := ((hrep.alloc _).alloc _).pushP (t := ts[k]) hown1 hgrow hat (by simp)
              have g3 := cell_of_row w1 w.heap.size 3 _ _ _ hbox1
              have gz := frozen_of_row w1 w.heap.size 3 _ _ hbox1
              simp only [List.getElem?_toArray, List.getElem?_cons_succ, List.getElem?_cons_zero] at g3
              go_wp2_with fail
              go_roundw
              case rel => exact ⟨k + 1, T, ⟨c.ds, { c.d with ps := c.d.ps ++ [ts[k]] }, c.aw⟩, xs, _, _, by omega, by go_num, by simp [*], HF2, hrep1.set hbox1, blk_set _ hbox1, Nat.le_succ_of_le hc1, by simp; omega, by exact Nat.le_succ_of_le hc3⟩
              case measure => simp [intOf]; omega
            · have h1' : (c.aw == 1) = false := by simpa using h1
              rw [show cStep c ts[k] = ⟨c.ds, { c.d with body := c.d.body ++ [ts[k]] }, c.aw⟩ by simp [cStep, h5, h4, h1, h0]] at HF2
              clear h5 h4 h0 h1
              go_wp2_with (at_builtin; go_must (refine wpList_append_lies _ rfl _ _ _ rfl T 84 i _ 3 32 Tryz.underlying85 hi hz0 hz1 hz2 rfl (by omega) bv c.d.body.length (tcs c.d.body) rfl ?hownB _ 1 _ (tcells ts[k]) rfl rfl ?hnewsB ?h1B (by omega) ?h63B ?hbytesB ?hbaseB _ rfl ?_))
              case hownB => exact (hrep.brow.alloc _).alloc _
              case hnewsB => exact fun _ _ h => h
              case h1B => exact tcells_one _
              case h63B => unfold maxLen; omega
              case hbytesB => omega
              case hbaseB => have := hrep.hi; simp; omega
              intro g cap1 w1 hown1 hgrow hat hlt1
              have hbox1 : CBox w1 w.heap.size c.d.name pv bv := grown_type (((hrep.brow).alloc _).alloc _) hgrow (by decide) ((hbox.alloc _).alloc _)
              have hrep1 := ((hrep.alloc _).alloc _).pushB (t := ts[k]) hown1 hgrow hat (by simp)
              have g3 := cell_of_row w1 w.heap.size 4 _ _ _ hbox1
              have gz := frozen_of_row w1 w.heap.size 4 _ _ hbox1
              simp only [List.getElem?_toArray, List.getElem?_cons_succ, List.getElem?_cons_zero] at g3
              go_wp2_with fail
              go_roundw
              case rel => exact ⟨k + 1, T, ⟨c.ds, { c.d with body := c.d.body ++ [ts[k]] }, c.aw⟩, xs, _, _, by omega, by go_num, by simp [*], HF2, hrep1.set hbox1, blk_set _ hbox1, Nat.le_succ_of_le hc1, by exact Nat.le_succ_of_le hc2, by simp; omega⟩
              case measure => simp [intOf]; omega
    · have e1 : cAll ts = c := by have := HF.out; rw [List.take_of_length_le (by omega)] at this; exact this
      subst e1
      go_wp2_with fail
      go_ret
      exact ⟨_, rfl, hrep.bel, xs, ownsRow_base hrep.lrow (Nat.zero_le _), hrep.done.up hrep.hi⟩

end Go.Proofs.YtnndoagpbcacdaaGreatDoor
namespace Go.Proofs.YtnndoagpbcacdaaGreatDoor
open Go.RowKit

def hasP (ps : List Tk) (n : ByteArray) : Bool := ps.any fun p => p.txt.toList == n.toList
def hasF (ds : List Df) (n : ByteArray) : Bool := ds.any fun d => d.name.txt.toList == n.toList

theorem any_take_succ {α : Type} (l : List α) (f : α → Bool) (k : Nat) (h : k < l.length) : (l.take (k + 1)).any f = ((l.take k).any f || f l[k]) := by
  rw [List.take_succ_eq_append_getElem h, List.any_append]; simp only [List.any_cons, List.any_nil, Bool.or_false]
theorem any_hit {α : Type} (l : List α) (f : α → Bool) (k : Nat) (h : k < l.length) (hf : f l[k] = true) : l.any f = true := by
  rw [List.any_eq_true]; exact ⟨l[k], List.getElem_mem h, hf⟩

/-- Which token has this text; -1: none. -/
def whr (ts : List Tk) (s : ByteArray) : Int := match ts.findIdx? (fun t => t.txt.toList == s.toList) with
  | some i => (i : Int)
  | none => -1
theorem whr_hasP (ts : List Tk) (s : ByteArray) : decide (0 ≤ whr ts s) = hasP ts s := by
  unfold whr hasP
  cases h : ts.findIdx? (fun t => t.txt.toList == s.toList) with
  | none =>
    rw [List.findIdx?_eq_none_iff] at h
    have : ts.any (fun p => p.txt.toList == s.toList) = false := by
      rw [List.any_eq_false]; intro x hx; simpa using h x hx
    rw [this]; rfl
  | some i =>
    have := List.findIdx?_eq_some_iff_getElem.1 h
    obtain ⟨hi, h1, _⟩ := this
    rw [any_hit ts _ i hi h1]
    simp
theorem whr_pos {ts : List Tk} {s : ByteArray} (h : hasP ts s = true) : 0 ≤ whr ts s := by rw [← whr_hasP] at h; simpa using h
theorem whr_neg {ts : List Tk} {s : ByteArray} (h : hasP ts s = false) : whr ts s < 0 := by rw [← whr_hasP] at h; simpa using h
theorem hasP_names (ds : List Df) (s : ByteArray) : hasP (ds.map (·.name)) s = hasF ds s := by
  unfold hasP hasF; rw [List.any_map]; rfl

theorem whr_take_hit {ts : List Tk} {n : ByteArray} (k : Nat) (h : k < ts.length) (h0 : hasP (ts.take k) n = false) (he : (ts[k].txt.toList == n.toList) = true) : whr ts n = (k : Int) := by
  have : ts.findIdx? (fun t => t.txt.toList == n.toList) = some k := by
    rw [List.findIdx?_eq_some_iff_getElem]
    refine ⟨h, he, ?_⟩
    intro j hj
    unfold hasP at h0
    rw [List.any_eq_false] at h0
    have := h0 ts[j] (List.mem_take_iff_getElem.2 ⟨j, by omega, rfl⟩)
    simpa using this
  unfold whr; rw [this]
theorem whr_none {ts : List Tk} {n : ByteArray} (h0 : hasP ts n = false) : whr ts n = -1 := by
  have : ts.findIdx? (fun t => t.txt.toList == n.toList) = none := by
    rw [List.findIdx?_eq_none_iff]
    unfold hasP at h0
    rw [List.any_eq_false] at h0
    intro x hx; simpa using h0 x hx
  unfold whr; rw [this]
theorem whr_some {ts : List Tk} {n : ByteArray} (h0 : hasP ts n = true) : ∃ i : Nat, i < ts.length ∧ whr ts n = (i : Int) := by
  have h := whr_pos h0
  unfold whr at h ⊢
  cases hf : ts.findIdx? (fun t => t.txt.toList == n.toList) with
  | none => rw [hf] at h; simp at h
  | some i => exact ⟨i, (List.findIdx?_eq_some_iff_getElem.1 hf).1, rfl⟩

set_option maxHeartbeats 400000 in
theorem sFindParameter (v : Value) (ps : List Tk) (n : ByteArray) (w : World) (hl : ps.length ≤ 1000000) (hv : w.ownsRow 0 84 3 v ps.length (tcs ps)) :
    Calls Tryz.prog 101 #[v, .string n] w fun e w' => e = .returned (.int .i64 (whr ps n)) ∧ Below w.heap.size w w' := by
  obtain ⟨ao, cap, rfl⟩ := own_form hv
  go_enter Tryz.func101, Tryz.ntmps101
  go_wp2_with fail
  go_loopw [9] (fun a wr => ∃ (k : Nat), k ≤ ps.length ∧ a = .int .i64 k ∧ Hid (hasP (ps.take k) n = false) ∧ Below w.heap.size w wr) (fun a _ => ps.length - (intOf a).toNat)
  case atStart => exact ⟨0, Nat.zero_le _, rfl, by simp [Hid, hasP], Below.refl _ _⟩
  case round =>
    obtain ⟨k, hk, rfl, HH, hb⟩ := hrel
    by_cases hlt : k < ps.length
    · obtain ⟨q, cap', hq, _, hqlt⟩ := hv.form (by omega)
      cases hq
      have hvr := ownsRow_old hv hb
      have ⟨t0, t1, t2⟩ := tcs_at ps k hlt
      have d0 := row_cell hvr _ _ t0
      have d1 := row_cell hvr _ _ t1
      have d2 := row_cell hvr _ _ t2
      clear t0 t1 t2 hvr
      cases he : (ps[k].txt.toList == n.toList)
      · go_wp2_with fail
        go_roundw
        case rel => exact ⟨k + 1, by omega, by go_num, by show hasP _ _ = _; unfold hasP; rw [any_take_succ _ _ _ hlt]; simp only [he, Bool.or_false]; exact HH.out, hb.alloc hb.size _⟩
        case measure => simp [intOf]; omega
      · have HE : Hid ((k : Int) = whr ps n) := (whr_take_hit k hlt HH.out he).symm
        go_wp2_with fail
        go_ret
        exact ⟨ret_int HE.out, hb.alloc hb.size _⟩
    · have HE : Hid ((-1 : Int) = whr ps n) := by have := HH.out; rw [List.take_of_length_le (by omega)] at this; exact (whr_none this).symm
      go_wp2_with fail
      go_ret
      exact ⟨ret_int HE.out, hb⟩

theorem DList.at {w : World} {T : Nat} : ∀ {ds : List Df} {xs : List Value}, DList w T ds xs → ∀ (i : Nat) (h : i < ds.length), ∃ pv bv, xs[i * 5]? = some (.int .i64 (kindOf (ds[i]'h).name.txt)) ∧ xs[i * 5 + 1]? = some (.int .i64 (ds[i]'h).name.pos) ∧ xs[i * 5 + 2]? = some (.string (ds[i]'h).name.txt) ∧ xs[i * 5 + 3]? = some pv ∧ xs[i * 5 + 4]? = some bv ∧ DOk w T (ds[i]'h) pv bv
  | [], _, _, i, h => by simp at h
  | d :: ds, _, ⟨pv, bv, r, rfl, h2, h3⟩, 0, _ => ⟨pv, bv, rfl, rfl, rfl, rfl, rfl, h2⟩
  | d :: ds, _, ⟨pv, bv, r, rfl, h2, h3⟩, i + 1, h => by
    obtain ⟨p, b, e0, e1, e2, e3, e4, e5⟩ := DList.at h3 i (by simpa using h)
    refine ⟨p, b, ?_, ?_, ?_, ?_, ?_, e5⟩
    · rw [show (i + 1) * 5 = i * 5 + 1 + 1 + 1 + 1 + 1 by omega]; exact e0
    · rw [show (i + 1) * 5 + 1 = (i * 5 + 1) + 1 + 1 + 1 + 1 + 1 by omega]; exact e1
    · rw [show (i + 1) * 5 + 2 = (i * 5 + 2) + 1 + 1 + 1 + 1 + 1 by omega]; exact e2
    · rw [show (i + 1) * 5 + 3 = (i * 5 + 3) + 1 + 1 + 1 + 1 + 1 by omega]; exact e3
    · rw [show (i + 1) * 5 + 4 = (i * 5 + 4) + 1 + 1 + 1 + 1 + 1 by omega]; exact e4

/-- Definitions in memory, for reading. -/
structure DR (w : World) (v : Value) (ds : List Df) (xs : List Value) (T : Nat) : Prop where
  row : w.ownsRow 0 87 5 v ds.length xs
  all : DList w T ds xs
theorem DR.old {w w' : World} {v : Value} {ds : List Df} {xs : List Value} {T : Nat} (h : DR w v ds xs T) (hT : T ≤ w.heap.size) (hb : Below w.heap.size w w') : DR w' v ds xs T :=
  ⟨ownsRow_old h.row hb, h.all.keep (hb.mono hT)⟩
theorem ownsRow_take {w : World} {base : Nat} {e : TypeId} {size n q cap m : Nat} {xs : List Value} (h : w.ownsRow base e size (.slice (some ⟨q, 0, none⟩) n cap) n xs) (hm : m ≤ n) : w.ownsRow base e size (.slice (some ⟨q, 0, none⟩) m cap) m (xs.take (m * size)) := by
  obtain ⟨h1, h2⟩ := h
  have hms : m * size ≤ n * size := Nat.mul_le_mul_right _ hm
  refine ⟨by rw [List.length_take, h1, Nat.min_eq_left hms], ?_⟩
  rcases h2 with ⟨h0, _⟩ | ⟨g, cap', cur, h0, hg, hh, hn, hc, hs, ht⟩
  · cases h0
  · cases h0
    refine .inr ⟨q, cap, cur, rfl, hg, hh, by omega, hc, hs, ?_⟩
    rw [← ht, List.take_take, Nat.min_eq_left hms]
theorem DList.take {w : World} {T : Nat} : ∀ {ds : List Df} {xs : List Value}, DList w T ds xs → ∀ i, DList w T (ds.take i) (xs.take (i * 5))
  | _, xs, h, 0 => by simp [DList]
  | [], _, h, i + 1 => by rw [show _ = ([] : List Value) from h]; simp [DList]
  | d :: ds, _, ⟨pv, bv, r, rfl, h2, h3⟩, i + 1 => by
    have := DList.take h3 i
    refine ⟨pv, bv, r.take (i * 5), ?_, h2, this⟩
    rw [show (i + 1) * 5 = i * 5 + 1 + 1 + 1 + 1 + 1 by omega]
    rfl
theorem tcs_take (ts : List Tk) (i : Nat) : (tcs ts).take (i * 3) = tcs (ts.take i) := by
  induction ts generalizing i with
  | nil => simp [tcs]
  | cons t r ih =>
    cases i with
    | zero => simp [tcs]
    | succ i =>
      have := ih i
      simp only [tcs, List.flatMap_cons, tcells, List.take_succ_cons] at this ⊢
      rw [show (i + 1) * 3 = i * 3 + 1 + 1 + 1 by omega]
      simp [this]

def fnd (ds : List Df) (n : ByteArray) : Int := whr (ds.map (·.name)) n
theorem fnd_none {ds : List Df} {n : ByteArray} (h : hasF ds n = false) : fnd ds n = -1 := whr_none (by rw [hasP_names]; exact h)
theorem fnd_some {ds : List Df} {n : ByteArray} (h : hasF ds n = true) : ∃ i : Nat, i < ds.length ∧ fnd ds n = (i : Int) := by
  obtain ⟨i, h1, h2⟩ := whr_some (ts := ds.map (·.name)) (n := n) (by rw [hasP_names]; exact h)
  exact ⟨i, by simpa using h1, h2⟩

set_option maxHeartbeats 400000 in
theorem sFindFunction (v : Value) (ds : List Df) (xs : List Value) (T : Nat) (n : ByteArray) (w : World) (hl : ds.length ≤ 1000000) (hv : DR w v ds xs T) (hT : T ≤ w.heap.size) :
    Calls Tryz.prog 38 #[v, .string n] w fun e w' => e = .returned (.int .i64 (fnd ds n)) ∧ Below w.heap.size w w' := by
  obtain ⟨ao, cap, rfl⟩ := own_form hv.row
  go_enter Tryz.func38, Tryz.ntmps38
  go_wp2_with fail
  go_loopw [9] (fun a wr => ∃ (k : Nat), k ≤ ds.length ∧ a = .int .i64 k ∧ Hid (hasF (ds.take k) n = false) ∧ Below w.heap.size w wr) (fun a _ => ds.length - (intOf a).toNat)
  case atStart => exact ⟨0, Nat.zero_le _, rfl, by simp [Hid, hasF], Below.refl _ _⟩
  case round =>
    obtain ⟨k, hk, rfl, HH, hb⟩ := hrel
    by_cases hlt : k < ds.length
    · obtain ⟨q, cap', hq, _, hqlt⟩ := hv.row.form (by omega)
      cases hq
      have hvr := hv.old hT hb
      obtain ⟨pv, bv, t0, t1, t2, t3, t4, hd⟩ := hvr.all.at k hlt
      have d0 := row_cell hvr.row _ _ t0
      have d1 := row_cell hvr.row _ _ t1
      have d2 := row_cell hvr.row _ _ t2
      have d3 := row_cell hvr.row _ _ t3
      have d4 := row_cell hvr.row _ _ t4
      obtain ⟨o1, p1, rfl⟩ := own_form hd.1
      obtain ⟨o2, p2, rfl⟩ := own_form hd.2.1
      clear t0 t1 t2 t3 t4 hvr hd
      cases he : (ds[k].name.txt.toList == n.toList)
      · go_wp2_with fail
        go_roundw
        case rel => exact ⟨k + 1, by omega, by go_num, by show hasF _ _ = _; unfold hasF; rw [any_take_succ _ _ _ hlt]; simp only [he, Bool.or_false]; exact HH.out, hb.alloc hb.size _⟩
        case measure => simp [intOf]; omega
      · have HE : Hid ((k : Int) = fnd ds n) := (whr_take_hit k (by simpa using hlt) (by rw [← List.map_take, hasP_names]; exact HH.out) (by simpa using he)).symm
        go_wp2_with fail
        go_ret
        exact ⟨ret_int HE.out, hb.alloc hb.size _⟩
    · have HE : Hid ((-1 : Int) = fnd ds n) := by have := HH.out; rw [List.take_of_length_le (by omega)] at this; exact (fnd_none this).symm
      go_wp2_with fail
      go_ret
      exact ⟨ret_int HE.out, hb⟩

/-- The place and the error of the first name that is given twice: from definition i on. -/
def twiceP (ps : List Tk) : Nat → List Tk → Option Nat
  | _, [] => none
  | j, p :: r => if hasP (ps.take j) p.txt then some p.pos else twiceP ps (j + 1) r
def twiceF (ds : List Df) : Nat → List Df → Option Nat
  | _, [] => none
  | i, d :: r => if hasF (ds.take i) d.name.txt then some d.name.pos else match twiceP d.ps 0 d.ps with
    | some p => some p
    | none => twiceF ds (i + 1) r
def orErr (o : Option Nat) (e : Int) : Int × Int := match o with
  | some p => (p, e)
  | none => (0, 0)

theorem DR.take {w : World} {q cap k T : Nat} {ds : List Df} {xs : List Value} (h : DR w (.slice (some ⟨q, 0, none⟩) ds.length cap) ds xs T) (hk : k ≤ ds.length) : DR w (.slice (some ⟨q, 0, none⟩) k cap) (ds.take k) (xs.take (k * 5)) T :=
  ⟨by rw [List.length_take, Nat.min_eq_left hk]; exact ownsRow_take h.row hk, h.all.take k⟩
theorem tok_take {w : World} {base q cap k : Nat} {ts : List Tk} (h : w.ownsRow base 84 3 (.slice (some ⟨q, 0, none⟩) ts.length cap) ts.length (tcs ts)) (hk : k ≤ ts.length) : w.ownsRow base 84 3 (.slice (some ⟨q, 0, none⟩) k cap) (ts.take k).length (tcs (ts.take k)) := by
  rw [List.length_take, Nat.min_eq_left hk, ← tcs_take]; exact ownsRow_take h hk
theorem box_later {w w1 : World} {o : Obj} (hb : Below (w.alloc o).drew.heap.size (w.alloc o).drew w1) : w1.heap[w.heap.size]? = some o :=
  (hb.block w.heap.size (by simp [heap_drew])).trans (heap_alloc_new w o)
def contR (P : List Tk) (ds : List Df) (k j : Nat) : Int × Int := match twiceP P j (P.drop j) with
  | some p => (p, 4)
  | none => orErr (twiceF ds (k + 1) (ds.drop (k + 1))) 4
theorem twiceF_hit (ds : List Df) (k : Nat) (h : k < ds.length) (hh : hasF (ds.take k) ds[k].name.txt = true) : orErr (twiceF ds k (ds.drop k)) 4 = (((ds[k].name.pos : Nat) : Int), 4) := by
  rw [List.drop_eq_getElem_cons h, twiceF, if_pos hh]; rfl
theorem twiceF_miss (ds : List Df) (k : Nat) (h : k < ds.length) (hh : hasF (ds.take k) ds[k].name.txt = false) : orErr (twiceF ds k (ds.drop k)) 4 = contR ds[k].ps ds k 0 := by
  rw [List.drop_eq_getElem_cons h, twiceF, hh, contR]
  simp only [Bool.false_eq_true, if_false, List.drop_zero]
  cases twiceP ds[k].ps 0 ds[k].ps <;> rfl
theorem contR_hit (P : List Tk) (ds : List Df) (k j : Nat) (h : j < P.length) (hh : hasP (P.take j) P[j].txt = true) : contR P ds k j = (((P[j].pos : Nat) : Int), 4) := by
  rw [contR, List.drop_eq_getElem_cons h, twiceP, if_pos hh]
theorem contR_miss (P : List Tk) (ds : List Df) (k j : Nat) (h : j < P.length) (hh : hasP (P.take j) P[j].txt = false) : contR P ds k j = contR P ds k (j + 1) := by
  rw [contR, List.drop_eq_getElem_cons h, twiceP, hh]; rfl
theorem contR_end (P : List Tk) (ds : List Df) (k j : Nat) (h : ¬ j < P.length) : contR P ds k j = orErr (twiceF ds (k + 1) (ds.drop (k + 1))) 4 := by
  rw [contR, List.drop_eq_nil_of_le (by omega), twiceP]

set_option maxHeartbeats 4000000 in
theorem sCheckTwice (v : Value) (ds : List Df) (xs : List Value) (T : Nat) (w : World) (hl : ds.length ≤ 1000000) (hlp : ∀ d ∈ ds, d.ps.length ≤ 1000000) (hv : DR w v ds xs T) (hT : T ≤ w.heap.size) :
    Calls Tryz.prog 62 #[v] w fun e w' => e = .returned (.tuple #[.int .i64 (orErr (twiceF ds 0 ds) 4).1, .int .i64 (orErr (twiceF ds 0 ds) 4).2]) ∧ Below w.heap.size w w' := by
  obtain ⟨ao, cap, rfl⟩ := own_form hv.row
  generalize hR : orErr (twiceF ds 0 ds) 4 = R
  have HR : Hid (orErr (twiceF ds 0 ds) 4 = R) := hR
  clear hR
  go_enter Tryz.func62, Tryz.ntmps62
  go_wp2_with fail
  go_loopw [10] (fun a wr => ∃ (k : Nat), k ≤ ds.length ∧ a = .int .i64 k ∧ Hid (orErr (twiceF ds k (ds.drop k)) 4 = R) ∧ Below w.heap.size w wr) (fun a _ => ds.length - (intOf a).toNat)
  case atStart => exact ⟨0, Nat.zero_le _, rfl, HR, Below.refl _ _⟩
  case round =>
    obtain ⟨k, hk, rfl, HH, hb⟩ := hrel
    by_cases hlt : k < ds.length
    · obtain ⟨q, cap', hq, _, hqlt⟩ := hv.row.form (by omega)
      cases hq
      have hvr := hv.old hT hb
      obtain ⟨pv, bv, t0, t1, t2, t3, t4, hd⟩ := hvr.all.at k hlt
      have d0 := row_cell hvr.row _ _ t0
      have d1 := row_cell hvr.row _ _ t1
      have d2 := row_cell hvr.row _ _ t2
      have d3 := row_cell hvr.row _ _ t3
      have d4 := row_cell hvr.row _ _ t4
      obtain ⟨o1, p1, rfl⟩ := own_form hd.1
      obtain ⟨o2, p2, rfl⟩ := own_form hd.2.1
      clear t0 t1 t2 t3 t4
      have hcapl : ds.length ≤ cap := own_cap hv.row
      have hkc : (k : Int) ≤ (cap : Int) := by omega
      have hk0 : (0 : Int) ≤ (k : Int) := by omega
      have hdl : ds[k].ps.length ≤ 1000000 := hlp _ (List.getElem_mem hlt)
      have hdT : T ≤ wr.heap.size := Nat.le_trans hT hb.size
      go_wp2_with fail
      go_region_with (go_at_call 38; go_must (refine (sFindFunction _ (ds.take k) (xs.take (k * 5)) T _ _ (by simp; omega) (by exact DR.take (hvr.old hdT (Below.drew ((Below.refl _ _).alloc (Nat.le_refl _) _))) (by omega)) (by simp; omega)).mono ?_); rintro e w1 ⟨rfl, hb1⟩)
      all_goals
        have hbx := box_later (w := wr) (w1 := w1) hb1
        have hb2 : Below w.heap.size w w1 := (Below.drew (hb.alloc hb.size _)).trans (Below.mono hb1 (by simp [heap_drew]; have := hb.size; omega))
        have hp2 := ownsRow_old (World.ownsRow.drew (hd.1.alloc _)) hb1
        clear hb1 hb
        cases hf : hasF (ds.take k) ds[k].name.txt
        · rw [fnd_none hf]
          have HC : Hid (contR ds[k].ps ds k 0 = R) := (twiceF_miss ds k hlt hf).symm.trans HH.out
          have g3 := cell_of_row w1 wr.heap.size 3 _ _ _ hbx
          simp only [List.getElem?_toArray, List.getElem?_cons_succ, List.getElem?_cons_zero] at g3
          obtain ⟨wo, rfl⟩ : ∃ wo : World, wo = wr := ⟨_, rfl⟩
          go_wp2_with fail
          generalize hP : ds[k].ps = P at *
          clear g3
          go_loopw [29] (fun a wx => ∃ (j : Nat), j ≤ P.length ∧ a = .int .i64 j ∧ Hid (contR P ds k j = R) ∧ Below w.heap.size w wx ∧ wx.ownsRow 0 84 3 (.slice o1 P.length p1) P.length (tcs P) ∧ wx.heap[wo.heap.size]? = some (.cells #[.int .i64 (kindOf ds[k].name.txt), .int .i64 ds[k].name.pos, .string ds[k].name.txt, .slice o1 P.length p1, .slice o2 ds[k].body.length p2] 87 (0, 0))) (fun a _ => P.length - (intOf a).toNat)
          case atStart => exact ⟨0, Nat.zero_le _, rfl, HC, hb2, hp2, hbx⟩
          case round =>
            clear hp2 hb2 hbx
            obtain ⟨j, hj, rfl, HC2, hb2, hp2, hbx⟩ := hrel
            by_cases hjl : j < P.length
            · obtain ⟨q1, cap1, hq1, _, _⟩ := hp2.form (by omega)
              cases hq1
              have ⟨s0, s1, s2⟩ := tcs_at P j hjl
              have x0 := row_cell hp2 _ _ s0
              have x1 := row_cell hp2 _ _ s1
              have x2 := row_cell hp2 _ _ s2
              have g3 := cell_of_row wr wo.heap.size 3 _ _ _ hbx
              simp only [List.getElem?_toArray, List.getElem?_cons_succ, List.getElem?_cons_zero] at g3
              have hwo : wo.heap.size < wr.heap.size := (Array.getElem?_eq_some_iff.1 hbx).1
              have hc1 : P.length ≤ p1 := own_cap hp2
              have hc2 : (j : Int) ≤ (p1 : Int) := by omega
              have hc3 : (0 : Int) ≤ (j : Int) := by omega
              clear s0 s1 s2 d0 d1 d2 d3 d4
              go_wp2_with fail
              go_region_with (go_at_call 101; go_must (refine (sFindParameter _ (P.take j) _ _ (by simp; omega) (by exact tok_take (World.ownsRow.drew (hp2.alloc _)) (by omega))).mono ?_); rintro e w2 ⟨rfl, hb3⟩)
              all_goals
                have hbp := box_later (w := wr) (w1 := w2) hb3
                have hbx2 := (hb3.block wo.heap.size (by simp [heap_drew]; omega)).trans ((Below.heap_alloc wr _ _ hwo).trans hbx)
                have hp3 := ownsRow_old (World.ownsRow.drew (hp2.alloc _)) hb3
                have hb4 : Below w.heap.size w w2 := (Below.drew (hb2.alloc hb2.size _)).trans (Below.mono hb3 (by simp [heap_drew]; have := hb2.size; omega))
                clear hb3 hbx hp2 hb2 g3 x0 x1 x2
                cases hf2 : hasP (P.take j) P[j].txt
                · rw [whr_none hf2]
                  have HC3 : Hid (contR P ds k (j + 1) = R) := (contR_miss P ds k j hjl hf2).symm.trans HC2.out
                  go_wp2_with fail
                  go_roundw
                  case rel => exact ⟨j + 1, by omega, by go_num, HC3, hb4, hp3, hbx2⟩
                  case measure => simp [intOf]; omega
                · obtain ⟨i2, _, hi2⟩ := whr_some hf2
                  rw [hi2]
                  clear hi2
                  have HE : Hid ((((P[j].pos : Nat) : Int), (4 : Int)) = R) := (contR_hit P ds k j hjl hf2).symm.trans HC2.out
                  have g1 := cell_of_row w2 wr.heap.size 1 _ _ _ hbp
                  simp only [List.getElem?_toArray, List.getElem?_cons_succ, List.getElem?_cons_zero] at g1
                  go_wp2_with fail
                  go_ret2
                  exact ⟨ret_two HE.out, hb4⟩
            · have HC3 : Hid (orErr (twiceF ds (k + 1) (ds.drop (k + 1))) 4 = R) := (contR_end P ds k j hjl).symm.trans HC2.out
              go_wp2_with fail
              go_roundw
              case rel => exact ⟨k + 1, by omega, by go_num, HC3, hb2⟩
              case measure => simp [intOf]; omega
        · obtain ⟨i2, _, hi2⟩ := fnd_some hf
          rw [hi2]
          clear hi2
          have HE : Hid ((((ds[k].name.pos : Nat) : Int), (4 : Int)) = R) := (twiceF_hit ds k hlt hf).symm.trans HH.out
          have g1 := cell_of_row w1 wr.heap.size 1 _ _ _ hbx
          simp only [List.getElem?_toArray, List.getElem?_cons_succ, List.getElem?_cons_zero] at g1
          go_wp2_with fail
          go_ret2
          exact ⟨ret_two HE.out, hb2⟩
    · have HE : Hid (((0 : Int), (0 : Int)) = R) := by have := HH.out; rw [List.drop_eq_nil_of_le (by omega)] at this; exact this
      go_wp2_with fail
      go_ret2
      exact ⟨ret_two HE.out, hb⟩

end Go.Proofs.YtnndoagpbcacdaaGreatDoor
