import Derived.Test.YtnndoagpbcacdaaGreatDoorMA10
namespace Go.Proofs.YtnndoagpbcacdaaGreatDoor
open Go.RowKit

/-! Numbers in texts. -/
def valL (l : List UInt8) : Int := l.foldl (fun n c => 10 * n + ((c.toNat : Int) - 48)) 0
def digL (l : List UInt8) : Prop := ∀ c ∈ l, 48 ≤ c.toNat ∧ c.toNat ≤ 57
theorem valL_snoc (l : List UInt8) (c : UInt8) : valL (l ++ [c]) = 10 * valL l + ((c.toNat : Int) - 48) := by simp [valL, List.foldl_append]
theorem fold_le (l : List UInt8) : ∀ acc : Int, digL l → 0 ≤ acc → 0 ≤ l.foldl (fun n c => 10 * n + ((c.toNat : Int) - 48)) acc ∧ l.foldl (fun n c => 10 * n + ((c.toNat : Int) - 48)) acc < (acc + 1) * 10 ^ l.length := by
  induction l with
  | nil => intro acc _ h; simp; omega
  | cons c r ih =>
    intro acc h h0
    have hc := h c (by simp)
    have := ih (10 * acc + ((c.toNat : Int) - 48)) (fun x hx => h x (by simp [hx])) (by omega)
    rw [List.foldl_cons, List.length_cons]
    refine ⟨this.1, Int.lt_of_lt_of_le this.2 ?_⟩
    rw [Int.pow_succ, Int.mul_comm (10 ^ r.length) 10, ← Int.mul_assoc]
    exact Int.mul_le_mul_of_nonneg_right (by omega) (Int.le_of_lt (Int.pow_pos (by decide)))
theorem valL_le (l : List UInt8) (h : digL l) : 0 ≤ valL l ∧ valL l < 10 ^ l.length := by
  have := fold_le l 0 h (Int.le_refl _)
  rw [Int.zero_add, Int.one_mul] at this
  exact this
theorem bt_get (s : ByteArray) (k : Nat) (h : k < s.data.toList.length) : bt s k = (s.data.toList[k].toNat : Int) := by
  unfold bt
  have : s.data[k]? = some s.data.toList[k] := by rw [← Array.getElem?_toList]; exact List.getElem?_eq_getElem h
  rw [this, Option.getD_some]

/-! Decimal digits. -/
def decL (n : Nat) : List UInt8 := if n < 10 then [UInt8.ofNat (48 + n)] else decL (n / 10) ++ [UInt8.ofNat (48 + n % 10)]
termination_by n
theorem decL_lt (n : Nat) (h : n < 10) : decL n = [UInt8.ofNat (48 + n)] := by rw [decL, if_pos h]
theorem decL_ge (n : Nat) (h : ¬ n < 10) : decL n = decL (n / 10) ++ [UInt8.ofNat (48 + n % 10)] := by rw [decL, if_neg h]
theorem decL_len (n : Nat) : (decL n).length ≤ n + 1 := by
  fun_induction decL n with
  | case1 n h => simp
  | case2 n h ih => simp; omega

theorem conv_byte (w : World) (m : Int) : (convert 62 9 (.slice (some ⟨w.heap.size, 0, none⟩) 1 1)).run Tryz.prog (w.alloc (.cells #[.int .u8 m] 5)) = .ok (.string (strOfNums [m])) (w.alloc (.cells #[.int .u8 m] 5)) :=
  run_convert_bytes_arg (P := Tryz.prog) _ 62 5 Tryz.underlying62 Tryz.underlying5 w.heap.size 0 1 1 [m] rfl (fun i hi => by
    have : i = 0 := by omega
    subst this
    rw [cell_of_row _ w.heap.size _ _ _ _ (heap_alloc_new w _)]; rfl) 9 Tryz.underlying9
theorem str_one (m : Int) : (strOfNums [m]).data.toList = [UInt8.ofNat m.toNat] := by rfl

theorem toL_append (a b : ByteArray) : (a ++ b).data.toList = a.data.toList ++ b.data.toList := by simp [ByteArray.data_append]
theorem heap_set_ne {w : World} {b i k : Nat} (u : Value) (h : k ≠ b) : (w.setCell ⟨b, i, none⟩ u).heap[k]? = w.heap[k]? := heap_setCell_other _ _ _ _ (by first | exact h | exact Ne.symm h)
theorem Tryz.infoStr : (Tryz.prog.info? 9).map (fun i => (i.zero, i.size, i.bytes)) = some (some (.string ByteArray.empty), 1, 16) := by kernel_rfl
theorem ownsRow_store {w : World} {base : Nat} {e : TypeId} {n q cap j : Nat} {xs : List Value} (u : Value) (h : w.ownsRow base e 1 (.slice (some ⟨q, 0, none⟩) n cap) n xs) : (w.setCell ⟨q, j, none⟩ u).ownsRow base e 1 (.slice (some ⟨q, 0, none⟩) n cap) n (xs.set j u) := by
  obtain ⟨h1, h2⟩ := h
  refine ⟨by simpa using h1, ?_⟩
  rcases h2 with ⟨h0, _⟩ | ⟨g, cap', cur, h0, hg, hh, hn, hc, hs, ht⟩
  · cases h0
  · cases h0
    refine .inr ⟨q, cap, cur.setIfInBounds j u, rfl, hg, heap_setCell_same w q j cur e u hh, hn, hc, by simpa using hs, ?_⟩
    rw [Array.toList_setIfInBounds, ← ht, List.take_set]


end Go.Proofs.YtnndoagpbcacdaaGreatDoor
namespace Go.Proofs.YtnndoagpbcacdaaGreatDoor
open Go.RowKit

/-! Code: plain, and as it is read in memory. -/
abbrev Ln := List (Int × Int)
structure Tp where
  ar : Int
  ls : List Ln
structure Cd where
  mn : Int
  fs : List Tp

def AtomsRd (w : World) (T : Nat) (v : Value) (l : Ln) : Prop :=
  ∃ a cap, v = .slice a l.length cap ∧ l.length ≤ cap ∧ cap ≤ maxLen ∧ (l.length = 0 ∨ ∃ b off, a = some ⟨b, off, none⟩ ∧ b < T ∧ ∀ j (h : j < l.length), w.cell? ⟨b, off + j * 2, none⟩ = some (.int .i64 l[j].1) ∧ w.cell? ⟨b, off + j * 2 + 1, none⟩ = some (.int .i64 l[j].2))
def LinesRd (w : World) (T : Nat) (v : Value) (L : List Ln) : Prop :=
  ∃ a cap, v = .slice a L.length cap ∧ L.length ≤ cap ∧ cap ≤ maxLen ∧ (L.length = 0 ∨ ∃ b off, a = some ⟨b, off, none⟩ ∧ b < T ∧ ∀ j (h : j < L.length), ∃ lv, w.cell? ⟨b, off + j, none⟩ = some lv ∧ AtomsRd w T lv L[j])
def FunsRd (w : World) (T : Nat) (v : Value) (F : List Tp) : Prop :=
  ∃ a cap, v = .slice a F.length cap ∧ F.length ≤ cap ∧ cap ≤ maxLen ∧ (F.length = 0 ∨ ∃ b off, a = some ⟨b, off, none⟩ ∧ b < T ∧ ∀ j (h : j < F.length), ∃ lv, w.cell? ⟨b, off + j * 2, none⟩ = some (.int .i64 F[j].ar) ∧ w.cell? ⟨b, off + j * 2 + 1, none⟩ = some lv ∧ LinesRd w T lv F[j].ls)

theorem AtomsRd.keep {w w' : World} {T : Nat} {v : Value} {l : Ln} (h : AtomsRd w T v l) (hb : Below T w w') : AtomsRd w' T v l := by
  obtain ⟨a, cap, h1, h2, h3, h4⟩ := h
  refine ⟨a, cap, h1, h2, h3, ?_⟩
  rcases h4 with h4 | ⟨b, off, rfl, hbl, hc⟩
  · exact .inl h4
  · refine .inr ⟨b, off, rfl, hbl, fun j hj => ?_⟩
    rw [hb.cell (p := ⟨b, off + j * 2, none⟩) hbl, hb.cell (p := ⟨b, off + j * 2 + 1, none⟩) hbl]
    exact hc j hj
theorem LinesRd.keep {w w' : World} {T : Nat} {v : Value} {L : List Ln} (h : LinesRd w T v L) (hb : Below T w w') : LinesRd w' T v L := by
  obtain ⟨a, cap, h1, h2, h3, h4⟩ := h
  refine ⟨a, cap, h1, h2, h3, ?_⟩
  rcases h4 with h4 | ⟨b, off, rfl, hbl, hc⟩
  · exact .inl h4
  · refine .inr ⟨b, off, rfl, hbl, fun j hj => ?_⟩
    obtain ⟨lv, e1, e2⟩ := hc j hj
    exact ⟨lv, by rw [hb.cell (p := ⟨b, off + j, none⟩) hbl]; exact e1, e2.keep hb⟩
theorem FunsRd.keep {w w' : World} {T : Nat} {v : Value} {F : List Tp} (h : FunsRd w T v F) (hb : Below T w w') : FunsRd w' T v F := by
  obtain ⟨a, cap, h1, h2, h3, h4⟩ := h
  refine ⟨a, cap, h1, h2, h3, ?_⟩
  rcases h4 with h4 | ⟨b, off, rfl, hbl, hc⟩
  · exact .inl h4
  · refine .inr ⟨b, off, rfl, hbl, fun j hj => ?_⟩
    obtain ⟨lv, e1, e2, e3⟩ := hc j hj
    exact ⟨lv, by rw [hb.cell (p := ⟨b, off + j * 2, none⟩) hbl]; exact e1, by rw [hb.cell (p := ⟨b, off + j * 2 + 1, none⟩) hbl]; exact e2, e3.keep hb⟩

/-- The letter of a kind. -/
def letK (k : Int) : UInt8 := if k = 1 then 110 else if k = 2 then 97 else if k = 3 then 102 else if k = 4 then 112 else 120
def atL (a : Int × Int) : List UInt8 := 32 :: letK a.1 :: decL a.2.toNat
def lnL (l : Ln) : List UInt8 := (l.flatMap atL).drop 1
def atOk (a : Int × Int) : Prop := 1 ≤ a.1 ∧ a.1 ≤ 5 ∧ 0 ≤ a.2 ∧ a.2 ≤ 999999
theorem ext_kind (k : Nat) (h1 : 1 ≤ k) (h5 : k ≤ 5) : ((⟨#[110, 97, 102, 112, 120]⟩ : ByteArray).extract (k - 1) k).data.toList = [letK k] := by
  have : k = 1 ∨ k = 2 ∨ k = 3 ∨ k = 4 ∨ k = 5 := by omega
  rcases this with rfl | rfl | rfl | rfl | rfl <;> decide +kernel
theorem decL_len6 (n : Nat) (h : n ≤ 999999) : (decL n).length ≤ 6 := by
  by_cases h1 : n < 10
  · rw [decL_lt n h1]; simp
  rw [decL_ge n h1, List.length_append]
  by_cases h2 : n / 10 < 10
  · rw [decL_lt _ h2]; simp
  rw [decL_ge _ h2, List.length_append]
  by_cases h3 : n / 10 / 10 < 10
  · rw [decL_lt _ h3]; simp
  rw [decL_ge _ h3, List.length_append]
  by_cases h4 : n / 10 / 10 / 10 < 10
  · rw [decL_lt _ h4]; simp
  rw [decL_ge _ h4, List.length_append]
  by_cases h5 : n / 10 / 10 / 10 / 10 < 10
  · rw [decL_lt _ h5]; simp
  rw [decL_ge _ h5, List.length_append, decL_lt _ (by omega)]; simp
theorem atL_len {a : Int × Int} (h : atOk a) : (atL a).length ≤ 8 := by
  have := decL_len6 a.2.toNat (by have := h.2.2.1; have := h.2.2.2; omega)
  simp [atL]; omega
theorem flat_len (l : Ln) (h : ∀ a ∈ l, atOk a) : (l.flatMap atL).length ≤ l.length * 8 := by
  induction l with
  | nil => simp
  | cons a l ih =>
    have h1 := atL_len (h a (by simp))
    have h2 := ih (fun x hx => h x (by simp [hx]))
    rw [List.flatMap_cons, List.length_append, List.length_cons]; omega
theorem ln_snoc (l : Ln) (k : Nat) (h : k < l.length) : (l.take (k + 1)).flatMap atL = (l.take k).flatMap atL ++ atL l[k] := by
  rw [List.take_succ_eq_append_getElem h, List.flatMap_append]; simp
theorem ln_first (l : Ln) : ((l.take 0).flatMap atL) = [] := by simp

theorem sp_drop (l X : List UInt8) (h : l ≠ []) : (l ++ 32 :: X).drop 1 = l.drop 1 ++ 32 :: X := by
  cases l with
  | nil => exact absurd rfl h
  | cons a l => simp
theorem ln_ne (l : Ln) (k : Nat) (h0 : 0 < k) (h : k ≤ l.length) : (l.take k).flatMap atL ≠ [] := by
  cases l with
  | nil => simp at h; omega
  | cons a l =>
    cases k with
    | zero => omega
    | succ k => simp [atL]

def boundF (k : Int) (nf : Nat) (ar : Int) (nl : Nat) : Int := if k = 1 then 1000000 else if k = 2 then ar else if k = 3 then nf else if k = 4 then 5 else if k = 5 then (nl : Int) - 1 else 0

/-! Good code: plain. -/
def goodA (nf : Nat) (ar : Int) (nl j : Nat) (a : Int × Int) : Bool := decide (0 ≤ a.2) && (decide (a.2 < boundF a.1 nf ar nl) && !(decide (a.1 = 5) && decide (a.2 < j)))
def goodL (nf : Nat) (ar : Int) (nl j : Nat) (l : Ln) : Bool := decide (l.length ≤ 8) && (decide (1 ≤ l.length) && (!(decide (0 < j) && decide (l.length < 2)) && (decide ((l[0]?.getD (0, 0)).1 ≠ 5) && l.all (goodA nf ar nl j))))
def goodLs (nf : Nat) (ar : Int) (nl : Nat) : Nat → List Ln → Bool
  | _, [] => true
  | j, l :: r => goodL nf ar nl j l && goodLs nf ar nl (j + 1) r
def goodT (nf : Nat) (t : Tp) : Bool := decide (0 ≤ t.ar) && (decide (t.ar ≤ 6) && (decide (1 ≤ t.ls.length) && (decide (t.ls.length ≤ 13) && goodLs nf t.ar t.ls.length 0 t.ls)))
def goodC (c : Cd) : Bool := decide (1 ≤ c.fs.length) && (decide (c.fs.length ≤ 16) && (decide (0 ≤ c.mn) && (decide (c.mn < c.fs.length) && (c.fs.all (goodT c.fs.length) && decide ((c.fs[c.mn.toNat]?.getD ⟨0, []⟩).ar = 0)))))

theorem goodLs_in (nf : Nat) (ar : Int) (nl : Nat) (L : List Ln) (j : Nat) (h : j < L.length) : goodLs nf ar nl j (L.drop j) = (goodL nf ar nl j L[j] && goodLs nf ar nl (j + 1) (L.drop (j + 1))) := by
  rw [List.drop_eq_getElem_cons h, goodLs]
theorem all_in {α : Type} (p : α → Bool) (l : List α) (j : Nat) (h : j < l.length) : (l.drop j).all p = (p l[j] && (l.drop (j + 1)).all p) := by
  rw [List.drop_eq_getElem_cons h, List.all_cons]

theorem all_step (nf : Nat) (ar : Int) (nl j : Nat) (l : Ln) (i : Nat) (h : i < l.length) {X : Bool} : ((l.drop i).all (goodA nf ar nl j) && X) = ((decide (0 ≤ l[i].2) && (decide (l[i].2 < boundF l[i].1 nf ar nl) && !(decide (l[i].1 = 5) && decide (l[i].2 < (j : Int))))) && ((l.drop (i + 1)).all (goodA nf ar nl j) && X)) := by
  rw [all_in _ l i h, Bool.and_assoc]
  rfl

end Go.Proofs.YtnndoagpbcacdaaGreatDoor
namespace Go.Proofs.YtnndoagpbcacdaaGreatDoor
open Go.RowKit

/-! Code in rows of its own. -/
def acs (l : Ln) : List Value := l.flatMap fun a => [.int .i64 a.1, .int .i64 a.2]
theorem acs_snoc (l : Ln) (a : Int × Int) : acs (l ++ [a]) = acs l ++ [.int .i64 a.1, .int .i64 a.2] := by simp [acs]
theorem Tryz.infoAtom : (Tryz.prog.info? 75).map (fun i => (i.zero, i.size, i.bytes)) = some (some (.agg #[.int .i64 0, .int .i64 0]), 2, 16) := by kernel_rfl
theorem Tryz.infoLine : (Tryz.prog.info? 76).map (fun i => (i.zero, i.size, i.bytes)) = some (some (.slice none 0 0), 1, 24) := by kernel_rfl
theorem Tryz.infoTemplate : (Tryz.prog.info? 78).map (fun i => (i.zero, i.size, i.bytes)) = some (some (.agg #[.int .i64 0, .slice none 0 0]), 2, 32) := by kernel_rfl
theorem map_snoc {α β : Type} (f : α → β) (l : List α) (k : Nat) (h : k < l.length) : (l.take (k + 1)).map f = (l.take k).map f ++ [f l[k]] := by
  rw [List.take_succ_eq_append_getElem h, List.map_append]; simp

def LinesOw (w : World) (T : Nat) (lv : Value) (L : List Ln) : Prop :=
  ∃ vs, w.ownsRow 0 76 1 lv L.length vs ∧ (∀ k, lv.ownBlock = some k → k < T) ∧ ∀ j (h : j < L.length), ∃ v, vs[j]? = some v ∧ w.ownsRow 0 75 2 v L[j].length (acs L[j]) ∧ ∀ k, v.ownBlock = some k → k < T
theorem LinesOw.keep {w w' : World} {T : Nat} {lv : Value} {L : List Ln} (h : LinesOw w T lv L) (hb : Below T w w') : LinesOw w' T lv L := by
  obtain ⟨vs, h1, h2, h3⟩ := h
  refine ⟨vs, ownsRow_below h1 hb h2, h2, fun j hj => ?_⟩
  obtain ⟨v, e1, e2, e3⟩ := h3 j hj
  exact ⟨v, e1, ownsRow_below e2 hb e3, e3⟩
theorem LinesOw.up {w : World} {T T' : Nat} {lv : Value} {L : List Ln} (h : LinesOw w T lv L) (hT : T ≤ T') : LinesOw w T' lv L := by
  obtain ⟨vs, h1, h2, h3⟩ := h
  refine ⟨vs, h1, fun k hk => Nat.lt_of_lt_of_le (h2 k hk) hT, fun j hj => ?_⟩
  obtain ⟨v, e1, e2, e3⟩ := h3 j hj
  exact ⟨v, e1, e2, fun k hk => Nat.lt_of_lt_of_le (e3 k hk) hT⟩
theorem LinesOw.type {w w' : World} {T base size n : Nat} {lv v0 : Value} {L : List Ln} {xs0 : List Value} (hr : w.ownsRow base 78 size v0 n xs0) (hg : w.grownBy w' v0.ownBlock) (h : LinesOw w T lv L) : LinesOw w' T lv L := by
  obtain ⟨vs, h1, h2, h3⟩ := h
  refine ⟨vs, own_grown_type hr hg (by decide) h1, h2, fun j hj => ?_⟩
  obtain ⟨v, e1, e2, e3⟩ := h3 j hj
  exact ⟨v, e1, own_grown_type hr hg (by decide) e2, e3⟩
theorem LinesOw.set {w : World} {T b i : Nat} {lv u : Value} {L : List Ln} {cs : Array Value} (hb : w.heap[b]? = some (.cells cs 57 (0, 0))) (h : LinesOw w T lv L) : LinesOw (w.setCell ⟨b, i, none⟩ u) T lv L := by
  obtain ⟨vs, h1, h2, h3⟩ := h
  refine ⟨vs, ownsRow_set h1 hb (by decide), h2, fun j hj => ?_⟩
  obtain ⟨v, e1, e2, e3⟩ := h3 j hj
  exact ⟨v, e1, ownsRow_set e2 hb (by decide), e3⟩
theorem LinesOw.setT {w : World} {T b i : Nat} {lv u : Value} {L : List Ln} {cs : Array Value} (hb : w.heap[b]? = some (.cells cs 78 (0, 0))) (h : LinesOw w T lv L) : LinesOw (w.setCell ⟨b, i, none⟩ u) T lv L := by
  obtain ⟨vs, h1, h2, h3⟩ := h
  refine ⟨vs, ownsRow_set h1 hb (by decide), h2, fun j hj => ?_⟩
  obtain ⟨v, e1, e2, e3⟩ := h3 j hj
  exact ⟨v, e1, ownsRow_set e2 hb (by decide), e3⟩
theorem acs_at (l : Ln) (j : Nat) (h : j < l.length) : (acs l)[j * 2]? = some (.int .i64 l[j].1) ∧ (acs l)[j * 2 + 1]? = some (.int .i64 l[j].2) := by
  induction l generalizing j with
  | nil => simp at h
  | cons a r ih =>
    cases j with
    | zero => simp [acs]
    | succ j =>
      have := ih j (by simpa using h)
      rw [show (j + 1) * 2 = j * 2 + 1 + 1 by omega]
      simpa [acs] using this
theorem atoms_rd {w : World} {T : Nat} {v : Value} {l : Ln} (h : w.ownsRow 0 75 2 v l.length (acs l)) (hT : ∀ k, v.ownBlock = some k → k < T) : AtomsRd w T v l := by
  have h0 := h
  rcases h.2 with ⟨rfl, hn⟩ | ⟨g, cap, cur, rfl, _, _, hn, hc, _⟩
  · exact ⟨none, 0, by rw [hn], by omega, by unfold maxLen; omega, .inl hn⟩
  · exact ⟨some ⟨g, 0, none⟩, cap, rfl, hn, hc, .inr ⟨g, 0, rfl, hT g rfl, fun j hj => by rw [Nat.zero_add]; exact ⟨row_cell h0 _ _ (acs_at l j hj).1, row_cell h0 _ _ (acs_at l j hj).2⟩⟩⟩
theorem LinesOw.rd {w : World} {T : Nat} {lv : Value} {L : List Ln} (h : LinesOw w T lv L) : LinesRd w T lv L := by
  obtain ⟨vs, h1, h2, h3⟩ := h
  have h0 := h1
  rcases h1.2 with ⟨rfl, hn⟩ | ⟨g, cap, cur, rfl, _, _, hn, hc, _⟩
  · exact ⟨none, 0, by rw [hn], by omega, by unfold maxLen; omega, .inl hn⟩
  · refine ⟨some ⟨g, 0, none⟩, cap, rfl, hn, hc, .inr ⟨g, 0, rfl, h2 g rfl, fun j hj => ?_⟩⟩
    obtain ⟨v, e1, e2, e3⟩ := h3 j hj
    exact ⟨v, by rw [Nat.zero_add]; exact row_cell h0 _ _ e1, atoms_rd e2 e3⟩

def FuOw (w : World) (T : Nat) : List Tp → List Value → Prop
  | [], xs => xs = []
  | t :: r, xs => ∃ lv ys, xs = .int .i64 t.ar :: lv :: ys ∧ LinesOw w T lv t.ls ∧ FuOw w T r ys
theorem FuOw.keep {w w' : World} {T : Nat} (hb : Below T w w') : ∀ {F : List Tp} {xs : List Value}, FuOw w T F xs → FuOw w' T F xs
  | [], _, h => h
  | _ :: _, _, ⟨lv, ys, h1, h2, h3⟩ => ⟨lv, ys, h1, h2.keep hb, FuOw.keep hb h3⟩
theorem FuOw.up {w : World} {T T' : Nat} (hT : T ≤ T') : ∀ {F : List Tp} {xs : List Value}, FuOw w T F xs → FuOw w T' F xs
  | [], _, h => h
  | _ :: _, _, ⟨lv, ys, h1, h2, h3⟩ => ⟨lv, ys, h1, h2.up hT, FuOw.up hT h3⟩
theorem FuOw.type {w w' : World} {T base size n : Nat} {v0 : Value} {xs0 : List Value} (hr : w.ownsRow base 78 size v0 n xs0) (hg : w.grownBy w' v0.ownBlock) : ∀ {F : List Tp} {xs : List Value}, FuOw w T F xs → FuOw w' T F xs
  | [], _, h => h
  | _ :: _, _, ⟨lv, ys, h1, h2, h3⟩ => ⟨lv, ys, h1, h2.type hr hg, FuOw.type hr hg h3⟩
theorem FuOw.set {w : World} {T b i : Nat} {u : Value} {cs : Array Value} (hb : w.heap[b]? = some (.cells cs 57 (0, 0))) : ∀ {F : List Tp} {xs : List Value}, FuOw w T F xs → FuOw (w.setCell ⟨b, i, none⟩ u) T F xs
  | [], _, h => h
  | _ :: _, _, ⟨lv, ys, h1, h2, h3⟩ => ⟨lv, ys, h1, h2.set hb, FuOw.set hb h3⟩
theorem FuOw.snoc {w : World} {T : Nat} {t : Tp} {lv : Value} (ht : LinesOw w T lv t.ls) : ∀ {F : List Tp} {xs : List Value}, FuOw w T F xs → FuOw w T (F ++ [t]) (xs ++ [.int .i64 t.ar, lv])
  | [], _, h => by rw [show _ = ([] : List Value) from h]; exact ⟨lv, [], rfl, ht, rfl⟩
  | _ :: _, _, ⟨l, ys, h1, h2, h3⟩ => ⟨l, ys ++ [.int .i64 t.ar, lv], by rw [h1]; simp, h2, FuOw.snoc ht h3⟩
theorem FuOw.at {w : World} {T : Nat} : ∀ {F : List Tp} {xs : List Value}, FuOw w T F xs → ∀ j (h : j < F.length), ∃ lv, xs[j * 2]? = some (.int .i64 F[j].ar) ∧ xs[j * 2 + 1]? = some lv ∧ LinesOw w T lv F[j].ls
  | [], _, _, j, h => by simp at h
  | t :: F, _, ⟨lv, ys, rfl, h2, h3⟩, 0, _ => ⟨lv, rfl, rfl, h2⟩
  | t :: F, _, ⟨lv, ys, rfl, h2, h3⟩, j + 1, h => by
    obtain ⟨l, e1, e2, e3⟩ := FuOw.at h3 j (by simpa using h)
    refine ⟨l, ?_, ?_, e3⟩
    · rw [show (j + 1) * 2 = j * 2 + 1 + 1 by omega]; exact e1
    · rw [show (j + 1) * 2 + 1 = (j * 2 + 1) + 1 + 1 by omega]; exact e2
theorem FuOw.rd {w : World} {T : Nat} {fv : Value} {F : List Tp} {xs : List Value} (hr : w.ownsRow 0 78 2 fv F.length xs) (hT : ∀ k, fv.ownBlock = some k → k < T) (h : FuOw w T F xs) : FunsRd w T fv F := by
  have h0 := hr
  rcases hr.2 with ⟨rfl, hn⟩ | ⟨g, cap, cur, rfl, _, _, hn, hc, _⟩
  · exact ⟨none, 0, by rw [hn], by omega, by unfold maxLen; omega, .inl hn⟩
  · refine ⟨some ⟨g, 0, none⟩, cap, rfl, hn, hc, .inr ⟨g, 0, rfl, hT g rfl, fun j hj => ?_⟩⟩
    obtain ⟨lv, e1, e2, e3⟩ := h.at j hj
    exact ⟨lv, by rw [Nat.zero_add]; exact row_cell h0 _ _ e1, by rw [Nat.zero_add]; exact row_cell h0 _ _ e2, e3.rd⟩

/-- Rows of atoms, each where S says. -/
def RowsAt (w : World) (B : Nat) (S : Nat → Prop) (vs : List Value) (L : List Ln) : Prop :=
  ∀ j (h : j < L.length), ∃ v, vs[j]? = some v ∧ w.ownsRow B 75 2 v L[j].length (acs L[j]) ∧ ∀ k, v.ownBlock = some k → S k
def LinesB (w : World) (B : Nat) (lv : Value) (L : List Ln) : Prop :=
  ∃ vs, w.ownsRow B 76 1 lv L.length vs ∧ RowsAt w B (fun _ => True) vs L
theorem LinesB.ow {w : World} {B : Nat} {lv : Value} {L : List Ln} (h : LinesB w B lv L) : LinesOw w w.heap.size lv L := by
  obtain ⟨vs, h1, h2⟩ := h
  refine ⟨vs, ownsRow_base h1 (Nat.zero_le _), fun k hk => (h1.lt k hk).2, fun j hj => ?_⟩
  obtain ⟨v, e1, e2, _⟩ := h2 j hj
  exact ⟨v, e1, ownsRow_base e2 (Nat.zero_le _), fun k hk => (e2.lt k hk).2⟩
theorem RowsAt.old {w w' : World} {B : Nat} {S S' : Nat → Prop} {vs : List Value} {L : List Ln} (h : RowsAt w B S vs L) (hb : Below w.heap.size w w') (hS : ∀ k, k < w.heap.size → S k → S' k) : RowsAt w' B S' vs L := by
  intro j hj
  obtain ⟨v, e1, e2, e3⟩ := h j hj
  exact ⟨v, e1, ownsRow_old e2 hb, fun k hk => hS k (e2.lt k hk).2 (e3 k hk)⟩
theorem RowsAt.kept {w w' : World} {B : Nat} {S S' : Nat → Prop} {vs : List Value} {L : List Ln} {ov : Value} (h : RowsAt w B S vs L) (hg : w.grownBy w' ov.ownBlock) (hne : ∀ k, S k → ov.ownBlock ≠ some k) (hS : ∀ k, k < w.heap.size → S k → S' k) : RowsAt w' B S' vs L := by
  intro j hj
  obtain ⟨v, e1, e2, e3⟩ := h j hj
  refine ⟨v, e1, e2.kept hg ?_, fun k hk => hS k (e2.lt k hk).2 (e3 k hk)⟩
  cases hq : v.ownBlock with
  | none => exact .inl rfl
  | some k => right; intro e; exact hne k (e3 k hq) e.symm
theorem RowsAt.type {w w' : World} {B base size n : Nat} {S S' : Nat → Prop} {vs : List Value} {L : List Ln} {v0 : Value} {xs0 : List Value} (hr : w.ownsRow base 76 size v0 n xs0) (hg : w.grownBy w' v0.ownBlock) (h : RowsAt w B S vs L) (hS : ∀ k, S k → S' k) : RowsAt w' B S' vs L := by
  intro j hj
  obtain ⟨v, e1, e2, e3⟩ := h j hj
  exact ⟨v, e1, own_grown_type hr hg (by decide) e2, fun k hk => hS k (e3 k hk)⟩
theorem RowsAt.app {w : World} {B : Nat} {S : Nat → Prop} {vs us : List Value} {L M : List Ln} (hl : vs.length = L.length) (h1 : RowsAt w B S vs L) (h2 : RowsAt w B S us M) : RowsAt w B S (vs ++ us) (L ++ M) := by
  intro j hj
  by_cases hjl : j < L.length
  · obtain ⟨v, e1, e2, e3⟩ := h1 j hjl
    exact ⟨v, by rw [List.getElem?_append_left (by omega)]; exact e1, by rw [List.getElem_append_left hjl]; exact e2, e3⟩
  · have hj2 : j - L.length < M.length := by rw [List.length_append] at hj; omega
    obtain ⟨v, e1, e2, e3⟩ := h2 _ hj2
    exact ⟨v, by rw [List.getElem?_append_right (by omega), hl]; exact e1, by rw [List.getElem_append_right (by omega)]; exact e2, e3⟩
theorem RowsAt.one {w : World} {B : Nat} {S : Nat → Prop} {vs : List Value} {L : List Ln} (h : RowsAt w B S vs L) (hl : vs.length = L.length) : ∀ u ∈ vs, u.oneCell' = true := by
  intro u hu
  obtain ⟨j, hj, rfl⟩ := List.mem_iff_getElem.1 hu
  obtain ⟨v, e1, e2, _⟩ := h j (by omega)
  rw [List.getElem?_eq_getElem hj] at e1
  cases e1
  obtain ⟨a, c, e⟩ := own_form e2
  rw [e]; rfl

end Go.Proofs.YtnndoagpbcacdaaGreatDoor
