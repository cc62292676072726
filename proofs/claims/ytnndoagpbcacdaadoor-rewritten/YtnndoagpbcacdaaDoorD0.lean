import Derived.Test.YtnndoagpbcacdaaDoorB0
namespace Go.Proofs.YtnndoagpbcacdaaDoor
open Go.RowKit

/-! Code: plain, and as it is read in memory. -/
abbrev Ln := List (Int × Int)
structure Tp where
  ar : Int
  ls : List Ln
structure Cd where
  mn : Int
  fs : List Tp

def AtomsRd (w : World) (T : Nat) (v : Value) (l : Ln) : Prop :=
  ∃ a cap, v = .slice a l.length cap ∧ l.length ≤ cap ∧ cap ≤ maxLen ∧ (l.length = 0 ∨ ∃ b off, a = some ⟨b, off, none⟩ ∧ b < T ∧ ∀ j (h : j < l.length), w.cell? ⟨b, off + j * 2, none⟩ = some (.int .i64 l[j].1) ∧ w.cell? ⟨b, off + j * 2 + 1, none⟩ = some (.int .i64 l[j].2))
def LinesRd (w : World) (T : Nat) (v : Value) (L : List Ln) : Prop :=
  ∃ a cap, v = .slice a L.length cap ∧ L.length ≤ cap ∧ cap ≤ maxLen ∧ (L.length = 0 ∨ ∃ b off, a = some ⟨b, off, none⟩ ∧ b < T ∧ ∀ j (h : j < L.length), ∃ lv, w.cell? ⟨b, off + j, none⟩ = some lv ∧ AtomsRd w T lv L[j])
def FunsRd (w : World) (T : Nat) (v : Value) (F : List Tp) : Prop :=
  ∃ a cap, v = .slice a F.length cap ∧ F.length ≤ cap ∧ cap ≤ maxLen ∧ (F.length = 0 ∨ ∃ b off, a = some ⟨b, off, none⟩ ∧ b < T ∧ ∀ j (h : j < F.length), ∃ lv, w.cell? ⟨b, off + j * 2, none⟩ = some (.int .i64 F[j].ar) ∧ w.cell? ⟨b, off + j * 2 + 1, none⟩ = some lv ∧ LinesRd w T lv F[j].ls)

theorem AtomsRd.keep {w w' : World} {T : Nat} {v : Value} {l : Ln} (h : AtomsRd w T v l) (hb : Below T w w') : AtomsRd w' T v l := by
  obtain ⟨a, cap, h1, h2, h3, h4⟩ := h
  refine ⟨a, cap, h1, h2, h3, ?_⟩
  rcases h4 with h4 | ⟨b, off, rfl, hbl, hc⟩
  · exact .inl h4
  · refine .inr ⟨b, off, rfl, hbl, fun j hj => ?_⟩
    rw [hb.cell (p := ⟨b, off + j * 2, none⟩) hbl, hb.cell (p := ⟨b, off + j * 2 + 1, none⟩) hbl]
    exact hc j hj
theorem LinesRd.keep {w w' : World} {T : Nat} {v : Value} {L : List Ln} (h : LinesRd w T v L) (hb : Below T w w') : LinesRd w' T v L := by
  obtain ⟨a, cap, h1, h2, h3, h4⟩ := h
  refine ⟨a, cap, h1, h2, h3, ?_⟩
  rcases h4 with h4 | ⟨b, off, rfl, hbl, hc⟩
  · exact .inl h4
  · refine .inr ⟨b, off, rfl, hbl, fun j hj => ?_⟩
    obtain ⟨lv, e1, e2⟩ := hc j hj
    exact ⟨lv, by rw [hb.cell (p := ⟨b, off + j, none⟩) hbl]; exact e1, e2.keep hb⟩
theorem FunsRd.keep {w w' : World} {T : Nat} {v : Value} {F : List Tp} (h : FunsRd w T v F) (hb : Below T w w') : FunsRd w' T v F := by
  obtain ⟨a, cap, h1, h2, h3, h4⟩ := h
  refine ⟨a, cap, h1, h2, h3, ?_⟩
  rcases h4 with h4 | ⟨b, off, rfl, hbl, hc⟩
  · exact .inl h4
  · refine .inr ⟨b, off, rfl, hbl, fun j hj => ?_⟩
    obtain ⟨lv, e1, e2, e3⟩ := hc j hj
    exact ⟨lv, by rw [hb.cell (p := ⟨b, off + j * 2, none⟩) hbl]; exact e1, by rw [hb.cell (p := ⟨b, off + j * 2 + 1, none⟩) hbl]; exact e2, e3.keep hb⟩

/-- The letter of a kind. -/
def letK (k : Int) : UInt8 := if k = 1 then 110 else if k = 2 then 97 else if k = 3 then 102 else if k = 4 then 112 else 120
def atL (a : Int × Int) : List UInt8 := 32 :: letK a.1 :: decL a.2.toNat
def lnL (l : Ln) : List UInt8 := (l.flatMap atL).drop 1
def atOk (a : Int × Int) : Prop := 1 ≤ a.1 ∧ a.1 ≤ 5 ∧ 0 ≤ a.2 ∧ a.2 ≤ 999999
theorem ext_kind (k : Nat) (h1 : 1 ≤ k) (h5 : k ≤ 5) : ((⟨#[110, 97, 102, 112, 120]⟩ : ByteArray).extract (k - 1) k).data.toList = [letK k] := by
  have : k = 1 ∨ k = 2 ∨ k = 3 ∨ k = 4 ∨ k = 5 := by omega
  rcases this with rfl | rfl | rfl | rfl | rfl <;> decide +kernel
theorem decL_len6 (n : Nat) (h : n ≤ 999999) : (decL n).length ≤ 6 := by
  by_cases h1 : n < 10
  · rw [decL_lt n h1]; simp
  rw [decL_ge n h1, List.length_append]
  by_cases h2 : n / 10 < 10
  · rw [decL_lt _ h2]; simp
  rw [decL_ge _ h2, List.length_append]
  by_cases h3 : n / 10 / 10 < 10
  · rw [decL_lt _ h3]; simp
  rw [decL_ge _ h3, List.length_append]
  by_cases h4 : n / 10 / 10 / 10 < 10
  · rw [decL_lt _ h4]; simp
  rw [decL_ge _ h4, List.length_append]
  by_cases h5 : n / 10 / 10 / 10 / 10 < 10
  · rw [decL_lt _ h5]; simp
  rw [decL_ge _ h5, List.length_append, decL_lt _ (by omega)]; simp
theorem atL_len {a : Int × Int} (h : atOk a) : (atL a).length ≤ 8 := by
  have := decL_len6 a.2.toNat (by have := h.2.2.1; have := h.2.2.2; omega)
  simp [atL]; omega
theorem flat_len (l : Ln) (h : ∀ a ∈ l, atOk a) : (l.flatMap atL).length ≤ l.length * 8 := by
  induction l with
  | nil => simp
  | cons a l ih =>
    have h1 := atL_len (h a (by simp))
    have h2 := ih (fun x hx => h x (by simp [hx]))
    rw [List.flatMap_cons, List.length_append, List.length_cons]; omega
theorem ln_snoc (l : Ln) (k : Nat) (h : k < l.length) : (l.take (k + 1)).flatMap atL = (l.take k).flatMap atL ++ atL l[k] := by
  rw [List.take_succ_eq_append_getElem h, List.flatMap_append]; simp
theorem ln_first (l : Ln) : ((l.take 0).flatMap atL) = [] := by simp

theorem sp_drop (l X : List UInt8) (h : l ≠ []) : (l ++ 32 :: X).drop 1 = l.drop 1 ++ 32 :: X := by
  cases l with
  | nil => exact absurd rfl h
  | cons a l => simp
theorem ln_ne (l : Ln) (k : Nat) (h0 : 0 < k) (h : k ≤ l.length) : (l.take k).flatMap atL ≠ [] := by
  cases l with
  | nil => simp at h; omega
  | cons a l =>
    cases k with
    | zero => omega
    | succ k => simp [atL]

def boundF (k : Int) (nf : Nat) (ar : Int) (nl : Nat) : Int := if k = 1 then 1000000 else if k = 2 then ar else if k = 3 then nf else if k = 4 then 5 else if k = 5 then (nl : Int) - 1 else 0

/-! Good code: plain. -/
def goodA (nf : Nat) (ar : Int) (nl j : Nat) (a : Int × Int) : Bool := decide (0 ≤ a.2) && (decide (a.2 < boundF a.1 nf ar nl) && !(decide (a.1 = 5) && decide (a.2 < j)))
def goodL (nf : Nat) (ar : Int) (nl j : Nat) (l : Ln) : Bool := decide (l.length ≤ 8) && (decide (1 ≤ l.length) && (!(decide (0 < j) && decide (l.length < 2)) && (decide ((l[0]?.getD (0, 0)).1 ≠ 5) && l.all (goodA nf ar nl j))))
def goodLs (nf : Nat) (ar : Int) (nl : Nat) : Nat → List Ln → Bool
  | _, [] => true
  | j, l :: r => goodL nf ar nl j l && goodLs nf ar nl (j + 1) r
def goodT (nf : Nat) (t : Tp) : Bool := decide (0 ≤ t.ar) && (decide (t.ar ≤ 6) && (decide (1 ≤ t.ls.length) && (decide (t.ls.length ≤ 13) && goodLs nf t.ar t.ls.length 0 t.ls)))
def goodC (c : Cd) : Bool := decide (1 ≤ c.fs.length) && (decide (c.fs.length ≤ 16) && (decide (0 ≤ c.mn) && (decide (c.mn < c.fs.length) && (c.fs.all (goodT c.fs.length) && decide ((c.fs[c.mn.toNat]?.getD ⟨0, []⟩).ar = 0)))))

theorem goodLs_in (nf : Nat) (ar : Int) (nl : Nat) (L : List Ln) (j : Nat) (h : j < L.length) : goodLs nf ar nl j (L.drop j) = (goodL nf ar nl j L[j] && goodLs nf ar nl (j + 1) (L.drop (j + 1))) := by
  rw [List.drop_eq_getElem_cons h, goodLs]
theorem all_in {α : Type} (p : α → Bool) (l : List α) (j : Nat) (h : j < l.length) : (l.drop j).all p = (p l[j] && (l.drop (j + 1)).all p) := by
  rw [List.drop_eq_getElem_cons h, List.all_cons]

theorem all_step (nf : Nat) (ar : Int) (nl j : Nat) (l : Ln) (i : Nat) (h : i < l.length) {X : Bool} : ((l.drop i).all (goodA nf ar nl j) && X) = ((decide (0 ≤ l[i].2) && (decide (l[i].2 < boundF l[i].1 nf ar nl) && !(decide (l[i].1 = 5) && decide (l[i].2 < (j : Int))))) && ((l.drop (i + 1)).all (goodA nf ar nl j) && X)) := by
  rw [all_in _ l i h, Bool.and_assoc]
  rfl

end Go.Proofs.YtnndoagpbcacdaaDoor
