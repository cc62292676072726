import Derived.Test.YtnndoagpbcacdaaDoorG4
namespace Go.Proofs.YtnndoagpbcacdaaDoor
open Go.RowKit

/-! How programs grow out of numbers: plain. -/
def pickF (c : Int) (n : Nat) : Nat := ((if c < 0 then -(c + 1) else c) % (n : Int)).toNat
def nxF (n : Nat) : List Int → Nat × List Int
  | [] => (0, [])
  | c :: l => (pickF c n, l)
def wordF (np nf : Nat) (l : List Int) : Wd × List Int :=
  if (nxF 10 l).1 < 4 ∧ 0 < np then ((2, ((nxF np (nxF 10 l).2).1 : Int)), (nxF np (nxF 10 l).2).2)
  else if (nxF 10 l).1 < 6 then ((3, ((nxF nf (nxF 10 l).2).1 : Int)), (nxF nf (nxF 10 l).2).2)
  else if (nxF 10 l).1 < 8 then ((1, ((nxF 1000 (nxF 10 l).2).1 : Int)), (nxF 1000 (nxF 10 l).2).2)
  else ((4, ((nxF 5 (nxF 10 l).2).1 : Int)), (nxF 5 (nxF 10 l).2).2)
abbrev Ap (d : Nat) := Wd × List (Ex d)
def argsF {d : Nat} (step : Nat → List Int → Ex d × Nat × List Int) : Nat → Nat → List Int → List (Ex d) × Nat × List Int
  | 0, i, l => ([], i, l)
  | m + 1, i, l => ((step i l).1 :: (argsF step m (step i l).2.1 (step i l).2.2).1, (argsF step m (step i l).2.1 (step i l).2.2).2)
def appG (np nf : Nat) {d : Nat} (step : Nat → List Int → Ex d × Nat × List Int) (least i : Nat) (l : List Int) : Ap d × Nat × List Int :=
  (((wordF np nf l).1, (argsF step (least + (nxF (5 - least) (wordF np nf l).2).1 - 1) i (nxF (5 - least) (wordF np nf l).2).2).1), (argsF step (least + (nxF (5 - least) (wordF np nf l).2).1 - 1) i (nxF (5 - least) (wordF np nf l).2).2).2)
def stepF (np nf : Nat) : (d : Nat) → Nat → List Int → Ex d × Nat × List Int
  | 0, i, l => ((wordF np nf (nxF 3 l).2).1, i, (wordF np nf (nxF 3 l).2).2)
  | d + 1, i, l => if (nxF 3 l).1 = 1 ∧ i < 3 then (.inr (appG np nf (stepF np nf d) 2 (i + 1) (nxF 3 l).2).1, (appG np nf (stepF np nf d) 2 (i + 1) (nxF 3 l).2).2) else (.inl (wordF np nf (nxF 3 l).2).1, i, (wordF np nf (nxF 3 l).2).2)
def appF (np nf d least i : Nat) (l : List Int) : Ap d × Nat × List Int := appG np nf (stepF np nf d) least i l
/-- A function without names: its number of parameters, its application. -/
structure Fb where
  np : Nat
  ap : Ap 2
def fnsF (nf : Nat) : Nat → Nat → List Int → List Fb
  | 0, _, _ => []
  | m + 1, i, l => ⟨if i = 0 then 0 else (nxF 4 l).1, (appF (if i = 0 then 0 else (nxF 4 l).1) nf 2 1 0 (nxF 4 l).2).1⟩ :: fnsF nf m (i + 1) (appF (if i = 0 then 0 else (nxF 4 l).1) nf 2 1 0 (nxF 4 l).2).2.2
def progF (l : List Int) : List Fb := fnsF ((nxF 4 l).1 + 1) ((nxF 4 l).1 + 1) 0 (nxF 4 l).2
theorem pickF_lt (c : Int) (n : Nat) (h : 0 < n) : pickF c n < n := by
  unfold pickF
  have h1 := Int.emod_nonneg (if c < 0 then -(c + 1) else c) (show (n : Int) ≠ 0 by omega)
  have h2 := Int.emod_lt_of_pos (if c < 0 then -(c + 1) else c) (show (0 : Int) < n by omega)
  omega
theorem nxF_lt (n : Nat) (l : List Int) (h : 0 < n) : (nxF n l).1 < n := by
  cases l with
  | nil => exact h
  | cons c l => exact pickF_lt c n h
theorem wordF_ok (np nf : Nat) (l : List Int) (hf : 0 < nf) : wOk np nf (wordF np nf l).1 ∧ ((wordF np nf l).1.1 = 1 → (wordF np nf l).1.2 < 1000) := by
  unfold wordF
  split
  · next h => have := nxF_lt np (nxF 10 l).2 h.2; exact ⟨.inr (.inl ⟨rfl, by simp only; omega, by simp only; omega⟩), fun e => by simp at e⟩
  · split
    · have := nxF_lt nf (nxF 10 l).2 hf; exact ⟨.inr (.inr (.inl ⟨rfl, by simp only; omega, by simp only; omega⟩)), fun e => by simp at e⟩
    · split
      · have := nxF_lt 1000 (nxF 10 l).2 (by omega); exact ⟨.inl ⟨rfl, by simp only; omega, by simp only; omega⟩, fun _ => by simp only; omega⟩
      · have := nxF_lt 5 (nxF 10 l).2 (by omega); exact ⟨.inr (.inr (.inr ⟨rfl, by simp only; omega, by simp only; omega⟩)), fun e => by simp at e⟩
/-- All words are small; applications have two to four parts. -/
def exS : (d : Nat) → Ex d → Prop
  | 0, x => x.1 = 1 → x.2 < 1000
  | _ + 1, .inl x => x.1 = 1 → x.2 < 1000
  | d + 1, .inr (h, l) => (h.1 = 1 → h.2 < 1000) ∧ l.length ≤ 3 ∧ ∀ e ∈ l, exS d e
structure StOk (np nf d : Nat) (step : Nat → List Int → Ex d × Nat × List Int) : Prop where
  ok : ∀ i l, exOk np nf d (step i l).1 ∧ exS d (step i l).1
  un : ∀ i l, (step i l).2.1 = i + unE d (step i l).1
  le : ∀ i l, i ≤ 3 → (step i l).2.1 ≤ 3
theorem argsF_ok {np nf d : Nat} {step : Nat → List Int → Ex d × Nat × List Int} (h : StOk np nf d step) : ∀ (m i : Nat) (l : List Int), (argsF step m i l).1.length = m ∧ (∀ e ∈ (argsF step m i l).1, exOk np nf d e ∧ exS d e) ∧ (argsF step m i l).2.1 = i + unA d (argsF step m i l).1 ∧ (i ≤ 3 → (argsF step m i l).2.1 ≤ 3)
  | 0, i, l => ⟨rfl, fun e he => by simp [argsF] at he, by simp [argsF, unA], fun h => h⟩
  | m + 1, i, l => by
    obtain ⟨a1, a2, a3, a4⟩ := argsF_ok h m (step i l).2.1 (step i l).2.2
    rw [argsF]
    refine ⟨by rw [List.length_cons, a1], fun e he => ?_, ?_, fun hi => a4 (h.le i l hi)⟩
    · rcases List.mem_cons.1 he with rfl | he
      · exact h.ok i l
      · exact a2 e he
    · simp only
      rw [a3, h.un i l]
      simp [unA]; omega
theorem appG_ok {np nf d : Nat} (hf : 0 < nf) {step : Nat → List Int → Ex d × Nat × List Int} (h : StOk np nf d step) (least i : Nat) (hl : 1 ≤ least) (hl2 : least ≤ 2) (l : List Int) :
    wOk np nf (appG np nf step least i l).1.1 ∧ ((appG np nf step least i l).1.1.1 = 1 → (appG np nf step least i l).1.1.2 < 1000) ∧ least - 1 ≤ (appG np nf step least i l).1.2.length ∧ (appG np nf step least i l).1.2.length ≤ 3 ∧ (∀ e ∈ (appG np nf step least i l).1.2, exOk np nf d e ∧ exS d e) ∧ (appG np nf step least i l).2.1 = i + unA d (appG np nf step least i l).1.2 ∧ (i ≤ 3 → (appG np nf step least i l).2.1 ≤ 3) := by
  obtain ⟨w1, w2⟩ := wordF_ok np nf l hf
  have hn := nxF_lt (5 - least) (wordF np nf l).2 (by omega)
  obtain ⟨a1, a2, a3, a4⟩ := argsF_ok h (least + (nxF (5 - least) (wordF np nf l).2).1 - 1) i (nxF (5 - least) (wordF np nf l).2).2
  unfold appG
  simp only
  exact ⟨w1, w2, by rw [a1]; omega, by rw [a1]; omega, a2, a3, a4⟩
theorem stepF_ok (np nf : Nat) (hf : 0 < nf) : ∀ d, StOk np nf d (stepF np nf d)
  | 0 => ⟨fun i l => wordF_ok np nf (nxF 3 l).2 hf, fun i l => rfl, fun i l h => h⟩
  | d + 1 => by
    have ih := stepF_ok np nf hf d
    refine ⟨fun i l => ?_, fun i l => ?_, fun i l h => ?_⟩
    · unfold stepF
      split
      · obtain ⟨a1, a2, a3, a4, a5, a6, a7⟩ := appG_ok hf ih 2 (i + 1) (by omega) (by omega) (nxF 3 l).2
        generalize appG np nf (stepF np nf d) 2 (i + 1) (nxF 3 l).2 = z at *
        obtain ⟨⟨z1, z2⟩, z3⟩ := z
        exact ⟨⟨a1, by simp only at a3; omega, by simp only at a4; omega, fun e he => (a5 e he).1⟩, a2, a4, fun e he => (a5 e he).2⟩
      · exact wordF_ok np nf (nxF 3 l).2 hf
    · unfold stepF
      split
      · obtain ⟨a1, a2, a3, a4, a5, a6, a7⟩ := appG_ok hf ih 2 (i + 1) (by omega) (by omega) (nxF 3 l).2
        generalize appG np nf (stepF np nf d) 2 (i + 1) (nxF 3 l).2 = z at *
        obtain ⟨⟨z1, z2⟩, z3⟩ := z
        simp only at a6 ⊢
        rw [a6]
        show _ = i + (1 + unA d z2)
        omega
      · rfl
    · unfold stepF
      split
      · next hc =>
        obtain ⟨a1, a2, a3, a4, a5, a6, a7⟩ := appG_ok hf ih 2 (i + 1) (by omega) (by omega) (nxF 3 l).2
        exact a7 (by omega)
      · exact h
structure FbOk (nf : Nat) (f : Fb) : Prop where
  np : f.np ≤ 3
  hd : wOk f.np nf f.ap.1
  hs : f.ap.1.1 = 1 → f.ap.1.2 < 1000
  ln : f.ap.2.length ≤ 3
  ag : ∀ e ∈ f.ap.2, exOk f.np nf 2 e ∧ exS 2 e
  un : unA 2 f.ap.2 ≤ 3
theorem fnsF_ok (nf : Nat) (hf : 0 < nf) : ∀ (m i : Nat) (l : List Int), (fnsF nf m i l).length = m ∧ ∀ f ∈ fnsF nf m i l, FbOk nf f
  | 0, _, _ => ⟨rfl, fun f hf => by simp [fnsF] at hf⟩
  | m + 1, i, l => by
    have hk := nxF_lt 4 l (by omega)
    have hnp : (if i = 0 then 0 else (nxF 4 l).1) ≤ 3 := by split <;> omega
    rw [fnsF]
    generalize (if i = 0 then 0 else (nxF 4 l).1) = np at *
    obtain ⟨a1, a2, a3, a4, a5, a6, a7⟩ := appG_ok hf (stepF_ok np nf hf 2) 1 0 (by omega) (by omega) (nxF 4 l).2
    obtain ⟨b1, b2⟩ := fnsF_ok nf hf m (i + 1) (appF np nf 2 1 0 (nxF 4 l).2).2.2
    refine ⟨by rw [List.length_cons, b1], fun f hm => ?_⟩
    rcases List.mem_cons.1 hm with rfl | hm
    · refine ⟨hnp, a1, a2, a4, a5, ?_⟩
      have := a7 (by omega)
      rw [a6] at this
      show unA 2 (appG np nf (stepF np nf 2) 1 0 (nxF 4 l).2).1.2 ≤ 3
      omega
    · exact b2 f hm
theorem fnsF_main (nf m : Nat) (l : List Int) : ∀ f, (fnsF nf m 0 l)[0]? = some f → f.np = 0 := by
  intro f h
  cases m with
  | zero => simp [fnsF] at h
  | succ m => simp [fnsF] at h; rw [← h]
theorem progF_ok (l : List Int) : 1 ≤ (progF l).length ∧ (progF l).length ≤ 4 ∧ (∀ f ∈ progF l, FbOk (progF l).length f) ∧ ∀ f, (progF l)[0]? = some f → f.np = 0 := by
  have hn := nxF_lt 4 l (by omega)
  unfold progF
  obtain ⟨a1, a2⟩ := fnsF_ok ((nxF 4 l).1 + 1) (by omega) ((nxF 4 l).1 + 1) 0 (nxF 4 l).2
  exact ⟨by omega, by omega, by rw [a1]; exact a2, fnsF_main _ _ _⟩
/-! Names. -/
def fNm (i : Nat) : List UInt8 := 102 :: decL i
def nmL (main : List UInt8) : Nat → List (List UInt8)
  | 0 => []
  | n + 1 => main :: (List.range n).map (fun i => fNm (i + 1))
def letL : List (List UInt8) := [[120], [121], [122]]
def named (nms : List (List UInt8)) (pl : List (List UInt8)) : List Fb → List (Fn 2)
  | l => l.zipWith (fun f n => ⟨n, pl.take f.np, f.ap.1, f.ap.2⟩) nms

end Go.Proofs.YtnndoagpbcacdaaDoor
