import Derived.Test.YtnndoagpbcacdaaDoorX11
namespace Go.Proofs.YtnndoagpbcacdaaDoor
open Go.RowKit

/-! Where the last line of a code text begins: plain. -/
def lstF (s : ByteArray) : Nat → Nat
  | 0 => 0
  | i + 1 => if bt s i = 10 ∧ i + 1 < s.size then i + 1 else lstF s i
def cntN (s : ByteArray) : Nat → Nat
  | 0 => 0
  | i + 1 => cntN s i + (if bt s i = 10 then 1 else 0)
theorem cntN_le (s : ByteArray) : ∀ i, cntN s i ≤ i
  | 0 => Nat.le_refl _
  | i + 1 => by have := cntN_le s i; unfold cntN; split <;> omega
theorem lstF_le (s : ByteArray) : ∀ i, lstF s i ≤ i
  | 0 => Nat.le_refl _
  | i + 1 => by have := lstF_le s i; unfold lstF; split <;> omega
theorem bt_ten (s : ByteArray) (i : Nat) (h : i < s.data.toList.length) : bt s i = 10 ↔ s.data.toList[i] = 10 := by
  rw [bt_get s i h]
  constructor
  · intro e
    apply UInt8.toNat_inj.1
    have : s.data.toList[i].toNat = 10 := by omega
    rw [this]; rfl
  · intro e; rw [e]; rfl
theorem cntN_take (s : ByteArray) : ∀ i, i ≤ s.data.toList.length → cntN s i = nls (s.data.toList.take i)
  | 0, _ => by simp [cntN, nls]
  | i + 1, h => by
    rw [cntN, cntN_take s i (by omega), List.take_succ_eq_append_getElem (by omega), nls, nls, List.count_append]
    have := bt_ten s i (by omega)
    by_cases hb : bt s i = 10
    · rw [if_pos hb, this.1 hb]; rfl
    · have h0 : List.count 10 [s.data.toList[i]] = 0 := List.count_eq_zero.2 (by intro hm; exact hb (this.2 (List.mem_singleton.1 hm).symm))
      rw [if_neg hb, h0]
theorem cntN_all (s : ByteArray) : cntN s s.size = nls s.data.toList := by
  rw [cntN_take s s.size (by rw [size_len]; exact Nat.le_refl _), size_len, List.take_length]
def endsN (l : List UInt8) : Prop := ∃ k, l = k ++ [10]
theorem endsN.app {a b : List UInt8} (h : endsN b) : endsN (a ++ b) := by obtain ⟨k, rfl⟩ := h; exact ⟨a ++ k, by simp⟩
theorem endsN.flat {α : Type} {a : List UInt8} (f : α → List UInt8) (hf : ∀ x, endsN (f x)) (h : endsN a) : ∀ l : List α, endsN (a ++ l.flatMap f)
  | [] => by simpa using h
  | x :: l => by rw [List.flatMap_cons, ← List.append_assoc]; exact endsN.flat f hf (hf x).app l
theorem endsN_hd (c : UInt8) (a b : Nat) : endsN (hdL c a b) := by
  exact ⟨c :: 32 :: (decL a ++ 32 :: decL b), by simp [hdL]⟩
theorem endsN_tp (t : Tp) : endsN (tpL t) := endsN.flat lnT (fun l => ⟨lnL l, rfl⟩) (endsN_hd _ _ _) t.ls
theorem lstF_at {s : ByteArray} {pre x : List UInt8} (h : s.data.toList = pre ++ (x ++ [10])) (he : endsN pre) (hx : (10 : UInt8) ∉ x) : lstF s s.size = pre.length := by
  have hsz : s.size = pre.length + x.length + 1 := by rw [size_len, h]; simp; omega
  have hst : ∀ m, m ≤ x.length → lstF s (pre.length + m) = pre.length := by
    intro m
    induction m with
    | zero =>
      intro _
      obtain ⟨k, rfl⟩ := he
      have hk : bt s k.length = 10 := by
        rw [bt_ten s k.length (by rw [h]; simp)]
        simp [h]
      rw [Nat.add_zero, List.length_append, List.length_singleton, lstF, if_pos ⟨hk, by rw [hsz]; simp; omega⟩]
    | succ m ih =>
      intro hm
      have hb : bt s (pre.length + m) ≠ 10 := by
        rw [Ne, bt_ten s (pre.length + m) (by rw [h]; simp; omega)]
        intro e
        have : (pre ++ (x ++ [10]))[pre.length + m]? = some 10 := by rw [← h, List.getElem?_eq_getElem (by rw [h]; simp; omega), e]
        rw [List.getElem?_append_right (by omega), Nat.add_sub_cancel_left, List.getElem?_append_left (by omega)] at this
        exact hx (List.mem_of_getElem? this)
      rw [← Nat.add_assoc, lstF, if_neg (fun h => hb h.1), ih (by omega)]
  rw [hsz, lstF, if_neg (by omega), hst _ (Nat.le_refl _)]
/-- The text without its last line. -/
theorem code_cut (c : Cd) (hg : goodC c = true) (s : ByteArray) (hs : s.data.toList = cdL c) : codeR (s.extract 0 (lstF s s.size)) = (none, cntF c.fs + 1) := by
  obtain ⟨mn, fs⟩ := c
  have hok := goodC_ok hg
  obtain ⟨F, t, rfl⟩ : ∃ F t, fs = F ++ [t] := by
    have := hok.1
    exact ⟨fs.dropLast, fs.getLast (by intro e; subst e; simp at this), (List.dropLast_concat_getLast _).symm⟩
  obtain ⟨ar, ls⟩ := t
  obtain ⟨L, l, rfl⟩ : ∃ L l, ls = L ++ [l] := by
    have := (hok.2.2.2.2 ⟨ar, ls⟩ (by simp)).2.2.1
    simp only at this
    exact ⟨ls.dropLast, ls.getLast (by intro e; subst e; simp at this), (List.dropLast_concat_getLast _).symm⟩
  have hcd : cdL ⟨mn, F ++ [⟨ar, L ++ [l]⟩]⟩ = ((hdL 77 mn.toNat (F ++ [(⟨ar, L ++ [l]⟩ : Tp)]).length ++ F.flatMap tpL) ++ (hdL 70 ar.toNat ((L ++ [l]).length - 1) ++ L.flatMap lnT)) ++ (lnL l ++ [10]) := by
    simp [cdL, tpL, lnT]
  have he : endsN ((hdL 77 mn.toNat (F ++ [(⟨ar, L ++ [l]⟩ : Tp)]).length ++ F.flatMap tpL) ++ (hdL 70 ar.toNat ((L ++ [l]).length - 1) ++ L.flatMap lnT)) :=
    (endsN.flat lnT (fun l => ⟨lnL l, rfl⟩) (endsN_hd _ _ _) L).app
  have hx : (10 : UInt8) ∉ lnL l := by
    have := nls_ln l
    unfold nls lnT at this
    rw [List.count_append] at this
    apply List.count_eq_zero.1
    have h1 : List.count (10 : UInt8) [10] = 1 := rfl
    omega
  have hl := lstF_at (hs.trans hcd) he hx
  rw [hl]
  refine code_less mn ar F L l hg _ ?_
  rw [← hs]
  rw [hcd] at hs
  generalize ((hdL 77 mn.toNat (F ++ [(⟨ar, L ++ [l]⟩ : Tp)]).length ++ F.flatMap tpL) ++ (hdL 70 ar.toNat ((L ++ [l]).length - 1) ++ L.flatMap lnT)) = pre at *
  rw [show lnT l = lnL l ++ [10] from rfl]
  have hex : (s.extract 0 pre.length).data.toList = pre := by
    rw [ByteArray.data_extract, Array.toList_extract, hs]
    simp
  rw [hex, hs]

end Go.Proofs.YtnndoagpbcacdaaDoor
