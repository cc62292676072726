import Derived.Test.YtnndoagpbcacdaaDoorX8
namespace Go.Proofs.YtnndoagpbcacdaaDoor
open Go.RowKit

/-! Lines of words are read back: plain. -/
def joinW : List (List UInt8) → List UInt8
  | [] => []
  | [w] => w
  | w :: x :: ws => w ++ 32 :: joinW (x :: ws)
theorem ba_ext {a b : ByteArray} (h : a.data.toList = b.data.toList) : a = b := by
  cases a; cases b
  congr 1
  exact Array.toList_inj.1 h
theorem bt_of {r : ByteArray} {pre post : List UInt8} {c : UInt8} (h : r.data.toList = pre ++ c :: post) : pre.length < r.size ∧ bt r pre.length = (c.toNat : Int) := by
  have hl : pre.length < r.data.toList.length := by rw [h]; simp
  refine ⟨by rw [size_len]; exact hl, ?_⟩
  rw [bt_get r pre.length hl]
  congr 1
  have : r.data.toList[pre.length]? = some c := by rw [h]; simp
  rw [List.getElem?_eq_getElem hl] at this
  rw [Option.some.inj this]
theorem wrd_skip (r : ByteArray) (b : Nat) : ∀ (w pre post : List UInt8) (acc : List ByteArray), r.data.toList = pre ++ (w ++ post) → (∀ c ∈ w, c ≠ 10 ∧ c ≠ 32) → wrd r b pre.length acc = wrd r b (pre.length + w.length) acc
  | [], pre, post, acc, _, _ => rfl
  | c :: w, pre, post, acc, h, hg => by
    obtain ⟨h1, h2⟩ := bt_of (r := r) (pre := pre) (post := w ++ post) (c := c) (by rw [h]; simp)
    have hc := hg c (by simp)
    have n1 : bt r pre.length ≠ 10 := by
      rw [h2]; intro e
      exact hc.1 (UInt8.toNat_inj.1 (show c.toNat = 10 from by omega))
    have n2 : bt r pre.length ≠ 32 := by
      rw [h2]; intro e
      exact hc.2 (UInt8.toNat_inj.1 (show c.toNat = 32 from by omega))
    rw [wrd_go r b pre.length acc h1 n1 n2]
    have := wrd_skip r b w (pre ++ [c]) post acc (by rw [h]; simp) (fun x hx => hg x (by simp [hx]))
    rw [List.length_append, List.length_cons, List.length_nil] at this
    rw [List.length_cons, show pre.length + (w.length + 1) = pre.length + (0 + 1) + w.length by omega]
    exact this
theorem extract_mid {r : ByteArray} {pre w post : List UInt8} (h : r.data.toList = pre ++ (w ++ post)) : r.extract pre.length (pre.length + w.length) = ⟨w.toArray⟩ := by
  apply ba_ext
  rw [ByteArray.data_extract, Array.toList_extract, h, List.extract_eq_take_drop]
  simp
theorem wrd_join (r : ByteArray) : ∀ (ws : List (List UInt8)) (pre post : List UInt8) (acc : List ByteArray), ws ≠ [] → (∀ w ∈ ws, ∀ c ∈ w, c ≠ 10 ∧ c ≠ 32) → r.data.toList = pre ++ (joinW ws ++ 10 :: post) → wrd r pre.length pre.length acc = some (acc ++ ws.map (fun w => ⟨w.toArray⟩), pre.length + (joinW ws).length + 1)
  | [], _, _, _, h, _, _ => absurd rfl h
  | [w], pre, post, acc, _, hg, h => by
    rw [joinW] at h ⊢
    rw [wrd_skip r pre.length w pre (10 :: post) acc h (hg w (by simp))]
    obtain ⟨h1, h2⟩ := bt_of (r := r) (pre := pre ++ w) (post := post) (c := 10) (by rw [h]; simp)
    rw [List.length_append] at h1 h2
    rw [wrd_nl r pre.length (pre.length + w.length) acc h1 h2, extract_mid h]
    rfl
  | w :: x :: ws, pre, post, acc, _, hg, h => by
    rw [joinW] at h ⊢
    have h' : r.data.toList = pre ++ (w ++ (32 :: (joinW (x :: ws) ++ 10 :: post))) := by rw [h]; simp
    rw [wrd_skip r pre.length w pre (32 :: (joinW (x :: ws) ++ 10 :: post)) acc h' (hg w (by simp))]
    obtain ⟨h1, h2⟩ := bt_of (r := r) (pre := pre ++ w) (post := joinW (x :: ws) ++ 10 :: post) (c := 32) (by rw [h']; simp)
    rw [List.length_append] at h1 h2
    rw [wrd_sp r pre.length (pre.length + w.length) acc h1 h2, extract_mid h']
    have := wrd_join r (x :: ws) (pre ++ w ++ [32]) post (acc ++ [⟨w.toArray⟩]) (by simp) (fun y hy => hg y (by simp at hy ⊢; exact .inr hy)) (by rw [h']; simp)
    simp only [List.length_append, List.length_cons, List.length_nil] at this
    rw [show pre.length + w.length + (0 + 1) = pre.length + w.length + 1 by omega] at this
    rw [this]
    simp
    omega

end Go.Proofs.YtnndoagpbcacdaaDoor
