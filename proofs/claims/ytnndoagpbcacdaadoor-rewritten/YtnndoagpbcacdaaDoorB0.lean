import Derived.Test.YtnndoagpbcacdaaDoorA11
namespace Go.Proofs.YtnndoagpbcacdaaDoor
open Go.RowKit

/-! Numbers in texts. -/
def valL (l : List UInt8) : Int := l.foldl (fun n c => 10 * n + ((c.toNat : Int) - 48)) 0
def digL (l : List UInt8) : Prop := ∀ c ∈ l, 48 ≤ c.toNat ∧ c.toNat ≤ 57
theorem valL_snoc (l : List UInt8) (c : UInt8) : valL (l ++ [c]) = 10 * valL l + ((c.toNat : Int) - 48) := by simp [valL, List.foldl_append]
theorem fold_le (l : List UInt8) : ∀ acc : Int, digL l → 0 ≤ acc → 0 ≤ l.foldl (fun n c => 10 * n + ((c.toNat : Int) - 48)) acc ∧ l.foldl (fun n c => 10 * n + ((c.toNat : Int) - 48)) acc < (acc + 1) * 10 ^ l.length := by
  induction l with
  | nil => intro acc _ h; simp; omega
  | cons c r ih =>
    intro acc h h0
    have hc := h c (by simp)
    have := ih (10 * acc + ((c.toNat : Int) - 48)) (fun x hx => h x (by simp [hx])) (by omega)
    rw [List.foldl_cons, List.length_cons]
    refine ⟨this.1, Int.lt_of_lt_of_le this.2 ?_⟩
    rw [Int.pow_succ, Int.mul_comm (10 ^ r.length) 10, ← Int.mul_assoc]
    exact Int.mul_le_mul_of_nonneg_right (by omega) (Int.le_of_lt (Int.pow_pos (by decide)))
theorem valL_le (l : List UInt8) (h : digL l) : 0 ≤ valL l ∧ valL l < 10 ^ l.length := by
  have := fold_le l 0 h (Int.le_refl _)
  rw [Int.zero_add, Int.one_mul] at this
  exact this
theorem bt_get (s : ByteArray) (k : Nat) (h : k < s.data.toList.length) : bt s k = (s.data.toList[k].toNat : Int) := by
  unfold bt
  have : s.data[k]? = some s.data.toList[k] := by rw [← Array.getElem?_toList]; exact List.getElem?_eq_getElem h
  rw [this, Option.getD_some]

/-! Decimal digits. -/
def decL (n : Nat) : List UInt8 := if n < 10 then [UInt8.ofNat (48 + n)] else decL (n / 10) ++ [UInt8.ofNat (48 + n % 10)]
termination_by n
theorem decL_lt (n : Nat) (h : n < 10) : decL n = [UInt8.ofNat (48 + n)] := by rw [decL, if_pos h]
theorem decL_ge (n : Nat) (h : ¬ n < 10) : decL n = decL (n / 10) ++ [UInt8.ofNat (48 + n % 10)] := by rw [decL, if_neg h]
theorem decL_len (n : Nat) : (decL n).length ≤ n + 1 := by
  fun_induction decL n with
  | case1 n h => simp
  | case2 n h ih => simp; omega

theorem conv_byte (w : World) (m : Int) : (convert 68 9 (.slice (some ⟨w.heap.size, 0, none⟩) 1 1)).run Tryd.prog (w.alloc (.cells #[.int .u8 m] 5)) = .ok (.string (strOfNums [m])) (w.alloc (.cells #[.int .u8 m] 5)) :=
  run_convert_bytes_arg (P := Tryd.prog) _ 68 5 Tryd.underlying68 Tryd.underlying5 w.heap.size 0 1 1 [m] rfl (fun i hi => by
    have : i = 0 := by omega
    subst this
    rw [cell_of_row _ w.heap.size _ _ _ _ (heap_alloc_new w _)]; rfl) 9 Tryd.underlying9
theorem str_one (m : Int) : (strOfNums [m]).data.toList = [UInt8.ofNat m.toNat] := by rfl

theorem toL_append (a b : ByteArray) : (a ++ b).data.toList = a.data.toList ++ b.data.toList := by simp [ByteArray.data_append]
theorem heap_set_ne {w : World} {b i k : Nat} (u : Value) (h : k ≠ b) : (w.setCell ⟨b, i, none⟩ u).heap[k]? = w.heap[k]? := heap_setCell_other _ _ _ _ (by first | exact h | exact Ne.symm h)
theorem Tryd.infoStr : (Tryd.prog.info? 9).map (fun i => (i.zero, i.size, i.bytes)) = some (some (.string ByteArray.empty), 1, 16) := by kernel_rfl
theorem ownsRow_store {w : World} {base : Nat} {e : TypeId} {n q cap j : Nat} {xs : List Value} (u : Value) (h : w.ownsRow base e 1 (.slice (some ⟨q, 0, none⟩) n cap) n xs) : (w.setCell ⟨q, j, none⟩ u).ownsRow base e 1 (.slice (some ⟨q, 0, none⟩) n cap) n (xs.set j u) := by
  obtain ⟨h1, h2⟩ := h
  refine ⟨by simpa using h1, ?_⟩
  rcases h2 with ⟨h0, _⟩ | ⟨g, cap', cur, h0, hg, hh, hn, hc, hs, ht⟩
  · cases h0
  · cases h0
    refine .inr ⟨q, cap, cur.setIfInBounds j u, rfl, hg, heap_setCell_same w q j cur e u hh, hn, hc, by simpa using hs, ?_⟩
    rw [Array.toList_setIfInBounds, ← ht, List.take_set]


end Go.Proofs.YtnndoagpbcacdaaDoor
