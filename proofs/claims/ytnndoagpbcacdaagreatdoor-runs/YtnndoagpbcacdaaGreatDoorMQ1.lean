import Derived.Test.YtnndoagpbcacdaaGreatDoorMX9
import Derived.Test.YtnndoagpbcacdaaGreatDoorMR10
import Derived.Test.YtnndoagpbcacdaaGreatDoorR0
import Derived.Deep.QuietTactic
import Derived.BigQuiet
namespace Go.Proofs.YtnndoagpbcacdaaGreatDoor
open Go.RowKit

/-! The reference: split. -/
def preL (p : List UInt8) : List (List UInt8) → List (List UInt8)
  | [] => [p]
  | h :: t => (p ++ h) :: t
def spL (c : UInt8) : List UInt8 → List (List UInt8)
  | [] => [[]]
  | a :: l => if a = c then [] :: spL c l else preL [a] (spL c l)
def ba (l : List UInt8) : ByteArray := ⟨l.toArray⟩
theorem ba_toL (l : List UInt8) : (ba l).data.toList = l := rfl
theorem ba_of {s : ByteArray} {l : List UInt8} (h : s.data.toList = l) : s = ba l := by
  obtain ⟨d⟩ := s
  exact congrArg ByteArray.mk (Array.ext' (by simpa using h))
theorem preL_pre (p q : List UInt8) (L : List (List UInt8)) : preL p (preL q L) = preL (p ++ q) L := by
  cases L <;> simp [preL]
theorem preL_ne (p : List UInt8) (L : List (List UInt8)) : preL p L ≠ [] := by cases L <;> simp [preL]
theorem spL_ne (c : UInt8) (l : List UInt8) : spL c l ≠ [] := by
  cases l with
  | nil => simp [spL]
  | cons a l => unfold spL; split
                · simp
                · exact preL_ne _ _
theorem preL_nil {L : List (List UInt8)} (h : L ≠ []) : preL [] L = L := by
  cases L with
  | nil => exact absurd rfl h
  | cons a l => simp [preL]
theorem spL_hit (c : UInt8) (l : List UInt8) (i : Nat) (h : i < l.length) (e : l[i] = c) : spL c (l.drop i) = [] :: spL c (l.drop (i + 1)) := by
  rw [List.drop_eq_getElem_cons h, spL, if_pos e]
theorem spL_miss (c : UInt8) (l : List UInt8) (i : Nat) (h : i < l.length) (e : l[i] ≠ c) : spL c (l.drop i) = preL [l[i]] (spL c (l.drop (i + 1))) := by
  rw [List.drop_eq_getElem_cons h, spL, if_neg e]
theorem cut_snoc (l : List UInt8) (b i : Nat) (hb : b ≤ i) (h : i < l.length) : (l.drop b).take (i + 1 - b) = (l.drop b).take (i - b) ++ [l[i]] := by
  rw [show i + 1 - b = (i - b) + 1 by omega, List.take_succ_eq_append_getElem (by rw [List.length_drop]; omega), List.getElem_drop]
  simp [show b + (i - b) = i by omega]
theorem ext_cut (s : ByteArray) (b i : Nat) : (s.extract b i).data.toList = (s.data.toList.drop b).take (i - b) := by
  rw [ByteArray.data_extract, Array.toList_extract]
theorem spL_len (c : UInt8) : ∀ (l : List UInt8), ∀ x ∈ spL c l, x.length ≤ l.length
  | [], x, h => by simp [spL] at h; simp [h]
  | a :: l, x, h => by
    unfold spL at h
    split at h
    · rcases List.mem_cons.1 h with rfl | h
      · simp
      · have := spL_len c l x h; simp; omega
    · cases hs : spL c l with
      | nil => exact absurd hs (spL_ne c l)
      | cons y t =>
        rw [hs] at h
        simp only [preL] at h
        rcases List.mem_cons.1 h with rfl | h
        · have := spL_len c l y (by rw [hs]; simp); simp; omega
        · have := spL_len c l x (by rw [hs]; simp [h]); simp; omega

set_option maxRecDepth 100000 in
set_option maxHeartbeats 4000000 in
theorem rSplit (s : ByteArray) (c : UInt8) (w : World) (hs : s.size ≤ 30000) :
    Calls Tryz.prog 89 #[.string s, .int .u8 (c.toNat : Int)] w fun e w' => ∃ a cap, e = .returned (.slice a (spL c s.data.toList).length cap) ∧ Below w.heap.size w w' ∧ w'.ownsRow w.heap.size 9 1 (.slice a (spL c s.data.toList).length cap) (spL c s.data.toList).length (sts ((spL c s.data.toList).map ba)) ∧ (spL c s.data.toList).length ≤ 30001 := by
  obtain ⟨i, hi, hz0, hz1, hz2⟩ := info_parts Tryz.infoStr
  have hsl := size_len s
  generalize hR : spL c s.data.toList = R
  have HR : Hid (spL c s.data.toList = R) := hR
  clear hR
  have HS : Hid (s.size = s.data.toList.length) := hsl
  clear hsl
  go_enter Tryz.func89, Tryz.ntmps89
  go_wp2_with fail
  go_loopw [5, 6, 7] (fun x y z wr => ∃ (b k : Nat) (acc : List (List UInt8)), b ≤ k ∧ k ≤ s.size ∧ y = .int .i64 b ∧ z = .int .i64 k ∧ Hid (acc ++ preL ((s.data.toList.drop b).take (k - b)) (spL c (s.data.toList.drop k)) = R) ∧ acc.length ≤ k ∧ wr.ownsRow w.heap.size 9 1 x acc.length (sts (acc.map ba)) ∧ Below w.heap.size w wr) (fun _ _ z _ => s.size - (intOf z).toNat)
  case atStart => exact ⟨0, 0, [], Nat.le_refl _, Nat.zero_le _, rfl, rfl, by have := HR.out; simpa [preL_nil (spL_ne _ _), Hid] using this, Nat.le_refl _, World.ownsRow_nil _ _ _ _, Below.refl _ _⟩
  case round =>
    obtain ⟨b, k, acc, hbk, hk, rfl, rfl, HW, hal, hrow, hb⟩ := hrel
    have hbsz := hb.size
    obtain ⟨ao, cap, hx⟩ := own_form hrow
    subst hx
    by_cases hlt : k < s.size
    · have hbt := bt_eq s k hlt
      have hkl : k < s.data.toList.length := by have := HS.out; omega
      have hbg := bt_get s k hkl
      by_cases q : s.data.toList[k] = c
      · have q1 : (bt s k == (c.toNat : Int)) = true := by rw [hbg, q]; simp
        have HE : Hid ((acc ++ [(s.data.toList.drop b).take (k - b)]) ++ preL ((s.data.toList.drop (k + 1)).take (k + 1 - (k + 1))) (spL c (s.data.toList.drop (k + 1))) = R) := by
          show _ = _
          rw [← HW.out, spL_hit c _ k hkl q, Nat.sub_self, List.take_zero, preL_nil (spL_ne _ _)]
          simp [preL]
        have HP : Hid (s.extract b k = ba ((s.data.toList.drop b).take (k - b))) := ba_of (ext_cut s b k)
        clear HW q hbg
        go_wp2_with (at_builtin; go_must (refine wpList_append_lies _ rfl _ _ _ rfl w.heap.size 9 i _ 1 16 Tryz.underlying37 hi hz0 hz1 hz2 rfl (by omega) (.slice ao acc.length cap) acc.length (sts (acc.map ba)) rfl ?hown _ 1 _ [.string (s.extract b k)] rfl rfl ?hnews ?h1 (by omega) ?h63 ?hbytes ?hbase _ rfl ?_))
        case hown => exact hrow.alloc _
        case hnews => exact World.news_of_block (heap_alloc_new wr _)
        case h1 => simp [Value.oneCell']
        case h63 => unfold maxLen; omega
        case hbytes => omega
        case hbase => simp; omega
        intro g cap2 w2 hown2 hgrow hat hlt2
        have hb2 : Below w.heap.size w w2 := (hb.alloc hbsz _).grown hgrow (by simp; omega) (fun j hj => (hrow.lt j hj).1)
        clear hat hgrow
        rw [HP.out] at hown2
        go_wp2_with fail
        go_roundw
        case rel => exact ⟨k + 1, k + 1, acc ++ [(s.data.toList.drop b).take (k - b)], Nat.le_refl _, hlt, by go_num, by go_num, HE, by simp; omega, by rw [List.length_append, List.map_append, List.map_singleton, sts_snoc]; exact hown2, hb2⟩
        case measure => simp [intOf]; omega
      · have q1 : (bt s k == (c.toNat : Int)) = false := by
          rw [hbg, beq_eq_false_iff_ne]
          intro e
          exact q (UInt8.toNat_inj.1 (by omega))
        have HE : Hid (acc ++ preL ((s.data.toList.drop b).take (k + 1 - b)) (spL c (s.data.toList.drop (k + 1))) = R) := by
          show _ = _
          rw [← HW.out, spL_miss c _ k hkl q, preL_pre, cut_snoc _ b k hbk hkl]
        clear HW q hbg
        go_wp2_with fail
        go_roundw
        case rel => exact ⟨b, k + 1, acc, by omega, hlt, rfl, by go_num, HE, by omega, hrow, hb⟩
        case measure => simp [intOf]; omega
    · have hk2 : k = s.size := by omega
      have HE : Hid (acc ++ [(s.data.toList.drop b).take (s.size - b)] = R) := by
        show _ = _
        rw [← HW.out, hk2, List.drop_eq_nil_of_le (Nat.le_of_eq HS.out.symm), show spL c [] = [[]] from rfl]
        simp [preL]
      have HP : Hid (s.extract b s.size = ba ((s.data.toList.drop b).take (s.size - b))) := ba_of (ext_cut s b s.size)
      have hk3 : ¬ (k : Int) < (s.size : Int) := by omega
      clear HW
      go_wp2_with (at_builtin; go_must (refine wpList_append_lies _ rfl _ _ _ rfl w.heap.size 9 i _ 1 16 Tryz.underlying37 hi hz0 hz1 hz2 rfl (by omega) (.slice ao acc.length cap) acc.length (sts (acc.map ba)) rfl ?hown2 _ 1 _ [.string (s.extract b s.size)] rfl rfl ?hnews2 ?h12 (by omega) ?h632 ?hbytes2 ?hbase2 _ rfl ?_))
      case hown2 => exact hrow.alloc _
      try case hnews2 => exact World.news_of_block (heap_alloc_new wr _)
      case h12 => simp [Value.oneCell']
      case h632 => unfold maxLen; omega
      case hbytes2 => omega
      case hbase2 => first | omega | (simp; omega)
      intro g cap2 w2 hown2 hgrow hat hlt2
      have hb2 : Below w.heap.size w w2 := (hb.alloc hbsz _).grown hgrow (by simp; omega) (fun j hj => (hrow.lt j hj).1)
      clear hat hgrow
      rw [HP.out] at hown2
      go_wp2_with fail
      go_ret
      have hl : acc.length + 1 = R.length := by rw [← HE.out]; simp
      refine ⟨some ⟨g, 0, none⟩, cap2, by rw [← hl]; rfl, hb2, ?_, by omega⟩
      rw [← hl, ← HE.out, List.map_append, List.map_singleton, sts_snoc]
      exact hown2

end Go.Proofs.YtnndoagpbcacdaaGreatDoor
namespace Go.Proofs.YtnndoagpbcacdaaGreatDoor
open Go.RowKit

/-! The reference: decimal. -/
def decV (s : ByteArray) : Int := if numOk s then numV s else -1
theorem decV_le (s : ByteArray) : -1 ≤ decV s ∧ decV s ≤ 999999 := by
  unfold decV
  split
  · have := numV_le s; omega
  · omega
theorem decV_ok (s : ByteArray) : decide (0 ≤ decV s) = numOk s := by
  unfold decV
  cases h : numOk s
  · rfl
  · have := numV_le s
    simp only [if_true, decide_eq_true_eq]
    exact this.1
theorem dec_back : ∀ (n : Nat) (l : List UInt8), l.length = n + 1 → digL l → (l[0]? = some 48 → n = 0) → decL (valL l).toNat = l
  | 0, l, hl, hd, _ => by
    obtain ⟨d, rfl⟩ : ∃ d, l = [d] := List.length_eq_one_iff.1 hl
    have h := hd d (by simp)
    have hv : valL [d] = ((d.toNat : Int) - 48) := by simp [valL]
    rw [hv, decL_lt _ (by omega)]
    congr 1
    apply UInt8.toNat_inj.1
    rw [dig_lt _ (by omega)]
    omega
  | n + 1, l, hl, hd, hz => by
    obtain ⟨k, d, rfl⟩ : ∃ k d, l = k ++ [d] := ⟨l.dropLast, l.getLast (by intro e; subst e; simp at hl), (List.dropLast_concat_getLast _).symm⟩
    have hkl : k.length = n + 1 := by simpa using hl
    have hdk : digL k := fun c hc => hd c (by simp [hc])
    have hd1 := hd d (by simp)
    have hk0 : k[0]? ≠ some 48 := by
      intro e
      have : (k ++ [d])[0]? = some 48 := by rw [List.getElem?_append_left (by omega)]; exact e
      have := hz this
      omega
    have ih := dec_back n k hkl hdk (fun e => absurd e hk0)
    have hge := valL_le k hdk
    have h1 : 1 ≤ valL k := by
      rcases Int.lt_or_le 0 (valL k) with h | h
      · omega
      · have h0 : valL k = 0 := by omega
        rw [h0] at ih
        exfalso
        apply hk0
        rw [← ih, Int.toNat_zero, decL_lt 0 (by omega)]
        rfl
    rw [valL_snoc, decL_ge _ (by omega)]
    have e1 : (10 * valL k + ((d.toNat : Int) - 48)).toNat / 10 = (valL k).toNat := by omega
    have e2 : (10 * valL k + ((d.toNat : Int) - 48)).toNat % 10 = d.toNat - 48 := by omega
    rw [e1, e2, ih]
    congr 2
    apply UInt8.toNat_inj.1
    rw [dig_lt _ (by omega)]
    omega
theorem dec_forth (l : List UInt8) (n : Nat) (h : decL n = l) (h0 : l[0]? = some 48) : l.length = 1 := by
  by_cases hn : 1 ≤ n
  · obtain ⟨d, t, e, hd⟩ := decL_head n hn
    rw [← h, e] at h0
    simp at h0
    rw [h0] at hd
    exact absurd hd (by decide)
  · have : n = 0 := by omega
    subst this
    rw [← h, decL_lt 0 (by omega)]
    rfl
/-- The digits of a text's value are the text: just when it is a number as it is written. -/
theorem dec_same (s : ByteArray) (h1 : 1 ≤ s.size) (h6 : s.size ≤ 6) (hd : digL s.data.toList) : (decL (valL s.data.toList).toNat = s.data.toList ↔ numOk s = true) := by
  have hl := size_len s
  have hb0 : bt s 0 = 48 ↔ s.data.toList[0]? = some 48 := by
    rw [bt_get s 0 (by omega), List.getElem?_eq_getElem (by omega)]
    constructor
    · intro e
      congr 1
      apply UInt8.toNat_inj.1
      show _ = 48
      omega
    · intro e
      simp only [Option.some.injEq] at e
      rw [e]; rfl
  have hall : (s.data.toList.all fun c => decide (48 ≤ c.toNat) && decide (c.toNat ≤ 57)) = true := by
    rw [List.all_eq_true]
    intro c hc
    have := hd c hc
    simp [this.1, this.2]
  have hn : numOk s = true ↔ ¬ (bt s 0 = 48 ∧ 1 < s.size) := by
    simp only [numOk, hall, h1, h6, decide_true, Bool.true_and, Bool.and_true, Bool.not_eq_true', Bool.and_eq_false_iff, decide_eq_false_iff_not]
    constructor
    · rintro (h | h) ⟨a, b⟩
      · exact h a
      · exact h b
    · intro h
      by_cases a : bt s 0 = 48
      · exact .inr (fun b => h ⟨a, b⟩)
      · exact .inl a
  rw [hn]
  constructor
  · rintro e ⟨a, b⟩
    have := dec_forth _ _ e (hb0.1 a)
    omega
  · intro h
    refine dec_back (s.data.toList.length - 1) _ (by omega) hd (fun e => ?_)
    by_cases b : 1 < s.size
    · exact absurd ⟨hb0.2 e, b⟩ h
    · omega

set_option maxRecDepth 100000 in
set_option maxHeartbeats 4000000 in
theorem rDec (s : ByteArray) (w : World) :
    Calls Tryz.prog 175 #[.string s] w fun e w' => e = .returned (.int .i64 (decV s)) ∧ Below w.heap.size w w' := by
  have hsl := size_len s
  have HS : Hid (s.size = s.data.toList.length) := hsl
  clear hsl
  have HB : Hid (numOk s = false → decV s = -1) := fun h => by unfold decV; rw [h]; rfl
  by_cases h1 : 1 ≤ s.size
  · by_cases h6 : s.size ≤ 6
    · generalize hV : decV s = V
      have HV : Hid (decV s = V) := hV
      clear hV
      go_enter Tryz.func175, Tryz.ntmps175
      go_wp2_with fail
      go_loopw [3] (fun y wr => ∃ k : Nat, k ≤ s.size ∧ y = .int .i64 k ∧ Hid (digL (s.data.toList.take k)) ∧ wr = w) (fun y _ => s.size - (intOf y).toNat)
      case atStart => exact ⟨0, Nat.zero_le _, rfl, fun c hc => by simp at hc, rfl⟩
      case round =>
        obtain ⟨k, hk, rfl, HD, rfl⟩ := hrel
        by_cases hlt : k < s.size
        · have hkl : k < s.data.toList.length := by have := HS.out; omega
          have hbt := bt_eq s k hlt
          have HG : Hid _ := bt_get s k hkl
          have HC : Hid _ := fun w => rDigit (bt s k) w
          cases hq : isD (bt s k)
          · rw [hq] at HC
            have HE : Hid (V = -1) := by
              rw [← HV.out]
              refine HB.out ?_
              have : (s.data.toList.all fun c => decide (48 ≤ c.toNat) && decide (c.toNat ≤ 57)) = false := all_bad k hkl (by
                unfold isD at hq
                rw [HG.out] at hq
                simp only [decide_eq_false_iff_not] at hq
                simp only [Bool.and_eq_false_iff, decide_eq_false_iff_not]
                omega)
              simp [numOk, this]
            go_wp2_with fail
            refine (show Calls _ _ _ _ _ from HC.out _).mono ?_
            rintro e w1 ⟨rfl, rfl⟩
            go_wp2_with fail
            go_ret
            exact ⟨ret_int HE.out.symm, Below.refl _ _⟩
          · rw [hq] at HC
            have HD2 : Hid (digL (s.data.toList.take (k + 1))) := by
              intro c hc
              rw [List.take_succ_eq_append_getElem hkl] at hc
              rcases List.mem_append.1 hc with hc | hc
              · exact HD.out c hc
              · rw [List.mem_singleton.1 hc]
                unfold isD at hq
                rw [HG.out] at hq
                simp only [decide_eq_true_eq] at hq
                omega
            go_wp2_with fail
            refine (show Calls _ _ _ _ _ from HC.out _).mono ?_
            rintro e w1 ⟨rfl, rfl⟩
            go_wp2_with fail
            go_roundw
            case rel => exact ⟨k + 1, hlt, by go_num, HD2, trivial⟩
            case measure => simp [intOf]; omega
        · have hk2 : k = s.size := by omega
          have hk3 : ¬ (k : Int) < (s.size : Int) := by omega
          have hd : digL s.data.toList := by
            have := HD.out
            rw [hk2, HS.out, List.take_length] at this
            exact this
          have HC : Hid _ := fun w => rValue s w h6 hd
          have HSM : Hid _ := dec_same s h1 h6 hd
          have hv := valL_le s.data.toList hd
          have hv2 : valL s.data.toList ≤ 999999 := by
            have h3 : (10 : Int) ^ s.data.toList.length ≤ 10 ^ 6 := by exact_mod_cast Nat.pow_le_pow_right (by decide) (by have := HS.out; omega)
            have h4 : (10 : Int) ^ 6 = 1000000 := by decide
            omega
          have HVV : Hid (numOk s = true → V = valL s.data.toList) := fun h => by rw [← HV.out]; simp [decV, numV, h]
          have HVB : Hid (numOk s = false → V = -1) := fun h => by rw [← HV.out]; exact HB.out h
          obtain ⟨N, hN⟩ := Int.eq_ofNat_of_zero_le hv.1
          rw [hN] at HC HSM HVV hv2
          have HCD : Hid _ := fun w => rDecimal N N w (Nat.le_refl _) (by omega)
          clear hv hN hd HD
          go_wp2_with fail
          refine (show Calls _ _ _ _ _ from HC.out _).mono ?_
          rintro e w1 ⟨rfl, rfl⟩
          go_wp2_with fail
          refine (show Calls _ _ _ _ _ from HCD.out _).mono ?_
          rintro e w2 ⟨x, rfl, hx, hb2⟩
          clear HC HCD
          by_cases hq : numOk s = true
          · have hxe : x = s := by
              rw [ba_of hx, ba_of (rfl : s.data.toList = s.data.toList)]
              congr 1
              have := HSM.out.2 hq
              simpa using this
            subst hxe
            have hxx : (x.toList != x.toList) = false := by simp
            have HE : Hid (V = N) := HVV.out hq
            clear hx hq
            go_wp2_with fail
            go_ret
            exact ⟨ret_int HE.out.symm, hb2⟩
          · have hxx : (x.toList != s.toList) = true := by
              rw [bne_iff_ne]
              intro e
              apply hq
              apply HSM.out.1
              rw [ByteArray.toList_eq, ByteArray.toList_eq] at e
              rw [Int.toNat_natCast, ← hx]
              exact e
            have hxy : (x.toList == s.toList) = false := by simpa using hxx
            have HE : Hid (V = -1) := HVB.out (by simpa using hq)
            clear hx hq
            go_wp2_with fail
            go_ret
            exact ⟨ret_int HE.out.symm, hb2⟩
    · have HE : Hid (decV s = -1) := HB.out (by simp [numOk, h6])
      rw [HE.out]
      have h6' : (6 : Int) < (s.size : Int) := by omega
      go_enter Tryz.func175, Tryz.ntmps175
      go_wp2_with fail
      go_ret
      exact ⟨rfl, Below.refl _ _⟩
  · have HE : Hid (decV s = -1) := HB.out (by simp [numOk, h1])
    rw [HE.out]
    have h1' : (s.size : Int) < 1 := by omega
    go_enter Tryz.func175, Tryz.ntmps175
    go_wp2_with fail
    go_ret
    exact ⟨rfl, Below.refl _ _⟩

end Go.Proofs.YtnndoagpbcacdaaGreatDoor
namespace Go.Proofs.YtnndoagpbcacdaaGreatDoor
open Go.RowKit

/-! The reference: header, atoms. -/
def wsB (s : ByteArray) : List ByteArray := (spL 32 s.data.toList).map ba
theorem wsB_size (s : ByteArray) (hs : s.size ≤ 30000) : ∀ x ∈ wsB s, x.size ≤ 30000 := by
  intro x hx
  obtain ⟨l, hl, rfl⟩ := List.mem_map.1 hx
  have h1 := spL_len 32 _ l hl
  rw [← size_len] at h1
  rw [size_len, ba_toL]
  omega
def hdOk (c : UInt8) (ws : List ByteArray) : Bool := decide (ws.length = 3) && (((ws[0]?.getD default).toList == [c]) && (numOk (ws[1]?.getD default) && numOk (ws[2]?.getD default)))
def hdA (c : UInt8) (ws : List ByteArray) : Int := if decide (ws.length = 3) && ((ws[0]?.getD default).toList == [c]) then decV (ws[1]?.getD default) else 0
def hdB (c : UInt8) (ws : List ByteArray) : Int := if decide (ws.length = 3) && ((ws[0]?.getD default).toList == [c]) then decV (ws[2]?.getD default) else 0

set_option maxRecDepth 100000 in
set_option maxHeartbeats 4000000 in
theorem rHeader (c : UInt8) (s : ByteArray) (w : World) (hs : s.size ≤ 30000) :
    Calls Tryz.prog 135 #[.string s, .string ⟨#[c]⟩] w fun e w' => e = .returned (.tuple #[.int .i64 (hdA c (wsB s)), .int .i64 (hdB c (wsB s)), .bool (hdOk c (wsB s))]) ∧ Below w.heap.size w w' := by
  have HC : Hid _ := rSplit s 32 w hs
  have hws : (spL 32 s.data.toList).length = (wsB s).length := by simp [wsB]
  have hwm : (spL 32 s.data.toList).map ba = wsB s := rfl
  rw [hws, hwm] at HC
  clear hws hwm
  generalize wsB s = ws at *
  generalize hA : hdA c ws = PA
  generalize hB : hdB c ws = PB
  generalize hO : hdOk c ws = PO
  have HV : Hid (hdA c ws = PA ∧ hdB c ws = PB ∧ hdOk c ws = PO) := ⟨hA, hB, hO⟩
  clear hA hB hO
  go_enter Tryz.func135, Tryz.ntmps135
  go_wp2_with fail
  refine (show Calls _ _ _ _ _ from HC.out).mono ?_
  rintro e w1 ⟨ao, cap, rfl, hb1, hrow, hwl⟩
  clear HC
  by_cases h3 : ws.length = 3
  · match ws, h3 with
    | [s0, s1, s2], _ =>
      obtain ⟨q, cap', hq, _, hqlt⟩ := hrow.form (by simp)
      cases hq
      have c0 : w1.cell? ⟨q, 0, none⟩ = some (.string s0) := row_cell hrow 0 _ rfl
      have c1 : w1.cell? ⟨q, 1, none⟩ = some (.string s1) := row_cell hrow 1 _ rfl
      have c2 : w1.cell? ⟨q, 2, none⟩ = some (.string s2) := row_cell hrow 2 _ rfl
      have HN1 : Hid _ := fun w => rDec s1 w
      have HN2 : Hid _ := fun w => rDec s2 w
      have HO1 : Hid _ := decV_ok s1
      have HO2 : Hid _ := decV_ok s2
      have HV3 : Hid ((if (s0.toList == [c]) then decV s1 else 0) = PA ∧ (if (s0.toList == [c]) then decV s2 else 0) = PB ∧ ((s0.toList == [c]) && (decide (0 ≤ decV s1) && decide (0 ≤ decV s2))) = PO) := by
        have h := HV.out
        simp only [hdA, hdB, hdOk, List.length_cons, List.length_nil, List.getElem?_cons_zero, List.getElem?_cons_succ, Option.getD_some, Nat.reduceAdd, decide_true, Bool.true_and] at h
        rw [HO1.out, HO2.out]
        exact ⟨h.1, h.2.1, h.2.2⟩
      clear HV HO1 HO2
      simp only [List.length_cons, List.length_nil] at hrow
      cases hc : (s0.toList == [c])
      · have hcn : (s0.toList != [c]) = true := by simpa using hc
        have HV4 : Hid (PA = 0 ∧ PB = 0 ∧ PO = false) := by rw [hc] at HV3; exact ⟨HV3.out.1.symm, HV3.out.2.1.symm, HV3.out.2.2.symm⟩
        go_wp2_with fail
        go_ret3
        exact ⟨by rw [HV4.out.1, HV4.out.2.1, HV4.out.2.2]; rfl, hb1⟩
      · have hcn : (s0.toList != [c]) = false := by simpa using hc
        have HV4 : Hid (PA = decV s1 ∧ PB = decV s2 ∧ PO = (decide (0 ≤ decV s1) && decide (0 ≤ decV s2))) := by rw [hc] at HV3; exact ⟨HV3.out.1.symm, HV3.out.2.1.symm, HV3.out.2.2.symm⟩
        generalize decV s1 = n1 at *
        generalize decV s2 = n2 at *
        go_wp2_with fail
        refine (show Calls _ _ _ _ _ from HN1.out _).mono ?_
        rintro e w2 ⟨rfl, hb2⟩
        have hrow2 := ownsRow_old hrow hb2
        have d2 : w2.cell? ⟨q, 2, none⟩ = some (.string s2) := row_cell hrow2 2 _ rfl
        have hqlt2 : q < w2.heap.size := by have := hb2.size; omega
        have hb2w := hb1.trans (hb2.mono hb1.size)
        go_wp2_with fail
        refine (show Calls _ _ _ _ _ from HN2.out _).mono ?_
        rintro e w3 ⟨rfl, hb3⟩
        have hb3w := hb2w.trans (hb3.mono hb2w.size)
        by_cases p1 : 0 ≤ n1
        · by_cases p2 : 0 ≤ n2
          · have p1' : decide (0 ≤ n1) = true := by simpa using p1
            have p2' : decide (0 ≤ n2) = true := by simpa using p2
            go_wp2_with fail
            go_ret3
            exact ⟨by rw [HV4.out.1, HV4.out.2.1, HV4.out.2.2, p1', p2']; rfl, hb3w⟩
          · have p1' : decide (0 ≤ n1) = true := by simpa using p1
            have p2' : decide (0 ≤ n2) = false := by simpa using p2
            go_wp2_with fail
            go_ret3
            exact ⟨by rw [HV4.out.1, HV4.out.2.1, HV4.out.2.2, p1', p2']; rfl, hb3w⟩
        · have p1' : decide (0 ≤ n1) = false := by simpa using p1
          go_wp2_with fail
          go_ret3
          exact ⟨by rw [HV4.out.1, HV4.out.2.1, HV4.out.2.2, p1']; rfl, hb3w⟩
  · have h3' : ((ws.length : Int) != 3) = true := by simp; omega
    have h3n : ¬ (ws.length : Int) = 3 := by omega
    have HV4 : Hid (PA = 0 ∧ PB = 0 ∧ PO = false) := by
      have h := HV.out
      simp only [hdA, hdB, hdOk, decide_eq_false h3] at h
      exact ⟨h.1.symm, h.2.1.symm, h.2.2.symm⟩
    clear HV
    go_wp2_with fail
    go_ret3
    exact ⟨by rw [HV4.out.1, HV4.out.2.1, HV4.out.2.2]; rfl, hb1⟩

def atR (s : ByteArray) : Bool := decide (s.size ≠ 0) && (decide (kL (bt s 0) ≠ 0) && numOk (s.extract 1 s.size))
def atsOk (ws : List ByteArray) : Bool := decide (ws.length ≤ 8) && ws.all atR
/-- The kind of a letter, as far as j letters were looked at. -/
def kP (c : Int) (j : Nat) : Int := if c = 110 ∧ 0 < j then 1 else if c = 97 ∧ 1 < j then 2 else if c = 102 ∧ 2 < j then 3 else if c = 112 ∧ 3 < j then 4 else if c = 120 ∧ 4 < j then 5 else 0
theorem kP_all (c : Int) : kP c 5 = kL c := by unfold kP kL; simp

set_option maxRecDepth 100000 in
set_option maxHeartbeats 4000000 in
theorem rAtoms (s : ByteArray) (w : World) (hs : s.size ≤ 30000) :
    Calls Tryz.prog 136 #[.string s] w fun e w' => ∃ a n cap, e = .returned (.tuple #[.slice a n cap, .bool (atsOk (wsB s))]) ∧ Below w.heap.size w w' ∧ (atsOk (wsB s) = true → n = (wsB s).length ∧ w'.ownsRow w.heap.size 75 2 (.slice a n cap) (wsB s).length (acs ((wsB s).map atV))) := by
  obtain ⟨i, hi, hz0, hz1, hz2⟩ := info_parts Tryz.infoAtom
  have HC : Hid _ := rSplit s 32 w hs
  have hws : (spL 32 s.data.toList).length = (wsB s).length := by simp [wsB]
  have hwm : (spL 32 s.data.toList).map ba = wsB s := rfl
  rw [hws, hwm] at HC
  clear hws hwm
  have HSZ : Hid (∀ x ∈ wsB s, x.size ≤ 30000) := wsB_size s hs
  generalize wsB s = ws at *
  generalize hO : atsOk ws = PO
  have HV : Hid (atsOk ws = PO) := hO
  clear hO
  go_enter Tryz.func136, Tryz.ntmps136
  go_wp2_with fail
  refine (show Calls _ _ _ _ _ from HC.out).mono ?_
  rintro e w1 ⟨ao, cap, rfl, hb1, hrow, hwl⟩
  clear HC
  have hb1s := hb1.size
  by_cases h8 : ws.length ≤ 8
  · have h8' : ¬ (8 : Int) < (ws.length : Int) := by omega
    have h8d : decide ((8 : Int) < (ws.length : Int)) = false := by simp; omega
    have HBAD : Hid (∀ (j : Nat) (h : j < ws.length), atR ws[j] = false → PO = false) := fun j h hf => by
      rw [← HV.out]
      have : ws.all atR = false := by rw [List.all_eq_false]; exact ⟨ws[j], List.getElem_mem h, by rw [hf]; simp⟩
      simp [atsOk, this]
    have HOK : Hid ((ws.take ws.length).all atR = true → PO = true) := fun h => by
      rw [List.take_length] at h
      rw [← HV.out]
      simp [atsOk, h, h8]
    have HWS : Hid (∀ x ∈ ws, x.size ≤ 30000) := HSZ.out
    clear HV HSZ
    go_wp2_with fail
    go_loopw [5, 6] (fun x y wr => ∃ n : Nat, n ≤ ws.length ∧ y = .int .i64 n ∧ Hid ((ws.take n).all atR = true) ∧ wr.ownsRow w1.heap.size 75 2 x n (acs ((ws.take n).map atV)) ∧ Below w1.heap.size w1 wr) (fun _ y _ => ws.length - (intOf y).toNat)
    case atStart => exact ⟨0, Nat.zero_le _, rfl, by simp [Hid], World.ownsRow_nil _ _ _ _, Below.refl _ _⟩
    case round =>
      obtain ⟨n, hn, rfl, HAK, hor, hb⟩ := hrel
      have hbsz := hb.size
      obtain ⟨xo, xcap, hx⟩ := own_form hor
      subst hx
      by_cases hlt : n < ws.length
      · have hrw := ownsRow_old hrow hb
        obtain ⟨q, cap', hq, _, hqlt⟩ := hrw.form (by omega)
        cases hq
        have HMS : Hid _ := map_snoc atV ws n hlt
        have HMK : Hid (atR ws[n] = true → (ws.take (n + 1)).all atR = true) := all_take_snoc atR ws n hlt HAK.out
        have HB2 : Hid _ := HBAD.out n hlt
        have HTS : Hid _ := HWS.out ws[n] (List.getElem_mem hlt)
        have hcu : (sts ws)[n]? = some (.string ws[n]) := by unfold sts; rw [List.getElem?_map, List.getElem?_eq_getElem hlt]; rfl
        have HCU : Hid _ := hcu
        have c0 : wr.cell? ⟨q, n, none⟩ = some (.string ws[n]) := row_cell hrw n _ hcu
        have hjj : ((ws.take n).map atV).length = n := by simp; omega
        clear hcu
        generalize ws[n] = t at *
        by_cases h0 : t.size = 0
        · have he : t.toList = [] := by
            have : t.data.toList = [] := List.length_eq_zero_iff.1 (by rw [← size_len]; exact h0)
            rw [ByteArray.toList_eq]; exact this
          have he1 : (t.toList == []) = true := by rw [he]; rfl
          have he2 : (t.toList != []) = false := by rw [he]; rfl
          have HE : Hid (PO = false) := HB2.out (by simp [atR, h0])
          clear he h0
          go_wp2_with fail
          go_ret2
          exact ⟨none, 0, 0, by rw [HE.out]; rfl, hb1.trans (hb.mono hb1s), fun h => by rw [HE.out] at h; cases h⟩
        · have hne : t.toList ≠ [] := by
            intro e
            rw [ByteArray.toList_eq] at e
            have := size_len t
            rw [e] at this
            exact h0 this
          have he1 : (t.toList == []) = false := by simpa using hne
          have he2 : (t.toList != []) = true := by simpa using hne
          have ht1 : 1 ≤ t.size := by omega
          have HD : Hid _ := rDec (t.extract 1 t.size) wr
          have hbt := bt_eq t 0 (by omega)
          have HAV : Hid (atV t = (kL (bt t 0), numV (t.extract 1 t.size))) := by simp [Hid, atV, h0]
          have HAR : Hid (atR t = (decide (kL (bt t 0) ≠ 0) && numOk (t.extract 1 t.size))) := by simp [Hid, atR, h0]
          have HDO : Hid _ := decV_ok (t.extract 1 t.size)
          have HDV : Hid (numOk (t.extract 1 t.size) = true → decV (t.extract 1 t.size) = numV (t.extract 1 t.size)) := fun h => by simp [decV, h]
          have HDL : Hid _ := decV_le (t.extract 1 t.size)
          generalize bt t 0 = c at *
          clear hne h0
          generalize decV (t.extract 1 t.size) = D at *
          generalize numOk (t.extract 1 t.size) = NO at *
          generalize numV (t.extract 1 t.size) = NV at *
          go_wp2_with fail
          refine (show Calls _ _ _ _ _ from HD.out).mono ?_
          rintro e w2 ⟨rfl, hb2⟩
          clear HD
          have hb2s := hb2.size
          have hrw2 := ownsRow_old hrw hb2
          have hor2 := ownsRow_old hor hb2
          have hbw2 : Below w1.heap.size w1 w2 := hb.trans (hb2.mono hbsz)
          clear c0
          go_wp2_with fail
          go_loopw [7, 9] (fun x y wr => ∃ j : Nat, j ≤ 5 ∧ x = .int .i64 (kP c j) ∧ y = .int .i64 j ∧ Below w2.heap.size w2 wr) (fun _ y _ => 5 - (intOf y).toNat)
          case atStart => exact ⟨0, by omega, by simp [kP], rfl, Below.refl _ _⟩
          case round =>
            obtain ⟨j, hj, rfl, rfl, hb3⟩ := hrel
            have hb3s := hb3.size
            have hrw3 := ownsRow_old hrw2 hb3
            have c0 : wr.cell? ⟨q, n, none⟩ = some (.string t) := row_cell hrw3 n _ HCU.out
            have hqlt3 : q < wr.heap.size := by omega
            by_cases hj5 : j < 5
            · have hjs : j = 0 ∨ j = 1 ∨ j = 2 ∨ j = 3 ∨ j = 4 := by omega
              rcases hjs with rfl | rfl | rfl | rfl | rfl
              · have hix : (((⟨#[110, 97, 102, 112, 120]⟩ : ByteArray)[0]'(by decide)).toNat : Int) = 110 := by decide
                by_cases hc : c = 110
                · have hc1 : (c == 110) = true := by simpa using hc
                  have HKK : Hid (kP c 1 = 1) := by show _ = _; subst hc; decide
                  clear hc
                  go_wp2_with fail
                  go_quiet (fail)
                  go_wp2_with fail
                  go_roundw
                  case rel => exact ⟨1, by omega, congrArg (Value.int .i64) HKK.out.symm, by go_num, below_drewN hb3 _⟩
                  case measure => simp [intOf]
                · have hc1 : (c == 110) = false := by simpa using hc
                  have HKK : Hid (kP c 1 = kP c 0) := by simp [Hid, kP, hc]
                  generalize kP c 0 = K at *
                  go_wp2_with fail
                  go_quiet (fail)
                  go_wp2_with fail
                  go_roundw
                  case rel => exact ⟨1, by omega, congrArg (Value.int .i64) HKK.out.symm, by go_num, below_drewN hb3 _⟩
                  case measure => simp [intOf]
              · have hix : (((⟨#[110, 97, 102, 112, 120]⟩ : ByteArray)[1]'(by decide)).toNat : Int) = 97 := by decide
                by_cases hc : c = 97
                · have hc1 : (c == 97) = true := by simpa using hc
                  have HKK : Hid (kP c 2 = 2) := by show _ = _; subst hc; decide
                  clear hc
                  go_wp2_with fail
                  go_quiet (fail)
                  go_wp2_with fail
                  go_roundw
                  case rel => exact ⟨2, by omega, congrArg (Value.int .i64) HKK.out.symm, by go_num, below_drewN hb3 _⟩
                  case measure => simp [intOf]
                · have hc1 : (c == 97) = false := by simpa using hc
                  have HKK : Hid (kP c 2 = kP c 1) := by simp [Hid, kP, hc]
                  generalize kP c 1 = K at *
                  go_wp2_with fail
                  go_quiet (fail)
                  go_wp2_with fail
                  go_roundw
                  case rel => exact ⟨2, by omega, congrArg (Value.int .i64) HKK.out.symm, by go_num, below_drewN hb3 _⟩
                  case measure => simp [intOf]
              · have hix : (((⟨#[110, 97, 102, 112, 120]⟩ : ByteArray)[2]'(by decide)).toNat : Int) = 102 := by decide
                by_cases hc : c = 102
                · have hc1 : (c == 102) = true := by simpa using hc
                  have HKK : Hid (kP c 3 = 3) := by show _ = _; subst hc; decide
                  clear hc
                  go_wp2_with fail
                  go_quiet (fail)
                  go_wp2_with fail
                  go_roundw
                  case rel => exact ⟨3, by omega, congrArg (Value.int .i64) HKK.out.symm, by go_num, below_drewN hb3 _⟩
                  case measure => simp [intOf]
                · have hc1 : (c == 102) = false := by simpa using hc
                  have HKK : Hid (kP c 3 = kP c 2) := by simp [Hid, kP, hc]
                  generalize kP c 2 = K at *
                  go_wp2_with fail
                  go_quiet (fail)
                  go_wp2_with fail
                  go_roundw
                  case rel => exact ⟨3, by omega, congrArg (Value.int .i64) HKK.out.symm, by go_num, below_drewN hb3 _⟩
                  case measure => simp [intOf]
              · have hix : (((⟨#[110, 97, 102, 112, 120]⟩ : ByteArray)[3]'(by decide)).toNat : Int) = 112 := by decide
                by_cases hc : c = 112
                · have hc1 : (c == 112) = true := by simpa using hc
                  have HKK : Hid (kP c 4 = 4) := by show _ = _; subst hc; decide
                  clear hc
                  go_wp2_with fail
                  go_quiet (fail)
                  go_wp2_with fail
                  go_roundw
                  case rel => exact ⟨4, by omega, congrArg (Value.int .i64) HKK.out.symm, by go_num, below_drewN hb3 _⟩
                  case measure => simp [intOf]
                · have hc1 : (c == 112) = false := by simpa using hc
                  have HKK : Hid (kP c 4 = kP c 3) := by simp [Hid, kP, hc]
                  generalize kP c 3 = K at *
                  go_wp2_with fail
                  go_quiet (fail)
                  go_wp2_with fail
                  go_roundw
                  case rel => exact ⟨4, by omega, congrArg (Value.int .i64) HKK.out.symm, by go_num, below_drewN hb3 _⟩
                  case measure => simp [intOf]
              · have hix : (((⟨#[110, 97, 102, 112, 120]⟩ : ByteArray)[4]'(by decide)).toNat : Int) = 120 := by decide
                by_cases hc : c = 120
                · have hc1 : (c == 120) = true := by simpa using hc
                  have HKK : Hid (kP c 5 = 5) := by show _ = _; subst hc; decide
                  clear hc
                  go_wp2_with fail
                  go_quiet (fail)
                  go_wp2_with fail
                  go_roundw
                  case rel => exact ⟨5, by omega, congrArg (Value.int .i64) HKK.out.symm, by go_num, below_drewN hb3 _⟩
                  case measure => simp [intOf]
                · have hc1 : (c == 120) = false := by simpa using hc
                  have HKK : Hid (kP c 5 = kP c 4) := by simp [Hid, kP, hc]
                  generalize kP c 4 = K at *
                  go_wp2_with fail
                  go_quiet (fail)
                  go_wp2_with fail
                  go_roundw
                  case rel => exact ⟨5, by omega, congrArg (Value.int .i64) HKK.out.symm, by go_num, below_drewN hb3 _⟩
                  case measure => simp [intOf]
            · have hj2 : j = 5 := by omega
              subst hj2
              rw [kP_all]
              by_cases hk : kL c = 0
              · have HE : Hid (PO = false) := HB2.out (by rw [HAR.out, hk]; rfl)
                rw [hk]
                go_wp2_with fail
                go_ret2
                exact ⟨none, 0, 0, by rw [HE.out]; rfl, hb1.trans ((hbw2.trans (hb3.mono (by omega))).mono hb1s), fun h => by rw [HE.out] at h; cases h⟩
              · have hk1 : (kL c == 0) = false := by simpa using hk
                by_cases hd : D < 0
                · have HE : Hid (PO = false) := HB2.out (by
                    rw [HAR.out, ← HDO.out]
                    have : decide (0 ≤ D) = false := by simp; omega
                    rw [this]; simp)
                  generalize kL c = K at *
                  go_wp2_with fail
                  go_ret2
                  exact ⟨none, 0, 0, by rw [HE.out]; rfl, hb1.trans ((hbw2.trans (hb3.mono (by omega))).mono hb1s), fun h => by rw [HE.out] at h; cases h⟩
                · have hNO : NO = true := by rw [← HDO.out]; simp; omega
                  have HAK2 : Hid _ := HMK.out (by rw [HAR.out, hNO]; simp [hk])
                  have HA2 : Hid (atV t = (kL c, D)) := by rw [HAV.out, HDV.out hNO]; rfl
                  have hd1 : decide (D < 0) = false := by simpa using hd
                  have hor3 := ownsRow_old hor2 hb3
                  generalize kL c = K at *
                  go_wp2_with (at_builtin; go_must (refine wpList_append_lies _ rfl _ _ _ rfl w1.heap.size 75 i _ 2 16 Tryz.underlying76 hi hz0 hz1 hz2 rfl (by omega) (.slice xo n xcap) n (acs ((ws.take n).map atV)) rfl ?hown _ 1 _ [.int .i64 K, .int .i64 D] rfl rfl ?hnews ?h1 (by omega) ?h63 ?hbytes ?hbase _ rfl ?_))
                  case hown => first | exact hor3.alloc _ | (rw [← List.map_take]; exact hor3.alloc _)
                  try case hnews => exact World.news_of_block (heap_alloc_new wr _)
                  case h1 => simp [Value.oneCell']
                  case h63 => unfold maxLen; omega
                  case hbytes => omega
                  case hbase => first | omega | (simp; omega)
                  intro g cap2 w4 hown4 hgrow hat hlt4
                  have hb4 : Below w1.heap.size w1 w4 := ((hbw2.trans (hb3.mono (by omega))).alloc (by omega) _).grown hgrow (by simp; omega) (fun k hk => (hor3.lt k hk).1)
                  clear hgrow hat
                  go_wp2_with fail
                  go_roundw
                  case rel => exact ⟨n + 1, hlt, by go_num, HAK2, by rw [HMS.out, HA2.out, acs_snoc, List.map_take]; exact hown4, hb4⟩
                  case measure => simp [intOf]; omega
      · have hn2 : n = ws.length := by omega
        have hn3 : ¬ (n : Int) < (ws.length : Int) := by omega
        have HE : Hid (PO = true) := HOK.out (by rw [← hn2]; exact HAK.out)
        have HN2 : Hid (n = ws.length) := hn2
        clear hn2
        go_wp2_with fail
        go_ret2
        refine ⟨_, _, _, by rw [HE.out]; rfl, hb1.trans (hb.mono hb1s), fun _ => ⟨HN2.out, ?_⟩⟩
        have := ownsRow_base hor hb1s
        rw [HN2.out, List.take_length] at this
        rw [HN2.out]
        exact this
  · have h8' : (8 : Int) < (ws.length : Int) := by omega
    have HE : Hid (PO = false) := by rw [← HV.out]; simp [Hid, atsOk, h8]
    go_wp2_with fail
    go_ret2
    exact ⟨none, 0, 0, by rw [HE.out]; rfl, hb1, fun h => by rw [HE.out] at h; cases h⟩

end Go.Proofs.YtnndoagpbcacdaaGreatDoor
