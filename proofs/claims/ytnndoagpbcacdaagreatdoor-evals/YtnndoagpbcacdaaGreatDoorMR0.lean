import Derived.Test.YtnndoagpbcacdaaGreatDoorMA1
import Derived.Test.YtnndoagpbcacdaaGreatDoorMB1
namespace Go.Proofs.YtnndoagpbcacdaaGreatDoor
open Go.RowKit

set_option maxHeartbeats 400000 in
theorem rLetter (c : Int) (w : World) :
    Calls Tryz.prog 168 #[.int .u8 c] w fun e w' => e = .returned (.bool (isL c)) ∧ w' = w := by
  by_cases h1 : 97 ≤ c
  · by_cases h2 : c ≤ 122
    all_goals
      go_enter Tryz.func168, Tryz.ntmps168
      go_wp2
      go_ret
      exact ⟨ret_bool (by simp [isL, *]), rfl⟩
  · go_enter Tryz.func168, Tryz.ntmps168
    go_wp2
    go_ret
    exact ⟨ret_bool (by simp [isL]; omega), rfl⟩

set_option maxHeartbeats 400000 in
theorem rDigit (c : Int) (w : World) :
    Calls Tryz.prog 169 #[.int .u8 c] w fun e w' => e = .returned (.bool (isD c)) ∧ w' = w := by
  by_cases h1 : 48 ≤ c
  · by_cases h2 : c ≤ 57
    all_goals
      go_enter Tryz.func169, Tryz.ntmps169
      go_wp2
      go_ret
      exact ⟨ret_bool (by simp [isD, *]), rfl⟩
  · go_enter Tryz.func169, Tryz.ntmps169
    go_wp2
    go_ret
    exact ⟨ret_bool (by simp [isD]; omega), rfl⟩

end Go.Proofs.YtnndoagpbcacdaaGreatDoor
namespace Go.Proofs.YtnndoagpbcacdaaGreatDoor
open Go.RowKit

set_option maxHeartbeats 4000000 in
theorem rLength (s : ByteArray) (i : Nat) (w : World) (hs : s.size ≤ 1000) (hi : i < s.size) :
    Calls Tryz.prog 127 #[.string s, .int .i64 i] w fun e w' => e = .returned (.int .i64 ((endF s i (i + 1) - i : Nat) : Int)) ∧ w' = w := by
  have hci := bt_eq s i hi
  cases hla : isL (bt s i) <;> cases hda : isD (bt s i)
  all_goals
    go_enter Tryz.func127, Tryz.ntmps127
    go_wp2_with (first | (go_at_call 168; refine (rLetter _ _).mono ?_; rintro e w' ⟨rfl, rfl⟩) | (go_at_call 169; refine (rDigit _ _).mono ?_; rintro e w' ⟨rfl, rfl⟩))
    go_loop [5] (fun n => ∃ m : Nat, 1 ≤ m ∧ i + m ≤ s.size ∧ n = .int .i64 m ∧ Hid (endF s i (i + m) = endF s i (i + 1))) (fun n => s.size - (intOf n).toNat)
    case atStart => exact ⟨1, Nat.le_refl _, by omega, rfl, rfl⟩
    case round =>
      obtain ⟨m, hm1, hm2, rfl, HE⟩ := hrel
      by_cases hlt : i + m < s.size
      · have hcm := bt_eq s (i + m) hlt
        have HN : Hid (goesB (bt s i) (bt s (i + m)) = true → endF s i (i + (m + 1)) = endF s i (i + 1)) := fun h => by
          rw [← HE.out, endF_go s i (i + m) hlt h]; rfl
        have HS : Hid (goesB (bt s i) (bt s (i + m)) = false → endF s i (i + 1) - i = m) := fun h => by
          rw [← HE.out, endF_stop s i (i + m) hlt h]; omega
        clear HE
        cases hlb : isL (bt s (i + m)) <;> cases hdb : isD (bt s (i + m))
        all_goals
          have HG : Hid (goesB (bt s i) (bt s (i + m)) = (if isL (bt s i) then isL (bt s (i + m)) || isD (bt s (i + m)) else isD (bt s i) && isD (bt s (i + m)))) := rfl
          go_wp2_with (first | (go_at_call 168; refine (rLetter _ _).mono ?_; rintro e w' ⟨rfl, rfl⟩) | (go_at_call 169; refine (rDigit _ _).mono ?_; rintro e w' ⟨rfl, rfl⟩))
          first
            | (go_ret
               exact ⟨ret_int (by rw [HS.out (by rw [HG.out, hla, hda, hlb, hdb]; rfl)]), rfl⟩)
            | (go_round
               case rel => exact ⟨m + 1, by omega, by omega, by go_num, HN.out (by rw [HG.out, hla, hda, hlb, hdb]; rfl)⟩
               case measure => simp [intOf]; omega)
      · have HS : Hid (endF s i (i + 1) - i = m) := by rw [← HE.out, endF_end s i (i + m) hlt]; show _ = _; omega
        go_wp2_with fail
        go_ret
        exact ⟨ret_int (by rw [HS.out]), rfl⟩

/-- A token of the reference: its text, its place. -/
def rcells (t : Tk) : List Value := [.string t.txt, .int .i64 t.pos]
def rcs (ts : List Tk) : List Value := ts.flatMap rcells
theorem rcs_snoc (ts : List Tk) (t : Tk) : rcs (ts ++ [t]) = rcs ts ++ rcells t := by simp [rcs]
theorem rcells_one (t : Tk) : ∀ u ∈ rcells t, u.oneCell' = true := by
  intro u hu
  simp only [rcells, List.mem_cons, List.not_mem_nil, or_false] at hu
  rcases hu with rfl | rfl <;> rfl
theorem Tryz.infoRTok : (Tryz.prog.info? 201).map (fun i => (i.zero, i.size, i.bytes)) = some (some (.agg #[.string ByteArray.empty, .int .i64 0]), 2, 24) := by kernel_rfl
def endTk (s : ByteArray) : Tk := ⟨s.size, ⟨#[]⟩⟩

theorem endF_blank (s : ByteArray) (i : Nat) (hb : isB (bt s i) = true) : endF s i (i + 1) = i + 1 := by
  have h1 : isL (bt s i) = false ∧ isD (bt s i) = false := by
    simp only [isB, isL, isD, decide_eq_true_eq, decide_eq_false_iff_not] at hb ⊢
    omega
  by_cases h : i + 1 < s.size
  · exact endF_stop s i (i + 1) h (by simp [goesB, h1.1, h1.2])
  · exact endF_end s i (i + 1) h

set_option maxHeartbeats 1000000 in
theorem rTokens (s : ByteArray) (w : World) (hs : s.size ≤ 1000) :
    Calls Tryz.prog 82 #[.string s] w fun e w' => ∃ v, e = .returned v ∧ w'.ownsRow w.heap.size 201 2 v ((toksF s 0).length + 1) (rcs (toksF s 0 ++ [endTk s])) ∧ Below w.heap.size w w' := by
  obtain ⟨i, hi, hz0, hz1, hz2⟩ := info_parts Tryz.infoRTok
  go_enter Tryz.func82, Tryz.ntmps82
  go_wp2_with fail
  go_loopw [3, 4] (fun v a wr => ∃ (k : Nat) (ts : List Tk), k ≤ s.size ∧ a = .int .i64 k ∧ ts.length ≤ k ∧ Hid (ts ++ toksF s k = toksF s 0) ∧ wr.ownsRow w.heap.size 201 2 v ts.length (rcs ts) ∧ Below w.heap.size w wr) (fun _ a _ => s.size - (intOf a).toNat)
  case atStart => exact ⟨0, [], Nat.zero_le _, rfl, Nat.le_refl _, rfl, World.ownsRow_nil _ _ _ _, Below.refl _ _⟩
  case round =>
    obtain ⟨k, ts, hk, rfl, hlen, HT, hown, hb⟩ := hrel
    by_cases hlt : k < s.size
    · have hck := bt_eq s k hlt
      have hbsz := hb.size
      cases hbl : isB (bt s k)
      · have h32 : (bt s k == 32) = false := by rw [beq_eq_false_iff_ne]; intro e; simp [isB, e] at hbl
        have h10 : (bt s k == 10) = false := by rw [beq_eq_false_iff_ne]; intro e; simp [isB, e] at hbl
        have h1 := endF_ge s k (k + 1)
        have h2 := endF_le s k (k + 1) (by omega)
        have HT2 : Hid ((ts ++ [⟨k, s.extract k (endF s k (k + 1))⟩]) ++ toksF s (endF s k (k + 1)) = toksF s 0) := by
          have h := HT.out
          rw [toksF_tok s k hlt hbl] at h
          show _ = _
          rw [← h]; simp
        have HL : Hid (k + (endF s k (k + 1) - k) = endF s k (k + 1)) := by show _ = _; omega
        obtain ⟨n, hn⟩ : ∃ n, endF s k (k + 1) - k = n := ⟨_, rfl⟩
        rw [show endF s k (k + 1) = k + n by omega] at h1 h2 HT2
        have HN : Hid (endF s k (k + 1) - k = n) := hn
        clear hn HL HT
        go_wp2_with fail
        refine (rLength s k _ hs hlt).mono ?_
        rintro e w' ⟨rfl, rfl⟩
        rw [HN.out]
        go_wp2_with (at_builtin; go_must (refine wpList_append_lies _ rfl _ _ _ rfl w.heap.size 201 i _ 2 24 Tryz.underlying138 hi hz0 hz1 hz2 rfl (by omega) u3 ts.length (rcs ts) rfl ?hown _ 1 _ (rcells ⟨k, s.extract k (k + n)⟩) rfl rfl ?hnews ?h1 (by omega) ?h63 ?hbytes ?hbase _ rfl ?_))
        case hown => exact hown.alloc _
        case hnews => exact World.news_of_block (heap_alloc_new w' _)
        case h1 => exact rcells_one _
        case h63 => unfold maxLen; omega
        case hbytes => omega
        case hbase => simp; omega
        intro g cap w1 hown1 hgrow hat hlt1
        go_wp2_with fail
        go_roundw
        case rel =>
          refine ⟨k + n, ts ++ [⟨k, s.extract k (k + n)⟩], h2, by go_num, by simp; omega, HT2, ?_, ?_⟩
          · rw [rcs_snoc, List.length_append]; exact hown1
          · exact (hb.alloc hb.size _).grown hgrow (by simp; omega) (fun q hq => (hown.lt q hq).1)
        case measure => simp [intOf]; omega
      · have HT2 : Hid (ts ++ toksF s (k + 1) = toksF s 0) := by
          have h := HT.out
          rw [toksF_blank s k hlt hbl, endF_blank s k hbl] at h
          exact h
        clear HT
        by_cases h32 : (bt s k == 32) = true
        · go_wp2_with fail
          go_roundw
          case rel => exact ⟨k + 1, ts, by omega, by go_num, by omega, HT2, hown, hb⟩
          case measure => simp [intOf]; omega
        · have h32' : (bt s k == 32) = false := by simpa using h32
          have h10 : (bt s k == 10) = true := by simp at h32' ⊢; simp [isB, h32'] at hbl; exact hbl
          clear h32
          go_wp2_with fail
          go_roundw
          case rel => exact ⟨k + 1, ts, by omega, by go_num, by omega, HT2, hown, hb⟩
          case measure => simp [intOf]; omega
    · have e1 : ts = toksF s 0 := by rw [← HT.out, toksF_end s k (by omega), List.append_nil]
      subst e1
      have hbsz := hb.size
      go_wp2_with (at_builtin; go_must (refine wpList_append_lies _ rfl _ _ _ rfl w.heap.size 201 i _ 2 24 Tryz.underlying138 hi hz0 hz1 hz2 rfl (by omega) u3 (toksF s 0).length (rcs (toksF s 0)) rfl ?hown2 _ 1 _ (rcells (endTk s)) rfl rfl ?hnews2 ?h12 (by omega) ?h632 ?hbytes2 ?hbase2 _ rfl ?_))
      case hown2 => exact hown.alloc _
      case hnews2 => exact World.news_of_block (heap_alloc_new wr _)
      case h12 => exact rcells_one _
      case h632 => unfold maxLen; omega
      case hbytes2 => omega
      case hbase2 => simp; omega
      intro g cap w1 hown1 hgrow hat hlt1
      go_wp2_with fail
      go_ret
      refine ⟨_, rfl, ?_, ?_⟩
      · rw [rcs_snoc]; exact hown1
      · exact (hb.alloc hb.size _).grown hgrow (by simp; omega) (fun q hq => (hown.lt q hq).1)

end Go.Proofs.YtnndoagpbcacdaaGreatDoor
namespace Go.Proofs.YtnndoagpbcacdaaGreatDoor
open Go.RowKit

/-- None of the first k primitives. -/
def PMiss (t : ByteArray) (k : Nat) : Prop :=
  (0 < k → (t.toList == [43]) = false) ∧ (1 < k → (t.toList == [45]) = false) ∧ (2 < k → (t.toList == [42]) = false) ∧ (3 < k → (t.toList == [60]) = false) ∧ (4 < k → (t.toList == [63]) = false)
def primL (l : List UInt8) : Int := if l == [43] then 0 else if l == [45] then 1 else if l == [42] then 2 else if l == [60] then 3 else if l == [63] then 4 else -1

set_option maxHeartbeats 1000000 in
theorem rPrimitive (t : ByteArray) (w : World) :
    Calls Tryz.prog 170 #[.string t] w fun e w' => e = .returned (.int .i64 (primL t.toList)) ∧ w' = w := by
  have x0 : ((⟨#[43, 45, 42, 60, 63]⟩ : ByteArray).extract 0 1).toList = [43] := by decide +kernel
  have x1 : ((⟨#[43, 45, 42, 60, 63]⟩ : ByteArray).extract 1 2).toList = [45] := by decide +kernel
  have x2 : ((⟨#[43, 45, 42, 60, 63]⟩ : ByteArray).extract 2 3).toList = [42] := by decide +kernel
  have x3 : ((⟨#[43, 45, 42, 60, 63]⟩ : ByteArray).extract 3 4).toList = [60] := by decide +kernel
  have x4 : ((⟨#[43, 45, 42, 60, 63]⟩ : ByteArray).extract 4 5).toList = [63] := by decide +kernel
  go_enter Tryz.func170, Tryz.ntmps170
  go_wp2_with fail
  go_loop [3] (fun n => ∃ k : Nat, k ≤ 5 ∧ n = .int .i64 k ∧ PMiss t k) (fun n => 5 - (intOf n).toNat)
  case atStart => exact ⟨0, by omega, rfl, ⟨fun h => by omega, fun h => by omega, fun h => by omega, fun h => by omega, fun h => by omega⟩⟩
  case round =>
    obtain ⟨k, hk, rfl, HH⟩ := hrel
    have hk6 : k = 0 ∨ k = 1 ∨ k = 2 ∨ k = 3 ∨ k = 4 ∨ k = 5 := by omega
    have HM : PMiss t k := HH
    clear HH
    rcases hk6 with rfl | rfl | rfl | rfl | rfl | rfl
    · cases he : (t.toList == [43])
      · have HM2 : PMiss t 1 := by
          obtain ⟨m0, m1, m2, m3, m4⟩ := HM
          exact ⟨fun h => by first | exact he | exact m0 (by omega), fun h => by first | exact he | exact m1 (by omega) | omega, fun h => by first | exact he | exact m2 (by omega) | omega, fun h => by first | exact he | exact m3 (by omega) | omega, fun h => by first | exact he | exact m4 (by omega) | omega⟩
        go_wp2_with fail
        go_round
        case rel => exact ⟨1, by omega, rfl, HM2⟩
        case measure => simp [intOf]
      · have HV : Hid (primL t.toList = 0) := by
          obtain ⟨m0, m1, m2, m3, m4⟩ := HM
          show primL _ = _
          unfold primL
          rw [he]
          rfl
        go_wp2_with fail
        go_ret
        exact ⟨ret_int HV.out.symm, rfl⟩
    · cases he : (t.toList == [45])
      · have HM2 : PMiss t 2 := by
          obtain ⟨m0, m1, m2, m3, m4⟩ := HM
          exact ⟨fun h => by first | exact he | exact m0 (by omega), fun h => by first | exact he | exact m1 (by omega) | omega, fun h => by first | exact he | exact m2 (by omega) | omega, fun h => by first | exact he | exact m3 (by omega) | omega, fun h => by first | exact he | exact m4 (by omega) | omega⟩
        go_wp2_with fail
        go_round
        case rel => exact ⟨2, by omega, rfl, HM2⟩
        case measure => simp [intOf]
      · have HV : Hid (primL t.toList = 1) := by
          obtain ⟨m0, m1, m2, m3, m4⟩ := HM
          show primL _ = _
          unfold primL
          rw [m0 (by omega), he]
          rfl
        go_wp2_with fail
        go_ret
        exact ⟨ret_int HV.out.symm, rfl⟩
    · cases he : (t.toList == [42])
      · have HM2 : PMiss t 3 := by
          obtain ⟨m0, m1, m2, m3, m4⟩ := HM
          exact ⟨fun h => by first | exact he | exact m0 (by omega), fun h => by first | exact he | exact m1 (by omega) | omega, fun h => by first | exact he | exact m2 (by omega) | omega, fun h => by first | exact he | exact m3 (by omega) | omega, fun h => by first | exact he | exact m4 (by omega) | omega⟩
        go_wp2_with fail
        go_round
        case rel => exact ⟨3, by omega, rfl, HM2⟩
        case measure => simp [intOf]
      · have HV : Hid (primL t.toList = 2) := by
          obtain ⟨m0, m1, m2, m3, m4⟩ := HM
          show primL _ = _
          unfold primL
          rw [m0 (by omega), m1 (by omega), he]
          rfl
        go_wp2_with fail
        go_ret
        exact ⟨ret_int HV.out.symm, rfl⟩
    · cases he : (t.toList == [60])
      · have HM2 : PMiss t 4 := by
          obtain ⟨m0, m1, m2, m3, m4⟩ := HM
          exact ⟨fun h => by first | exact he | exact m0 (by omega), fun h => by first | exact he | exact m1 (by omega) | omega, fun h => by first | exact he | exact m2 (by omega) | omega, fun h => by first | exact he | exact m3 (by omega) | omega, fun h => by first | exact he | exact m4 (by omega) | omega⟩
        go_wp2_with fail
        go_round
        case rel => exact ⟨4, by omega, rfl, HM2⟩
        case measure => simp [intOf]
      · have HV : Hid (primL t.toList = 3) := by
          obtain ⟨m0, m1, m2, m3, m4⟩ := HM
          show primL _ = _
          unfold primL
          rw [m0 (by omega), m1 (by omega), m2 (by omega), he]
          rfl
        go_wp2_with fail
        go_ret
        exact ⟨ret_int HV.out.symm, rfl⟩
    · cases he : (t.toList == [63])
      · have HM2 : PMiss t 5 := by
          obtain ⟨m0, m1, m2, m3, m4⟩ := HM
          exact ⟨fun h => by first | exact he | exact m0 (by omega), fun h => by first | exact he | exact m1 (by omega) | omega, fun h => by first | exact he | exact m2 (by omega) | omega, fun h => by first | exact he | exact m3 (by omega) | omega, fun h => by first | exact he | exact m4 (by omega) | omega⟩
        go_wp2_with fail
        go_round
        case rel => exact ⟨5, by omega, rfl, HM2⟩
        case measure => simp [intOf]
      · have HV : Hid (primL t.toList = 4) := by
          obtain ⟨m0, m1, m2, m3, m4⟩ := HM
          show primL _ = _
          unfold primL
          rw [m0 (by omega), m1 (by omega), m2 (by omega), m3 (by omega), he]
          rfl
        go_wp2_with fail
        go_ret
        exact ⟨ret_int HV.out.symm, rfl⟩
    · have HV : Hid (primL t.toList = -1) := by
        obtain ⟨m0, m1, m2, m3, m4⟩ := HM
        show primL _ = _
        unfold primL
        rw [m0 (by omega), m1 (by omega), m2 (by omega), m3 (by omega), m4 (by omega)]
        rfl
      go_wp2_with fail
      go_ret
      exact ⟨ret_int HV.out.symm, rfl⟩

def sortK (k : Int) : Int := if k = 1 then 1 else if k = 2 ∨ k = 3 then 2 else if k = 4 then 3 else if k = 5 then 4 else if k = 6 then 5 else if k = 7 then 6 else 7

theorem primL_other (t : ByteArray) (h : ∀ c : Int, c = 43 ∨ c = 45 ∨ c = 42 ∨ c = 60 ∨ c = 63 → bt t 0 ≠ c) : primL t.toList = -1 := by
  unfold primL
  rw [ne_single t 43 (h _ (by decide)), ne_single t 45 (h _ (by decide)), ne_single t 42 (h _ (by decide)), ne_single t 60 (h _ (by decide)), ne_single t 63 (h _ (by decide))]
  rfl
theorem primL_hit (t : ByteArray) (h1 : t.size = 1) (h : bt t 0 = 43 ∨ bt t 0 = 45 ∨ bt t 0 = 42 ∨ bt t 0 = 60 ∨ bt t 0 = 63) : 0 ≤ primL t.toList := by
  unfold primL
  rcases h with h | h | h | h | h
  · rw [eq_single t 43 h1 h]; simp
  · rw [eq_single t 45 h1 h]; split <;> simp
  · rw [eq_single t 42 h1 h]; split <;> (try split) <;> simp
  · rw [eq_single t 60 h1 h]; split <;> (try split) <;> (try split) <;> simp
  · rw [eq_single t 63 h1 h]; split <;> (try split) <;> (try split) <;> (try split) <;> simp

set_option maxHeartbeats 1000000 in
theorem rSort0 (w : World) :
    Calls Tryz.prog 128 #[.string ⟨#[]⟩] w fun e w' => e = .returned (.int .i64 0) ∧ w' = w := by
  go_enter Tryz.func128, Tryz.ntmps128
  go_wp2_with fail
  go_ret
  exact ⟨rfl, rfl⟩

set_option maxHeartbeats 4000000 in
theorem rSort (t : ByteArray) (w : World) (h : WT t) :
    Calls Tryz.prog 128 #[.string t] w fun e w' => e = .returned (.int .i64 (sortK (kindOf t))) ∧ w' = w := by
  obtain ⟨h0, hm, h1⟩ := h
  have hne := nonempty_of t h0
  have hc := bt_eq t 0 h0
  by_cases hld : isL (bt t 0) = true ∨ isD (bt t 0) = true
  · have hb : ∀ c : Int, (c = 61 ∨ c = 59 ∨ c = 40 ∨ c = 41 ∨ c = 43 ∨ c = 45 ∨ c = 42 ∨ c = 60 ∨ c = 63) → bt t 0 ≠ c := by
      intro c hc e
      rw [e] at hld
      rcases hc with rfl | rfl | rfl | rfl | rfl | rfl | rfl | rfl | rfl <;> revert hld <;> decide
    have e1 := ne_single t 61 (hb _ (by decide))
    have e2 := ne_single t 59 (hb _ (by decide))
    have e3 := ne_single t 40 (hb _ (by decide))
    have e4 := ne_single t 41 (hb _ (by decide))
    have hp := primL_other t (fun c hc => hb c (by omega))
    clear hb h1
    unfold kindOf
    generalize bt t 0 = c at *
    cases hl : isL c
    · have hd : isD c = true := by simpa [hl] using hld
      clear hld
      by_cases h6 : 6 < t.size
      · rw [show sortK (kindC c t.size) = 7 by simp [kindC, hl, hd, h6, sortK]]
        go_enter Tryz.func128, Tryz.ntmps128
        go_wp2_with (first | (go_at_call 168; refine (rLetter _ _).mono ?_; rintro e w' ⟨rfl, rfl⟩) | (go_at_call 169; refine (rDigit _ _).mono ?_; rintro e w' ⟨rfl, rfl⟩) | (go_at_call 170; refine (rPrimitive _ _).mono ?_; rintro e w' ⟨rfl, rfl⟩))
        go_ret
        exact ⟨rfl, rfl⟩
      · rw [show sortK (kindC c t.size) = 2 by simp [kindC, hl, hd, h6, sortK]]
        go_enter Tryz.func128, Tryz.ntmps128
        go_wp2_with (first | (go_at_call 168; refine (rLetter _ _).mono ?_; rintro e w' ⟨rfl, rfl⟩) | (go_at_call 169; refine (rDigit _ _).mono ?_; rintro e w' ⟨rfl, rfl⟩) | (go_at_call 170; refine (rPrimitive _ _).mono ?_; rintro e w' ⟨rfl, rfl⟩))
        go_ret
        exact ⟨rfl, rfl⟩
    · have hd : isD c = false := by
        simp only [isL, isD, decide_eq_true_eq, decide_eq_false_iff_not] at hl ⊢
        omega
      clear hld
      by_cases h8 : 8 < t.size
      · rw [show sortK (kindC c t.size) = 7 by simp [kindC, hl, h8, sortK]]
        go_enter Tryz.func128, Tryz.ntmps128
        go_wp2_with (first | (go_at_call 168; refine (rLetter _ _).mono ?_; rintro e w' ⟨rfl, rfl⟩) | (go_at_call 169; refine (rDigit _ _).mono ?_; rintro e w' ⟨rfl, rfl⟩) | (go_at_call 170; refine (rPrimitive _ _).mono ?_; rintro e w' ⟨rfl, rfl⟩))
        go_ret
        exact ⟨rfl, rfl⟩
      · rw [show sortK (kindC c t.size) = 1 by simp [kindC, hl, h8, sortK]]
        go_enter Tryz.func128, Tryz.ntmps128
        go_wp2_with (first | (go_at_call 168; refine (rLetter _ _).mono ?_; rintro e w' ⟨rfl, rfl⟩) | (go_at_call 169; refine (rDigit _ _).mono ?_; rintro e w' ⟨rfl, rfl⟩) | (go_at_call 170; refine (rPrimitive _ _).mono ?_; rintro e w' ⟨rfl, rfl⟩))
        go_ret
        exact ⟨rfl, rfl⟩
  · have hl : isL (bt t 0) = false := by simpa using fun h => hld (.inl h)
    have hd : isD (bt t 0) = false := by simpa using fun h => hld (.inr h)
    have hs1 := h1 hl hd
    clear hld h1
    by_cases b61 : bt t 0 = 61
    · have e1 := eq_single t 61 hs1 b61
      rw [show sortK (kindOf t) = 3 by rw [kindOf, kindC, hl, hd, b61]; rfl]
      go_enter Tryz.func128, Tryz.ntmps128
      go_wp2_with fail
      go_ret
      exact ⟨rfl, rfl⟩
    · have e1 := ne_single t 61 b61
      by_cases b59 : bt t 0 = 59
      · have e2 := eq_single t 59 hs1 b59
        rw [show sortK (kindOf t) = 4 by rw [kindOf, kindC, hl, hd, b59]; rfl]
        clear b61
        go_enter Tryz.func128, Tryz.ntmps128
        go_wp2_with fail
        go_ret
        exact ⟨rfl, rfl⟩
      · have e2 := ne_single t 59 b59
        by_cases b40 : bt t 0 = 40
        · have e3 := eq_single t 40 hs1 b40
          rw [show sortK (kindOf t) = 5 by rw [kindOf, kindC, hl, hd, b40]; rfl]
          clear b61 b59
          go_enter Tryz.func128, Tryz.ntmps128
          go_wp2_with fail
          go_ret
          exact ⟨rfl, rfl⟩
        · have e3 := ne_single t 40 b40
          by_cases b41 : bt t 0 = 41
          · have e4 := eq_single t 41 hs1 b41
            rw [show sortK (kindOf t) = 6 by rw [kindOf, kindC, hl, hd, b41]; rfl]
            clear b61 b59 b40
            go_enter Tryz.func128, Tryz.ntmps128
            go_wp2_with fail
            go_ret
            exact ⟨rfl, rfl⟩
          · have e4 := ne_single t 41 b41
            by_cases hpr : bt t 0 = 43 ∨ bt t 0 = 45 ∨ bt t 0 = 42 ∨ bt t 0 = 60 ∨ bt t 0 = 63
            · have hp := primL_hit t hs1 hpr
              rw [show sortK (kindOf t) = 2 by rw [kindOf, kindC, hl, hd]; simp [hpr, sortK]]
              clear b61 b59 b40 b41 hpr
              go_enter Tryz.func128, Tryz.ntmps128
              go_wp2_with (first | (go_at_call 168; refine (rLetter _ _).mono ?_; rintro e w' ⟨rfl, rfl⟩) | (go_at_call 169; refine (rDigit _ _).mono ?_; rintro e w' ⟨rfl, rfl⟩) | (go_at_call 170; refine (rPrimitive _ _).mono ?_; rintro e w' ⟨rfl, rfl⟩))
              go_ret
              exact ⟨rfl, rfl⟩
            · have hp := primL_other t (fun c hc e => hpr (by omega))
              rw [show sortK (kindOf t) = 7 by rw [kindOf, kindC, hl, hd]; simp only [Bool.false_eq_true, if_false]; rw [if_neg hpr, if_neg b61, if_neg b59, if_neg b40, if_neg b41]; rfl]
              clear b61 b59 b40 b41 hpr
              go_enter Tryz.func128, Tryz.ntmps128
              go_wp2_with (first | (go_at_call 168; refine (rLetter _ _).mono ?_; rintro e w' ⟨rfl, rfl⟩) | (go_at_call 169; refine (rDigit _ _).mono ?_; rintro e w' ⟨rfl, rfl⟩) | (go_at_call 170; refine (rPrimitive _ _).mono ?_; rintro e w' ⟨rfl, rfl⟩))
              go_ret
              exact ⟨rfl, rfl⟩

end Go.Proofs.YtnndoagpbcacdaaGreatDoor
