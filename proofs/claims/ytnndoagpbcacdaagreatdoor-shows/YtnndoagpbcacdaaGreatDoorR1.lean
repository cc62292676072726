import Derived.Test.YtnndoagpbcacdaaGreatDoorA2
import Derived.Test.YtnndoagpbcacdaaGreatDoorR0
namespace Go.Proofs.YtnndoagpbcacdaaGreatDoor
open Go.RowKit

set_option maxHeartbeats 4000000 in
theorem rLength (s : ByteArray) (i : Nat) (w : World) (hs : s.size ≤ 1000) (hi : i < s.size) :
    Calls Tryz.prog 127 #[.string s, .int .i64 i] w fun e w' => e = .returned (.int .i64 ((endF s i (i + 1) - i : Nat) : Int)) ∧ w' = w := by
  have hci := bt_eq s i hi
  cases hla : isL (bt s i) <;> cases hda : isD (bt s i)
  all_goals
    go_enter Tryz.func127, Tryz.ntmps127
    go_wp2_with (first | (go_at_call 168; refine (rLetter _ _).mono ?_; rintro e w' ⟨rfl, rfl⟩) | (go_at_call 169; refine (rDigit _ _).mono ?_; rintro e w' ⟨rfl, rfl⟩))
    go_loop [5] (fun n => ∃ m : Nat, 1 ≤ m ∧ i + m ≤ s.size ∧ n = .int .i64 m ∧ Hid (endF s i (i + m) = endF s i (i + 1))) (fun n => s.size - (intOf n).toNat)
    case atStart => exact ⟨1, Nat.le_refl _, by omega, rfl, rfl⟩
    case round =>
      obtain ⟨m, hm1, hm2, rfl, HE⟩ := hrel
      by_cases hlt : i + m < s.size
      · have hcm := bt_eq s (i + m) hlt
        have HN : Hid (goesB (bt s i) (bt s (i + m)) = true → endF s i (i + (m + 1)) = endF s i (i + 1)) := fun h => by
          rw [← HE.out, endF_go s i (i + m) hlt h]; rfl
        have HS : Hid (goesB (bt s i) (bt s (i + m)) = false → endF s i (i + 1) - i = m) := fun h => by
          rw [← HE.out, endF_stop s i (i + m) hlt h]; omega
        clear HE
        cases hlb : isL (bt s (i + m)) <;> cases hdb : isD (bt s (i + m))
        all_goals
          have HG : Hid (goesB (bt s i) (bt s (i + m)) = (if isL (bt s i) then isL (bt s (i + m)) || isD (bt s (i + m)) else isD (bt s i) && isD (bt s (i + m)))) := rfl
          go_wp2_with (first | (go_at_call 168; refine (rLetter _ _).mono ?_; rintro e w' ⟨rfl, rfl⟩) | (go_at_call 169; refine (rDigit _ _).mono ?_; rintro e w' ⟨rfl, rfl⟩))
          first
            | (go_ret
               exact ⟨ret_int (by rw [HS.out (by rw [HG.out, hla, hda, hlb, hdb]; rfl)]), rfl⟩)
            | (go_round
               case rel => exact ⟨m + 1, by omega, by omega, by go_num, HN.out (by rw [HG.out, hla, hda, hlb, hdb]; rfl)⟩
               case measure => simp [intOf]; omega)
      · have HS : Hid (endF s i (i + 1) - i = m) := by rw [← HE.out, endF_end s i (i + m) hlt]; show _ = _; omega
        go_wp2_with fail
        go_ret
        exact ⟨ret_int (by rw [HS.out]), rfl⟩

/-- A token of the reference: its text, its place. -/
def rcells (t : Tk) : List Value := [.string t.txt, .int .i64 t.pos]
def rcs (ts : List Tk) : List Value := ts.flatMap rcells
theorem rcs_snoc (ts : List Tk) (t : Tk) : rcs (ts ++ [t]) = rcs ts ++ rcells t := by simp [rcs]
theorem rcells_one (t : Tk) : ∀ u ∈ rcells t, u.oneCell' = true := by
  intro u hu
  simp only [rcells, List.mem_cons, List.not_mem_nil, or_false] at hu
  rcases hu with rfl | rfl <;> rfl
theorem Tryz.infoRTok : (Tryz.prog.info? 201).map (fun i => (i.zero, i.size, i.bytes)) = some (some (.agg #[.string ByteArray.empty, .int .i64 0]), 2, 24) := by kernel_rfl
def endTk (s : ByteArray) : Tk := ⟨s.size, ⟨#[]⟩⟩

theorem endF_blank (s : ByteArray) (i : Nat) (hb : isB (bt s i) = true) : endF s i (i + 1) = i + 1 := by
  have h1 : isL (bt s i) = false ∧ isD (bt s i) = false := by
    simp only [isB, isL, isD, decide_eq_true_eq, decide_eq_false_iff_not] at hb ⊢
    omega
  by_cases h : i + 1 < s.size
  · exact endF_stop s i (i + 1) h (by simp [goesB, h1.1, h1.2])
  · exact endF_end s i (i + 1) h

set_option maxHeartbeats 1000000 in
theorem rTokens (s : ByteArray) (w : World) (hs : s.size ≤ 1000) :
    Calls Tryz.prog 82 #[.string s] w fun e w' => ∃ v, e = .returned v ∧ w'.ownsRow w.heap.size 201 2 v ((toksF s 0).length + 1) (rcs (toksF s 0 ++ [endTk s])) ∧ Below w.heap.size w w' := by
  obtain ⟨i, hi, hz0, hz1, hz2⟩ := info_parts Tryz.infoRTok
  go_enter Tryz.func82, Tryz.ntmps82
  go_wp2_with fail
  go_loopw [3, 4] (fun v a wr => ∃ (k : Nat) (ts : List Tk), k ≤ s.size ∧ a = .int .i64 k ∧ ts.length ≤ k ∧ Hid (ts ++ toksF s k = toksF s 0) ∧ wr.ownsRow w.heap.size 201 2 v ts.length (rcs ts) ∧ Below w.heap.size w wr) (fun _ a _ => s.size - (intOf a).toNat)
  case atStart => exact ⟨0, [], Nat.zero_le _, rfl, Nat.le_refl _, rfl, World.ownsRow_nil _ _ _ _, Below.refl _ _⟩
  case round =>
    obtain ⟨k, ts, hk, rfl, hlen, HT, hown, hb⟩ := hrel
    by_cases hlt : k < s.size
    · have hck := bt_eq s k hlt
      have hbsz := hb.size
      cases hbl : isB (bt s k)
      · have h32 : (bt s k == 32) = false := by rw [beq_eq_false_iff_ne]; intro e; simp [isB, e] at hbl
        have h10 : (bt s k == 10) = false := by rw [beq_eq_false_iff_ne]; intro e; simp [isB, e] at hbl
        have h1 := endF_ge s k (k + 1)
        have h2 := endF_le s k (k + 1) (by omega)
        have HT2 : Hid ((ts ++ [⟨k, s.extract k (endF s k (k + 1))⟩]) ++ toksF s (endF s k (k + 1)) = toksF s 0) := by
          have h := HT.out
          rw [toksF_tok s k hlt hbl] at h
          show _ = _
          rw [← h]; simp
        have HL : Hid (k + (endF s k (k + 1) - k) = endF s k (k + 1)) := by show _ = _; omega
        obtain ⟨n, hn⟩ : ∃ n, endF s k (k + 1) - k = n := ⟨_, rfl⟩
        rw [show endF s k (k + 1) = k + n by omega] at h1 h2 HT2
        have HN : Hid (endF s k (k + 1) - k = n) := hn
        clear hn HL HT
        go_wp2_with fail
        refine (rLength s k _ hs hlt).mono ?_
        rintro e w' ⟨rfl, rfl⟩
        rw [HN.out]
        go_wp2_with (at_builtin; go_must (refine wpList_append_lies _ rfl _ _ _ rfl w.heap.size 201 i _ 2 24 Tryz.underlying138 hi hz0 hz1 hz2 rfl (by omega) u3 ts.length (rcs ts) rfl ?hown _ 1 _ (rcells ⟨k, s.extract k (k + n)⟩) rfl rfl ?hnews ?h1 (by omega) ?h63 ?hbytes ?hbase _ rfl ?_))
        case hown => exact hown.alloc _
        case hnews => exact World.news_of_block (heap_alloc_new w' _)
        case h1 => exact rcells_one _
        case h63 => unfold maxLen; omega
        case hbytes => omega
        case hbase => simp; omega
        intro g cap w1 hown1 hgrow hat hlt1
        go_wp2_with fail
        go_roundw
        case rel =>
          refine ⟨k + n, ts ++ [⟨k, s.extract k (k + n)⟩], h2, by go_num, by simp; omega, HT2, ?_, ?_⟩
          · rw [rcs_snoc, List.length_append]; exact hown1
          · exact (hb.alloc hb.size _).grown hgrow (by simp; omega) (fun q hq => (hown.lt q hq).1)
        case measure => simp [intOf]; omega
      · have HT2 : Hid (ts ++ toksF s (k + 1) = toksF s 0) := by
          have h := HT.out
          rw [toksF_blank s k hlt hbl, endF_blank s k hbl] at h
          exact h
        clear HT
        by_cases h32 : (bt s k == 32) = true
        · go_wp2_with fail
          go_roundw
          case rel => exact ⟨k + 1, ts, by omega, by go_num, by omega, HT2, hown, hb⟩
          case measure => simp [intOf]; omega
        · have h32' : (bt s k == 32) = false := by simpa using h32
          have h10 : (bt s k == 10) = true := by simp at h32' ⊢; simp [isB, h32'] at hbl; exact hbl
          clear h32
          go_wp2_with fail
          go_roundw
          case rel => exact ⟨k + 1, ts, by omega, by go_num, by omega, HT2, hown, hb⟩
          case measure => simp [intOf]; omega
    · have e1 : ts = toksF s 0 := by rw [← HT.out, toksF_end s k (by omega), List.append_nil]
      subst e1
      have hbsz := hb.size
      go_wp2_with (at_builtin; go_must (refine wpList_append_lies _ rfl _ _ _ rfl w.heap.size 201 i _ 2 24 Tryz.underlying138 hi hz0 hz1 hz2 rfl (by omega) u3 (toksF s 0).length (rcs (toksF s 0)) rfl ?hown2 _ 1 _ (rcells (endTk s)) rfl rfl ?hnews2 ?h12 (by omega) ?h632 ?hbytes2 ?hbase2 _ rfl ?_))
      case hown2 => exact hown.alloc _
      case hnews2 => exact World.news_of_block (heap_alloc_new wr _)
      case h12 => exact rcells_one _
      case h632 => unfold maxLen; omega
      case hbytes2 => omega
      case hbase2 => simp; omega
      intro g cap w1 hown1 hgrow hat hlt1
      go_wp2_with fail
      go_ret
      refine ⟨_, rfl, ?_, ?_⟩
      · rw [rcs_snoc]; exact hown1
      · exact (hb.alloc hb.size _).grown hgrow (by simp; omega) (fun q hq => (hown.lt q hq).1)

end Go.Proofs.YtnndoagpbcacdaaGreatDoor
