import Derived.Test.YtnndoagpbcacdaaGreatDoorA1
import Derived.Deep.AppendLies
import Derived.Deep.DeepMust
import Derived.WalkSmall
namespace Go.Proofs.YtnndoagpbcacdaaGreatDoor
open Go.RowKit

/-! Tokens: the plain part. -/
structure Tk where
  pos : Nat
  txt : ByteArray

/-- Where the token that begins at i, and goes on to e at least, ends. -/
def endF (s : ByteArray) (i e : Nat) : Nat :=
  if e < s.size then (if goesB (bt s i) (bt s e) then endF s i (e + 1) else e) else e
termination_by s.size - e

theorem endF_ge (s : ByteArray) (i e : Nat) : e ≤ endF s i e := by
  fun_induction endF s i e <;> omega
theorem endF_le (s : ByteArray) (i e : Nat) (h : e ≤ s.size) : endF s i e ≤ s.size := by
  fun_induction endF s i e <;> omega
theorem endF_go (s : ByteArray) (i e : Nat) (h : e < s.size) (hg : goesB (bt s i) (bt s e) = true) : endF s i e = endF s i (e + 1) := by
  rw [endF, if_pos h, if_pos hg]
theorem endF_stop (s : ByteArray) (i e : Nat) (h : e < s.size) (hg : goesB (bt s i) (bt s e) = false) : endF s i e = e := by
  rw [endF, if_pos h, hg]; rfl
theorem endF_end (s : ByteArray) (i e : Nat) (h : ¬ e < s.size) : endF s i e = e := by
  rw [endF, if_neg h]

/-- The tokens from place i on. -/
def toksF (s : ByteArray) (i : Nat) : List Tk :=
  if i < s.size then (if isB (bt s i) then [] else [⟨i, s.extract i (endF s i (i + 1))⟩]) ++ toksF s (endF s i (i + 1)) else []
termination_by s.size - i
decreasing_by have := endF_ge s i (i + 1); omega

theorem toksF_end (s : ByteArray) (i : Nat) (h : ¬ i < s.size) : toksF s i = [] := by rw [toksF, if_neg h]
theorem toksF_blank (s : ByteArray) (i : Nat) (h : i < s.size) (hb : isB (bt s i) = true) : toksF s i = toksF s (endF s i (i + 1)) := by
  rw [toksF, if_pos h, if_pos hb, List.nil_append]
theorem toksF_tok (s : ByteArray) (i : Nat) (h : i < s.size) (hb : isB (bt s i) = false) : toksF s i = ⟨i, s.extract i (endF s i (i + 1))⟩ :: toksF s (endF s i (i + 1)) := by
  rw [toksF, if_pos h, hb]; rfl

def tcells (t : Tk) : List Value := [.int .i64 (kindOf t.txt), .int .i64 t.pos, .string t.txt]
def tcs (ts : List Tk) : List Value := ts.flatMap tcells
theorem tcs_snoc (ts : List Tk) (t : Tk) : tcs (ts ++ [t]) = tcs ts ++ tcells t := by simp [tcs]
theorem tcs_len (ts : List Tk) : (tcs ts).length = ts.length * 3 := by
  induction ts with
  | nil => rfl
  | cons t r ih => simp [tcs, tcells] at ih ⊢; omega

theorem tcells_one (t : Tk) : ∀ u ∈ tcells t, u.oneCell' = true := by
  intro u hu
  simp only [tcells, List.mem_cons, List.not_mem_nil, or_false] at hu
  rcases hu with rfl | rfl | rfl <;> rfl

theorem Tryz.infoTok : (Tryz.prog.info? 84).map (fun i => (i.zero, i.size, i.bytes)) = some (some (.agg #[.int .i64 0, .int .i64 0, .string ByteArray.empty]), 3, 32) := by kernel_rfl

set_option maxHeartbeats 1000000 in
theorem sCutTokens (s : ByteArray) (w : World) (hs : s.size ≤ 1000) :
    Calls Tryz.prog 59 #[.string s] w fun e w' => ∃ v, e = .returned v ∧ w'.ownsRow w.heap.size 84 3 v (toksF s 0).length (tcs (toksF s 0)) ∧ Below w.heap.size w w' := by
  obtain ⟨i, hi, hz0, hz1, hz2⟩ := info_parts Tryz.infoTok
  go_enter Tryz.func59, Tryz.ntmps59
  go_wp2_with fail
  go_loopw [3, 4] (fun v a wr => ∃ (k : Nat) (ts : List Tk), k ≤ s.size ∧ a = .int .i64 k ∧ ts.length ≤ k ∧ Hid (ts ++ toksF s k = toksF s 0) ∧ wr.ownsRow w.heap.size 84 3 v ts.length (tcs ts) ∧ Below w.heap.size w wr) (fun _ a _ => s.size - (intOf a).toNat)
  case atStart => exact ⟨0, [], Nat.zero_le _, rfl, Nat.le_refl _, rfl, World.ownsRow_nil _ _ _ _, Below.refl _ _⟩
  case round =>
    obtain ⟨k, ts, hk, rfl, hlen, HT, hown, hb⟩ := hrel
    by_cases hlt : k < s.size
    · obtain ⟨wo, rfl⟩ : ∃ wo : World, wo = wr := ⟨_, rfl⟩
      go_wp2_with fail
      go_loopw [5] (fun e wx => ∃ (j : Nat), k + 1 ≤ j ∧ j ≤ s.size ∧ e = .int .i64 j ∧ Hid (endF s k j = endF s k (k + 1)) ∧ wx.ownsRow w.heap.size 84 3 u3 ts.length (tcs ts) ∧ Below w.heap.size w wx) (fun e _ => s.size - (intOf e).toNat)
      case atStart => exact ⟨k + 1, Nat.le_refl _, by omega, rfl, rfl, hown, hb⟩
      case round =>
        clear hown hb
        obtain ⟨j, hj1, hj2, rfl, HE, hown, hb⟩ := hrel
        have hck := bt_eq s k hlt
        have hcases : (∃ h : j < s.size, goesB (bt s k) (bt s j) = true) ∨ (j < s.size ∧ goesB (bt s k) (bt s j) = false) ∨ ¬ j < s.size := by
          by_cases h : j < s.size
          · cases hg : goesB (bt s k) (bt s j)
            · exact .inr (.inl ⟨h, rfl⟩)
            · exact .inl ⟨h, rfl⟩
          · exact .inr (.inr h)
        rcases hcases with ⟨hjl, hg⟩ | hstop
        · have hcj := bt_eq s j hjl
          have HG : Hid (endF s k (j + 1) = endF s k (k + 1)) := by rw [← endF_go s k j hjl hg]; exact HE.out
          go_wp2_with fail
          go_quiet ((go_at_call 97; exact Calls.quiet_of_same (sGoesOn _ _ _)))
          go_wp2_with fail
          go_roundw
          case rel => exact ⟨j + 1, by omega, by omega, by go_num, HG, hown, below_drewN hb _⟩
          case measure => simp [intOf]; omega
        · have HS : Hid (endF s k (k + 1) = j) := by
            rw [← HE.out]
            rcases hstop with ⟨h, hg⟩ | h
            · exact endF_stop s k j h hg
            · exact endF_end s k j h
          have hsz : (s.extract k j).size = j - k := by rw [ByteArray.size_extract]; omega
          have hsz1 : 0 < (s.extract k j).size := by omega
          have hsz2 : (s.extract k j).size ≤ 1000 := by omega
          clear hsz
          rcases hstop with ⟨hjl, hg⟩ | hjl
          · have hcj := bt_eq s j hjl
            go_wp2_with fail
            go_quiet ((go_at_call 97; exact Calls.quiet_of_same (sGoesOn _ _ _)))
            clear hcj hg hjl
            have hownq : (wr.drewN nq).ownsRow w.heap.size 84 3 u3 ts.length (tcs ts) := hown
            have hbq : Below w.heap.size w (wr.drewN nq) := below_drewN hb nq
            clear hown hb
            cases hbl : isB (bt s k)
            · have HT2 : Hid ((ts ++ [⟨k, s.extract k j⟩]) ++ toksF s j = toksF s 0) := by
                have h := HT.out
                rw [toksF_tok s k hlt hbl, HS.out] at h
                show _ = _
                rw [← h]; simp
              go_wp2_with (first | (go_at_call 98; refine (sIsBlank _ _).mono ?_; rintro e w' ⟨rfl, rfl⟩) | (go_at_call 99; refine (sTokenKind _ _ hsz1 hsz2).mono ?_; rintro e w' ⟨rfl, rfl⟩) | (at_builtin; refine wpList_append_lies _ rfl _ _ _ rfl w.heap.size 84 i _ 3 32 Tryz.underlying85 hi hz0 hz1 hz2 rfl (by omega) u3 ts.length (tcs ts) rfl ?hown _ 1 _ (tcells ⟨k, s.extract k j⟩) rfl rfl ?hnews ?h1 (by omega) ?h63 ?hbytes ?hbase _ rfl ?_))
              case hown => exact hownq.alloc _
              case hnews => exact World.news_of_block (heap_alloc_new (wr.drewN nq) _)
              case h1 => exact tcells_one _
              case h63 => unfold maxLen; omega
              case hbytes => omega
              case hbase => have := hbq.size; simp at this ⊢; omega
              intro g cap w1 hown1 hgrow hat hlt1
              go_wp2_with fail
              go_roundw
              case rel =>
                refine ⟨j, ts ++ [⟨k, s.extract k j⟩], hj2, rfl, by simp; omega, HT2, ?_, ?_⟩
                · rw [tcs_snoc, List.length_append]; exact hown1
                · exact (hbq.alloc hbq.size _).grown hgrow (by have := hbq.size; simp at this ⊢; omega) (fun q hq => (hownq.lt q hq).1)
              case measure => simp [intOf]; omega
            · have HT2 : Hid (ts ++ toksF s j = toksF s 0) := by
                have h := HT.out
                rw [toksF_blank s k hlt hbl, HS.out] at h
                exact h
              go_wp2_with (first | (go_at_call 98; refine (sIsBlank _ _).mono ?_; rintro e w' ⟨rfl, rfl⟩))
              go_roundw
              case rel => exact ⟨j, ts, hj2, rfl, by omega, HT2, hownq, hbq⟩
              case measure => simp [intOf]; omega
          · have hd : decide (j < s.size) = false := by simpa using hjl
            go_wp2_with fail
            go_quiet (fail)
            clear hd hjl
            have hownq : (wr.drewN nq).ownsRow w.heap.size 84 3 u3 ts.length (tcs ts) := hown
            have hbq : Below w.heap.size w (wr.drewN nq) := below_drewN hb nq
            clear hown hb
            cases hbl : isB (bt s k)
            · have HT2 : Hid ((ts ++ [⟨k, s.extract k j⟩]) ++ toksF s j = toksF s 0) := by
                have h := HT.out
                rw [toksF_tok s k hlt hbl, HS.out] at h
                show _ = _
                rw [← h]; simp
              go_wp2_with (first | (go_at_call 98; refine (sIsBlank _ _).mono ?_; rintro e w' ⟨rfl, rfl⟩) | (go_at_call 99; refine (sTokenKind _ _ hsz1 hsz2).mono ?_; rintro e w' ⟨rfl, rfl⟩) | (at_builtin; refine wpList_append_lies _ rfl _ _ _ rfl w.heap.size 84 i _ 3 32 Tryz.underlying85 hi hz0 hz1 hz2 rfl (by omega) u3 ts.length (tcs ts) rfl ?hown _ 1 _ (tcells ⟨k, s.extract k j⟩) rfl rfl ?hnews ?h1 (by omega) ?h63 ?hbytes ?hbase _ rfl ?_))
              case hown => exact hownq.alloc _
              case hnews => exact World.news_of_block (heap_alloc_new (wr.drewN nq) _)
              case h1 => exact tcells_one _
              case h63 => unfold maxLen; omega
              case hbytes => omega
              case hbase => have := hbq.size; simp at this ⊢; omega
              intro g cap w1 hown1 hgrow hat hlt1
              go_wp2_with fail
              go_roundw
              case rel =>
                refine ⟨j, ts ++ [⟨k, s.extract k j⟩], hj2, rfl, by simp; omega, HT2, ?_, ?_⟩
                · rw [tcs_snoc, List.length_append]; exact hown1
                · exact (hbq.alloc hbq.size _).grown hgrow (by have := hbq.size; simp at this ⊢; omega) (fun q hq => (hownq.lt q hq).1)
              case measure => simp [intOf]; omega
            · have HT2 : Hid (ts ++ toksF s j = toksF s 0) := by
                have h := HT.out
                rw [toksF_blank s k hlt hbl, HS.out] at h
                exact h
              go_wp2_with (first | (go_at_call 98; refine (sIsBlank _ _).mono ?_; rintro e w' ⟨rfl, rfl⟩))
              go_roundw
              case rel => exact ⟨j, ts, hj2, rfl, by omega, HT2, hownq, hbq⟩
              case measure => simp [intOf]; omega
    · go_wp2_with fail
      go_ret
      have e0 : k = s.size := by omega
      have e1 : ts = toksF s 0 := by rw [← HT.out, toksF_end s k (by omega), List.append_nil]
      subst e1
      exact ⟨_, rfl, hown, hb⟩

end Go.Proofs.YtnndoagpbcacdaaGreatDoor
