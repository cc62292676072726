import Derived.Test.YtnndoagpbcacdaaGreatDoorRows
import Derived.WalkKit
import Derived.WalkSpells
import Derived.WalkLawsBesides
import Derived.BigQuiet
import Derived.Deep.QuietTactic
import Derived.Deep.AppendLies
import Derived.Deep.DeepMust
import Derived.WalkSmall
import Derived.Deep.RegionLaw
namespace Go.Proofs.YtnndoagpbcacdaaGreatDoor
open Go.RowKit

def isL (c : Int) : Bool := decide (97 ≤ c ∧ c ≤ 122)
def isD (c : Int) : Bool := decide (48 ≤ c ∧ c ≤ 57)
def isB (c : Int) : Bool := decide (c = 32 ∨ c = 10)
def goesB (a b : Int) : Bool := if isL a then isL b || isD b else isD a && isD b

theorem ret_bool {a b : Bool} (h : a = b) : Ending.returned (.bool a) = .returned (.bool b) := by rw [h]
theorem ret_int {k : IntKind} {a b : Int} (h : a = b) : Ending.returned (.int k a) = .returned (.int k b) := by rw [h]

set_option maxHeartbeats 400000 in
theorem sIsLetter (c : Int) (w : World) :
    Calls Tryz.prog 147 #[.int .u8 c] w fun e w' => e = .returned (.bool (isL c)) ∧ w' = w := by
  by_cases h1 : 97 ≤ c
  · by_cases h2 : c ≤ 122
    all_goals
      go_enter Tryz.func147, Tryz.ntmps147
      go_wp2
      go_ret
      exact ⟨ret_bool (by simp [isL, *]), rfl⟩
  · go_enter Tryz.func147, Tryz.ntmps147
    go_wp2
    go_ret
    exact ⟨ret_bool (by simp [isL]; omega), rfl⟩

set_option maxHeartbeats 400000 in
theorem sIsDigit (c : Int) (w : World) :
    Calls Tryz.prog 148 #[.int .u8 c] w fun e w' => e = .returned (.bool (isD c)) ∧ w' = w := by
  by_cases h1 : 48 ≤ c
  · by_cases h2 : c ≤ 57
    all_goals
      go_enter Tryz.func148, Tryz.ntmps148
      go_wp2
      go_ret
      exact ⟨ret_bool (by simp [isD, *]), rfl⟩
  · go_enter Tryz.func148, Tryz.ntmps148
    go_wp2
    go_ret
    exact ⟨ret_bool (by simp [isD]; omega), rfl⟩

set_option maxHeartbeats 400000 in
theorem sIsBlank (c : Int) (w : World) :
    Calls Tryz.prog 98 #[.int .u8 c] w fun e w' => e = .returned (.bool (isB c)) ∧ w' = w := by
  by_cases h1 : (c == 32) = true
  · go_enter Tryz.func98, Tryz.ntmps98
    go_wp2
    go_ret
    exact ⟨ret_bool (by simp at h1; simp [isB, h1]), rfl⟩
  · have h1' : (c == 32) = false := by simpa using h1
    clear h1
    go_enter Tryz.func98, Tryz.ntmps98
    go_wp2
    go_ret
    exact ⟨ret_bool (by simp at h1'; rw [Bool.eq_iff_iff]; simp [isB, h1']), rfl⟩

set_option maxHeartbeats 400000 in
theorem sGoesOn (a b : Int) (w : World) :
    Calls Tryz.prog 97 #[.int .u8 a, .int .u8 b] w fun e w' => e = .returned (.bool (goesB a b)) ∧ w' = w := by
  cases ha : isL a
  · cases hd : isD a
    all_goals
      go_enter Tryz.func97, Tryz.ntmps97
      go_wp2_with (first | (go_at_call 147; refine (sIsLetter _ _).mono ?_; rintro e w' ⟨rfl, rfl⟩) | (go_at_call 148; refine (sIsDigit _ _).mono ?_; rintro e w' ⟨rfl, rfl⟩))
      go_ret
      exact ⟨ret_bool (by simp [goesB, *]), rfl⟩
  · cases hb : isL b
    all_goals
      go_enter Tryz.func97, Tryz.ntmps97
      go_wp2_with (first | (go_at_call 147; refine (sIsLetter _ _).mono ?_; rintro e w' ⟨rfl, rfl⟩) | (go_at_call 148; refine (sIsDigit _ _).mono ?_; rintro e w' ⟨rfl, rfl⟩))
      go_ret
      exact ⟨ret_bool (by simp [goesB, *]), rfl⟩

set_option maxHeartbeats 400000 in
theorem sKindUpTo (k l m : Int) (w : World) :
    Calls Tryz.prog 149 #[.int .i64 k, .int .i64 l, .int .i64 m] w fun e w' => e = .returned (.int .i64 (if m < l then 0 else k)) ∧ w' = w := by
  by_cases h : m < l
  all_goals
    go_enter Tryz.func149, Tryz.ntmps149
    go_wp2
    go_ret
    exact ⟨ret_int (by simp [*]), rfl⟩

/-- The kind of a token by its first byte and its length. -/
def kindC (c : Int) (n : Nat) : Int :=
  if isL c then (if 8 < n then 0 else 1) else if isD c then (if 6 < n then 0 else 2)
  else if c = 43 ∨ c = 45 ∨ c = 42 ∨ c = 60 ∨ c = 63 then 3 else if c = 61 then 4 else if c = 59 then 5 else if c = 40 then 6 else if c = 41 then 7 else 0
/-- Byte i of a text, as a number. -/
def bt (t : ByteArray) (i : Nat) : Int := ((t.data[i]?.getD 0).toNat : Int)
theorem bt_eq (t : ByteArray) (i : Nat) (h : i < t.size) : ((t[i]'h).toNat : Int) = bt t i := by
  unfold bt
  rw [Array.getElem?_eq_getElem (show i < t.data.size from h)]
  rfl
theorem size_len (t : ByteArray) : t.size = t.data.toList.length := by
  show t.data.size = _
  simp
def kindOf (t : ByteArray) : Int := kindC (bt t 0) t.size
theorem nonempty_of (t : ByteArray) (h : 0 < t.size) : t.toList.isEmpty = false := by
  rw [ByteArray.toList_eq]
  rw [size_len] at h
  cases hl : t.data.toList with
  | nil => rw [hl] at h; simp at h
  | cons _ _ => rfl

set_option maxHeartbeats 400000 in
theorem sTokenKind (t : ByteArray) (w : World) (ht : 0 < t.size) (hm : t.size ≤ 1000) :
    Calls Tryz.prog 99 #[.string t] w fun e w' => e = .returned (.int .i64 (kindOf t)) ∧ w' = w := by
  have hne := nonempty_of t ht
  unfold kindOf
  have hc := bt_eq t 0 ht
  generalize bt t 0 = c at *
  cases hl : isL c
  · cases hd : isD c
    · go_enter Tryz.func99, Tryz.ntmps99
      go_wp2_with (first | (go_at_call 147; refine (sIsLetter _ _).mono ?_; rintro e w' ⟨rfl, rfl⟩) | (go_at_call 148; refine (sIsDigit _ _).mono ?_; rintro e w' ⟨rfl, rfl⟩))
      all_goals (go_ret; exact ⟨ret_int (by simp_all [kindC]), rfl⟩)
    · go_enter Tryz.func99, Tryz.ntmps99
      go_wp2_with (first | (go_at_call 147; refine (sIsLetter _ _).mono ?_; rintro e w' ⟨rfl, rfl⟩) | (go_at_call 148; refine (sIsDigit _ _).mono ?_; rintro e w' ⟨rfl, rfl⟩) | (go_at_call 149; refine (sKindUpTo _ _ _ _).mono ?_; rintro e w' ⟨rfl, rfl⟩))
      all_goals (go_ret; exact ⟨ret_int (by simp [kindC, *]; try omega), rfl⟩)
  · go_enter Tryz.func99, Tryz.ntmps99
    go_wp2_with (first | (go_at_call 147; refine (sIsLetter _ _).mono ?_; rintro e w' ⟨rfl, rfl⟩) | (go_at_call 149; refine (sKindUpTo _ _ _ _).mono ?_; rintro e w' ⟨rfl, rfl⟩))
    all_goals (go_ret; exact ⟨ret_int (by simp [kindC, *]; try omega), rfl⟩)

end Go.Proofs.YtnndoagpbcacdaaGreatDoor
namespace Go.Proofs.YtnndoagpbcacdaaGreatDoor
open Go.RowKit

/-! Tokens: the plain part. -/
structure Tk where
  pos : Nat
  txt : ByteArray

/-- Where the token that begins at i, and goes on to e at least, ends. -/
def endF (s : ByteArray) (i e : Nat) : Nat :=
  if e < s.size then (if goesB (bt s i) (bt s e) then endF s i (e + 1) else e) else e
termination_by s.size - e

theorem endF_ge (s : ByteArray) (i e : Nat) : e ≤ endF s i e := by
  fun_induction endF s i e <;> omega
theorem endF_le (s : ByteArray) (i e : Nat) (h : e ≤ s.size) : endF s i e ≤ s.size := by
  fun_induction endF s i e <;> omega
theorem endF_go (s : ByteArray) (i e : Nat) (h : e < s.size) (hg : goesB (bt s i) (bt s e) = true) : endF s i e = endF s i (e + 1) := by
  rw [endF, if_pos h, if_pos hg]
theorem endF_stop (s : ByteArray) (i e : Nat) (h : e < s.size) (hg : goesB (bt s i) (bt s e) = false) : endF s i e = e := by
  rw [endF, if_pos h, hg]; rfl
theorem endF_end (s : ByteArray) (i e : Nat) (h : ¬ e < s.size) : endF s i e = e := by
  rw [endF, if_neg h]

/-- The tokens from place i on. -/
def toksF (s : ByteArray) (i : Nat) : List Tk :=
  if i < s.size then (if isB (bt s i) then [] else [⟨i, s.extract i (endF s i (i + 1))⟩]) ++ toksF s (endF s i (i + 1)) else []
termination_by s.size - i
decreasing_by have := endF_ge s i (i + 1); omega

theorem toksF_end (s : ByteArray) (i : Nat) (h : ¬ i < s.size) : toksF s i = [] := by rw [toksF, if_neg h]
theorem toksF_blank (s : ByteArray) (i : Nat) (h : i < s.size) (hb : isB (bt s i) = true) : toksF s i = toksF s (endF s i (i + 1)) := by
  rw [toksF, if_pos h, if_pos hb, List.nil_append]
theorem toksF_tok (s : ByteArray) (i : Nat) (h : i < s.size) (hb : isB (bt s i) = false) : toksF s i = ⟨i, s.extract i (endF s i (i + 1))⟩ :: toksF s (endF s i (i + 1)) := by
  rw [toksF, if_pos h, hb]; rfl

def tcells (t : Tk) : List Value := [.int .i64 (kindOf t.txt), .int .i64 t.pos, .string t.txt]
def tcs (ts : List Tk) : List Value := ts.flatMap tcells
theorem tcs_snoc (ts : List Tk) (t : Tk) : tcs (ts ++ [t]) = tcs ts ++ tcells t := by simp [tcs]
theorem tcs_len (ts : List Tk) : (tcs ts).length = ts.length * 3 := by
  induction ts with
  | nil => rfl
  | cons t r ih => simp [tcs, tcells] at ih ⊢; omega

theorem tcells_one (t : Tk) : ∀ u ∈ tcells t, u.oneCell' = true := by
  intro u hu
  simp only [tcells, List.mem_cons, List.not_mem_nil, or_false] at hu
  rcases hu with rfl | rfl | rfl <;> rfl

theorem Tryz.infoTok : (Tryz.prog.info? 84).map (fun i => (i.zero, i.size, i.bytes)) = some (some (.agg #[.int .i64 0, .int .i64 0, .string ByteArray.empty]), 3, 32) := by kernel_rfl

set_option maxHeartbeats 1000000 in
theorem sCutTokens (s : ByteArray) (w : World) (hs : s.size ≤ 1000) :
    Calls Tryz.prog 59 #[.string s] w fun e w' => ∃ v, e = .returned v ∧ w'.ownsRow w.heap.size 84 3 v (toksF s 0).length (tcs (toksF s 0)) ∧ Below w.heap.size w w' := by
  obtain ⟨i, hi, hz0, hz1, hz2⟩ := info_parts Tryz.infoTok
  go_enter Tryz.func59, Tryz.ntmps59
  go_wp2_with fail
  go_loopw [3, 4] (fun v a wr => ∃ (k : Nat) (ts : List Tk), k ≤ s.size ∧ a = .int .i64 k ∧ ts.length ≤ k ∧ Hid (ts ++ toksF s k = toksF s 0) ∧ wr.ownsRow w.heap.size 84 3 v ts.length (tcs ts) ∧ Below w.heap.size w wr) (fun _ a _ => s.size - (intOf a).toNat)
  case atStart => exact ⟨0, [], Nat.zero_le _, rfl, Nat.le_refl _, rfl, World.ownsRow_nil _ _ _ _, Below.refl _ _⟩
  case round =>
    obtain ⟨k, ts, hk, rfl, hlen, HT, hown, hb⟩ := hrel
    by_cases hlt : k < s.size
    · obtain ⟨wo, rfl⟩ : ∃ wo : World, wo = wr := ⟨_, rfl⟩
      go_wp2_with fail
      go_loopw [5] (fun e wx => ∃ (j : Nat), k + 1 ≤ j ∧ j ≤ s.size ∧ e = .int .i64 j ∧ Hid (endF s k j = endF s k (k + 1)) ∧ wx.ownsRow w.heap.size 84 3 u3 ts.length (tcs ts) ∧ Below w.heap.size w wx) (fun e _ => s.size - (intOf e).toNat)
      case atStart => exact ⟨k + 1, Nat.le_refl _, by omega, rfl, rfl, hown, hb⟩
      case round =>
        clear hown hb
        obtain ⟨j, hj1, hj2, rfl, HE, hown, hb⟩ := hrel
        have hck := bt_eq s k hlt
        have hcases : (∃ h : j < s.size, goesB (bt s k) (bt s j) = true) ∨ (j < s.size ∧ goesB (bt s k) (bt s j) = false) ∨ ¬ j < s.size := by
          by_cases h : j < s.size
          · cases hg : goesB (bt s k) (bt s j)
            · exact .inr (.inl ⟨h, rfl⟩)
            · exact .inl ⟨h, rfl⟩
          · exact .inr (.inr h)
        rcases hcases with ⟨hjl, hg⟩ | hstop
        · have hcj := bt_eq s j hjl
          have HG : Hid (endF s k (j + 1) = endF s k (k + 1)) := by rw [← endF_go s k j hjl hg]; exact HE.out
          go_wp2_with fail
          go_quiet ((go_at_call 97; exact Calls.quiet_of_same (sGoesOn _ _ _)))
          go_wp2_with fail
          go_roundw
          case rel => exact ⟨j + 1, by omega, by omega, by go_num, HG, hown, below_drewN hb _⟩
          case measure => simp [intOf]; omega
        · have HS : Hid (endF s k (k + 1) = j) := by
            rw [← HE.out]
            rcases hstop with ⟨h, hg⟩ | h
            · exact endF_stop s k j h hg
            · exact endF_end s k j h
          have hsz : (s.extract k j).size = j - k := by rw [ByteArray.size_extract]; omega
          have hsz1 : 0 < (s.extract k j).size := by omega
          have hsz2 : (s.extract k j).size ≤ 1000 := by omega
          clear hsz
          rcases hstop with ⟨hjl, hg⟩ | hjl
          · have hcj := bt_eq s j hjl
            go_wp2_with fail
            go_quiet ((go_at_call 97; exact Calls.quiet_of_same (sGoesOn _ _ _)))
            clear hcj hg hjl
            have hownq : (wr.drewN nq).ownsRow w.heap.size 84 3 u3 ts.length (tcs ts) := hown
            have hbq : Below w.heap.size w (wr.drewN nq) := below_drewN hb nq
            clear hown hb
            cases hbl : isB (bt s k)
            · have HT2 : Hid ((ts ++ [⟨k, s.extract k j⟩]) ++ toksF s j = toksF s 0) := by
                have h := HT.out
                rw [toksF_tok s k hlt hbl, HS.out] at h
                show _ = _
                rw [← h]; simp
              go_wp2_with (first | (go_at_call 98; refine (sIsBlank _ _).mono ?_; rintro e w' ⟨rfl, rfl⟩) | (go_at_call 99; refine (sTokenKind _ _ hsz1 hsz2).mono ?_; rintro e w' ⟨rfl, rfl⟩) | (at_builtin; refine wpList_append_lies _ rfl _ _ _ rfl w.heap.size 84 i _ 3 32 Tryz.underlying85 hi hz0 hz1 hz2 rfl (by omega) u3 ts.length (tcs ts) rfl ?hown _ 1 _ (tcells ⟨k, s.extract k j⟩) rfl rfl ?hnews ?h1 (by omega) ?h63 ?hbytes ?hbase _ rfl ?_))
              case hown => exact hownq.alloc _
              case hnews => exact World.news_of_block (heap_alloc_new (wr.drewN nq) _)
              case h1 => exact tcells_one _
              case h63 => unfold maxLen; omega
              case hbytes => omega
              case hbase => have := hbq.size; simp at this ⊢; omega
              intro g cap w1 hown1 hgrow hat hlt1
              go_wp2_with fail
              go_roundw
              case rel =>
                refine ⟨j, ts ++ [⟨k, s.extract k j⟩], hj2, rfl, by simp; omega, HT2, ?_, ?_⟩
                · rw [tcs_snoc, List.length_append]; exact hown1
                · exact (hbq.alloc hbq.size _).grown hgrow (by have := hbq.size; simp at this ⊢; omega) (fun q hq => (hownq.lt q hq).1)
              case measure => simp [intOf]; omega
            · have HT2 : Hid (ts ++ toksF s j = toksF s 0) := by
                have h := HT.out
                rw [toksF_blank s k hlt hbl, HS.out] at h
                exact h
              go_wp2_with (first | (go_at_call 98; refine (sIsBlank _ _).mono ?_; rintro e w' ⟨rfl, rfl⟩))
              go_roundw
              case rel => exact ⟨j, ts, hj2, rfl, by omega, HT2, hownq, hbq⟩
              case measure => simp [intOf]; omega
          · have hd : decide (j < s.size) = false := by simpa using hjl
            go_wp2_with fail
            go_quiet (fail)
            clear hd hjl
            have hownq : (wr.drewN nq).ownsRow w.heap.size 84 3 u3 ts.length (tcs ts) := hown
            have hbq : Below w.heap.size w (wr.drewN nq) := below_drewN hb nq
            clear hown hb
            cases hbl : isB (bt s k)
            · have HT2 : Hid ((ts ++ [⟨k, s.extract k j⟩]) ++ toksF s j = toksF s 0) := by
                have h := HT.out
                rw [toksF_tok s k hlt hbl, HS.out] at h
                show _ = _
                rw [← h]; simp
              go_wp2_with (first | (go_at_call 98; refine (sIsBlank _ _).mono ?_; rintro e w' ⟨rfl, rfl⟩) | (go_at_call 99; refine (sTokenKind _ _ hsz1 hsz2).mono ?_; rintro e w' ⟨rfl, rfl⟩) | (at_builtin; refine wpList_append_lies _ rfl _ _ _ rfl w.heap.size 84 i _ 3 32 Tryz.underlying85 hi hz0 hz1 hz2 rfl (by omega) u3 ts.length (tcs ts) rfl ?hown _ 1 _ (tcells ⟨k, s.extract k j⟩) rfl rfl ?hnews ?h1 (by omega) ?h63 ?hbytes ?hbase _ rfl ?_))
              case hown => exact hownq.alloc _
              case hnews => exact World.news_of_block (heap_alloc_new (wr.drewN nq) _)
              case h1 => exact tcells_one _
              case h63 => unfold maxLen; omega
              case hbytes => omega
              case hbase => have := hbq.size; simp at this ⊢; omega
              intro g cap w1 hown1 hgrow hat hlt1
              go_wp2_with fail
              go_roundw
              case rel =>
                refine ⟨j, ts ++ [⟨k, s.extract k j⟩], hj2, rfl, by simp; omega, HT2, ?_, ?_⟩
                · rw [tcs_snoc, List.length_append]; exact hown1
                · exact (hbq.alloc hbq.size _).grown hgrow (by have := hbq.size; simp at this ⊢; omega) (fun q hq => (hownq.lt q hq).1)
              case measure => simp [intOf]; omega
            · have HT2 : Hid (ts ++ toksF s j = toksF s 0) := by
                have h := HT.out
                rw [toksF_blank s k hlt hbl, HS.out] at h
                exact h
              go_wp2_with (first | (go_at_call 98; refine (sIsBlank _ _).mono ?_; rintro e w' ⟨rfl, rfl⟩))
              go_roundw
              case rel => exact ⟨j, ts, hj2, rfl, by omega, HT2, hownq, hbq⟩
              case measure => simp [intOf]; omega
    · go_wp2_with fail
      go_ret
      have e0 : k = s.size := by omega
      have e1 : ts = toksF s 0 := by rw [← HT.out, toksF_end s k (by omega), List.append_nil]
      subst e1
      exact ⟨_, rfl, hown, hb⟩

end Go.Proofs.YtnndoagpbcacdaaGreatDoor
namespace Go.Proofs.YtnndoagpbcacdaaGreatDoor
open Go.RowKit

/-! The grammar: the plain machine. -/
structure Gr where
  aw : Int
  fn : Int
  pa : Int
  no : Int
  wi : Int
  ar : List Int

def simpleK (k : Int) : Bool := decide (k = 1 ∨ k = 2 ∨ k = 3)
def gFunction (g : Gr) (k : Int) : Int × Gr := if k ≠ 1 then (2, g) else if 16 ≤ g.fn then (3, g) else (0, { g with fn := g.fn + 1, pa := 0, aw := 1 })
def gParameter (g : Gr) (k : Int) : Int × Gr := if k = 4 then (0, { g with no := 0, aw := 2 }) else if k ≠ 1 then (2, g) else if 6 ≤ g.pa then (3, g) else (0, { g with pa := g.pa + 1 })
def gHead (g : Gr) (k : Int) : Int × Gr := if simpleK k then (0, { g with wi := 1, aw := 3 }) else (2, g)
def gCount (g : Gr) : Int × Gr :=
  if 8 ≤ g.wi then (3, g) else if g.wi + 1 ≠ 2 ∨ g.ar = [] then (0, { g with wi := g.wi + 1 }) else if 12 ≤ g.no then (3, { g with wi := g.wi + 1 }) else (0, { g with wi := g.wi + 1, no := g.no + 1 })
def gEndDef (g : Gr) : Int × Gr := if g.ar = [] then (0, { g with aw := 0 }) else (2, g)
def gEndInner (g : Gr) : Int × Gr := if g.ar = [] then (2, g) else (0, { g with wi := g.ar.getLast?.getD 0, ar := g.ar.dropLast })
def gBegin (g : Gr) : Int × Gr := if (gCount g).1 = 0 then (0, { (gCount g).2 with ar := (gCount g).2.ar ++ [(gCount g).2.wi], aw := 2 }) else gCount g
def gPart (g : Gr) (k : Int) : Int × Gr := if k = 5 then gEndDef g else if k = 7 then gEndInner g else if k = 6 then gBegin g else if simpleK k then gCount g else (2, g)
def gTake (g : Gr) (k : Int) : Int × Gr := if g.aw = 0 then gFunction g k else if g.aw = 1 then gParameter g k else if g.aw = 2 then gHead g k else gPart g k

/-- The grammar in memory: its block. -/
def GBlk (w : World) (b : Nat) (g : Gr) (av : Value) : Prop :=
  w.heap[b]? = some (.cells #[.int .i64 g.aw, .int .i64 g.fn, .int .i64 g.pa, .int .i64 g.no, .int .i64 g.wi, av] 170 (0, 0))

theorem GBlk.c0 {w : World} {b : Nat} {g : Gr} {av : Value} (h : GBlk w b g av) : w.cell? ⟨b, 0, none⟩ = some (.int .i64 g.aw) := by rw [cell_of_row w b 0 _ _ _ h]; rfl
theorem GBlk.c1 {w : World} {b : Nat} {g : Gr} {av : Value} (h : GBlk w b g av) : w.cell? ⟨b, 1, none⟩ = some (.int .i64 g.fn) := by rw [cell_of_row w b 1 _ _ _ h]; rfl
theorem GBlk.c2 {w : World} {b : Nat} {g : Gr} {av : Value} (h : GBlk w b g av) : w.cell? ⟨b, 2, none⟩ = some (.int .i64 g.pa) := by rw [cell_of_row w b 2 _ _ _ h]; rfl
theorem GBlk.c3 {w : World} {b : Nat} {g : Gr} {av : Value} (h : GBlk w b g av) : w.cell? ⟨b, 3, none⟩ = some (.int .i64 g.no) := by rw [cell_of_row w b 3 _ _ _ h]; rfl
theorem GBlk.c4 {w : World} {b : Nat} {g : Gr} {av : Value} (h : GBlk w b g av) : w.cell? ⟨b, 4, none⟩ = some (.int .i64 g.wi) := by rw [cell_of_row w b 4 _ _ _ h]; rfl
theorem GBlk.c5 {w : World} {b : Nat} {g : Gr} {av : Value} (h : GBlk w b g av) : w.cell? ⟨b, 5, none⟩ = some av := by rw [cell_of_row w b 5 _ _ _ h]; rfl
theorem GBlk.fz {w : World} {b : Nat} {g : Gr} {av : Value} (h : GBlk w b g av) (j : Nat) : w.frozen? ⟨b, j, none⟩ = false := frozen_of_row w b j _ _ h

/-- A store into the block: its value. -/
theorem blk_set {w : World} {b i : Nat} {cs : Array Value} {t : TypeId} (v : Value) (h : w.heap[b]? = some (.cells cs t (0, 0))) : (w.setCell ⟨b, i, none⟩ v).heap[b]? = some (.cells (cs.setIfInBounds i v) t (0, 0)) :=
  heap_setCell_same w b i cs t v h

/-- A row of numbers is no grammar block: a store into the one leaves the other. -/
theorem ownsRow_set {w : World} {base b i : Nat} {e : TypeId} {size n : Nat} {v u : Value} {xs : List Value} {cs : Array Value} {t : TypeId} (h : w.ownsRow base e size v n xs) (hb : w.heap[b]? = some (.cells cs t (0, 0))) (hne : e ≠ t) :
    (w.setCell ⟨b, i, none⟩ u).ownsRow base e size v n xs := by
  refine ⟨h.1, ?_⟩
  rcases h.2 with hn | ⟨g, cap, cur, hv, hg, hh, r⟩
  · exact .inl hn
  · refine .inr ⟨g, cap, cur, hv, hg, ?_, r⟩
    rw [heap_setCell_other _ _ _ _ (by intro e1; simp only at e1; subst e1; rw [hh] at hb; simp at hb; exact hne hb.2)]
    exact hh

def ints (l : List Int) : List Value := l.map (Value.int .i64)

/-- Blocks that are neither grammars nor rows of numbers are as they were. -/
def Oth (w0 w : World) : Prop := ∀ (k : Nat) (cs : Array Value) (t : TypeId) (fr : Nat × Nat), t ≠ 170 → t ≠ 3 → w0.heap[k]? = some (.cells cs t fr) → w.heap[k]? = some (.cells cs t fr)
theorem Oth.refl (w : World) : Oth w w := fun _ _ _ _ _ _ h => h
theorem Oth.set {w0 w : World} {b i : Nat} {cs : Array Value} (u : Value) (h : Oth w0 w) (hb : w.heap[b]? = some (.cells cs 170 (0, 0))) : Oth w0 (w.setCell ⟨b, i, none⟩ u) := by
  intro k cs' t fr h1 h2 h3
  have h4 := h k cs' t fr h1 h2 h3
  rw [heap_setCell_other _ _ _ _ (by intro e; simp only at e; subst e; rw [hb] at h4; simp at h4; exact h1 h4.2.1.symm)]
  exact h4

/-- The grammar in memory, and the row of its widths, both from B on; below B the world is as w0 was. -/
structure GRep (B : Nat) (w0 w : World) (b : Nat) (g : Gr) (av : Value) : Prop where
  blk : GBlk w b g av
  lo : B ≤ b
  row : w.ownsRow B 3 1 av g.ar.length (ints g.ar)
  bel : Below B w0 w
  oth : Oth w0 w

theorem GRep.set0 {B : Nat} {w0 w : World} {b : Nat} {g : Gr} {av : Value} (h : GRep B w0 w b g av) (x : Int) : GRep B w0 (w.setCell ⟨b, 0, none⟩ (.int .i64 x)) b { g with aw := x } av :=
  ⟨blk_set _ h.blk, h.lo, ownsRow_set h.row h.blk (by decide), h.bel.setCell h.lo _, h.oth.set _ h.blk⟩
theorem GRep.set1 {B : Nat} {w0 w : World} {b : Nat} {g : Gr} {av : Value} (h : GRep B w0 w b g av) (x : Int) : GRep B w0 (w.setCell ⟨b, 1, none⟩ (.int .i64 x)) b { g with fn := x } av :=
  ⟨blk_set _ h.blk, h.lo, ownsRow_set h.row h.blk (by decide), h.bel.setCell h.lo _, h.oth.set _ h.blk⟩
theorem GRep.set2 {B : Nat} {w0 w : World} {b : Nat} {g : Gr} {av : Value} (h : GRep B w0 w b g av) (x : Int) : GRep B w0 (w.setCell ⟨b, 2, none⟩ (.int .i64 x)) b { g with pa := x } av :=
  ⟨blk_set _ h.blk, h.lo, ownsRow_set h.row h.blk (by decide), h.bel.setCell h.lo _, h.oth.set _ h.blk⟩
theorem GRep.set3 {B : Nat} {w0 w : World} {b : Nat} {g : Gr} {av : Value} (h : GRep B w0 w b g av) (x : Int) : GRep B w0 (w.setCell ⟨b, 3, none⟩ (.int .i64 x)) b { g with no := x } av :=
  ⟨blk_set _ h.blk, h.lo, ownsRow_set h.row h.blk (by decide), h.bel.setCell h.lo _, h.oth.set _ h.blk⟩
theorem GRep.set4 {B : Nat} {w0 w : World} {b : Nat} {g : Gr} {av : Value} (h : GRep B w0 w b g av) (x : Int) : GRep B w0 (w.setCell ⟨b, 4, none⟩ (.int .i64 x)) b { g with wi := x } av :=
  ⟨blk_set _ h.blk, h.lo, ownsRow_set h.row h.blk (by decide), h.bel.setCell h.lo _, h.oth.set _ h.blk⟩
theorem GRep.lt {B : Nat} {w0 w : World} {b : Nat} {g : Gr} {av : Value} (h : GRep B w0 w b g av) : b < w.heap.size := (Array.getElem?_eq_some_iff.1 h.blk).1

set_option maxHeartbeats 400000 in
theorem sIsSimple (k : Int) (w : World) :
    Calls Tryz.prog 185 #[.int .i64 k] w fun e w' => e = .returned (.bool (simpleK k)) ∧ w' = w := by
  by_cases h1 : k = 1
  · subst h1
    go_enter Tryz.func185, Tryz.ntmps185
    go_wp2
    go_ret
    exact ⟨rfl, rfl⟩
  · by_cases h2 : k = 2
    · subst h2
      go_enter Tryz.func185, Tryz.ntmps185
      go_wp2
      go_ret
      exact ⟨rfl, rfl⟩
    · have h1' : (k == 1) = false := by simpa using h1
      have h2' : (k == 2) = false := by simpa using h2
      clear h1 h2
      go_enter Tryz.func185, Tryz.ntmps185
      go_wp2
      go_ret
      refine ⟨ret_bool ?_, rfl⟩
      simp at h1' h2'
      rw [Bool.eq_iff_iff]; simp [simpleK, h1', h2']

set_option maxHeartbeats 400000 in
theorem sTakeFunction (B b : Nat) (g : Gr) (av : Value) (k : Int) (w0 w : World) (h : GRep B w0 w b g av) (h0 : 0 ≤ g.fn) :
    Calls Tryz.prog 150 #[.pointer (some ⟨b, 0, none⟩), .int .i64 k] w fun e w' => e = .returned (.int .i64 (gFunction g k).1) ∧ ∃ av', GRep B w0 w' b (gFunction g k).2 av' := by
  have c0 := h.blk.c0
  have c1 := h.blk.c1
  have c2 := h.blk.c2
  have c3 := h.blk.c3
  have c4 := h.blk.c4
  have c5 := h.blk.c5
  have f0 := h.blk.fz 0
  have f1 := h.blk.fz 1
  have f2 := h.blk.fz 2
  have f3 := h.blk.fz 3
  have f4 := h.blk.fz 4
  have f5 := h.blk.fz 5
  obtain ⟨aw, fn, pa, no, wi, ar⟩ := g
  simp only at *
  by_cases hk : k = 1
  · subst hk
    by_cases hf : 16 ≤ fn
    · rw [show gFunction ⟨aw, fn, pa, no, wi, ar⟩ 1 = (3, ⟨aw, fn, pa, no, wi, ar⟩) by simp [gFunction, hf]]
      go_enter Tryz.func150, Tryz.ntmps150
      go_wp2
      go_ret
      exact ⟨rfl, av, h⟩
    · rw [show gFunction ⟨aw, fn, pa, no, wi, ar⟩ 1 = (0, ⟨1, fn + 1, 0, no, wi, ar⟩) by simp [gFunction, hf]]
      go_enter Tryz.func150, Tryz.ntmps150
      go_wp2
      go_ret
      exact ⟨rfl, av, ((h.set1 _).set2 _).set0 _⟩
  · have hk' : (k == 1) = false := by simpa using hk
    rw [show gFunction ⟨aw, fn, pa, no, wi, ar⟩ k = (2, ⟨aw, fn, pa, no, wi, ar⟩) by simp [gFunction, hk]]
    clear hk
    go_enter Tryz.func150, Tryz.ntmps150
    go_wp2
    go_ret
    exact ⟨rfl, av, h⟩

set_option maxHeartbeats 400000 in
theorem sTakeParameter (B b : Nat) (g : Gr) (av : Value) (k : Int) (w0 w : World) (h : GRep B w0 w b g av) (h0 : 0 ≤ g.pa) :
    Calls Tryz.prog 151 #[.pointer (some ⟨b, 0, none⟩), .int .i64 k] w fun e w' => e = .returned (.int .i64 (gParameter g k).1) ∧ ∃ av', GRep B w0 w' b (gParameter g k).2 av' := by
  have c0 := h.blk.c0
  have c1 := h.blk.c1
  have c2 := h.blk.c2
  have c3 := h.blk.c3
  have c4 := h.blk.c4
  have c5 := h.blk.c5
  have f0 := h.blk.fz 0
  have f1 := h.blk.fz 1
  have f2 := h.blk.fz 2
  have f3 := h.blk.fz 3
  have f4 := h.blk.fz 4
  have f5 := h.blk.fz 5
  obtain ⟨aw, fn, pa, no, wi, ar⟩ := g
  simp only at *
  by_cases hk : k = 4
  · subst hk
    rw [show gParameter ⟨aw, fn, pa, no, wi, ar⟩ 4 = (0, ⟨2, fn, pa, 0, wi, ar⟩) by simp [gParameter]]
    go_enter Tryz.func151, Tryz.ntmps151
    go_wp2
    go_ret
    exact ⟨rfl, av, (h.set3 _).set0 _⟩
  · by_cases hk1 : k = 1
    · subst hk1
      by_cases hf : 6 ≤ pa
      · rw [show gParameter ⟨aw, fn, pa, no, wi, ar⟩ 1 = (3, ⟨aw, fn, pa, no, wi, ar⟩) by simp [gParameter, hf]]
        go_enter Tryz.func151, Tryz.ntmps151
        go_wp2
        go_ret
        exact ⟨rfl, av, h⟩
      · rw [show gParameter ⟨aw, fn, pa, no, wi, ar⟩ 1 = (0, ⟨aw, fn, pa + 1, no, wi, ar⟩) by simp [gParameter, hf]]
        go_enter Tryz.func151, Tryz.ntmps151
        go_wp2
        go_ret
        exact ⟨rfl, av, h.set2 _⟩
    · rw [show gParameter ⟨aw, fn, pa, no, wi, ar⟩ k = (2, ⟨aw, fn, pa, no, wi, ar⟩) by simp [gParameter, hk, hk1]]
      have hk' : (k == 4) = false := by simpa using hk
      have hk1' : (k == 1) = false := by simpa using hk1
      clear hk hk1
      go_enter Tryz.func151, Tryz.ntmps151
      go_wp2
      go_ret
      exact ⟨rfl, av, h⟩

set_option maxHeartbeats 400000 in
theorem sTakeHead (B b : Nat) (g : Gr) (av : Value) (k : Int) (w0 w : World) (h : GRep B w0 w b g av) :
    Calls Tryz.prog 152 #[.pointer (some ⟨b, 0, none⟩), .int .i64 k] w fun e w' => e = .returned (.int .i64 (gHead g k).1) ∧ ∃ av', GRep B w0 w' b (gHead g k).2 av' := by
  have c0 := h.blk.c0
  have c1 := h.blk.c1
  have c2 := h.blk.c2
  have c3 := h.blk.c3
  have c4 := h.blk.c4
  have c5 := h.blk.c5
  have f0 := h.blk.fz 0
  have f1 := h.blk.fz 1
  have f2 := h.blk.fz 2
  have f3 := h.blk.fz 3
  have f4 := h.blk.fz 4
  have f5 := h.blk.fz 5
  obtain ⟨aw, fn, pa, no, wi, ar⟩ := g
  simp only at *
  cases hs : simpleK k
  · rw [show gHead ⟨aw, fn, pa, no, wi, ar⟩ k = (2, ⟨aw, fn, pa, no, wi, ar⟩) by simp [gHead, hs]]
    go_enter Tryz.func152, Tryz.ntmps152
    go_wp2_with (go_at_call 185; refine (sIsSimple _ _).mono ?_; rintro e w' ⟨rfl, rfl⟩)
    go_ret
    exact ⟨rfl, av, h⟩
  · rw [show gHead ⟨aw, fn, pa, no, wi, ar⟩ k = (0, ⟨3, fn, pa, no, 1, ar⟩) by simp [gHead, hs]]
    go_enter Tryz.func152, Tryz.ntmps152
    go_wp2_with (go_at_call 185; refine (sIsSimple _ _).mono ?_; rintro e w' ⟨rfl, rfl⟩)
    go_ret
    exact ⟨rfl, av, (h.set4 _).set0 _⟩

end Go.Proofs.YtnndoagpbcacdaaGreatDoor
