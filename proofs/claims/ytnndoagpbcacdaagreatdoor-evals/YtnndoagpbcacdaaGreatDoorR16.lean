import Derived.Test.YtnndoagpbcacdaaGreatDoorMR13
namespace Go.Proofs.YtnndoagpbcacdaaGreatDoor
open Go.RowKit

/-! An application as it is written: each part behind a blank. -/
def spL (ps names : List Tk) : At → List UInt8
  | .nil => []
  | .sim t r => 32 :: (wL ps names t ++ spL ps names r)
  | .par _ h _ .nil r => 32 :: (wL ps names h ++ spL ps names r)
  | .par _ h _ (.sim t g) r => 32 :: 40 :: (wL ps names h ++ (spL ps names (.sim t g) ++ 41 :: spL ps names r))
  | .par _ h _ (.par o x c g' g) r => 32 :: 40 :: (wL ps names h ++ (spL ps names (.par o x c g' g) ++ 41 :: spL ps names r))
theorem spL_par {ps names : List Tk} {o h c : Tk} {ag r : At} (hne : ag ≠ .nil) : spL ps names (.par o h c ag r) = 32 :: 40 :: (wL ps names h ++ (spL ps names ag ++ 41 :: spL ps names r)) := by
  cases ag with
  | nil => exact absurd rfl hne
  | sim t g => exact spL.eq_4 ..
  | par o x c g' g => exact spL.eq_5 ..
theorem spL_app (ps names : List Tk) (a b : At) : spL ps names (a.app b) = spL ps names a ++ spL ps names b := by
  induction a with
  | nil => rfl
  | sim t r ih => simp [At.app, spL, ih]
  | par o h c ag r ih1 ih2 =>
    by_cases hn : ag = .nil
    · subst hn; simp [At.app, spL, ih2]
    · rw [At.app, spL_par hn, spL_par hn, ih2]; simp
theorem wL_len (ps names : List Tk) {t : Tk} (h : WT t.txt) : (wL ps names t).length ≤ 1000 := by
  have h2 := h.2.1
  rw [size_len] at h2
  unfold wL
  split
  · exact Nat.le_trans (dropZ_le _) h2
  · exact h2
theorem spL_len (ps names : List Tk) (a : At) (h : ∀ t ∈ a.toks, WT t.txt) : (spL ps names a).length ≤ 1003 * a.toks.length := by
  induction a with
  | nil => exact Nat.le_refl _
  | sim t r ih =>
    have h1 := wL_len ps names (h t (by simp [At.toks]))
    have h2 := ih (fun t ht => h t (by simp [At.toks, ht]))
    simp [At.toks, spL]; omega
  | par o x c ag r ih1 ih2 =>
    have h1 := wL_len ps names (h x (by simp [At.toks]))
    have h2 := ih2 (fun t ht => h t (by simp [At.toks, ht]))
    have h3 := ih1 (fun t ht => h t (by simp [At.toks, ht]))
    by_cases hn : ag = .nil
    · subst hn; simp [At.toks, spL]; omega
    · rw [spL_par hn]; simp [At.toks]; omega

theorem knownF_ne5 (ps names : List Tk) (t : Tk) : (knownF ps names t).1 ≠ 5 := by
  unfold knownF
  repeat' split
  all_goals simp
theorem spL_ne {ps names : List Tk} {a : At} (h : a ≠ .nil) : ∃ c r, spL ps names a = c :: r := by
  cases a with
  | nil => exact absurd rfl h
  | sim t r => exact ⟨_, _, rfl⟩
  | par o x c ag r =>
    by_cases hn : ag = .nil
    · subst hn; exact ⟨_, _, rfl⟩
    · rw [spL_par hn]; exact ⟨_, _, rfl⟩
theorem sp_more {ps names : List Tk} {done : At} {sx : ByteArray} (h : sx.data.toList = (spL ps names done).drop 1) (hm : 0 < done.cnt) : ∀ X : List UInt8, (spL ps names done ++ 32 :: X).drop 1 = (sx ++ ⟨#[32]⟩).data.toList ++ X := by
  intro X
  obtain ⟨c, r, hc⟩ := spL_ne (ps := ps) (names := names) (a := done) (fun e => by rw [e] at hm; simp [At.cnt] at hm)
  rw [toL_append, h, hc]; simp
theorem sp_first {ps names : List Tk} {done : At} {sx : ByteArray} (h : sx.data.toList = (spL ps names done).drop 1) (hm : ¬ 0 < done.cnt) : ∀ X : List UInt8, (spL ps names done ++ 32 :: X).drop 1 = sx.data.toList ++ X := by
  intro X
  have : done = .nil := by
    cases done with
    | nil => rfl
    | sim t r => simp [At.cnt] at hm
    | par o x c ag r => simp [At.cnt] at hm
  subst this
  rw [h]; simp [spL]
theorem ER.drew {w : World} {ps names : List Tk} {a : At} {xs : List Value} (h : ER w (fun k => k < w.heap.size) ps names a xs) : ER w.drew (fun k => k < w.drew.heap.size) ps names a xs :=
  ER.keep (fun _ _ => by rw [heap_drew]) (fun k hk => by rw [heap_drew]; exact hk) h
theorem ER.later {w w' : World} {ps names : List Tk} {a : At} {xs : List Value} (hb : Below w.heap.size w w') (h : ER w (fun k => k < w.heap.size) ps names a xs) : ER w' (fun k => k < w'.heap.size) ps names a xs :=
  ER.keep (fun k hk => hb.block k hk) (fun _ hk => Nat.lt_of_lt_of_le hk hb.size) h
theorem FList.drew {w : World} {T : Nat} {names : List Tk} {ds : List Df} {xs : List Value} (h : FList w T names ds xs) : FList w.drew T names ds xs := h.keep (Below.drew (Below.refl _ _))

set_option maxRecDepth 100000 in
set_option maxHeartbeats 4000000 in
theorem rShown (nm : ByteArray) (ps names : List Tk) (ds : List Df) (psv bv allv : Value) (ys : List Value) (T : Nat) (hlp : ps.length ≤ 1000) (hld : ds.length ≤ 1000) (hnm : names = ds.map (·.name)) (n : Nat) :
    ∀ (h : Tk) (a : At) (xs : List Value) (lv : Value) (w : World), T ≤ w.heap.size → a.toks.length < n → n ≤ 1001 → (∀ t ∈ h :: a.toks, WT t.txt) → simp3 h → a.ok → (∀ t ∈ h :: a.toks, simp3 t → (knownF ps names t).1 = 1 → t.txt.size ≤ 6 ∧ digL t.txt.data.toList) →
      w.ownsRow 0 9 1 psv ps.length (strs ps) → w.ownsRow 0 149 3 allv ds.length ys → FList w T names ds ys →
      w.ownsRow 0 212 3 lv (a.cnt + 1) xs → ER w (fun k => k < w.heap.size) ps names (.sim h a) xs →
    Calls Tryz.prog 87 #[lv, .agg #[.string nm, psv, bv], allv] w fun e w' => ∃ x : ByteArray, e = .returned (.string x) ∧ x.data.toList = wL ps names h ++ spL ps names a ∧ Below w.heap.size w w' := by
  induction n with
  | zero => intro h a xs lv w hT han; omega
  | succ n ih =>
    intro h a xs lv w hT han hn hwt hsh hok hnum hp ha hf hl her
    have HIH : Hid _ := ih
    have HWT : Hid _ := hwt
    have HNUM : Hid _ := hnum
    have HNM : Hid _ := hnm
    clear ih hwt hnum hnm
    have hwl : ∀ d e : At, d.app e = .sim h a → d.toks ++ e.toks = h :: a.toks := by
      intro d e hde
      rw [← At.app_toks, hde]; rfl
    have hcl : a.cnt ≤ 1001 := Nat.le_trans (At.cnt_le a) (by omega)
    obtain ⟨q, cap, rfl, _, hqlt⟩ := hl.form (by omega)
    obtain ⟨po, pcap, rfl⟩ := own_form hp
    obtain ⟨ao, acap, rfl⟩ := own_form ha
    go_enter Tryz.func87, Tryz.ntmps87
    go_wp2_with fail
    go_loopw [7, 8] (fun x y wr => ∃ (done rest : At) (m : Nat) (sx : ByteArray) (pre suf : List Value), Hid (done.app rest = .sim h a) ∧ y = .int .i64 m ∧ Hid (m = done.cnt) ∧ x = .string sx ∧ Hid (sx.data.toList = (spL ps names done).drop 1) ∧ Hid (xs = pre ++ suf) ∧ Hid (pre.length = m * 3) ∧ ER w (fun k => k < w.heap.size) ps names rest suf ∧ Below w.heap.size w wr ∧ wr.heap[w.heap.size]? = some (.cells #[.string nm, .slice po ps.length pcap, bv] 149 (0, 0))) (fun _ y _ => a.cnt + 1 - (intOf y).toNat)
    case atStart => exact ⟨.nil, .sim h a, 0, _, [], xs, rfl, rfl, rfl, rfl, rfl, rfl, rfl, her, (Below.refl _ _).alloc (Nat.le_refl _) _, heap_alloc_new w _⟩
    case round =>
      obtain ⟨done, rest, m, sx, pre, suf, HA, rfl, HM, rfl, HSX, HXS, HPL, her2, hb, hbox⟩ := hrel
      have hbsz := hb.size
      have hwlt : w.heap.size < wr.heap.size := (Array.getElem?_eq_some_iff.1 hbox).1
      have B0 := cell_of_row wr w.heap.size 0 _ _ _ hbox
      have B1 := cell_of_row wr w.heap.size 1 _ _ _ hbox
      have B2 := cell_of_row wr w.heap.size 2 _ _ _ hbox
      simp only [List.getElem?_toArray, List.getElem?_cons_succ, List.getElem?_cons_zero] at B0 B1 B2
      have hlr := ownsRow_old hl hb
      have hpr := ownsRow_old hp hb
      have har := ownsRow_old ha hb
      have hfr := hf.keep (hb.mono hT)
      have hT2 : T ≤ wr.heap.size := by omega
      have hrok : rest.ok := (At.app_ok (a := done) (b := rest) (by rw [HA.out]; exact ⟨hsh, hok⟩)).2
      have HTL : Hid (done.toks ++ rest.toks = h :: a.toks) := hwl _ _ HA.out
      have hcnt : m + rest.cnt = a.cnt + 1 := by
        have := congrArg At.cnt HA.out
        rw [At.app_cnt] at this
        rw [HM.out]; exact this
      have hsx : sx.size ≤ 2000000 := by
        have h1 : sx.size = ((spL ps names done).drop 1).length := by rw [size_len, HSX.out]
        have h2 := spL_len ps names done (fun t ht => HWT.out t (by rw [← HTL.out]; simp [ht]))
        have h3 := congrArg List.length HTL.out
        simp at h1 h3
        omega
      have hcell : ∀ j v, suf[j]? = some v → wr.cell? ⟨q, m * 3 + j, none⟩ = some v := by
        intro j v hj
        have : xs[m * 3 + j]? = some v := by
          rw [HXS.out, List.getElem?_append_right (by rw [HPL.out]; omega), HPL.out, show m * 3 + j - m * 3 = j by omega]; exact hj
        have := row_cell hlr _ _ this
        exact this
      cases rest with
      | nil =>
        have hmc : m = a.cnt + 1 := by simpa [At.cnt] using hcnt
        have HE : Hid (sx.data.toList = wL ps names h ++ spL ps names a) := by
          show _ = _
          have : done = .sim h a := by have := HA.out; rw [At.app_nil] at this; exact this
          rw [HSX.out, this]; rfl
        have hml : ¬ (m : Int) < (a.cnt : Int) + 1 := by omega
        clear hcell
        go_wp2_with fail
        go_ret
        exact ⟨_, rfl, HE.out, hb⟩
      | sim t r2 =>
        obtain ⟨r', hs', her3⟩ := her2
        have x0 := hcell 0 _ (by rw [hs']; rfl)
        have x1 := hcell 1 _ (by rw [hs']; rfl)
        have x2 := hcell 2 _ (by rw [hs']; rfl)
        simp only [Nat.add_zero] at x0
        have k5 := knownF_ne5 ps names t
        have k5' : ((knownF ps names t).1 == 5) = false := by simpa using k5
        have htm : t ∈ h :: a.toks := by rw [← HTL.out]; simp [At.toks]
        have hw := HWT.out t htm
        have HC : Hid _ := rWord t nm ps names ds (.slice po ps.length pcap) bv (.slice ao ds.length acap) ys T wr.drew hlp hld HNM.out hw (HNUM.out t htm hrok.1) (World.ownsRow.drew hpr) (World.ownsRow.drew har) hfr.drew
        have hm1 : (m : Int) < (a.cnt : Int) + 1 := by simp [At.cnt] at hcnt; omega
        have HS' : Hid _ := hs'
        clear hcell hs' k5
        have hsy : ∀ sy : ByteArray, (∀ X : List UInt8, (spL ps names done ++ 32 :: X).drop 1 = sy.data.toList ++ X) → ∀ y : ByteArray, y.data.toList = wL ps names t → (sy ++ y).data.toList = (spL ps names (done.app (.sim t .nil))).drop 1 := by
          intro sy hy y hyy
          rw [toL_append, hyy, spL_app, spL, hy]; simp [spL]
        have HSY : Hid _ := hsy
        clear hsy
        by_cases hm0 : (0 : Int) < (m : Int)
        · have HS : Hid (∀ X : List UInt8, (spL ps names done ++ 32 :: X).drop 1 = (sx ++ ⟨#[32]⟩).data.toList ++ X) := sp_more HSX.out (by rw [← HM.out]; omega)
          go_wp2_with fail
          go_cut [10] (fun vx wc => ∃ y : ByteArray, vx = .string y ∧ y.data.toList = wL ps names t ∧ y.size ≤ 2000000 ∧ Below w.heap.size w wc ∧ wc.heap[w.heap.size]? = some (.cells #[.string nm, .slice po ps.length pcap, bv] 149 (0, 0)))
          case first =>
            go_region_with (go_at_call 133; go_must (refine (show Calls _ _ _ _ _ from HC.out).mono ?_); rintro e w1 ⟨y, rfl, hy, hys, hb1⟩)
            all_goals
              go_wp2_with fail
              go_meet
              case rel => exact ⟨y, rfl, hy, Nat.le_trans hys (by decide), hb.trans ((Below.drew (Below.refl _ _)).trans (hb1.mono (by simp [heap_drew]; omega))), (hb1.block _ (by rw [heap_drew]; exact hwlt)).trans hbox⟩
          case rest =>
            obtain ⟨y, hx, hy, hys, hbc, hboxc⟩ := hcut
            rw [hx]
            clear hx
            have HY : Hid _ := HSY.out _ HS.out y hy
            clear hy
            have hsum : (sx ++ ⟨#[32]⟩ : ByteArray).size ≤ 2000001 := by rw [ByteArray.size_append]; simp only [ByteArray.size]; simp; omega
            go_wp2_with fail
            go_roundw
            case rel =>
              refine ⟨done.app (.sim t .nil), r2, m + 1, _, pre ++ eC (knownF ps names t).1 (knownF ps names t).2 (.slice none 0 0), r', ?_, by go_num, ?_, rfl, HY, ?_, ?_, her3, hbc, hboxc⟩
              · show _ = _
                rw [At.app_assoc]; exact HA.out
              · show _ = _
                rw [At.app_cnt, HM.out]; rfl
              · show _ = _
                rw [List.append_assoc, ← HS'.out]; exact HXS.out
              · show _ = _
                rw [List.length_append, HPL.out]; simp [eC]; omega
            case measure => simp [intOf]; omega
        · have HS : Hid (∀ X : List UInt8, (spL ps names done ++ 32 :: X).drop 1 = sx.data.toList ++ X) := sp_first HSX.out (by rw [← HM.out]; omega)
          go_wp2_with fail
          go_cut [10] (fun vx wc => ∃ y : ByteArray, vx = .string y ∧ y.data.toList = wL ps names t ∧ y.size ≤ 2000000 ∧ Below w.heap.size w wc ∧ wc.heap[w.heap.size]? = some (.cells #[.string nm, .slice po ps.length pcap, bv] 149 (0, 0)))
          case first =>
            go_region_with (go_at_call 133; go_must (refine (show Calls _ _ _ _ _ from HC.out).mono ?_); rintro e w1 ⟨y, rfl, hy, hys, hb1⟩)
            all_goals
              go_wp2_with fail
              go_meet
              case rel => exact ⟨y, rfl, hy, Nat.le_trans hys (by decide), hb.trans ((Below.drew (Below.refl _ _)).trans (hb1.mono (by simp [heap_drew]; omega))), (hb1.block _ (by rw [heap_drew]; exact hwlt)).trans hbox⟩
          case rest =>
            obtain ⟨y, hx, hy, hys, hbc, hboxc⟩ := hcut
            rw [hx]
            clear hx
            have HY : Hid _ := HSY.out _ HS.out y hy
            clear hy
            go_wp2_with fail
            go_roundw
            case rel =>
              refine ⟨done.app (.sim t .nil), r2, m + 1, _, pre ++ eC (knownF ps names t).1 (knownF ps names t).2 (.slice none 0 0), r', ?_, by go_num, ?_, rfl, HY, ?_, ?_, her3, hbc, hboxc⟩
              · show _ = _
                rw [At.app_assoc]; exact HA.out
              · show _ = _
                rw [At.app_cnt, HM.out]; rfl
              · show _ = _
                rw [List.append_assoc, ← HS'.out]; exact HXS.out
              · show _ = _
                rw [List.length_append, HPL.out]; simp [eC]; omega
            case measure => simp [intOf]; omega
      | par o x c ag r2 =>
        rcases her2 with ⟨rfl, r', hs', her3⟩ | ⟨hag, pv, zs, r', hs', hpo, hplt, her4, her3⟩
        · have x0 := hcell 0 _ (by rw [hs']; rfl)
          have x1 := hcell 1 _ (by rw [hs']; rfl)
          have x2 := hcell 2 _ (by rw [hs']; rfl)
          simp only [Nat.add_zero] at x0
          have k5 := knownF_ne5 ps names x
          have k5' : ((knownF ps names x).1 == 5) = false := by simpa using k5
          have htm : x ∈ h :: a.toks := by rw [← HTL.out]; simp [At.toks]
          have hw := HWT.out x htm
          have HC : Hid _ := rWord x nm ps names ds (.slice po ps.length pcap) bv (.slice ao ds.length acap) ys T wr.drew hlp hld HNM.out hw (HNUM.out x htm hrok.2.1) (World.ownsRow.drew hpr) (World.ownsRow.drew har) hfr.drew
          have hm1 : (m : Int) < (a.cnt : Int) + 1 := by simp [At.cnt] at hcnt; omega
          have HS' : Hid _ := hs'
          clear hcell hs' k5
          have hsy : ∀ sy : ByteArray, (∀ X : List UInt8, (spL ps names done ++ 32 :: X).drop 1 = sy.data.toList ++ X) → ∀ y : ByteArray, y.data.toList = wL ps names x → (sy ++ y).data.toList = (spL ps names (done.app (.par o x c .nil .nil))).drop 1 := by
            intro sy hy y hyy
            rw [toL_append, hyy, spL_app, spL, hy]; simp [spL]
          have HSY : Hid _ := hsy
          clear hsy
          by_cases hm0 : (0 : Int) < (m : Int)
          · have HS : Hid (∀ X : List UInt8, (spL ps names done ++ 32 :: X).drop 1 = (sx ++ ⟨#[32]⟩).data.toList ++ X) := sp_more HSX.out (by rw [← HM.out]; omega)
            go_wp2_with fail
            go_cut [10] (fun vx wc => ∃ y : ByteArray, vx = .string y ∧ y.data.toList = wL ps names x ∧ y.size ≤ 2000000 ∧ Below w.heap.size w wc ∧ wc.heap[w.heap.size]? = some (.cells #[.string nm, .slice po ps.length pcap, bv] 149 (0, 0)))
            case first =>
              go_region_with (go_at_call 133; go_must (refine (show Calls _ _ _ _ _ from HC.out).mono ?_); rintro e w1 ⟨y, rfl, hy, hys, hb1⟩)
              all_goals
                go_wp2_with fail
                go_meet
                case rel => exact ⟨y, rfl, hy, Nat.le_trans hys (by decide), hb.trans ((Below.drew (Below.refl _ _)).trans (hb1.mono (by simp [heap_drew]; omega))), (hb1.block _ (by rw [heap_drew]; exact hwlt)).trans hbox⟩
            case rest =>
              obtain ⟨y, hx, hy, hys, hbc, hboxc⟩ := hcut
              rw [hx]
              clear hx
              have HY : Hid _ := HSY.out _ HS.out y hy
              clear hy
              have hsum : (sx ++ ⟨#[32]⟩ : ByteArray).size ≤ 2000001 := by rw [ByteArray.size_append]; simp only [ByteArray.size]; simp; omega
              go_wp2_with fail
              go_roundw
              case rel =>
                refine ⟨done.app (.par o x c .nil .nil), r2, m + 1, _, pre ++ eC (knownF ps names x).1 (knownF ps names x).2 (.slice none 0 0), r', ?_, by go_num, ?_, rfl, HY, ?_, ?_, her3, hbc, hboxc⟩
                · show _ = _
                  rw [At.app_assoc]; exact HA.out
                · show _ = _
                  rw [At.app_cnt, HM.out]; rfl
                · show _ = _
                  rw [List.append_assoc, ← HS'.out]; exact HXS.out
                · show _ = _
                  rw [List.length_append, HPL.out]; simp [eC]; omega
              case measure => simp [intOf]; omega
          · have HS : Hid (∀ X : List UInt8, (spL ps names done ++ 32 :: X).drop 1 = sx.data.toList ++ X) := sp_first HSX.out (by rw [← HM.out]; omega)
            go_wp2_with fail
            go_cut [10] (fun vx wc => ∃ y : ByteArray, vx = .string y ∧ y.data.toList = wL ps names x ∧ y.size ≤ 2000000 ∧ Below w.heap.size w wc ∧ wc.heap[w.heap.size]? = some (.cells #[.string nm, .slice po ps.length pcap, bv] 149 (0, 0)))
            case first =>
              go_region_with (go_at_call 133; go_must (refine (show Calls _ _ _ _ _ from HC.out).mono ?_); rintro e w1 ⟨y, rfl, hy, hys, hb1⟩)
              all_goals
                go_wp2_with fail
                go_meet
                case rel => exact ⟨y, rfl, hy, Nat.le_trans hys (by decide), hb.trans ((Below.drew (Below.refl _ _)).trans (hb1.mono (by simp [heap_drew]; omega))), (hb1.block _ (by rw [heap_drew]; exact hwlt)).trans hbox⟩
            case rest =>
              obtain ⟨y, hx, hy, hys, hbc, hboxc⟩ := hcut
              rw [hx]
              clear hx
              have HY : Hid _ := HSY.out _ HS.out y hy
              clear hy
              go_wp2_with fail
              go_roundw
              case rel =>
                refine ⟨done.app (.par o x c .nil .nil), r2, m + 1, _, pre ++ eC (knownF ps names x).1 (knownF ps names x).2 (.slice none 0 0), r', ?_, by go_num, ?_, rfl, HY, ?_, ?_, her3, hbc, hboxc⟩
                · show _ = _
                  rw [At.app_assoc]; exact HA.out
                · show _ = _
                  rw [At.app_cnt, HM.out]; rfl
                · show _ = _
                  rw [List.append_assoc, ← HS'.out]; exact HXS.out
                · show _ = _
                  rw [List.length_append, HPL.out]; simp [eC]; omega
              case measure => simp [intOf]; omega
        · have x0 := hcell 0 _ (by rw [hs']; rfl)
          have x1 := hcell 1 _ (by rw [hs']; rfl)
          have x2 := hcell 2 _ (by rw [hs']; rfl)
          simp only [Nat.add_zero] at x0
          have hagl : ag.toks.length < n := by have h3 := congrArg List.length HTL.out; simp [At.toks] at h3; omega
          have hsub : ∀ t ∈ x :: ag.toks, t ∈ h :: a.toks := by
            intro t ht
            rw [← HTL.out]
            rcases List.mem_cons.1 ht with rfl | ht <;> simp [At.toks, *]
          have HC : Hid _ := HIH.out x ag (eC (knownF ps names x).1 (knownF ps names x).2 (.slice none 0 0) ++ zs) pv wr.drew (by rw [heap_drew]; exact hT2) hagl (by omega) (fun t ht => HWT.out t (hsub t ht)) hrok.2.1 hrok.2.2.2.1 (fun t ht => HNUM.out t (hsub t ht)) (World.ownsRow.drew hpr) (World.ownsRow.drew har) hfr.drew (World.ownsRow.drew (ownsRow_below hpo hb hplt)) (ER.drew (ER.later hb (show ER w (fun k => k < w.heap.size) ps names (.sim x ag) _ from ⟨zs, rfl, her4⟩)))
          have HLL : Hid ((wL ps names x ++ spL ps names ag).length ≤ 2000000) := by
            show _ ≤ _
            have h1 := wL_len ps names (HWT.out x (hsub x (by simp)))
            have h2 := spL_len ps names ag (fun t ht => HWT.out t (hsub t (by simp [ht])))
            rw [List.length_append]; omega
          have hm1 : (m : Int) < (a.cnt : Int) + 1 := by simp [At.cnt] at hcnt; omega
          have HS' : Hid _ := hs'
          clear hcell hs' hsub
          have hsy : ∀ sy : ByteArray, (∀ X : List UInt8, (spL ps names done ++ 32 :: X).drop 1 = sy.data.toList ++ X) → ∀ y : ByteArray, y.data.toList = wL ps names x ++ spL ps names ag → (sy ++ ⟨#[40]⟩ ++ y ++ ⟨#[41]⟩).data.toList = (spL ps names (done.app (.par o x c ag .nil))).drop 1 := by
            intro sy hy y hyy
            rw [toL_append, toL_append, toL_append, hyy, spL_app, spL_par hag, hy]; simp [spL]
          have HSY : Hid _ := hsy
          clear hsy
          by_cases hm0 : (0 : Int) < (m : Int)
          · have HS : Hid (∀ X : List UInt8, (spL ps names done ++ 32 :: X).drop 1 = (sx ++ ⟨#[32]⟩).data.toList ++ X) := sp_more HSX.out (by rw [← HM.out]; omega)
            go_wp2_with fail
            go_cut [9] (fun vx wc => ∃ y : ByteArray, vx = .string y ∧ y.data.toList = wL ps names x ++ spL ps names ag ∧ y.size ≤ 2000000 ∧ Below w.heap.size w wc ∧ wc.heap[w.heap.size]? = some (.cells #[.string nm, .slice po ps.length pcap, bv] 149 (0, 0)))
            case first =>
              go_region_with (go_at_call 87; go_must (refine (show Calls _ _ _ _ _ from HC.out).mono ?_); rintro e w1 ⟨y, rfl, hy, hb1⟩)
              all_goals
                go_wp2_with fail
                go_meet
                case rel => exact ⟨y, rfl, hy, by rw [size_len, hy]; exact HLL.out, hb.trans ((Below.drew (Below.refl _ _)).trans (hb1.mono (by simp [heap_drew]; omega))), (hb1.block _ (by rw [heap_drew]; exact hwlt)).trans hbox⟩
            case rest =>
              obtain ⟨y, hx, hy, hys, hbc, hboxc⟩ := hcut
              rw [hx]
              clear hx
              have HY : Hid _ := HSY.out _ HS.out y hy
              clear hy
              have hsum : (sx ++ ⟨#[32]⟩ : ByteArray).size ≤ 2000001 := by rw [ByteArray.size_append]; simp only [ByteArray.size]; simp; omega
              go_wp2_with fail
              go_roundw
              case rel =>
                refine ⟨done.app (.par o x c ag .nil), r2, m + 1, _, pre ++ eC 5 0 pv, r', ?_, by go_num, ?_, rfl, HY, ?_, ?_, her3, hbc, hboxc⟩
                · show _ = _
                  rw [At.app_assoc]; exact HA.out
                · show _ = _
                  rw [At.app_cnt, HM.out]; rfl
                · show _ = _
                  rw [List.append_assoc, ← HS'.out]; exact HXS.out
                · show _ = _
                  rw [List.length_append, HPL.out]; simp [eC]; omega
              case measure => simp [intOf]; omega
          · have HS : Hid (∀ X : List UInt8, (spL ps names done ++ 32 :: X).drop 1 = sx.data.toList ++ X) := sp_first HSX.out (by rw [← HM.out]; omega)
            go_wp2_with fail
            go_cut [9] (fun vx wc => ∃ y : ByteArray, vx = .string y ∧ y.data.toList = wL ps names x ++ spL ps names ag ∧ y.size ≤ 2000000 ∧ Below w.heap.size w wc ∧ wc.heap[w.heap.size]? = some (.cells #[.string nm, .slice po ps.length pcap, bv] 149 (0, 0)))
            case first =>
              go_region_with (go_at_call 87; go_must (refine (show Calls _ _ _ _ _ from HC.out).mono ?_); rintro e w1 ⟨y, rfl, hy, hb1⟩)
              all_goals
                go_wp2_with fail
                go_meet
                case rel => exact ⟨y, rfl, hy, by rw [size_len, hy]; exact HLL.out, hb.trans ((Below.drew (Below.refl _ _)).trans (hb1.mono (by simp [heap_drew]; omega))), (hb1.block _ (by rw [heap_drew]; exact hwlt)).trans hbox⟩
            case rest =>
              obtain ⟨y, hx, hy, hys, hbc, hboxc⟩ := hcut
              rw [hx]
              clear hx
              have HY : Hid _ := HSY.out _ HS.out y hy
              clear hy
              go_wp2_with fail
              go_roundw
              case rel =>
                refine ⟨done.app (.par o x c ag .nil), r2, m + 1, _, pre ++ eC 5 0 pv, r', ?_, by go_num, ?_, rfl, HY, ?_, ?_, her3, hbc, hboxc⟩
                · show _ = _
                  rw [At.app_assoc]; exact HA.out
                · show _ = _
                  rw [At.app_cnt, HM.out]; rfl
                · show _ = _
                  rw [List.append_assoc, ← HS'.out]; exact HXS.out
                · show _ = _
                  rw [List.length_append, HPL.out]; simp [eC]; omega
              case measure => simp [intOf]; omega

end Go.Proofs.YtnndoagpbcacdaaGreatDoor
