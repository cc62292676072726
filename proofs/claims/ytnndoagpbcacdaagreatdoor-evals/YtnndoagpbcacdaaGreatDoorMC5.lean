import Derived.Test.YtnndoagpbcacdaaGreatDoorMK5
import Derived.Test.YtnndoagpbcacdaaGreatDoorR16
import Derived.Test.YtnndoagpbcacdaaGreatDoorMB0
import Derived.Test.YtnndoagpbcacdaaGreatDoorMR17
namespace Go.Proofs.YtnndoagpbcacdaaGreatDoor
open Go.RowKit

/-! The lines of an application: plain. -/
theorem unT_app (a b : At) : unT (a.app b) = unT a + unT b := by
  induction a with
  | nil => simp [At.app, unT]
  | sim t r ih => simp [At.app, unT, ih]
  | par o h c ag r ih1 ih2 =>
    by_cases hn : ag.isNil = true
    · simp [At.app, unT, hn, ih2]
    · simp [At.app, unT, hn, ih2]; omega
theorem ownT_app (f : Tk → Int × Int) (a b : At) : ∀ k, ownT f (a.app b) k = ownT f a k ++ ownT f b (k + unT a) := by
  induction a with
  | nil => intro k; simp [At.app, ownT, unT]
  | sim t r ih => intro k; simp [At.app, ownT, unT, ih]
  | par o h c ag r ih1 ih2 =>
    intro k
    by_cases hn : ag.isNil = true
    · simp [At.app, ownT, unT, hn, ih2]
    · simp only [At.app, ownT, unT, hn, Bool.false_eq_true, if_false, ih2, List.cons_append]
      rw [show k + 1 + unT ag + unT r = k + (1 + unT ag + unT r) by omega]
theorem restT_app (f : Tk → Int × Int) (a b : At) : ∀ k, restT f (a.app b) k = restT f a k ++ restT f b (k + unT a) := by
  induction a with
  | nil => intro k; simp [At.app, restT, unT]
  | sim t r ih => intro k; simp [At.app, restT, unT, ih]
  | par o h c ag r ih1 ih2 =>
    intro k
    by_cases hn : ag.isNil = true
    · simp [At.app, restT, unT, hn, ih2]
    · simp only [At.app, restT, unT, hn, Bool.false_eq_true, if_false, ih2, List.cons_append, List.append_assoc]
      rw [show k + 1 + unT ag + unT r = k + (1 + unT ag + unT r) by omega]
theorem unT_le (a : At) : unT a ≤ a.toks.length := by
  induction a with
  | nil => exact Nat.le_refl _
  | sim t r ih => simp [unT, At.toks]; omega
  | par o h c ag r ih1 ih2 =>
    by_cases hn : ag.isNil = true
    · simp [unT, At.toks, hn]; omega
    · simp [unT, At.toks, hn]; omega
theorem ownT_len (f : Tk → Int × Int) (a : At) : ∀ k, (ownT f a k).length = a.cnt := by
  induction a with
  | nil => intro k; rfl
  | sim t r ih => intro k; simp [ownT, At.cnt, ih]
  | par o h c ag r ih1 ih2 =>
    intro k
    by_cases hn : ag.isNil = true
    · simp [ownT, At.cnt, hn, ih2]
    · simp [ownT, At.cnt, hn, ih2]

set_option maxRecDepth 100000 in
set_option maxHeartbeats 4000000 in
theorem rUnder (ps names : List Tk) (S : Nat → Prop) (n : Nat) : ∀ (b : At) (xs : List Value) (lv : Value) (w : World), b.toks.length < n → n ≤ 1002 → w.ownsRow 0 212 3 lv b.cnt xs → ER w S ps names b xs →
    Calls Tryz.prog 174 #[lv] w fun e w' => e = .returned (.int .i64 (unT b)) ∧ w' = w := by
  induction n with
  | zero => intro b xs lv w h; omega
  | succ n ih =>
    intro b xs lv w hbn hn hl her
    have HIH : Hid _ := ih
    clear ih
    obtain ⟨ao, cap, rfl⟩ := own_form hl
    have hcl : b.cnt ≤ 1001 := Nat.le_trans (At.cnt_le b) (by omega)
    have hul : unT b ≤ 1001 := Nat.le_trans (unT_le b) (by omega)
    go_enter Tryz.func174, Tryz.ntmps174
    go_wp2_with fail
    go_loop [3, 4] (fun x y => ∃ (done rest : At) (m : Nat) (pre suf : List Value), Hid (done.app rest = b) ∧ y = .int .i64 m ∧ Hid (m = done.cnt) ∧ x = .int .i64 (unT done) ∧ Hid (xs = pre ++ suf) ∧ Hid (pre.length = m * 3) ∧ ER w S ps names rest suf) (fun _ y => b.cnt - (intOf y).toNat)
    case atStart => exact ⟨.nil, b, 0, [], xs, rfl, rfl, rfl, rfl, rfl, rfl, her⟩
    case round =>
      obtain ⟨done, rest, m, pre, suf, HA, rfl, HM, rfl, HXS, HPL, her2⟩ := hrel
      have hcnt : m + rest.cnt = b.cnt := by
        have := congrArg At.cnt HA.out
        rw [At.app_cnt] at this
        rw [HM.out]; exact this
      have hun : unT done ≤ 1001 := by
        have := congrArg unT HA.out
        rw [unT_app] at this
        omega
      have htl : done.toks.length + rest.toks.length = b.toks.length := by
        rw [← HA.out, At.app_toks, List.length_append]
      cases rest with
      | nil =>
        have hm2 : m = b.cnt := by simpa [At.cnt] using hcnt
        have HE : Hid (unT done = unT b) := by rw [← HA.out, At.app_nil]; exact rfl
        rw [HE.out]
        clear hcnt
        subst hm2
        go_wp2_with fail
        go_ret
        exact ⟨rfl, rfl⟩
      | sim t r =>
        obtain ⟨q, cap', hq, _, hqlt⟩ := hl.form (by simp [At.cnt] at hcnt; omega)
        cases hq
        have hlt : m < b.cnt := by simp [At.cnt] at hcnt; omega
        obtain ⟨r', hs1, her3⟩ := her2
        have c0 : w.cell? ⟨q, m * 3, none⟩ = some (.int .i64 (knownF ps names t).1) := row_cell hl _ _ (by rw [HXS.out, List.getElem?_append_right (by rw [HPL.out]; omega), HPL.out, Nat.sub_self, hs1]; rfl)
        have h5 := knownF_ne5 ps names t
        have h5' : ((knownF ps names t).1 == 5) = false := by simpa using h5
        have HA2 : Hid ((done.app (.sim t .nil)).app r = b) := by rw [← HA.out, At.app_assoc]; exact rfl
        have HU2 : Hid (unT (done.app (.sim t .nil)) = unT done) := by rw [unT_app]; simp [Hid, unT]
        have HC2 : Hid (m + 1 = (done.app (.sim t .nil)).cnt) := by rw [At.app_cnt, HM.out]; exact rfl
        have HX2 : Hid (xs = (pre ++ eC (knownF ps names t).1 (knownF ps names t).2 (.slice none 0 0)) ++ r') := by rw [HXS.out, hs1, List.append_assoc]; exact rfl
        have HP2 : Hid ((pre ++ eC (knownF ps names t).1 (knownF ps names t).2 (.slice none 0 0)).length = (m + 1) * 3) := by rw [List.length_append, HPL.out]; simp [Hid, eC]; omega
        generalize (knownF ps names t).1 = kk at *
        generalize (knownF ps names t).2 = kn at *
        clear hs1 hcnt
        go_wp2_with fail
        go_round
        case rel => exact ⟨done.app (.sim t .nil), r, m + 1, _, r', HA2, by go_num, HC2, by rw [HU2.out], HX2, HP2, her3⟩
        case measure => simp [intOf]; omega
      | par o x c ag r =>
        obtain ⟨q, cap', hq, _, hqlt⟩ := hl.form (by simp [At.cnt] at hcnt; omega)
        cases hq
        have hlt : m < b.cnt := by simp [At.cnt] at hcnt; omega
        have HA2 : Hid ((done.app (.par o x c ag .nil)).app r = b) := by rw [← HA.out, At.app_assoc]; exact rfl
        have HC2 : Hid (m + 1 = (done.app (.par o x c ag .nil)).cnt) := by rw [At.app_cnt, HM.out]; exact rfl
        rcases her2 with ⟨hnil, r', hs1, her3⟩ | ⟨hne, pv, ys, r', hs1, hpr, hps, her4, her3⟩
        · have c0 : w.cell? ⟨q, m * 3, none⟩ = some (.int .i64 (knownF ps names x).1) := row_cell hl _ _ (by rw [HXS.out, List.getElem?_append_right (by rw [HPL.out]; omega), HPL.out, Nat.sub_self, hs1]; rfl)
          have h5 := knownF_ne5 ps names x
          have h5' : ((knownF ps names x).1 == 5) = false := by simpa using h5
          have HU2 : Hid (unT (done.app (.par o x c ag .nil)) = unT done) := by rw [unT_app, hnil]; simp [Hid, unT, At.isNil]
          have HX2 : Hid (xs = (pre ++ eC (knownF ps names x).1 (knownF ps names x).2 (.slice none 0 0)) ++ r') := by rw [HXS.out, hs1, List.append_assoc]; exact rfl
          have HP2 : Hid ((pre ++ eC (knownF ps names x).1 (knownF ps names x).2 (.slice none 0 0)).length = (m + 1) * 3) := by rw [List.length_append, HPL.out]; simp [Hid, eC]; omega
          generalize (knownF ps names x).1 = kk at *
          generalize (knownF ps names x).2 = kn at *
          clear hs1 hcnt hnil
          go_wp2_with fail
          go_round
          case rel => exact ⟨done.app (.par o x c ag .nil), r, m + 1, _, r', HA2, by go_num, HC2, by rw [HU2.out], HX2, HP2, her3⟩
          case measure => simp [intOf]; omega
        · have c0 : w.cell? ⟨q, m * 3, none⟩ = some (.int .i64 5) := row_cell hl _ _ (by rw [HXS.out, List.getElem?_append_right (by rw [HPL.out]; omega), HPL.out, Nat.sub_self, hs1]; rfl)
          have c2 : w.cell? ⟨q, m * 3 + 2, none⟩ = some pv := row_cell hl _ _ (by rw [HXS.out, List.getElem?_append_right (by rw [HPL.out]; omega), HPL.out, show m * 3 + 2 - m * 3 = 2 by omega, hs1]; rfl)
          have HU2 : Hid (unT (done.app (.par o x c ag .nil)) = unT done + 1 + unT ag) := by rw [unT_app]; simp [Hid, unT, At.isNil_ne hne]; omega
          have HX2 : Hid (xs = (pre ++ eC 5 0 pv) ++ r') := by rw [HXS.out, hs1, List.append_assoc]; exact rfl
          have HP2 : Hid ((pre ++ eC 5 0 pv).length = (m + 1) * 3) := by rw [List.length_append, HPL.out]; simp [Hid, eC]; omega
          have htk : (At.sim x ag).toks.length < n := by simp [At.toks] at htl ⊢; omega
          have huag : unT ag ≤ 1001 := by have := unT_le ag; simp [At.toks] at htk; omega
          have HC : Hid _ := HIH.out (.sim x ag) (eC (knownF ps names x).1 (knownF ps names x).2 (.slice none 0 0) ++ ys) pv w htk (by omega) hpr ⟨ys, rfl, her4⟩
          obtain ⟨po, pcap, rfl⟩ := own_form hpr
          clear hs1 hcnt
          go_wp2_with fail
          refine (show Calls _ _ _ _ _ from HC.out).mono ?_
          rintro e w1 ⟨rfl, rfl⟩
          rw [show unT (.sim x ag) = unT ag from rfl]
          clear HC
          go_wp2_with fail
          go_round
          case rel => exact ⟨done.app (.par o x c ag .nil), r, m + 1, _, r', HA2, by go_num, HC2, by rw [HU2.out]; go_num, HX2, HP2, her3⟩
          case measure => simp [intOf]; omega

end Go.Proofs.YtnndoagpbcacdaaGreatDoor
namespace Go.Proofs.YtnndoagpbcacdaaGreatDoor
open Go.RowKit

/-! The lines that the program cuts are the lines of the tree. -/
theorem prim_eq {t : ByteArray} (h : 0 ≤ primL t.toList) : primP t.toList = primL t.toList := by
  unfold primL at h ⊢
  unfold primP
  split
  · rfl
  split
  · rfl
  split
  · rfl
  split
  · rfl
  split
  · rfl
  rename_i a b c d e
  simp only [a, b, c, d, e] at h
  simp at h
theorem atom_known {ds : List Df} {d : Df} {t : Tk} (hw : WT t.txt) (hs : simp3 t) (hnp : ∀ p ∈ d.ps, kindOf p.txt = 1) (hnn : ∀ e ∈ ds, kindOf e.name.txt = 1) (hu : unkT ds d.ps t = false) : atomF d.ps ds t = knownF d.ps (ds.map (·.name)) t := by
  have hk := known_num hw hs hnp hnn hu
  unfold atomF
  by_cases h2 : kindOf t.txt = 2
  · rw [if_pos h2]
    have h1 := hk.2 h2
    unfold knownF at h1 ⊢
    split
    · rename_i q; rw [if_pos q] at h1; simp at h1
    rename_i q
    rw [if_neg q] at h1
    split
    · rename_i q2; rw [if_pos q2] at h1; simp at h1
    rename_i q2
    rw [if_neg q2] at h1
    split
    · rename_i q3; rw [if_pos q3] at h1; simp at h1
    rfl
  rw [if_neg h2]
  by_cases h3 : kindOf t.txt = 3
  · rw [if_pos h3]
    have hpr := kind_prim h3
    have hp0 : 0 ≤ primL t.txt.toList := by
      refine primL_hit t.txt (hw.2.2 ?_ ?_) hpr
      · simp only [isL, decide_eq_false_iff_not]; omega
      · simp only [isD, decide_eq_false_iff_not]; omega
    unfold knownF
    rw [if_pos hp0, prim_eq hp0]
  rw [if_neg h3]
  have h1 : kindOf t.txt = 1 := by unfold simp3 at hs; omega
  have hlet := kind_name h1
  have hp0 : ¬ 0 ≤ primL t.txt.toList := by
    rw [primL_other t.txt (fun c hc e => by rw [e] at hlet; simp only [isL, decide_eq_true_eq] at hlet; omega)]; decide
  unfold knownF
  rw [if_neg hp0]
  by_cases hq : 0 ≤ whr d.ps t.txt
  · rw [if_pos hq, if_pos hq]
  rw [if_neg hq, if_neg hq]
  unfold unkT at hu
  rw [h1] at hu
  simp only [decide_true, Bool.true_and, Bool.and_eq_false_iff, Bool.not_eq_false'] at hu
  rcases hu with hu | hu
  · exact absurd (whr_pos hu) hq
  · rw [← hasP_names] at hu
    rw [if_pos (whr_pos hu)]
    rfl
theorem ownT_congr {f g : Tk → Int × Int} {a : At} (ho : a.ok) (h : ∀ t ∈ a.toks, simp3 t → f t = g t) : (∀ k, ownT f a k = ownT g a k) ∧ ∀ k, restT f a k = restT g a k := by
  induction a with
  | nil => exact ⟨fun _ => rfl, fun _ => rfl⟩
  | sim t r ih =>
    obtain ⟨i1, i2⟩ := ih ho.2 (fun t ht => h t (by simp [At.toks, ht]))
    have e := h t (by simp [At.toks]) ho.1
    exact ⟨fun k => by rw [ownT, ownT, e, i1], fun k => by rw [restT, restT, i2]⟩
  | par o x c ag r ih1 ih2 =>
    obtain ⟨_, hx, _, hag, hr⟩ := ho
    obtain ⟨i1, i2⟩ := ih1 hag (fun t ht => h t (by simp [At.toks, ht]))
    obtain ⟨j1, j2⟩ := ih2 hr (fun t ht => h t (by simp [At.toks, ht]))
    have e := h x (by simp [At.toks]) hx
    exact ⟨fun k => by simp only [ownT, e, j1], fun k => by simp only [restT, e, i1, i2, j2]⟩

end Go.Proofs.YtnndoagpbcacdaaGreatDoor
namespace Go.Proofs.YtnndoagpbcacdaaGreatDoor
open Go.RowKit

/-! The lines of a text without a fault are those of its trees. -/
def SameCut (ds : List Df) : Prop := ∀ d ∈ ds, ∀ hd a, d.body = hd :: At.toks a → simp3 hd → a.ok → ownT (knownF d.ps (ds.map (·.name))) (.sim hd a) 0 :: restT (knownF d.ps (ds.map (·.name))) (.sim hd a) 0 = cutLs d.ps ds d.body
theorem prog_more (s : ByteArray) (h : (chk s).2 = 0) : SameCut (cAll (toksF s 0)).ds ∧ ∀ d ∈ (cAll (toksF s 0)).ds, DfOk d ∧ ∀ t ∈ d.body, kindOf t.txt = 2 → t.txt.size ≤ 6 ∧ digL t.txt.data.toList := by
  have hall := prog_of s h
  obtain ⟨hs2, hpr, _, hdo, _⟩ := hall
  have hdig := toksF_dig s 0
  have hu : unkF (cAll (toksF s 0)).ds (cAll (toksF s 0)).ds = none := by
    unfold chk at h
    rw [if_neg (by omega)] at h
    split at h
    · rename_i hg; exact absurd h hg
    split at h
    · rename_i hg; exact absurd h hg
    split at h
    · rename_i hg; exact absurd h hg
    rename_i hg
    cases hu : unkF (cAll (toksF s 0)).ds (cAll (toksF s 0)).ds with
    | some p => rw [hu] at hg; simp [orErr] at hg
    | none => rfl
  generalize (cAll (toksF s 0)).ds = ds at *
  have hshq := hpr.shq
  have hwt := hpr.wt
  generalize toksF s 0 = ts at *
  have hua := unkF_all hu
  have hnm := hshq.names
  refine ⟨?_, fun d hd => ⟨hdo d hd, fun t ht h2 => ⟨(kind_num h2).2, hdig t (hshq.mem d hd t ht) (kind_num h2).1⟩⟩⟩
  intro d hd x a hb hs ha
  have hk : ∀ t ∈ d.body, simp3 t → atomF d.ps ds t = knownF d.ps (ds.map (·.name)) t := fun t ht hs =>
    atom_known (hwt t (hshq.mem d hd t ht)) hs (hnm d hd).2.1 (fun e he => (hnm e he).1) (hua d hd t ht)
  rw [hb] at hk
  have hc := ownT_congr (f := atomF d.ps ds) (g := knownF d.ps (ds.map (fun e : Df => e.name))) (a := .sim x a) ⟨hs, ha⟩ hk
  rw [hb, cut_body d.ps ds hs ha, hc.1, hc.2]

end Go.Proofs.YtnndoagpbcacdaaGreatDoor
