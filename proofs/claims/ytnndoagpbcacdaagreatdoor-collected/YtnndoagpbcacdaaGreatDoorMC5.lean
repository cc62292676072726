import Derived.Test.YtnndoagpbcacdaaGreatDoorR16
import Derived.Test.YtnndoagpbcacdaaGreatDoorMB0
import Derived.Laws.AppendOwnNone
namespace Go.Proofs.YtnndoagpbcacdaaGreatDoor
open Go.RowKit

/-! The lines of an application: plain. -/
def At.isNil : At → Bool
  | .nil => true
  | _ => false
theorem At.isNil_iff {a : At} : a.isNil = true ↔ a = .nil := by cases a <;> simp [At.isNil]
theorem At.isNil_ne {a : At} (h : a ≠ .nil) : a.isNil = false := by cases a <;> simp_all [At.isNil]
def unT : At → Nat
  | .nil => 0
  | .sim _ r => unT r
  | .par _ _ _ ag r => if ag.isNil then unT r else 1 + unT ag + unT r
def ownT (f : Tk → Int × Int) : At → Nat → Ln
  | .nil, _ => []
  | .sim t r, k => f t :: ownT f r k
  | .par _ h _ ag r, k => if ag.isNil then f h :: ownT f r k else (5, (k : Int)) :: ownT f r (k + 1 + unT ag)
def restT (f : Tk → Int × Int) : At → Nat → List Ln
  | .nil, _ => []
  | .sim _ r, k => restT f r k
  | .par _ h _ ag r, k => if ag.isNil then restT f r k else (f h :: ownT f ag (k + 1)) :: (restT f ag (k + 1) ++ restT f r (k + 1 + unT ag))
theorem restT_len (f : Tk → Int × Int) (a : At) : ∀ k, (restT f a k).length = unT a := by
  induction a with
  | nil => intro k; rfl
  | sim t r ih => intro k; exact ih k
  | par o h c ag r ih1 ih2 =>
    intro k
    by_cases hn : ag.isNil = true
    · simp [restT, unT, hn, ih2]
    · simp [restT, unT, hn, ih1, ih2]; omega
theorem unT_app (a b : At) : unT (a.app b) = unT a + unT b := by
  induction a with
  | nil => simp [At.app, unT]
  | sim t r ih => simp [At.app, unT, ih]
  | par o h c ag r ih1 ih2 =>
    by_cases hn : ag.isNil = true
    · simp [At.app, unT, hn, ih2]
    · simp [At.app, unT, hn, ih2]; omega
theorem ownT_app (f : Tk → Int × Int) (a b : At) : ∀ k, ownT f (a.app b) k = ownT f a k ++ ownT f b (k + unT a) := by
  induction a with
  | nil => intro k; simp [At.app, ownT, unT]
  | sim t r ih => intro k; simp [At.app, ownT, unT, ih]
  | par o h c ag r ih1 ih2 =>
    intro k
    by_cases hn : ag.isNil = true
    · simp [At.app, ownT, unT, hn, ih2]
    · simp only [At.app, ownT, unT, hn, Bool.false_eq_true, if_false, ih2, List.cons_append]
      rw [show k + 1 + unT ag + unT r = k + (1 + unT ag + unT r) by omega]
theorem restT_app (f : Tk → Int × Int) (a b : At) : ∀ k, restT f (a.app b) k = restT f a k ++ restT f b (k + unT a) := by
  induction a with
  | nil => intro k; simp [At.app, restT, unT]
  | sim t r ih => intro k; simp [At.app, restT, unT, ih]
  | par o h c ag r ih1 ih2 =>
    intro k
    by_cases hn : ag.isNil = true
    · simp [At.app, restT, unT, hn, ih2]
    · simp only [At.app, restT, unT, hn, Bool.false_eq_true, if_false, ih2, List.cons_append, List.append_assoc]
      rw [show k + 1 + unT ag + unT r = k + (1 + unT ag + unT r) by omega]
theorem unT_le (a : At) : unT a ≤ a.toks.length := by
  induction a with
  | nil => exact Nat.le_refl _
  | sim t r ih => simp [unT, At.toks]; omega
  | par o h c ag r ih1 ih2 =>
    by_cases hn : ag.isNil = true
    · simp [unT, At.toks, hn]; omega
    · simp [unT, At.toks, hn]; omega
theorem ownT_len (f : Tk → Int × Int) (a : At) : ∀ k, (ownT f a k).length = a.cnt := by
  induction a with
  | nil => intro k; rfl
  | sim t r ih => intro k; simp [ownT, At.cnt, ih]
  | par o h c ag r ih1 ih2 =>
    intro k
    by_cases hn : ag.isNil = true
    · simp [ownT, At.cnt, hn, ih2]
    · simp [ownT, At.cnt, hn, ih2]

set_option maxRecDepth 100000 in
set_option maxHeartbeats 4000000 in
theorem rUnder (ps names : List Tk) (S : Nat → Prop) (n : Nat) : ∀ (b : At) (xs : List Value) (lv : Value) (w : World), b.toks.length < n → n ≤ 1002 → w.ownsRow 0 212 3 lv b.cnt xs → ER w S ps names b xs →
    Calls Tryz.prog 174 #[lv] w fun e w' => e = .returned (.int .i64 (unT b)) ∧ w' = w := by
  induction n with
  | zero => intro b xs lv w h; omega
  | succ n ih =>
    intro b xs lv w hbn hn hl her
    have HIH : Hid _ := ih
    clear ih
    obtain ⟨ao, cap, rfl⟩ := own_form hl
    have hcl : b.cnt ≤ 1001 := Nat.le_trans (At.cnt_le b) (by omega)
    have hul : unT b ≤ 1001 := Nat.le_trans (unT_le b) (by omega)
    go_enter Tryz.func174, Tryz.ntmps174
    go_wp2_with fail
    go_loop [3, 4] (fun x y => ∃ (done rest : At) (m : Nat) (pre suf : List Value), Hid (done.app rest = b) ∧ y = .int .i64 m ∧ Hid (m = done.cnt) ∧ x = .int .i64 (unT done) ∧ Hid (xs = pre ++ suf) ∧ Hid (pre.length = m * 3) ∧ ER w S ps names rest suf) (fun _ y => b.cnt - (intOf y).toNat)
    case atStart => exact ⟨.nil, b, 0, [], xs, rfl, rfl, rfl, rfl, rfl, rfl, her⟩
    case round =>
      obtain ⟨done, rest, m, pre, suf, HA, rfl, HM, rfl, HXS, HPL, her2⟩ := hrel
      have hcnt : m + rest.cnt = b.cnt := by
        have := congrArg At.cnt HA.out
        rw [At.app_cnt] at this
        rw [HM.out]; exact this
      have hun : unT done ≤ 1001 := by
        have := congrArg unT HA.out
        rw [unT_app] at this
        omega
      have htl : done.toks.length + rest.toks.length = b.toks.length := by
        rw [← HA.out, At.app_toks, List.length_append]
      cases rest with
      | nil =>
        have hm2 : m = b.cnt := by simpa [At.cnt] using hcnt
        have HE : Hid (unT done = unT b) := by rw [← HA.out, At.app_nil]; exact rfl
        rw [HE.out]
        clear hcnt
        subst hm2
        go_wp2_with fail
        go_ret
        exact ⟨rfl, rfl⟩
      | sim t r =>
        obtain ⟨q, cap', hq, _, hqlt⟩ := hl.form (by simp [At.cnt] at hcnt; omega)
        cases hq
        have hlt : m < b.cnt := by simp [At.cnt] at hcnt; omega
        obtain ⟨r', hs1, her3⟩ := her2
        have c0 : w.cell? ⟨q, m * 3, none⟩ = some (.int .i64 (knownF ps names t).1) := row_cell hl _ _ (by rw [HXS.out, List.getElem?_append_right (by rw [HPL.out]; omega), HPL.out, Nat.sub_self, hs1]; rfl)
        have h5 := knownF_ne5 ps names t
        have h5' : ((knownF ps names t).1 == 5) = false := by simpa using h5
        have HA2 : Hid ((done.app (.sim t .nil)).app r = b) := by rw [← HA.out, At.app_assoc]; exact rfl
        have HU2 : Hid (unT (done.app (.sim t .nil)) = unT done) := by rw [unT_app]; simp [Hid, unT]
        have HC2 : Hid (m + 1 = (done.app (.sim t .nil)).cnt) := by rw [At.app_cnt, HM.out]; exact rfl
        have HX2 : Hid (xs = (pre ++ eC (knownF ps names t).1 (knownF ps names t).2 (.slice none 0 0)) ++ r') := by rw [HXS.out, hs1, List.append_assoc]; exact rfl
        have HP2 : Hid ((pre ++ eC (knownF ps names t).1 (knownF ps names t).2 (.slice none 0 0)).length = (m + 1) * 3) := by rw [List.length_append, HPL.out]; simp [Hid, eC]; omega
        generalize (knownF ps names t).1 = kk at *
        generalize (knownF ps names t).2 = kn at *
        clear hs1 hcnt
        go_wp2_with fail
        go_round
        case rel => exact ⟨done.app (.sim t .nil), r, m + 1, _, r', HA2, by go_num, HC2, by rw [HU2.out], HX2, HP2, her3⟩
        case measure => simp [intOf]; omega
      | par o x c ag r =>
        obtain ⟨q, cap', hq, _, hqlt⟩ := hl.form (by simp [At.cnt] at hcnt; omega)
        cases hq
        have hlt : m < b.cnt := by simp [At.cnt] at hcnt; omega
        have HA2 : Hid ((done.app (.par o x c ag .nil)).app r = b) := by rw [← HA.out, At.app_assoc]; exact rfl
        have HC2 : Hid (m + 1 = (done.app (.par o x c ag .nil)).cnt) := by rw [At.app_cnt, HM.out]; exact rfl
        rcases her2 with ⟨hnil, r', hs1, her3⟩ | ⟨hne, pv, ys, r', hs1, hpr, hps, her4, her3⟩
        · have c0 : w.cell? ⟨q, m * 3, none⟩ = some (.int .i64 (knownF ps names x).1) := row_cell hl _ _ (by rw [HXS.out, List.getElem?_append_right (by rw [HPL.out]; omega), HPL.out, Nat.sub_self, hs1]; rfl)
          have h5 := knownF_ne5 ps names x
          have h5' : ((knownF ps names x).1 == 5) = false := by simpa using h5
          have HU2 : Hid (unT (done.app (.par o x c ag .nil)) = unT done) := by rw [unT_app, hnil]; simp [Hid, unT, At.isNil]
          have HX2 : Hid (xs = (pre ++ eC (knownF ps names x).1 (knownF ps names x).2 (.slice none 0 0)) ++ r') := by rw [HXS.out, hs1, List.append_assoc]; exact rfl
          have HP2 : Hid ((pre ++ eC (knownF ps names x).1 (knownF ps names x).2 (.slice none 0 0)).length = (m + 1) * 3) := by rw [List.length_append, HPL.out]; simp [Hid, eC]; omega
          generalize (knownF ps names x).1 = kk at *
          generalize (knownF ps names x).2 = kn at *
          clear hs1 hcnt hnil
          go_wp2_with fail
          go_round
          case rel => exact ⟨done.app (.par o x c ag .nil), r, m + 1, _, r', HA2, by go_num, HC2, by rw [HU2.out], HX2, HP2, her3⟩
          case measure => simp [intOf]; omega
        · have c0 : w.cell? ⟨q, m * 3, none⟩ = some (.int .i64 5) := row_cell hl _ _ (by rw [HXS.out, List.getElem?_append_right (by rw [HPL.out]; omega), HPL.out, Nat.sub_self, hs1]; rfl)
          have c2 : w.cell? ⟨q, m * 3 + 2, none⟩ = some pv := row_cell hl _ _ (by rw [HXS.out, List.getElem?_append_right (by rw [HPL.out]; omega), HPL.out, show m * 3 + 2 - m * 3 = 2 by omega, hs1]; rfl)
          have HU2 : Hid (unT (done.app (.par o x c ag .nil)) = unT done + 1 + unT ag) := by rw [unT_app]; simp [Hid, unT, At.isNil_ne hne]; omega
          have HX2 : Hid (xs = (pre ++ eC 5 0 pv) ++ r') := by rw [HXS.out, hs1, List.append_assoc]; exact rfl
          have HP2 : Hid ((pre ++ eC 5 0 pv).length = (m + 1) * 3) := by rw [List.length_append, HPL.out]; simp [Hid, eC]; omega
          have htk : (At.sim x ag).toks.length < n := by simp [At.toks] at htl ⊢; omega
          have huag : unT ag ≤ 1001 := by have := unT_le ag; simp [At.toks] at htk; omega
          have HC : Hid _ := HIH.out (.sim x ag) (eC (knownF ps names x).1 (knownF ps names x).2 (.slice none 0 0) ++ ys) pv w htk (by omega) hpr ⟨ys, rfl, her4⟩
          obtain ⟨po, pcap, rfl⟩ := own_form hpr
          clear hs1 hcnt
          go_wp2_with fail
          refine (show Calls _ _ _ _ _ from HC.out).mono ?_
          rintro e w1 ⟨rfl, rfl⟩
          rw [show unT (.sim x ag) = unT ag from rfl]
          clear HC
          go_wp2_with fail
          go_round
          case rel => exact ⟨done.app (.par o x c ag .nil), r, m + 1, _, r', HA2, by go_num, HC2, by rw [HU2.out]; go_num, HX2, HP2, her3⟩
          case measure => simp [intOf]; omega

end Go.Proofs.YtnndoagpbcacdaaGreatDoor
namespace Go.Proofs.YtnndoagpbcacdaaGreatDoor
open Go.RowKit

/-- What 'lines' holds at a round's head. -/
structure LR (w wr : World) (ov rv : Value) (O : Ln) (R : List Ln) (vs : List Value) : Prop where
  bel : Below w.heap.size w wr
  orow : wr.ownsRow w.heap.size 75 2 ov O.length (acs O)
  rrow : wr.ownsRow w.heap.size 76 1 rv R.length vs
  rows : RowsAt wr w.heap.size (fun k => ov.ownBlock ≠ some k) vs R
  nil : R = [] → rv = .slice none 0 0
theorem LR.len {w wr : World} {ov rv : Value} {O : Ln} {R : List Ln} {vs : List Value} (h : LR w wr ov rv O R vs) : vs.length = R.length := by have := h.rrow.1; simpa using this
theorem LR.old {w wr wx : World} {ov rv : Value} {O : Ln} {R : List Ln} {vs : List Value} (h : LR w wr ov rv O R vs) (hb : Below wr.heap.size wr wx) : LR w wx ov rv O R vs :=
  ⟨h.bel.trans (hb.mono h.bel.size), ownsRow_old h.orow hb, ownsRow_old h.rrow hb, h.rows.old hb (fun _ _ h => h), h.nil⟩
theorem LR.pushO {w wr wx : World} {ov rv : Value} {O : Ln} {R : List Ln} {vs : List Value} {a : Int × Int} {g cap H : Nat} (h : LR w wr ov rv O R vs)
    (hown : wx.ownsRow w.heap.size 75 2 (.slice (some ⟨g, 0, none⟩) (O.length + 1) cap) (O.length + 1) (acs O ++ [.int .i64 a.1, .int .i64 a.2])) (hgrow : wr.grownBy wx ov.ownBlock) (hat : ov.ownBlock = some g ∨ g = H) (hH : wr.heap.size = H) :
    LR w wx (.slice (some ⟨g, 0, none⟩) (O.length + 1) cap) rv (O ++ [a]) R vs := by
  refine ⟨h.bel.grown hgrow h.bel.size (fun k hk => (h.orow.lt k hk).1), by rw [List.length_append, acs_snoc]; exact hown, own_grown_type h.orow hgrow (by decide) h.rrow, ?_, h.nil⟩
  refine h.rows.kept hgrow (fun k hk => hk) (fun k hlt hk => ?_)
  simp only [Value.ownBlock]
  intro e
  cases e
  rcases hat with hat | hat
  · exact hk hat
  · omega
theorem LR.pushR {w wr wx : World} {ov rv nv : Value} {O : Ln} {R M : List Ln} {vs us : List Value} {W0 : Nat} (h : LR w wr ov rv O R vs) (hW : ∀ k, ov.ownBlock = some k → k < W0) (hM : RowsAt wr W0 (fun _ => True) us M) (hW2 : w.heap.size ≤ W0) (hne : M ≠ [])
    (hown : wx.ownsRow w.heap.size 76 1 nv (R.length + M.length) (vs ++ us)) (hgrow : wr.grownBy wx rv.ownBlock) :
    LR w wx ov nv O (R ++ M) (vs ++ us) := by
  refine ⟨h.bel.grown hgrow h.bel.size (fun k hk => (h.rrow.lt k hk).1), own_grown_type h.rrow hgrow (by decide) h.orow, by rw [List.length_append]; exact hown, ?_, fun e => absurd (List.append_eq_nil_iff.1 e).2 hne⟩
  refine RowsAt.app h.len (h.rows.type h.rrow hgrow (fun _ h => h)) ?_
  have : RowsAt wr w.heap.size (fun k => ov.ownBlock ≠ some k) us M := by
    intro j hj
    obtain ⟨v, e1, e2, _⟩ := hM j hj
    refine ⟨v, e1, ownsRow_base e2 hW2, fun k hk e => ?_⟩
    have h1 := (e2.lt k hk).1
    have h2 := hW k e
    omega
  exact this.type h.rrow hgrow (fun _ h => h)

end Go.Proofs.YtnndoagpbcacdaaGreatDoor
namespace Go.Proofs.YtnndoagpbcacdaaGreatDoor
open Go.RowKit

set_option maxRecDepth 100000 in
set_option maxHeartbeats 8000000 in
theorem rLines (ps names : List Tk) (n : Nat) : ∀ (b : At) (xs : List Value) (lv : Value) (k : Nat) (w : World), b.toks.length < n → n ≤ 1002 → k + b.toks.length ≤ 5000 → w.ownsRow 0 212 3 lv b.cnt xs → ER w (fun k => k < w.heap.size) ps names b xs →
    Calls Tryz.prog 134 #[lv, .int .i64 k] w fun e w' => ∃ v, e = .returned v ∧ Below w.heap.size w w' ∧ LinesB w' w.heap.size v (ownT (knownF ps names) b k :: restT (knownF ps names) b k) := by
  induction n with
  | zero => intro b xs lv k w h; omega
  | succ n ih =>
    intro b xs lv k w hbn hn hkb hl her
    have HIH : Hid _ := ih
    clear ih
    obtain ⟨ao, cap, rfl⟩ := own_form hl
    obtain ⟨i, hi, hz0, hz1, hz2⟩ := info_parts Tryz.infoAtom
    obtain ⟨i2, hi2, hy0, hy1, hy2⟩ := info_parts Tryz.infoLine
    have hcl : b.cnt ≤ 1001 := Nat.le_trans (At.cnt_le b) (by omega)
    have hul : unT b ≤ 1001 := Nat.le_trans (unT_le b) (by omega)
    go_enter Tryz.func134, Tryz.ntmps134
    go_wp2_with fail
    go_loopw [1, 5, 6, 7] (fun kk ov rv y wr => ∃ (done rest : At) (m : Nat) (pre suf : List Value) (vs : List Value), Hid (done.app rest = b) ∧ y = .int .i64 m ∧ Hid (m = done.cnt) ∧ kk = .int .i64 ((k + unT done : Nat) : Int) ∧ Hid (xs = pre ++ suf) ∧ Hid (pre.length = m * 3) ∧ ER w (fun k => k < w.heap.size) ps names rest suf ∧ LR w wr ov rv (ownT (knownF ps names) done k) (restT (knownF ps names) done k) vs) (fun _ _ _ y _ => b.cnt - (intOf y).toNat)
    case atStart => exact ⟨.nil, b, 0, [], xs, [], rfl, rfl, rfl, rfl, rfl, rfl, her, ⟨Below.refl _ _, World.ownsRow_nil _ _ _ _, World.ownsRow_nil _ _ _ _, fun j hj => by simp [restT] at hj, fun _ => rfl⟩⟩
    case round =>
      obtain ⟨done, rest, m, pre, suf, vs, HA, rfl, HM, rfl, HXS, HPL, her2, hlr⟩ := hrel
      obtain ⟨K, hK⟩ : ∃ K, K = k + unT done := ⟨_, rfl⟩
      have HK : Hid (K = k + unT done) := hK
      rw [← hK]
      have hK5 : K ≤ 7000 := by have := unT_le done; have := congrArg List.length (congrArg At.toks HA.out); rw [At.app_toks, List.length_append] at this; omega
      clear hK
      have hb := hlr.bel
      have hbsz := hb.size
      have hcnt : m + rest.cnt = b.cnt := by
        have := congrArg At.cnt HA.out
        rw [At.app_cnt] at this
        rw [HM.out]; exact this
      have hun : unT done + unT rest = unT b := by
        have := congrArg unT HA.out
        rw [unT_app] at this
        exact this
      have htl : done.toks.length + rest.toks.length = b.toks.length := by
        rw [← HA.out, At.app_toks, List.length_append]
      have hol : (ownT (knownF ps names) done k).length ≤ 1001 := by rw [ownT_len, ← HM.out]; omega
      have hrl : (restT (knownF ps names) done k).length ≤ 1001 := by rw [restT_len]; omega
      have hudl := unT_le done
      have hlw := ownsRow_old hl hb
      obtain ⟨oo, ocap, hov⟩ := own_form hlr.orow
      obtain ⟨ro, rcap, hrv⟩ := own_form hlr.rrow
      subst hov hrv
      cases rest with
      | nil =>
        have hm2 : m = b.cnt := by simpa [At.cnt] using hcnt
        have hdb : done = b := by have := HA.out; rw [At.app_nil] at this; exact this
        subst hdb
        have HU0 : Hid _ := restT_len (knownF ps names) done k
        generalize hO : ownT (knownF ps names) done k = O at *
        generalize hRR : restT (knownF ps names) done k = RR at *
        have HO : Hid (ownT (knownF ps names) done k = O) := hO
        have HRR : Hid (restT (knownF ps names) done k = RR) := hRR
        clear hO hRR
        clear htl hcnt hun HA HM HXS HPL her2 her hlw hl
        have hml : ¬ m < done.cnt := by omega
        have hlit : (wr.alloc (Obj.cells #[.slice oo O.length ocap] 76)).ownsRow w.heap.size 76 1 (.slice (some ⟨wr.heap.size, 0, none⟩) 1 1) 1 [.slice oo O.length ocap] := World.ownsRow_lit wr #[.slice oo O.length ocap] 1 hbsz (by unfold maxLen; omega) rfl
        have hlrA := hlr.old ((Below.refl _ _).alloc (Nat.le_refl _) (Obj.cells #[.slice oo O.length ocap] 76))
        by_cases hR : RR = []
        · have hrv := hlr.nil hR
          rw [hrv]
          have HLB : Hid (LinesB (wr.alloc (Obj.cells #[.slice oo O.length ocap] 76)) w.heap.size (.slice (some ⟨wr.heap.size, 0, none⟩) 1 1) (O :: RR)) := by
            rw [hR]
            refine ⟨[.slice oo O.length ocap], hlit, fun j hj => ?_⟩
            have hj0 : j = 0 := by simpa using hj
            subst hj0
            exact ⟨_, rfl, hlrA.orow, fun _ _ => trivial⟩
          clear hR hrv hlr
          go_wp2_with (at_builtin; go_must (refine wpList_append_own_none rfl _ _ _ rfl w.heap.size 76 i2 1 Tryz.underlying50 hi2 (.slice (some ⟨wr.heap.size, 0, none⟩) 1 1) 1 [.slice oo O.length ocap] rfl ?hownE rfl ?_))
          case hownE => exact hlit
          go_wp2_with fail
          go_ret
          exact ⟨_, rfl, hlrA.bel, by rw [HO.out, HRR.out]; exact HLB.out⟩
        · have hRl : 0 < RR.length := List.length_pos_iff.2 hR
          obtain ⟨mg, mc, hmq, hmg, hmglt⟩ := hlrA.rrow.form hRl
          cases hmq
          go_wp2_with (at_builtin; go_must (refine wpList_append_lies _ rfl _ _ _ rfl w.heap.size 76 i2 _ 1 24 Tryz.underlying50 hi2 hy0 hy1 hy2 rfl (by omega) (.slice (some ⟨wr.heap.size, 0, none⟩) 1 1) 1 [.slice oo O.length ocap] rfl ?hownE _ RR.length _ vs rfl ?hlE ?hnewsE ?h1E (by omega) ?h63E ?hbytesE ?hbaseE _ rfl ?_))
          case hownE => exact hlit
          case hlE => rw [hlr.len, Nat.mul_one]
          case hnewsE => exact fun j u hu => hlrA.rrow.cells (g := mg) rfl j u hu
          case h1E => exact RowsAt.one hlr.rows hlr.len
          case h63E => unfold maxLen; omega
          case hbytesE => omega
          case hbaseE => simp; omega
          intro g4 cap4 w4 hown4 hgrow4 hat4 hlt4
          have HLB : Hid (LinesB w4 w.heap.size (.slice (some ⟨g4, 0, none⟩) (1 + RR.length) cap4) (O :: RR)) := by
            refine ⟨[.slice oo O.length ocap] ++ vs, by rw [List.length_cons, Nat.add_comm RR.length 1]; exact hown4, ?_⟩
            refine RowsAt.app (L := [O]) (M := RR) rfl (fun j hj => ?_) (hlrA.rows.type hlit hgrow4 (fun _ _ => trivial))
            have hj0 : j = 0 := by simpa using hj
            subst hj0
            exact ⟨_, rfl, own_grown_type hlit hgrow4 (by decide) hlrA.orow, fun _ _ => trivial⟩
          have hb4 : Below w.heap.size w w4 := hlrA.bel.grown hgrow4 (by simp; omega) (fun k hk => (hlit.lt k hk).1)
          clear hown4 hgrow4 hat4
          go_wp2_with fail
          go_ret
          exact ⟨_, rfl, hb4, by rw [HO.out, HRR.out]; exact HLB.out⟩
      | sim t r =>
        obtain ⟨q, cap', hq, _, hqlt⟩ := hlw.form (by simp [At.cnt] at hcnt; omega)
        cases hq
        have hlt : m < b.cnt := by simp [At.cnt] at hcnt; omega
        obtain ⟨r', hs1, her3⟩ := her2
        have c0 : wr.cell? ⟨q, m * 3, none⟩ = some (.int .i64 (knownF ps names t).1) := row_cell hlw _ _ (by rw [HXS.out, List.getElem?_append_right (by rw [HPL.out]; omega), HPL.out, Nat.sub_self, hs1]; rfl)
        have c1 : wr.cell? ⟨q, m * 3 + 1, none⟩ = some (.int .i64 (knownF ps names t).2) := row_cell hlw _ _ (by rw [HXS.out, List.getElem?_append_right (by rw [HPL.out]; omega), HPL.out, show m * 3 + 1 - m * 3 = 1 by omega, hs1]; rfl)
        have h5 := knownF_ne5 ps names t
        have h5' : ((knownF ps names t).1 == 5) = false := by simpa using h5
        have HA2 : Hid ((done.app (.sim t .nil)).app r = b) := by rw [← HA.out, At.app_assoc]; exact rfl
        have HU2 : Hid (unT (done.app (.sim t .nil)) = unT done) := by rw [unT_app]; simp [Hid, unT]
        have HO2 : Hid (ownT (knownF ps names) (done.app (.sim t .nil)) k = ownT (knownF ps names) done k ++ [((knownF ps names t).1, (knownF ps names t).2)]) := by rw [ownT_app]; exact rfl
        have HR2 : Hid (restT (knownF ps names) (done.app (.sim t .nil)) k = restT (knownF ps names) done k) := by rw [restT_app]; simp [Hid, restT]
        have HC2 : Hid (m + 1 = (done.app (.sim t .nil)).cnt) := by rw [At.app_cnt, HM.out]; exact rfl
        have HX2 : Hid (xs = (pre ++ eC (knownF ps names t).1 (knownF ps names t).2 (.slice none 0 0)) ++ r') := by rw [HXS.out, hs1, List.append_assoc]; exact rfl
        have HP2 : Hid ((pre ++ eC (knownF ps names t).1 (knownF ps names t).2 (.slice none 0 0)).length = (m + 1) * 3) := by rw [List.length_append, HPL.out]; simp [Hid, eC]; omega
        generalize hk1 : (knownF ps names t).1 = kk at *
        generalize hk2 : (knownF ps names t).2 = kn at *
        clear hs1 hcnt hk1 hk2
        generalize ownT (knownF ps names) done k = O at *
        generalize restT (knownF ps names) done k = RR at *
        have HLR : Hid _ := (hlr.old ((Below.refl _ _).alloc (Nat.le_refl _) (Obj.cells #[.int .i64 kk, .int .i64 kn] 75))).old (Below.drew (Below.refl _ _))
        have HRW : Hid _ := World.ownsRow.drew (hlr.orow.alloc (Obj.cells #[.int .i64 kk, .int .i64 kn] 75))
        go_wp2_with fail
        go_region_law ((refine step_append_lies _ (by rfl) _ _ _ (by rfl) w.heap.size 75 i _ 2 16 Tryz.underlying76 hi hz0 hz1 hz2 rfl (by omega) (.slice oo O.length ocap) O.length (acs O) (by rfl) (by exact HRW.out) _ 1 _ [.int .i64 kk, .int .i64 kn] (by rfl) rfl (by exact World.news_of_block (heap_alloc_new wr _)) (by simp [Value.oneCell']) (by omega) (by unfold maxLen; omega) (by omega) (by simp; omega) _ rfl ?_; intro g cap2 w2 hown2 hgrow hat hlt2; have HL2 : Hid _ := LR.pushO (a := (kk, kn)) HLR.out hown2 hgrow hat rfl; clear hown2 hgrow hat hlt2))
        all_goals
          go_wp2_with fail
          go_roundw
          case rel => exact ⟨done.app (.sim t .nil), r, m + 1, _, r', vs, HA2, by go_num, HC2, by rw [HU2.out, ← HK.out], HX2, HP2, her3, by rw [HO2.out, HR2.out]; exact HL2.out⟩
          case measure => simp [intOf]; omega
      | par o x c ag r =>
        obtain ⟨q, cap', hq, _, hqlt⟩ := hlw.form (by simp [At.cnt] at hcnt; omega)
        cases hq
        have hlt : m < b.cnt := by simp [At.cnt] at hcnt; omega
        rcases her2 with ⟨hnil, r', hs1, her3⟩ | ⟨hne, pv, ys, r', hs1, hpr, hps, her4, her3⟩
        · have c0 : wr.cell? ⟨q, m * 3, none⟩ = some (.int .i64 (knownF ps names x).1) := row_cell hlw _ _ (by rw [HXS.out, List.getElem?_append_right (by rw [HPL.out]; omega), HPL.out, Nat.sub_self, hs1]; rfl)
          have c1 : wr.cell? ⟨q, m * 3 + 1, none⟩ = some (.int .i64 (knownF ps names x).2) := row_cell hlw _ _ (by rw [HXS.out, List.getElem?_append_right (by rw [HPL.out]; omega), HPL.out, show m * 3 + 1 - m * 3 = 1 by omega, hs1]; rfl)
          have h5 := knownF_ne5 ps names x
          have h5' : ((knownF ps names x).1 == 5) = false := by simpa using h5
          have HA2 : Hid ((done.app (.par o x c ag .nil)).app r = b) := by rw [← HA.out, At.app_assoc]; exact rfl
          have HU2 : Hid (unT (done.app (.par o x c ag .nil)) = unT done) := by rw [unT_app, hnil]; simp [Hid, unT, At.isNil]
          have HO2 : Hid (ownT (knownF ps names) (done.app (.par o x c ag .nil)) k = ownT (knownF ps names) done k ++ [((knownF ps names x).1, (knownF ps names x).2)]) := by rw [ownT_app, hnil]; exact rfl
          have HR2 : Hid (restT (knownF ps names) (done.app (.par o x c ag .nil)) k = restT (knownF ps names) done k) := by rw [restT_app, hnil]; simp [Hid, restT, At.isNil]
          have HC2 : Hid (m + 1 = (done.app (.par o x c ag .nil)).cnt) := by rw [At.app_cnt, HM.out]; exact rfl
          have HX2 : Hid (xs = (pre ++ eC (knownF ps names x).1 (knownF ps names x).2 (.slice none 0 0)) ++ r') := by rw [HXS.out, hs1, List.append_assoc]; exact rfl
          have HP2 : Hid ((pre ++ eC (knownF ps names x).1 (knownF ps names x).2 (.slice none 0 0)).length = (m + 1) * 3) := by rw [List.length_append, HPL.out]; simp [Hid, eC]; omega
          generalize hk1 : (knownF ps names x).1 = kk at *
          generalize hk2 : (knownF ps names x).2 = kn at *
          clear hs1 hcnt hk1 hk2 hnil
          generalize ownT (knownF ps names) done k = O at *
          generalize restT (knownF ps names) done k = RR at *
          have HLR : Hid _ := (hlr.old ((Below.refl _ _).alloc (Nat.le_refl _) (Obj.cells #[.int .i64 kk, .int .i64 kn] 75))).old (Below.drew (Below.refl _ _))
          have HRW : Hid _ := World.ownsRow.drew (hlr.orow.alloc (Obj.cells #[.int .i64 kk, .int .i64 kn] 75))
          go_wp2_with fail
          go_region_law ((refine step_append_lies _ (by rfl) _ _ _ (by rfl) w.heap.size 75 i _ 2 16 Tryz.underlying76 hi hz0 hz1 hz2 rfl (by omega) (.slice oo O.length ocap) O.length (acs O) (by rfl) (by exact HRW.out) _ 1 _ [.int .i64 kk, .int .i64 kn] (by rfl) rfl (by exact World.news_of_block (heap_alloc_new wr _)) (by simp [Value.oneCell']) (by omega) (by unfold maxLen; omega) (by omega) (by simp; omega) _ rfl ?_; intro g cap2 w2 hown2 hgrow hat hlt2; have HL2 : Hid _ := LR.pushO (a := (kk, kn)) HLR.out hown2 hgrow hat rfl; clear hown2 hgrow hat hlt2))
          all_goals
            go_wp2_with fail
            go_roundw
            case rel => exact ⟨done.app (.par o x c ag .nil), r, m + 1, _, r', vs, HA2, by go_num, HC2, by rw [HU2.out, ← HK.out], HX2, HP2, her3, by rw [HO2.out, HR2.out]; exact HL2.out⟩
            case measure => simp [intOf]; omega
        · have c0 : wr.cell? ⟨q, m * 3, none⟩ = some (.int .i64 5) := row_cell hlw _ _ (by rw [HXS.out, List.getElem?_append_right (by rw [HPL.out]; omega), HPL.out, Nat.sub_self, hs1]; rfl)
          have HX2C : Hid (xs[m * 3 + 2]? = some pv) := by show _ = _; rw [HXS.out, List.getElem?_append_right (by rw [HPL.out]; omega), HPL.out, show m * 3 + 2 - m * 3 = 2 by omega, hs1]; rfl
          have HA2 : Hid ((done.app (.par o x c ag .nil)).app r = b) := by rw [← HA.out, At.app_assoc]; exact rfl
          have HU2 : Hid (unT (done.app (.par o x c ag .nil)) = unT done + 1 + unT ag) := by rw [unT_app]; simp [Hid, unT, At.isNil_ne hne]; omega
          have HO2 : Hid (ownT (knownF ps names) (done.app (.par o x c ag .nil)) k = ownT (knownF ps names) done k ++ [(5, (K : Int))]) := by rw [ownT_app, ← HK.out]; simp [Hid, ownT, At.isNil_ne hne]
          have HR2 : Hid (restT (knownF ps names) (done.app (.par o x c ag .nil)) k = restT (knownF ps names) done k ++ (ownT (knownF ps names) (.sim x ag) (K + 1) :: restT (knownF ps names) (.sim x ag) (K + 1))) := by rw [restT_app, ← HK.out]; simp [Hid, restT, ownT, At.isNil_ne hne]
          have HC2 : Hid (m + 1 = (done.app (.par o x c ag .nil)).cnt) := by rw [At.app_cnt, HM.out]; exact rfl
          have HX2 : Hid (xs = (pre ++ eC 5 0 pv) ++ r') := by rw [HXS.out, hs1, List.append_assoc]; exact rfl
          have HP2 : Hid ((pre ++ eC 5 0 pv).length = (m + 1) * 3) := by rw [List.length_append, HPL.out]; simp [Hid, eC]; omega
          have htk : (At.sim x ag).toks.length < n := by simp [At.toks] at htl ⊢; omega
          have htk2 : (K + 1) + (At.sim x ag).toks.length ≤ 5000 := by have := HK.out; have := unT_le done; simp [At.toks] at htl ⊢; omega
          have huag : unT ag ≤ 1001 := by have := unT_le ag; simp [At.toks] at htk; omega
          have HML : Hid ((ownT (knownF ps names) (.sim x ag) (K + 1) :: restT (knownF ps names) (.sim x ag) (K + 1)).length = unT ag + 1) := by rw [List.length_cons, restT_len]; exact rfl
          have HCL : Hid _ := fun wx (hbx : Below w.heap.size w wx) => HIH.out (.sim x ag) (eC (knownF ps names x).1 (knownF ps names x).2 (.slice none 0 0) ++ ys) pv (K + 1) wx htk (by omega) htk2 (ownsRow_old hpr hbx) ⟨ys, rfl, ER.later hbx her4⟩
          have HCU : Hid _ := fun wx (hbx : Below w.heap.size w wx) => rUnder ps names (fun k => k < wx.heap.size) 1002 (.sim x ag) (eC (knownF ps names x).1 (knownF ps names x).2 (.slice none 0 0) ++ ys) pv wx (by omega) (by omega) (ownsRow_old hpr hbx) ⟨ys, rfl, ER.later hbx her4⟩
          have HKE : Hid (((K + 1 : Nat) : Int) = (K : Int) + 1) := by show _ = _; omega
          rw [HKE.out] at HCL
          obtain ⟨po, pcap, rfl⟩ := own_form hpr
          have HER3 : Hid _ := her3
          have HL : Hid _ := hl
          generalize ownT (knownF ps names) done k = O at *
          generalize restT (knownF ps names) done k = RR at *
          generalize (ownT (knownF ps names) (.sim x ag) (K + 1) :: restT (knownF ps names) (.sim x ag) (K + 1)) = M at *
          clear hs1 hcnt her3 her4 hps hpr hlw htk htk2 htl
          have hml1 : M.length ≤ 1002 := by have := HML.out; omega
          have hml0 : 0 < M.length := by have := HML.out; omega
          go_wp2_with (at_builtin; go_must (refine wpList_append_lies _ rfl _ _ _ rfl w.heap.size 75 i _ 2 16 Tryz.underlying76 hi hz0 hz1 hz2 rfl (by omega) (.slice oo O.length ocap) O.length (acs O) rfl ?hownA _ 1 _ [.int .i64 5, .int .i64 K] rfl rfl ?hnewsA ?h1A (by omega) ?h63A ?hbytesA ?hbaseA _ rfl ?_))
          case hownA => exact hlr.orow.alloc _
          case hnewsA => exact World.news_of_block (heap_alloc_new wr _)
          case h1A => simp [Value.oneCell']
          case h63A => unfold maxLen; omega
          case hbytesA => omega
          case hbaseA => simp; omega
          intro g cap2 w2 hown2 hgrow2 hat2 hlt2
          have hlr2 := LR.pushO (a := (5, (K : Int))) (hlr.old ((Below.refl _ _).alloc (Nat.le_refl _) _)) hown2 hgrow2 hat2 (by simp)
          clear hown2 hgrow2 hat2
          have hb2 := hlr2.bel
          have c2 := row_cell (ownsRow_old HL.out hb2) _ _ HX2C.out
          clear c0
          go_wp2_with fail
          refine (show Calls _ _ _ _ _ from HCL.out w2 hb2).mono ?_
          rintro e w3 ⟨mv, rfl, hb3, us, hmrow, hmrows⟩
          clear HCL c2
          obtain ⟨mg, mc, rfl, hmg, hmglt⟩ := hmrow.form (by omega)
          have hlr3 := hlr2.old hb3
          have husl : us.length = M.length := by have := hmrow.1; simpa using this
          have hb3' := hlr3.bel
          go_wp2_with (at_builtin; go_must (refine wpList_append_lies _ rfl _ _ _ rfl w.heap.size 76 i2 _ 1 24 Tryz.underlying50 hi2 hy0 hy1 hy2 rfl (by omega) (.slice ro RR.length rcap) RR.length vs rfl ?hownB _ M.length _ us rfl ?hlB ?hnewsB ?h1B (by omega) ?h63B ?hbytesB ?hbaseB _ rfl ?_))
          case hownB => exact hlr3.rrow
          case hlB => rw [husl, Nat.mul_one]
          case hnewsB => exact fun j u hu => hmrow.cells (g := mg) rfl j u hu
          case h1B => exact RowsAt.one hmrows husl
          case h63B => unfold maxLen; omega
          case hbytesB => omega
          case hbaseB => exact hb3'.size
          intro g4 cap4 w4 hown4 hgrow4 hat4 hlt4
          have hlr4 := LR.pushR hlr3 (W0 := w2.heap.size) (fun k hk => (hlr2.orow.lt k hk).2) hmrows (by exact hb2.size) (fun e => by rw [e] at hml0; simp at hml0) hown4 hgrow4
          clear hown4 hgrow4 hat4 hmrows hmrow
          have hb4 := hlr4.bel
          have c4 := row_cell (ownsRow_old HL.out hb4) _ _ HX2C.out
          go_wp2_with fail
          refine (show Calls _ _ _ _ _ from HCU.out w4 hb4).mono ?_
          rintro e w5 ⟨rfl, rfl⟩
          rw [show unT (.sim x ag) = unT ag from rfl]
          clear HCU c4
          go_wp2_with fail
          go_roundw
          case rel => exact ⟨done.app (.par o x c ag .nil), r, m + 1, _, r', vs ++ us, HA2, by go_num, HC2, congrArg (Value.int .i64) (by rw [HU2.out]; have := HK.out; omega), HX2, HP2, HER3.out, by rw [HO2.out, HR2.out]; exact hlr4⟩
          case measure => simp [intOf]; omega

end Go.Proofs.YtnndoagpbcacdaaGreatDoor
