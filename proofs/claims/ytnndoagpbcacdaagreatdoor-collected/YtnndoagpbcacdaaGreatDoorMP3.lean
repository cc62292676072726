import Derived.Test.YtnndoagpbcacdaaGreatDoorMK4
import Derived.Test.YtnndoagpbcacdaaGreatDoorMC5
import Derived.Test.YtnndoagpbcacdaaGreatDoorMC3
import Derived.Test.YtnndoagpbcacdaaGreatDoorK7
namespace Go.Proofs.YtnndoagpbcacdaaGreatDoor
open Go.RowKit

/-! The lines that the program cuts are the lines of the tree. -/
def addL (L : List Ln) (n : Nat) (X : Ln) : List Ln := L.set n (L[n]?.getD [] ++ X)
theorem addL_len (L : List Ln) (n : Nat) (X : Ln) : (addL L n X).length = L.length := by simp [addL]
theorem addL_nil (L : List Ln) (n : Nat) (h : n < L.length) : addL L n [] = L := by
  unfold addL
  rw [List.getElem?_eq_getElem h, Option.getD_some, List.append_nil, List.set_getElem_self]
theorem addL_addL (L : List Ln) (n : Nat) (X Y : Ln) (h : n < L.length) : addL (addL L n X) n Y = addL L n (X ++ Y) := by
  unfold addL
  rw [List.getElem?_set_self h, Option.getD_some, List.set_set, List.append_assoc]
theorem addL_app (L M : List Ln) (n : Nat) (X : Ln) (h : n < L.length) : addL (L ++ M) n X = addL L n X ++ M := by
  unfold addL
  rw [List.getElem?_append_left h, List.set_append_left _ _ h]
theorem addL_last (L : List Ln) (x : Ln) (X : Ln) : addL (L ++ [x]) L.length X = L ++ [x ++ X] := by
  unfold addL
  rw [List.getElem?_append_right (Nat.le_refl _), Nat.sub_self, List.getElem?_cons_zero, Option.getD_some, List.set_append_right _ _ (Nat.le_refl _), Nat.sub_self]
  rfl
theorem putL_eq (L : List Ln) (op : List Nat) (n : Nat) (a : Int × Int) : putL ⟨L, op ++ [n]⟩ a = ⟨addL L n [a], op ++ [n]⟩ := by
  unfold putL addL
  simp
theorem step_simple (ps : List Tk) (ds : List Df) (t : Tk) (s : Ly) (h : simp3 t) : stepL ps ds t s = putL s (atomF ps ds t) := by
  unfold simp3 at h
  unfold stepL
  rw [if_neg (by omega), if_neg (by omega)]
theorem cut_simple (ps : List Tk) (ds : List Df) (ts : List Tk) (L : List Ln) (op : List Nat) (n i : Nat) (h : i < ts.length) (hs : simp3 ts[i]) : cutI ps ds ts ⟨L, op ++ [n]⟩ i = cutI ps ds ts ⟨addL L n [atomF ps ds ts[i]], op ++ [n]⟩ (i + 1) := by
  rw [cutI_tok ps ds ts _ i h (need_simple ts i h hs), step_simple _ _ _ _ hs, putL_eq]

theorem cut_at (ps : List Tk) (ds : List Df) (a : At) (h : a.ok) : ∀ (pre post : List Tk) (L : List Ln) (op : List Nat) (n : Nat), n < L.length → cutI ps ds (pre ++ (a.toks ++ post)) ⟨L, op ++ [n]⟩ pre.length = cutI ps ds (pre ++ (a.toks ++ post)) ⟨addL L n (ownT (atomF ps ds) a (L.length - 1)) ++ restT (atomF ps ds) a (L.length - 1), op ++ [n]⟩ (pre.length + a.toks.length) := by
  induction a with
  | nil => intro pre post L op n hn; simp [At.toks, ownT, restT, addL_nil L n hn]
  | sim t r ih =>
    intro pre post L op n hn
    have hlt : pre.length < (pre ++ ((At.sim t r).toks ++ post)).length := by simp [At.toks]
    have hg : (pre ++ ((At.sim t r).toks ++ post))[pre.length] = t := by simp [At.toks]
    have h1 := cut_simple ps ds (pre ++ ((At.sim t r).toks ++ post)) L op n pre.length hlt (by rw [hg]; exact h.1)
    rw [hg] at h1
    have h2 := ih h.2 (pre ++ [t]) post (addL L n [atomF ps ds t]) op n (by rw [addL_len]; exact hn)
    have e : pre ++ [t] ++ (r.toks ++ post) = pre ++ ((At.sim t r).toks ++ post) := by simp [At.toks]
    rw [e, addL_len, addL_addL _ _ _ _ hn] at h2
    simp only [List.length_append, List.length_cons, List.length_nil] at h2
    rw [h1, h2]
    simp only [At.toks, ownT, restT, List.length_cons, List.singleton_append]
    rw [show pre.length + (0 + 1) + r.toks.length = pre.length + (r.toks.length + 1) by omega]
  | par o x c ag r ih1 ih2 =>
    intro pre post L op n hn
    obtain ⟨ho, hx, hc, hag, hr⟩ := h
    generalize hT : pre ++ ((At.par o x c ag r).toks ++ post) = T
    have e1 : T = pre ++ (o :: x :: (ag.toks ++ c :: (r.toks ++ post))) := by rw [← hT]; simp [At.toks]
    have hlen : T.length = pre.length + 3 + ag.toks.length + r.toks.length + post.length := by rw [e1]; simp; omega
    have g0 : T[pre.length]? = some o := by rw [e1]; simp
    have g1 : T[pre.length + 1]? = some x := by rw [e1, List.getElem?_append_right (by omega), show pre.length + 1 - pre.length = 1 by omega]; rfl
    have gc : T[pre.length + 2 + ag.toks.length]? = some c := by
      rw [e1, List.getElem?_append_right (by omega), show pre.length + 2 + ag.toks.length - pre.length = ag.toks.length + 1 + 1 by omega, List.getElem?_cons_succ, List.getElem?_cons_succ, List.getElem?_append_right (by omega), Nat.sub_self]; rfl
    have l0 : pre.length < T.length := by omega
    have l1 : pre.length + 1 < T.length := by omega
    have lc : pre.length + 2 + ag.toks.length < T.length := by omega
    have q0 : T[pre.length] = o := by rw [List.getElem?_eq_getElem l0] at g0; exact Option.some.inj g0
    have q1 : T[pre.length + 1] = x := by rw [List.getElem?_eq_getElem l1] at g1; exact Option.some.inj g1
    have qc : T[pre.length + 2 + ag.toks.length] = c := by rw [List.getElem?_eq_getElem lc] at gc; exact Option.some.inj gc
    have k0 : kAt T (pre.length : Int) = 6 := by rw [kAt_in T _ l0, q0, ho]
    have kc : kAt T ((pre.length + 2 + ag.toks.length : Nat) : Int) = 7 := by rw [kAt_in T _ lc, qc, hc]
    have sx : ∀ (L : List Ln) (op : List Nat) (n : Nat), cutI ps ds T ⟨L, op ++ [n]⟩ (pre.length + 1) = cutI ps ds T ⟨addL L n [atomF ps ds x], op ++ [n]⟩ (pre.length + 1 + 1) := by
      intro L op n
      have := cut_simple ps ds T L op n (pre.length + 1) l1 (by rw [q1]; exact hx)
      rw [q1] at this; exact this
    have e2 : pre ++ o :: x :: (ag.toks ++ [c]) ++ (r.toks ++ post) = T := by rw [e1]; simp
    have el2 : (pre ++ o :: x :: (ag.toks ++ [c])).length = pre.length + 2 + ag.toks.length + 1 := by simp; omega
    have etot : pre.length + (At.par o x c ag r).toks.length = pre.length + 2 + ag.toks.length + 1 + r.toks.length := by simp [At.toks]; omega
    have h2 := fun L n hn => ih2 hr (pre ++ o :: x :: (ag.toks ++ [c])) post L op n hn
    rw [e2, el2] at h2
    rw [etot]
    by_cases hnn : ag = .nil
    · subst hnn
      simp only [At.toks, List.length_nil, Nat.add_zero] at kc h2 gc lc qc
      have n0 : needB T pre.length = true := by
        unfold needB
        rw [k0, show ((pre.length : Int) + 2) = ((pre.length + 2 : Nat) : Int) by omega, kc]; simp
      have nc : needB T (pre.length + 2) = true := by
        unfold needB
        rw [kc, show (((pre.length + 2 : Nat) : Int) - 2) = (pre.length : Int) by omega, k0]; simp
      rw [cutI_skip ps ds T _ pre.length l0 n0, sx, cutI_skip ps ds T _ _ lc nc, h2 _ n (by rw [addL_len]; exact hn), addL_len, addL_addL _ _ _ _ hn]
      simp [ownT, restT, At.isNil, At.toks]
    · have hx6 : kindOf x.txt ≠ 6 := by unfold simp3 at hx; omega
      have hat : ag.toks ≠ [] := by
        cases ag with
        | nil => exact absurd rfl hnn
        | sim t r => simp [At.toks]
        | par o h c g r => simp [At.toks]
      have hap : 0 < ag.toks.length := List.length_pos_iff.2 hat
      have k2 : kAt T ((pre.length : Int) + 2) ≠ 7 := by
        rw [show ((pre.length : Int) + 2) = ((pre.length + 2 : Nat) : Int) by omega, e1, kAt_app, List.getElem?_cons_succ, List.getElem?_cons_succ, List.getElem?_append_left hap]
        cases ag with
        | nil => exact absurd rfl hnn
        | sim t g => have := hag.1; unfold simp3 at this; simp only [At.toks, List.getElem?_cons_zero]; omega
        | par o' h' c' g' g => have := hag.1; simp only [At.toks, List.getElem?_cons_zero]; omega
      have kcm : kAt T ((pre.length + 2 + ag.toks.length : Nat) - 2 : Int) ≠ 6 := by
        have hsec := sec_at hag hnn x hx6
        obtain ⟨u, hu1, hu2⟩ := lastK_get (x :: ag.toks).dropLast (by rw [List.dropLast_cons_of_ne_nil hat]; simp)
        rw [hu2] at hsec
        have hu3 : (x :: ag.toks)[ag.toks.length - 1]? = some u := by
          rw [List.length_dropLast, List.length_cons, Nat.add_sub_cancel] at hu1
          rw [List.getElem?_dropLast] at hu1
          split at hu1
          · exact hu1
          · cases hu1
        have : kAt T ((pre.length + 2 + ag.toks.length : Nat) - 2 : Int) = kindOf u.txt := by
          rw [show ((pre.length + 2 + ag.toks.length : Nat) - 2 : Int) = ((pre.length + ((ag.toks.length - 1) + 1) : Nat) : Int) by omega, e1, kAt_app, List.getElem?_cons_succ, show x :: (ag.toks ++ c :: (r.toks ++ post)) = (x :: ag.toks) ++ c :: (r.toks ++ post) by simp, List.getElem?_append_left (by simp; omega), hu3]
        rw [this]; exact hsec
      have n0 : needB T pre.length = false := by
        unfold needB
        rw [k0]; simp [k2]
      have nc : needB T (pre.length + 2 + ag.toks.length) = false := by
        unfold needB
        rw [kc]; simp only [show ¬ ((7 : Int) = 6) by decide, decide_false, Bool.false_and, Bool.false_or, decide_true, Bool.true_and, decide_eq_false_iff_not]
        exact kcm
      have e3 : pre ++ [o, x] ++ (ag.toks ++ c :: (r.toks ++ post)) = T := by rw [e1]; simp
      have el3 : (pre ++ [o, x]).length = pre.length + 2 := by simp
      have h1 := fun L op n hn => ih1 hag (pre ++ [o, x]) (c :: (r.toks ++ post)) L op n hn
      rw [e3, el3] at h1
      have hk : ((L.length - 1 : Nat) : Int) = (L.length : Int) - 1 := by omega
      have s0 : stepL ps ds o ⟨L, op ++ [n]⟩ = ⟨addL L n [(5, ((L.length - 1 : Nat) : Int))] ++ [[]], (op ++ [n]) ++ [(addL L n [(5, ((L.length - 1 : Nat) : Int))]).length]⟩ := by
        unfold stepL
        rw [if_pos ho, putL_eq, begL, hk]
      have sc : ∀ (M : List Ln) (m : Nat), stepL ps ds c ⟨M, (op ++ [n]) ++ [m]⟩ = ⟨M, op ++ [n]⟩ := by
        intro M m
        unfold stepL endL
        rw [if_neg (by omega), if_pos hc]
        simp
      rw [cutI_tok ps ds T _ _ l0 n0, q0, s0, sx, addL_last, List.nil_append, h1 _ _ _ (by simp), addL_last, cutI_tok ps ds T _ _ lc nc, qc, sc]
      have hlen2 : (addL L n [(5, ((L.length - 1 : Nat) : Int))] ++ [[atomF ps ds x]]).length - 1 = (L.length - 1) + 1 := by simp [addL_len]; omega
      rw [hlen2, h2 _ n (by simp [addL_len]; omega)]
      have hlen3 : (addL L n [(5, ((L.length - 1 : Nat) : Int))] ++ [[atomF ps ds x] ++ ownT (atomF ps ds) ag (L.length - 1 + 1)] ++ restT (atomF ps ds) ag (L.length - 1 + 1)).length - 1 = (L.length - 1) + 1 + unT ag := by simp [addL_len, restT_len]; omega
      rw [hlen3, List.append_assoc, addL_app _ _ _ _ (by rw [addL_len]; exact hn), addL_addL _ _ _ _ hn]
      simp [ownT, restT, At.isNil_ne hnn]

theorem cut_body (ps : List Tk) (ds : List Df) {hd : Tk} {a : At} (hs : simp3 hd) (h : a.ok) : cutLs ps ds (hd :: a.toks) = ownT (atomF ps ds) (.sim hd a) 0 :: restT (atomF ps ds) (.sim hd a) 0 := by
  have h1 := cut_simple ps ds (hd :: a.toks) [[]] [] 0 0 (by simp) hs
  have h2 := cut_at ps ds a h [hd] [] [[atomF ps ds hd]] [] 0 (by simp)
  have h3 : ∀ s, cutI ps ds (hd :: a.toks) s (1 + a.toks.length) = s := fun s => cutI_end ps ds (hd :: a.toks) s (1 + a.toks.length) (by simp; omega)
  simp only [List.append_nil, List.singleton_append, List.length_cons, List.length_nil, Nat.zero_add, List.nil_append] at h1 h2
  rw [h3] at h2
  unfold cutLs
  have hb : begL ⟨[], []⟩ = ⟨[[]], [0]⟩ := rfl
  rw [hb, h1]
  have ha : addL [[]] 0 [atomF ps ds hd] = [[atomF ps ds hd]] := rfl
  rw [show (hd :: a.toks)[0] = hd from rfl, ha, h2]
  simp [addL, ownT, restT]

theorem prim_eq {t : ByteArray} (h : 0 ≤ primL t.toList) : primP t.toList = primL t.toList := by
  unfold primL at h ⊢
  unfold primP
  split
  · rfl
  split
  · rfl
  split
  · rfl
  split
  · rfl
  split
  · rfl
  rename_i a b c d e
  simp only [a, b, c, d, e] at h
  simp at h
theorem atom_known {ds : List Df} {d : Df} {t : Tk} (hw : WT t.txt) (hs : simp3 t) (hnp : ∀ p ∈ d.ps, kindOf p.txt = 1) (hnn : ∀ e ∈ ds, kindOf e.name.txt = 1) (hu : unkT ds d.ps t = false) : atomF d.ps ds t = knownF d.ps (ds.map (·.name)) t := by
  have hk := known_num hw hs hnp hnn hu
  unfold atomF
  by_cases h2 : kindOf t.txt = 2
  · rw [if_pos h2]
    have h1 := hk.2 h2
    unfold knownF at h1 ⊢
    split
    · rename_i q; rw [if_pos q] at h1; simp at h1
    rename_i q
    rw [if_neg q] at h1
    split
    · rename_i q2; rw [if_pos q2] at h1; simp at h1
    rename_i q2
    rw [if_neg q2] at h1
    split
    · rename_i q3; rw [if_pos q3] at h1; simp at h1
    rfl
  rw [if_neg h2]
  by_cases h3 : kindOf t.txt = 3
  · rw [if_pos h3]
    have hpr := kind_prim h3
    have hp0 : 0 ≤ primL t.txt.toList := by
      refine primL_hit t.txt (hw.2.2 ?_ ?_) hpr
      · simp only [isL, decide_eq_false_iff_not]; omega
      · simp only [isD, decide_eq_false_iff_not]; omega
    unfold knownF
    rw [if_pos hp0, prim_eq hp0]
  rw [if_neg h3]
  have h1 : kindOf t.txt = 1 := by unfold simp3 at hs; omega
  have hlet := kind_name h1
  have hp0 : ¬ 0 ≤ primL t.txt.toList := by
    rw [primL_other t.txt (fun c hc e => by rw [e] at hlet; simp only [isL, decide_eq_true_eq] at hlet; omega)]; decide
  unfold knownF
  rw [if_neg hp0]
  by_cases hq : 0 ≤ whr d.ps t.txt
  · rw [if_pos hq, if_pos hq]
  rw [if_neg hq, if_neg hq]
  unfold unkT at hu
  rw [h1] at hu
  simp only [decide_true, Bool.true_and, Bool.and_eq_false_iff, Bool.not_eq_false'] at hu
  rcases hu with hu | hu
  · exact absurd (whr_pos hu) hq
  · rw [← hasP_names] at hu
    rw [if_pos (whr_pos hu)]
    rfl
theorem ownT_congr {f g : Tk → Int × Int} {a : At} (ho : a.ok) (h : ∀ t ∈ a.toks, simp3 t → f t = g t) : (∀ k, ownT f a k = ownT g a k) ∧ ∀ k, restT f a k = restT g a k := by
  induction a with
  | nil => exact ⟨fun _ => rfl, fun _ => rfl⟩
  | sim t r ih =>
    obtain ⟨i1, i2⟩ := ih ho.2 (fun t ht => h t (by simp [At.toks, ht]))
    have e := h t (by simp [At.toks]) ho.1
    exact ⟨fun k => by rw [ownT, ownT, e, i1], fun k => by rw [restT, restT, i2]⟩
  | par o x c ag r ih1 ih2 =>
    obtain ⟨_, hx, _, hag, hr⟩ := ho
    obtain ⟨i1, i2⟩ := ih1 hag (fun t ht => h t (by simp [At.toks, ht]))
    obtain ⟨j1, j2⟩ := ih2 hr (fun t ht => h t (by simp [At.toks, ht]))
    have e := h x (by simp [At.toks]) hx
    exact ⟨fun k => by simp only [ownT, e, j1], fun k => by simp only [restT, e, i1, i2, j2]⟩

end Go.Proofs.YtnndoagpbcacdaaGreatDoor
namespace Go.Proofs.YtnndoagpbcacdaaGreatDoor
open Go.RowKit

def SameCut (ds : List Df) : Prop := ∀ d ∈ ds, ∀ hd a, d.body = hd :: At.toks a → simp3 hd → a.ok → ownT (knownF d.ps (ds.map (·.name))) (.sim hd a) 0 :: restT (knownF d.ps (ds.map (·.name))) (.sim hd a) 0 = cutLs d.ps ds d.body

set_option maxRecDepth 100000 in
set_option maxHeartbeats 8000000 in
theorem rCode (s : ByteArray) (ds : List Df) (w : World) (hs2 : s.size ≤ 1000) (hp : Prog (toksF s 0) ds) (hdl : ds.length ≤ 1000) (hsc : SameCut ds) (hdo : ∀ d ∈ ds, DfOk d) :
    Calls Tryz.prog 88 #[.string s] w fun e w' => ∃ fv, e = .returned (.agg #[.int .i64 (codeOf ds).mn, fv]) ∧ Below w.heap.size w w' ∧ FunsRd w' w'.heap.size fv (codeOf ds).fs := by
  have HP : Hid _ := rProgram s ds (w.alloc (Obj.cells #[.int .i64 0, .slice none 0 0] 57)) hs2 hp
  have HSC : Hid _ := hsc
  have HDO : Hid _ := hdo
  clear hsc hdo hp
  obtain ⟨i, hi, hz0, hz1, hz2⟩ := info_parts Tryz.infoTemplate
  go_enter Tryz.func88, Tryz.ntmps88
  go_wp2_with fail
  refine (show Calls _ _ _ _ _ from HP.out).mono ?_
  rintro e w1 ⟨v, mm, rfl, hb1, hmm, xs, hrow, hfl⟩
  clear HP
  have HMM : Hid (mm = (codeOf ds).mn) := hmm
  clear hmm
  have hbr := box_later' hb1
  have hb1' : Below w.heap.size w w1 := ((Below.refl _ _).alloc (Nat.le_refl _) _).trans (hb1.mono (by simp))
  have hrlt : w.heap.size < w1.heap.size := (Array.getElem?_eq_some_iff.1 hbr).1
  clear hb1
  obtain ⟨lo, lcap, rfl⟩ := own_form hrow
  go_wp2_with fail
  go_loopw [6] (fun a wr => ∃ (k T : Nat) (fv : Value) (ys : List Value), k ≤ ds.length ∧ a = .int .i64 k ∧ Below w1.heap.size w1 wr ∧ wr.heap[w1.heap.size]? = some (.cells #[.int .i64 mm, fv] 57 (0, 0)) ∧ w1.heap.size < T ∧ T ≤ wr.heap.size ∧ wr.ownsRow (w1.heap.size + 1) 78 2 fv k ys ∧ FuOw wr T ((ds.take k).map (tpOf ds)) ys) (fun a _ => ds.length - (intOf a).toNat)
  case atStart => exact ⟨0, w1.heap.size + 1, .slice none 0 0, [], Nat.zero_le _, rfl, (Below.refl _ _).alloc (Nat.le_refl _) _, heap_alloc_new w1 _, by omega, by simp, World.ownsRow_nil _ _ _ _, rfl⟩
  case round =>
    obtain ⟨k, T, fv, ys, hk, rfl, hb, hbox, hlo, hhi, hfr, hfu⟩ := hrel
    have hbsz := hb.size
    have hwlt : w1.heap.size < wr.heap.size := by omega
    have C0 := cell_of_row wr w1.heap.size 0 _ _ _ hbox
    have C1 := cell_of_row wr w1.heap.size 1 _ _ _ hbox
    simp only [List.getElem?_toArray, List.getElem?_cons_succ, List.getElem?_cons_zero] at C0 C1
    obtain ⟨fo, fcap, rfl⟩ := own_form hfr
    by_cases hlt : k < ds.length
    · obtain ⟨qd, cd, hqd, _, hqdl⟩ := hrow.form (by omega)
      cases hqd
      have hdm := List.getElem_mem hlt
      obtain ⟨_, _, _, hlp, hlb⟩ := HDO.out ds[k] hdm
      have hr4 := ownsRow_old hrow hb
      obtain ⟨psv, bv, t0, t1, t2, hfo⟩ := (hfl.keep hb).at k hlt
      have d2 := row_cell hr4 _ _ t2
      obtain ⟨hpr, hplt, ⟨hd0, a0, zs, hbody, hsh, hao, hbrw, her⟩, hblt⟩ := hfo
      have HBD : Hid _ := HSC.out ds[k] hdm hd0 a0 hbody hsh hao
      have hba : a0.toks.length < 1001 := by have h1 := congrArg List.length hbody; simp at h1; omega
      have HC : Hid _ := rLines ds[k].ps (ds.map (·.name)) 1002 (.sim hd0 a0) zs bv 0 wr (by simp [At.toks]; omega) (by omega) (by simp [At.toks]; omega) hbrw (ER.keep (fun k _ => rfl) (fun k hk => by omega) her)
      rw [HBD.out] at HC
      have HT1 : Hid _ := t1
      have HMP : Hid _ := map_snoc (tpOf ds) ds k hlt
      have HTP : Hid (tpOf ds ds[k] = ⟨ds[k].ps.length, cutLs ds[k].ps ds ds[k].body⟩) := rfl
      obtain ⟨po, pcap, rfl⟩ := own_form hpr
      obtain ⟨bo, bcap, rfl⟩ := own_form hbrw
      generalize cutLs ds[k].ps ds ds[k].body = CL at *
      clear t0 t1 t2 hr4 hbody her hbrw hpr
      go_wp2_with fail
      refine (show Calls _ _ _ _ _ from HC.out).mono ?_
      rintro e w3 ⟨lv3, rfl, hb3, hlb3⟩
      clear HC d2 C0 C1
      have how := hlb3.ow
      obtain ⟨lo3, lc3, hlv3⟩ : ∃ a b, lv3 = .slice a CL.length b := by obtain ⟨vs, h1, _⟩ := how; obtain ⟨a, b, e⟩ := own_form h1; exact ⟨a, b, e⟩
      subst hlv3
      have hbw3 : Below w1.heap.size w1 w3 := hb.trans (hb3.mono hbsz)
      have hbox2 := (hb3.block w1.heap.size hwlt).trans hbox
      have C1 := cell_of_row w3 w1.heap.size 1 _ _ _ hbox2
      simp only [List.getElem?_toArray, List.getElem?_cons_succ, List.getElem?_cons_zero] at C1
      have d1 := row_cell (ownsRow_old hrow hbw3) _ _ HT1.out
      have hfr2 := ownsRow_old hfr hb3
      have hfu2 := (hfu.keep (hb3.mono hhi)).up (Nat.le_trans hhi hb3.size)
      have hcsz := hb3.size
      have hw3 : w1.heap.size < w3.heap.size := by omega
      have hq3 : qd < w3.heap.size := by omega
      have HQ1 : Hid ((w3.alloc (Obj.cells #[.int .i64 ds[k].ps.length, .slice lo3 CL.length lc3] 78)).drew.ownsRow (w1.heap.size + 1) 78 2 (.slice fo k fcap) k ys) := World.ownsRow.drew (hfr2.alloc (Obj.cells #[.int .i64 ds[k].ps.length, .slice lo3 CL.length lc3] 78))
      have HQ2 : Hid ((w3.alloc (Obj.cells #[.int .i64 ds[k].ps.length, .slice lo3 CL.length lc3] 78)).drew.heap[w1.heap.size]? = some (.cells #[.int .i64 mm, .slice fo k fcap] 57 (0, 0))) := by
        show (w3.alloc _).heap[w1.heap.size]? = _
        exact (Below.heap_alloc w3 _ _ (by omega)).trans hbox2
      have HQ3 : Hid (FuOw (w3.alloc (Obj.cells #[.int .i64 ds[k].ps.length, .slice lo3 CL.length lc3] 78)).drew w3.heap.size ((ds.take (k + 1)).map (tpOf ds)) (ys ++ [.int .i64 ds[k].ps.length, .slice lo3 CL.length lc3])) := by
        show FuOw _ _ _ _
        rw [HMP.out, HTP.out]
        exact ((FuOw.snoc (t := ⟨ds[k].ps.length, CL⟩) how hfu2).keep ((Below.refl _ _).alloc (Nat.le_refl _) _)).keep (Below.drew (Below.refl _ _))
      have HQ4 : Hid (Below w1.heap.size w1 (w3.alloc (Obj.cells #[.int .i64 ds[k].ps.length, .slice lo3 CL.length lc3] 78)).drew) := Below.drew (hbw3.alloc (by omega) _)
      clear how hlb3
      go_wp2_with fail
      go_region_law ((refine step_append_lies _ (by rfl) _ _ _ (by rfl) (w1.heap.size + 1) 78 i _ 2 32 Tryz.underlying55 hi hz0 hz1 hz2 rfl (by omega) (.slice fo k fcap) k ys (by rfl) (by exact HQ1.out) _ 1 _ [.int .i64 ds[k].ps.length, .slice lo3 CL.length lc3] (by rfl) rfl (by exact World.news_of_block (heap_alloc_new w3 _)) (by simp [Value.oneCell']) (by omega) (by unfold maxLen; omega) (by omega) (by simp; omega) _ rfl ?_; intro g cap2 w4 hown4 hgrow4 hat4 hlt4; have HX4 : Hid _ := grown_type HQ1.out hgrow4 (by decide) HQ2.out; have HF4 : Hid _ := FuOw.type HQ1.out hgrow4 HQ3.out; have HB4 : Hid _ := HQ4.out.grown hgrow4 (by simp [heap_drew]; omega) (fun k hk => by have := (World.ownsRow.lt HQ1.out k hk).1; omega); have HO4 : Hid _ := hown4; have E1 := cell_of_row w4 w1.heap.size 1 _ _ _ HX4.out; simp only [List.getElem?_toArray, List.getElem?_cons_succ, List.getElem?_cons_zero] at E1; have f1 := frozen_of_row w4 w1.heap.size 1 _ _ HX4.out; have hsz4 := hgrow4.size; simp only [heap_drew, World.size_alloc] at hsz4; clear hown4 hgrow4 hat4 hlt4))
      all_goals
        go_wp2_with fail
        go_roundw
        case rel => exact ⟨k + 1, w3.heap.size, _, _, hlt, by go_num, HB4.out.setCell (by exact Nat.le_refl _) _, blk_set _ HX4.out, by omega, by simp [World.setCell]; omega, ownsRow_set HO4.out HX4.out (by decide), FuOw.set HX4.out HF4.out⟩
        case measure => simp [intOf]; omega
    · have hk2 : k = ds.length := by omega
      subst hk2
      rw [List.take_length] at hfu
      have hbr2 := (hb.block w.heap.size hrlt).trans hbr
      have R0 := cell_of_row wr w.heap.size 0 _ _ _ hbr2
      have R1 := cell_of_row wr w.heap.size 1 _ _ _ hbr2
      simp only [List.getElem?_toArray, List.getElem?_cons_succ, List.getElem?_cons_zero] at R0 R1
      have f0 := frozen_of_row wr w.heap.size 0 _ _ hbr2
      have f1 := frozen_of_row wr w.heap.size 1 _ _ hbr2
      have q0 : (wr.setCell ⟨w.heap.size, 0, none⟩ (.int .i64 mm)).cell? ⟨w.heap.size, 0, none⟩ = some (.int .i64 mm) := by rw [cell_of_row _ _ _ _ _ _ (blk_set _ hbr2)]; rfl
      have q1 : ((wr.setCell ⟨w.heap.size, 0, none⟩ (.int .i64 mm)).setCell ⟨w.heap.size, 1, none⟩ (.slice fo ds.length fcap)).cell? ⟨w.heap.size, 1, none⟩ = some (.slice fo ds.length fcap) := by rw [cell_of_row _ _ _ _ _ _ (blk_set _ (blk_set _ hbr2))]; rfl
      have hne : w1.heap.size ≠ w.heap.size := by omega
      go_wp2_with fail
      refine bodyPost_ret (v := .agg #[.int .i64 mm, .slice fo ds.length fcap]) (by simp [results, Tryz.results88, go_sem, q0, q1]) rfl ⟨_, by rw [HMM.out], ?_, ?_⟩
      · exact (((hb1'.trans (hb.mono hb1'.size)).setCell (by exact Nat.le_refl _) _).setCell (by exact Nat.le_refl _) _)
      · refine FuOw.rd ?_ ?_ (FuOw.up ?_ (FuOw.set (blk_set _ hbr2) (FuOw.set hbr2 hfu)))
        · simp only [codeOf, List.length_map]
          exact ownsRow_set (ownsRow_set (ownsRow_base hfr (Nat.zero_le _)) hbr2 (by decide)) (blk_set _ hbr2) (by decide)
        · intro k hk; have := (hfr.lt k hk).2; simpa [World.setCell] using this
        · simpa [World.setCell] using hhi

set_option maxRecDepth 100000 in
set_option maxHeartbeats 4000000 in
theorem rCompile (s : ByteArray) (w : World) (hs : s.size ≤ maxLen) (hchk : (chk s).2 = 0 → s.size ≤ 1000 ∧ Prog (toksF s 0) (cAll (toksF s 0)).ds ∧ (cAll (toksF s 0)).ds.length ≤ 1000 ∧ SameCut (cAll (toksF s 0)).ds ∧ ∀ d ∈ (cAll (toksF s 0)).ds, DfOk d) :
    Calls Tryz.prog 50 #[.string s] w fun e w' => ∃ x : ByteArray, e = .returned (.tuple #[.string x, .int .i64 (cmpE s)]) ∧ x.data.toList = cmpL s ∧ x.size ≤ 20000 ∧ Below w.heap.size w w' := by
  by_cases h0 : (chk s).2 = 0
  · obtain ⟨hs2, hpc, hdl, hsc, hdo⟩ := hchk h0
    have HE : Hid (cmpE s = wrE (codeOf (cAll (toksF s 0)).ds)) := by show _ = _; unfold cmpE; rw [if_pos h0]
    have HL : Hid (cmpL s = wrL (codeOf (cAll (toksF s 0)).ds)) := by show _ = _; unfold cmpL; rw [if_pos h0]
    rw [HE.out, HL.out]
    clear hchk HE HL
    have HCD : Hid _ := fun w => rCode s (cAll (toksF s 0)).ds w hs2 hpc hdl hsc hdo
    clear hpc hdl hsc hdo
    generalize codeOf (cAll (toksF s 0)).ds = CO at *
    go_enter Tryz.func50, Tryz.ntmps50
    go_wp2_with fail
    refine (rCheck s _ hs).mono ?_
    rintro e w1 ⟨rfl, hb1⟩
    rw [h0]
    go_wp2_with fail
    refine (show Calls _ _ _ _ _ from HCD.out _).mono ?_
    rintro e w2 ⟨fv, rfl, hb2, hfr⟩
    clear HCD
    have hb2' := hb1.trans (hb2.mono hb1.size)
    have HW : Hid _ := rWrite CO fv w2.heap.size (w2.alloc (Obj.cells #[.int .i64 CO.mn, fv] 57)) (by simp) (hfr.keep ((Below.refl _ _).alloc (Nat.le_refl _) _))
    obtain ⟨fo, fcap, rfl, _, _, _⟩ := hfr
    go_wp2_with fail
    refine (show Calls _ _ _ _ _ from HW.out).mono ?_
    rintro e w3 ⟨x, rfl, hx, hxs, hb3⟩
    go_wp2_with fail
    go_ret2
    exact ⟨x, rfl, hx, hxs, hb2'.trans ((((Below.refl _ _).alloc (Nat.le_refl _) _).trans (hb3.mono (by simp))).mono hb2'.size)⟩
  · have h0' : ((chk s).2 == 0) = false := by simpa using h0
    have HE : Hid (cmpE s = (chk s).2) := by show _ = _; unfold cmpE; rw [if_neg h0]
    have HS : Hid (cmpL s = []) := by show _ = _; unfold cmpL; rw [if_neg h0]
    rw [HE.out]
    go_enter Tryz.func50, Tryz.ntmps50
    go_wp2_with fail
    refine (rCheck s _ hs).mono ?_
    rintro e w1 ⟨rfl, hb1⟩
    go_wp2_with fail
    go_ret2
    exact ⟨_, rfl, HS.out.symm, by decide, hb1⟩

end Go.Proofs.YtnndoagpbcacdaaGreatDoor
