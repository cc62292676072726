import Derived.Test.YtnndoagpbcacdaaGreatDoorMK5
import Derived.Test.YtnndoagpbcacdaaGreatDoorP2a
namespace Go.Proofs.YtnndoagpbcacdaaGreatDoor
open Go.RowKit

def addL (L : List Ln) (n : Nat) (X : Ln) : List Ln := L.set n (L[n]?.getD [] ++ X)
theorem addL_len (L : List Ln) (n : Nat) (X : Ln) : (addL L n X).length = L.length := by simp [addL]
theorem addL_nil (L : List Ln) (n : Nat) (h : n < L.length) : addL L n [] = L := by
  unfold addL
  rw [List.getElem?_eq_getElem h, Option.getD_some, List.append_nil, List.set_getElem_self]
theorem addL_addL (L : List Ln) (n : Nat) (X Y : Ln) (h : n < L.length) : addL (addL L n X) n Y = addL L n (X ++ Y) := by
  unfold addL
  rw [List.getElem?_set_self h, Option.getD_some, List.set_set, List.append_assoc]
theorem addL_app (L M : List Ln) (n : Nat) (X : Ln) (h : n < L.length) : addL (L ++ M) n X = addL L n X ++ M := by
  unfold addL
  rw [List.getElem?_append_left h, List.set_append_left _ _ h]
theorem addL_last (L : List Ln) (x : Ln) (X : Ln) : addL (L ++ [x]) L.length X = L ++ [x ++ X] := by
  unfold addL
  rw [List.getElem?_append_right (Nat.le_refl _), Nat.sub_self, List.getElem?_cons_zero, Option.getD_some, List.set_append_right _ _ (Nat.le_refl _), Nat.sub_self]
  rfl
theorem putL_eq (L : List Ln) (op : List Nat) (n : Nat) (a : Int × Int) : putL ⟨L, op ++ [n]⟩ a = ⟨addL L n [a], op ++ [n]⟩ := by
  unfold putL addL
  simp
theorem step_simple (ps : List Tk) (ds : List Df) (t : Tk) (s : Ly) (h : simp3 t) : stepL ps ds t s = putL s (atomF ps ds t) := by
  unfold simp3 at h
  unfold stepL
  rw [if_neg (by omega), if_neg (by omega)]
theorem cut_simple (ps : List Tk) (ds : List Df) (ts : List Tk) (L : List Ln) (op : List Nat) (n i : Nat) (h : i < ts.length) (hs : simp3 ts[i]) : cutI ps ds ts ⟨L, op ++ [n]⟩ i = cutI ps ds ts ⟨addL L n [atomF ps ds ts[i]], op ++ [n]⟩ (i + 1) := by
  rw [cutI_tok ps ds ts _ i h (need_simple ts i h hs), step_simple _ _ _ _ hs, putL_eq]
theorem cut_at (ps : List Tk) (ds : List Df) (a : At) (h : a.ok) : ∀ (pre post : List Tk) (L : List Ln) (op : List Nat) (n : Nat), n < L.length → cutI ps ds (pre ++ (a.toks ++ post)) ⟨L, op ++ [n]⟩ pre.length = cutI ps ds (pre ++ (a.toks ++ post)) ⟨addL L n (ownT (atomF ps ds) a (L.length - 1)) ++ restT (atomF ps ds) a (L.length - 1), op ++ [n]⟩ (pre.length + a.toks.length) := by
  induction a with
  | nil => intro pre post L op n hn; simp [At.toks, ownT, restT, addL_nil L n hn]
  | sim t r ih =>
    intro pre post L op n hn
    have hlt : pre.length < (pre ++ ((At.sim t r).toks ++ post)).length := by simp [At.toks]
    have hg : (pre ++ ((At.sim t r).toks ++ post))[pre.length] = t := by simp [At.toks]
    have h1 := cut_simple ps ds (pre ++ ((At.sim t r).toks ++ post)) L op n pre.length hlt (by rw [hg]; exact h.1)
    rw [hg] at h1
    have h2 := ih h.2 (pre ++ [t]) post (addL L n [atomF ps ds t]) op n (by rw [addL_len]; exact hn)
    have e : pre ++ [t] ++ (r.toks ++ post) = pre ++ ((At.sim t r).toks ++ post) := by simp [At.toks]
    rw [e, addL_len, addL_addL _ _ _ _ hn] at h2
    simp only [List.length_append, List.length_cons, List.length_nil] at h2
    rw [h1, h2]
    simp only [At.toks, ownT, restT, List.length_cons, List.singleton_append]
    rw [show pre.length + (0 + 1) + r.toks.length = pre.length + (r.toks.length + 1) by omega]
  | par o x c ag r ih1 ih2 =>
    intro pre post L op n hn
    obtain ⟨ho, hx, hc, hag, hr⟩ := h
    generalize hT : pre ++ ((At.par o x c ag r).toks ++ post) = T
    have e1 : T = pre ++ (o :: x :: (ag.toks ++ c :: (r.toks ++ post))) := by rw [← hT]; simp [At.toks]
    have hlen : T.length = pre.length + 3 + ag.toks.length + r.toks.length + post.length := by rw [e1]; simp; omega
    have g0 : T[pre.length]? = some o := by rw [e1]; simp
    have g1 : T[pre.length + 1]? = some x := by rw [e1, List.getElem?_append_right (by omega), show pre.length + 1 - pre.length = 1 by omega]; rfl
    have gc : T[pre.length + 2 + ag.toks.length]? = some c := by
      rw [e1, List.getElem?_append_right (by omega), show pre.length + 2 + ag.toks.length - pre.length = ag.toks.length + 1 + 1 by omega, List.getElem?_cons_succ, List.getElem?_cons_succ, List.getElem?_append_right (by omega), Nat.sub_self]; rfl
    have l0 : pre.length < T.length := by omega
    have l1 : pre.length + 1 < T.length := by omega
    have lc : pre.length + 2 + ag.toks.length < T.length := by omega
    have q0 : T[pre.length] = o := by rw [List.getElem?_eq_getElem l0] at g0; exact Option.some.inj g0
    have q1 : T[pre.length + 1] = x := by rw [List.getElem?_eq_getElem l1] at g1; exact Option.some.inj g1
    have qc : T[pre.length + 2 + ag.toks.length] = c := by rw [List.getElem?_eq_getElem lc] at gc; exact Option.some.inj gc
    have k0 : kAt T (pre.length : Int) = 6 := by rw [kAt_in T _ l0, q0, ho]
    have kc : kAt T ((pre.length + 2 + ag.toks.length : Nat) : Int) = 7 := by rw [kAt_in T _ lc, qc, hc]
    have sx : ∀ (L : List Ln) (op : List Nat) (n : Nat), cutI ps ds T ⟨L, op ++ [n]⟩ (pre.length + 1) = cutI ps ds T ⟨addL L n [atomF ps ds x], op ++ [n]⟩ (pre.length + 1 + 1) := by
      intro L op n
      have := cut_simple ps ds T L op n (pre.length + 1) l1 (by rw [q1]; exact hx)
      rw [q1] at this; exact this
    have e2 : pre ++ o :: x :: (ag.toks ++ [c]) ++ (r.toks ++ post) = T := by rw [e1]; simp
    have el2 : (pre ++ o :: x :: (ag.toks ++ [c])).length = pre.length + 2 + ag.toks.length + 1 := by simp; omega
    have etot : pre.length + (At.par o x c ag r).toks.length = pre.length + 2 + ag.toks.length + 1 + r.toks.length := by simp [At.toks]; omega
    have h2 := fun L n hn => ih2 hr (pre ++ o :: x :: (ag.toks ++ [c])) post L op n hn
    rw [e2, el2] at h2
    rw [etot]
    by_cases hnn : ag = .nil
    · subst hnn
      simp only [At.toks, List.length_nil, Nat.add_zero] at kc h2 gc lc qc
      have n0 : needB T pre.length = true := by
        unfold needB
        rw [k0, show ((pre.length : Int) + 2) = ((pre.length + 2 : Nat) : Int) by omega, kc]; simp
      have nc : needB T (pre.length + 2) = true := by
        unfold needB
        rw [kc, show (((pre.length + 2 : Nat) : Int) - 2) = (pre.length : Int) by omega, k0]; simp
      rw [cutI_skip ps ds T _ pre.length l0 n0, sx, cutI_skip ps ds T _ _ lc nc, h2 _ n (by rw [addL_len]; exact hn), addL_len, addL_addL _ _ _ _ hn]
      simp [ownT, restT, At.isNil, At.toks]
    · have hx6 : kindOf x.txt ≠ 6 := by unfold simp3 at hx; omega
      have hat : ag.toks ≠ [] := by
        cases ag with
        | nil => exact absurd rfl hnn
        | sim t r => simp [At.toks]
        | par o h c g r => simp [At.toks]
      have hap : 0 < ag.toks.length := List.length_pos_iff.2 hat
      have k2 : kAt T ((pre.length : Int) + 2) ≠ 7 := by
        rw [show ((pre.length : Int) + 2) = ((pre.length + 2 : Nat) : Int) by omega, e1, kAt_app, List.getElem?_cons_succ, List.getElem?_cons_succ, List.getElem?_append_left hap]
        cases ag with
        | nil => exact absurd rfl hnn
        | sim t g => have := hag.1; unfold simp3 at this; simp only [At.toks, List.getElem?_cons_zero]; omega
        | par o' h' c' g' g => have := hag.1; simp only [At.toks, List.getElem?_cons_zero]; omega
      have kcm : kAt T ((pre.length + 2 + ag.toks.length : Nat) - 2 : Int) ≠ 6 := by
        have hsec := sec_at hag hnn x hx6
        obtain ⟨u, hu1, hu2⟩ := lastK_get (x :: ag.toks).dropLast (by rw [List.dropLast_cons_of_ne_nil hat]; simp)
        rw [hu2] at hsec
        have hu3 : (x :: ag.toks)[ag.toks.length - 1]? = some u := by
          rw [List.length_dropLast, List.length_cons, Nat.add_sub_cancel] at hu1
          rw [List.getElem?_dropLast] at hu1
          split at hu1
          · exact hu1
          · cases hu1
        have : kAt T ((pre.length + 2 + ag.toks.length : Nat) - 2 : Int) = kindOf u.txt := by
          rw [show ((pre.length + 2 + ag.toks.length : Nat) - 2 : Int) = ((pre.length + ((ag.toks.length - 1) + 1) : Nat) : Int) by omega, e1, kAt_app, List.getElem?_cons_succ, show x :: (ag.toks ++ c :: (r.toks ++ post)) = (x :: ag.toks) ++ c :: (r.toks ++ post) by simp, List.getElem?_append_left (by simp; omega), hu3]
        rw [this]; exact hsec
      have n0 : needB T pre.length = false := by
        unfold needB
        rw [k0]; simp [k2]
      have nc : needB T (pre.length + 2 + ag.toks.length) = false := by
        unfold needB
        rw [kc]; simp only [show ¬ ((7 : Int) = 6) by decide, decide_false, Bool.false_and, Bool.false_or, decide_true, Bool.true_and, decide_eq_false_iff_not]
        exact kcm
      have e3 : pre ++ [o, x] ++ (ag.toks ++ c :: (r.toks ++ post)) = T := by rw [e1]; simp
      have el3 : (pre ++ [o, x]).length = pre.length + 2 := by simp
      have h1 := fun L op n hn => ih1 hag (pre ++ [o, x]) (c :: (r.toks ++ post)) L op n hn
      rw [e3, el3] at h1
      have hk : ((L.length - 1 : Nat) : Int) = (L.length : Int) - 1 := by omega
      have s0 : stepL ps ds o ⟨L, op ++ [n]⟩ = ⟨addL L n [(5, ((L.length - 1 : Nat) : Int))] ++ [[]], (op ++ [n]) ++ [(addL L n [(5, ((L.length - 1 : Nat) : Int))]).length]⟩ := by
        unfold stepL
        rw [if_pos ho, putL_eq, begL, hk]
      have sc : ∀ (M : List Ln) (m : Nat), stepL ps ds c ⟨M, (op ++ [n]) ++ [m]⟩ = ⟨M, op ++ [n]⟩ := by
        intro M m
        unfold stepL endL
        rw [if_neg (by omega), if_pos hc]
        simp
      rw [cutI_tok ps ds T _ _ l0 n0, q0, s0, sx, addL_last, List.nil_append, h1 _ _ _ (by simp), addL_last, cutI_tok ps ds T _ _ lc nc, qc, sc]
      have hlen2 : (addL L n [(5, ((L.length - 1 : Nat) : Int))] ++ [[atomF ps ds x]]).length - 1 = (L.length - 1) + 1 := by simp [addL_len]; omega
      rw [hlen2, h2 _ n (by simp [addL_len]; omega)]
      have hlen3 : (addL L n [(5, ((L.length - 1 : Nat) : Int))] ++ [[atomF ps ds x] ++ ownT (atomF ps ds) ag (L.length - 1 + 1)] ++ restT (atomF ps ds) ag (L.length - 1 + 1)).length - 1 = (L.length - 1) + 1 + unT ag := by simp [addL_len, restT_len]; omega
      rw [hlen3, List.append_assoc, addL_app _ _ _ _ (by rw [addL_len]; exact hn), addL_addL _ _ _ _ hn]
      simp [ownT, restT, At.isNil_ne hnn]
theorem cut_body (ps : List Tk) (ds : List Df) {hd : Tk} {a : At} (hs : simp3 hd) (h : a.ok) : cutLs ps ds (hd :: a.toks) = ownT (atomF ps ds) (.sim hd a) 0 :: restT (atomF ps ds) (.sim hd a) 0 := by
  have h1 := cut_simple ps ds (hd :: a.toks) [[]] [] 0 0 (by simp) hs
  have h2 := cut_at ps ds a h [hd] [] [[atomF ps ds hd]] [] 0 (by simp)
  have h3 : ∀ s, cutI ps ds (hd :: a.toks) s (1 + a.toks.length) = s := fun s => cutI_end ps ds (hd :: a.toks) s (1 + a.toks.length) (by simp; omega)
  simp only [List.append_nil, List.singleton_append, List.length_cons, List.length_nil, Nat.zero_add, List.nil_append] at h1 h2
  rw [h3] at h2
  unfold cutLs
  have hb : begL ⟨[], []⟩ = ⟨[[]], [0]⟩ := rfl
  rw [hb, h1]
  have ha : addL [[]] 0 [atomF ps ds hd] = [[atomF ps ds hd]] := rfl
  rw [show (hd :: a.toks)[0] = hd from rfl, ha, h2]
  simp [addL, ownT, restT]

end Go.Proofs.YtnndoagpbcacdaaGreatDoor
