import Derived.Test.YtnndoagpbcacdaaGreatDoorMM6
namespace Go.Proofs.YtnndoagpbcacdaaGreatDoor
/-! What holds behind every move, of good code. -/
def GI (c : Cf) (n : Nat) (x : Int × Int) : Prop := (x.1 = 1 → -1000000000 ≤ x.2 ∧ x.2 ≤ 1000000000) ∧ (x.1 = 3 → 0 ≤ x.2 ∧ x.2 < c.fs.length) ∧ (x.1 = 5 → 0 ≤ x.2 ∧ x.2 < n)
def GA (c : Cf) (t : Tp) (a : Int × Int) : Prop := (a.1 = 1 → 0 ≤ a.2 ∧ a.2 ≤ 1000000000) ∧ (a.1 = 3 → 0 ≤ a.2 ∧ a.2 < c.fs.length) ∧ (a.1 = 5 → 0 ≤ a.2 ∧ a.2 < t.ls.length - 1)
structure TG (c : Cf) (t : Tp) : Prop where
  a0 : 0 ≤ t.ar
  a1 : t.ar ≤ 6
  n0 : 1 ≤ t.ls.length
  n1 : t.ls.length ≤ 13
  ln : ∀ l ∈ t.ls, 1 ≤ l.length ∧ l.length ≤ 8 ∧ ∀ a ∈ l, GA c t a
def needF (f : Fr) : Int := if f.k = 2 then wantM f.pr - 1 else if f.k = 3 then wantM f.pr - 2 else 0
def hdH (l : List Fr) : Nat := (l.map (·.h)).headD 0
def Gap : List Fr → Prop
  | [] => True
  | f :: r => (hdH r : Int) + needF f ≤ f.h ∧ Gap r
structure Iv (c : Cf) (s : Ms) : Prop where
  ne : flr s < s.stk.length
  gap : Gap s.frs
  kd : ∀ f ∈ s.frs, (f.k = 1 ∨ f.k = 2 ∨ f.k = 3) ∧ -1000000000 ≤ f.nu ∧ f.nu ≤ 1000000000
  it : ∀ x ∈ s.stk, GI c s.nds.length x
  nd : ∀ n ∈ s.nds, 1 ≤ n.1.length ∧ n.1.length ≤ 8 ∧ ∀ x ∈ n.1, GI c s.nds.length x
  fr : ∀ p ∈ s.fre, 0 ≤ p ∧ p < s.nds.length
structure Ct (i : Nat) (s : Ms) : Prop where
  a : s.stk.length ≤ 8 * i + 1
  b : s.frs.length ≤ i
  d : s.nds.length ≤ 12 * i
  e : s.fre.length ≤ 12 * i
  f : 0 ≤ s.stp
  g : s.stp ≤ i
theorem GI.up {c : Cf} {n m : Nat} {x : Int × Int} (h : GI c n x) (hm : n ≤ m) : GI c m x := ⟨h.1, h.2.1, fun e => by have := h.2.2 e; omega⟩
theorem want_ge (p : Int) : 2 ≤ wantM p ∧ wantM p ≤ 4 := by unfold wantM; split <;> omega
theorem flr_hd (s : Ms) : flr s = hdH s.frs := rfl
theorem iv_enter {c : Cf} {s : Ms} {i : Nat} {p : Int} {r : Ln} (h : Iv c s) (hc : Ct i s) (hs : s.stk = (5, p) :: r) : Iv c (enterM s) ∧ Ct (i + 1) (enterM s) := by
  have hp := (h.it (5, p) (by rw [hs]; simp)).2.2 rfl
  have hlt : p.toNat < s.nds.length := by omega
  have hhd : hdI s.stk = (5, p) := by rw [hs]; rfl
  have hn := h.nd s.nds[p.toNat] (List.getElem_mem hlt)
  have hne := h.ne
  have ha := hc.a
  have hb := hc.b
  have hd := hc.d
  have he := hc.e
  have hf := hc.f
  have hg := hc.g
  rw [hs, List.length_cons] at hne ha
  have e1 : enterM s = putM s.nds[p.toNat].1 (if s.nds[p.toNat].2 then popM s else waitM 1 p 0 0 (popM s)) := by
    unfold enterM
    rw [hhd, if_pos hp]
    simp only [List.getElem?_eq_getElem hlt, Option.getD_some]
  rw [e1]
  have hpop : popM s = { s with stk := r } := by unfold popM; rw [hs]; rfl
  rw [hpop]
  have hit : ∀ x ∈ s.nds[p.toNat].1 ++ r, GI c s.nds.length x := by
    intro x hx
    rcases List.mem_append.1 hx with hx | hx
    · exact hn.2.2 x hx
    · exact h.it x (by rw [hs]; simp [hx])
  cases s.nds[p.toNat].2
  · refine ⟨⟨?_, ⟨?_, h.gap⟩, ?_, hit, h.nd, h.fr⟩, ⟨?_, ?_, ?_, ?_, hf, ?_⟩⟩
    · show r.length < (s.nds[p.toNat].1 ++ r).length
      rw [List.length_append]; omega
    · show (hdH s.frs : Int) + needF _ ≤ (r.length : Int)
      rw [← flr_hd]
      simp [needF]; omega
    · intro f hf
      rcases List.mem_cons.1 hf with rfl | hf
      · simp
      · exact h.kd f hf
    · show (s.nds[p.toNat].1 ++ r).length ≤ _
      rw [List.length_append]; omega
    · show (_ :: s.frs).length ≤ _
      rw [List.length_cons]; omega
    · show s.nds.length ≤ _; omega
    · show s.fre.length ≤ _; omega
    · show s.stp ≤ _; omega
  · refine ⟨⟨?_, h.gap, h.kd, hit, h.nd, h.fr⟩, ⟨?_, ?_, ?_, ?_, hf, ?_⟩⟩
    · show flr s < (s.nds[p.toNat].1 ++ r).length
      rw [List.length_append]; omega
    · show (s.nds[p.toNat].1 ++ r).length ≤ _
      rw [List.length_append]; omega
    · show s.frs.length ≤ _; omega
    · show s.nds.length ≤ _; omega
    · show s.fre.length ≤ _; omega
    · show s.stp ≤ _; omega
theorem iv_ask {c : Cf} {s : Ms} {i : Nat} {p : Int} {r : Ln} (h : Iv c s) (hc : Ct i s) (hs : s.stk = (4, p) :: r) (hw : wantM p ≤ argN s) : Iv c (askM p s) ∧ Ct (i + 1) (askM p s) := by
  have hw2 := want_ge p
  have ha := hc.a
  have hb := hc.b
  have hd := hc.d
  have he := hc.e
  have hg := hc.g
  have hne := h.ne
  rw [hs, List.length_cons] at ha hne
  have hl : (r.length : Int) = argN s + flr s := by unfold argN; rw [hs, if_neg (by simp)]; simp
  cases hr : r with
  | nil => rw [hr] at hl; simp at hl; omega
  | cons x r1 =>
    have hlr : r.length = r1.length + 1 := by rw [hr]; rfl
    have e : askM p s = { s with stk := x :: r1, frs := ⟨2, r1.length, 0, p, 0⟩ :: s.frs } := by
      unfold askM pushM waitM popM
      rw [hs, hr]; rfl
    rw [e]
    refine ⟨⟨?_, ⟨?_, h.gap⟩, ?_, ?_, h.nd, h.fr⟩, ⟨?_, ?_, ?_, ?_, hc.f, ?_⟩⟩
    · show r1.length < (x :: r1).length; simp
    · show (hdH s.frs : Int) + needF _ ≤ (r1.length : Int)
      rw [← flr_hd]; simp [needF]; omega
    · intro f hf
      rcases List.mem_cons.1 hf with rfl | hf
      · simp
      · exact h.kd f hf
    · intro y hy; exact h.it y (by rw [hs, hr]; exact List.mem_cons_of_mem _ hy)
    · show (x :: r1).length ≤ _; rw [List.length_cons]; omega
    · show (_ :: s.frs).length ≤ _; rw [List.length_cons]; omega
    · show s.nds.length ≤ _; omega
    · show s.fre.length ≤ _; omega
    · show s.stp ≤ _; omega
theorem iv_del {c : Cf} {s : Ms} {i : Nat} {t : Int × Int} {r : Ln} (h : Iv c s) (hc : Ct i s) (hs : s.stk = t :: r) (har : argN s ≤ 6) (ht : t.1 = 1 → argN s ≤ 0) (ho : (delM c t s).out = 0) : Iv c (delM c t s) ∧ Ct (i + 1) (delM c t s) := by
  have ha := hc.a
  have hb := hc.b
  have hd := hc.d
  have he := hc.e
  have hg := hc.g
  have hne := h.ne
  have hal : (r.length : Int) = argN s + flr s := by unfold argN; rw [hs, if_neg (by simp)]; simp
  have hl0 : s.stk.length = r.length + 1 := by rw [hs]; rfl
  unfold delM at ho ⊢
  cases hf : s.frs with
  | nil =>
    rw [hf] at ho
    simp only [finM] at ho
    split at ho <;> simp at ho
  | cons f fr =>
    rw [hf] at ho
    simp only at ho ⊢
    have hkf := h.kd f (by rw [hf]; simp)
    have hgp := h.gap
    rw [hf] at hgp
    obtain ⟨hg1, hg2⟩ := hgp
    have hfl : flr s = f.h := by unfold flr; rw [hf]; rfl
    have hfb : s.frs.length = fr.length + 1 := by rw [hf]; rfl
    by_cases h1 : f.k = 1
    · rw [if_pos h1] at ho ⊢
      have hn0 : needF f = 0 := by unfold needF; rw [h1]; simp
      have hact : (actM s).length ≤ 8 ∧ 1 ≤ (actM s).length ∧ ∀ x ∈ actM s, GI c s.nds.length x := by
        refine ⟨?_, ?_, fun x hx => h.it x (List.mem_of_mem_take hx)⟩
        · unfold actM; rw [List.length_take]; omega
        · unfold actM; rw [List.length_take]; omega
      have hd1 : dropM s = { s with frs := fr } := by unfold dropM; rw [hf]; rfl
      have hbase : Iv c { s with frs := fr } ∧ Ct (i + 1) { s with frs := fr } := by
        refine ⟨⟨?_, hg2, fun g hg => h.kd g (by rw [hf]; simp [hg]), h.it, h.nd, h.fr⟩, ⟨?_, ?_, ?_, ?_, hc.f, ?_⟩⟩
        · show hdH fr < s.stk.length; omega
        · show s.stk.length ≤ _; omega
        · show fr.length ≤ _; omega
        · show s.nds.length ≤ _; omega
        · show s.fre.length ≤ _; omega
        · show s.stp ≤ _; omega
      unfold updM layM
      rw [hd1]
      split
      · refine ⟨⟨hbase.1.ne, hbase.1.gap, hbase.1.kd, ?_, ?_, ?_⟩, ⟨hbase.2.a, hbase.2.b, ?_, hbase.2.e, hbase.2.f, hbase.2.g⟩⟩
        · show ∀ x ∈ s.stk, GI c (s.nds.set _ _).length x
          rw [List.length_set]; exact h.it
        · show ∀ n ∈ s.nds.set _ _, _ ∧ _ ∧ ∀ x ∈ n.1, GI c (s.nds.set _ _).length x
          rw [List.length_set]
          intro n hn
          rcases List.mem_or_eq_of_mem_set hn with hn | rfl
          · exact h.nd n hn
          · exact ⟨hact.2.1, hact.1, hact.2.2⟩
        · show ∀ p ∈ s.fre, _ ∧ p < ((s.nds.set _ _).length : Int)
          rw [List.length_set]; exact h.fr
        · show (s.nds.set _ _).length ≤ _
          rw [List.length_set]; omega
      · exact hbase
    · rw [if_neg h1] at ho ⊢
      by_cases ht1 : t.1 = 1
      · rw [if_neg (by simpa using ht1)] at ho ⊢
        have har0 := ht ht1
        have hrl : r.length = f.h := by omega
        have htn := (h.it t (by rw [hs]; simp)).1 ht1
        by_cases h2 : f.k = 2
        · rw [if_pos h2] at ho ⊢
          have hw2 := want_ge f.pr
          have hn2 : needF f = wantM f.pr - 1 := by unfold needF; rw [if_pos h2]
          cases hr : r with
          | nil => rw [hr] at hrl; simp at hrl; omega
          | cons y r1 =>
            have hlr : r.length = r1.length + 1 := by rw [hr]; rfl
            have e : askM2 f.pr t.2 s = { s with stk := y :: r1, frs := ⟨3, r1.length, 0, f.pr, t.2⟩ :: fr } := by
              unfold askM2 pushM waitM popM dropM
              rw [hs, hr, hf]; rfl
            rw [e]
            refine ⟨⟨?_, ⟨?_, hg2⟩, ?_, ?_, h.nd, h.fr⟩, ⟨?_, ?_, ?_, ?_, hc.f, ?_⟩⟩
            · show r1.length < (y :: r1).length; simp
            · show (hdH fr : Int) + needF _ ≤ (r1.length : Int)
              simp [needF]; omega
            · intro g hg
              rcases List.mem_cons.1 hg with rfl | hg
              · exact ⟨.inr (.inr rfl), htn⟩
              · exact h.kd g (by rw [hf]; simp [hg])
            · intro z hz; exact h.it z (by rw [hs, hr]; exact List.mem_cons_of_mem _ hz)
            · show (y :: r1).length ≤ _; rw [List.length_cons]; omega
            · show (_ :: fr).length ≤ _; rw [List.length_cons]; omega
            · show s.nds.length ≤ _; omega
            · show s.fre.length ≤ _; omega
            · show s.stp ≤ _; omega
        · rw [if_neg h2] at ho ⊢
          have h3 : f.k = 3 := by omega
          have hw2 := want_ge f.pr
          have hn2 : needF f = wantM f.pr - 2 := by unfold needF; rw [if_neg h2, if_pos h3]
          unfold compM at ho ⊢
          by_cases hbd : c.bud ≤ s.stp
          · rw [if_pos hbd] at ho; simp at ho
          · rw [if_neg hbd] at ho ⊢
            have hpd : popM (dropM { s with stp := s.stp + 1 }) = { s with stp := s.stp + 1, stk := r, frs := fr } := by
              unfold popM dropM; rw [hs, hf]; rfl
            simp only [hpd] at ho ⊢
            have key : ∀ (z : Int × Int) (q : Ln), GI c s.nds.length z → (∀ x ∈ q, x ∈ s.stk) → hdH fr < q.length + 1 → q.length ≤ r.length → Iv c { s with stp := s.stp + 1, stk := z :: q, frs := fr } ∧ Ct (i + 1) { s with stp := s.stp + 1, stk := z :: q, frs := fr } := by
              intro z q hz hq hh hql
              refine ⟨⟨?_, hg2, fun g hg => h.kd g (by rw [hf]; simp [hg]), ?_, h.nd, h.fr⟩, ⟨?_, ?_, ?_, ?_, ?_, ?_⟩⟩
              · show hdH fr < (z :: q).length; rw [List.length_cons]; exact hh
              · intro x hx
                rcases List.mem_cons.1 hx with rfl | hx
                · exact hz
                · exact h.it x (hq x hx)
              · show (z :: q).length ≤ _; rw [List.length_cons]; omega
              · show fr.length ≤ _; omega
              · show s.nds.length ≤ _; omega
              · show s.fre.length ≤ _; omega
              · show 0 ≤ s.stp + 1; have := hc.f; omega
              · show s.stp + 1 ≤ _; omega
            have hch : ∀ bb : Bool, wantM f.pr = 4 → Iv c (chooseM bb { s with stp := s.stp + 1, stk := r, frs := fr }) ∧ Ct (i + 1) (chooseM bb { s with stp := s.stp + 1, stk := r, frs := fr }) := by
              intro bb hw
              cases hr : r with
              | nil => rw [hr] at hrl; simp at hrl; omega
              | cons y r1 =>
                cases hr1 : r1 with
                | nil => rw [hr, hr1] at hrl; simp at hrl; omega
                | cons z r2 =>
                  have hlr : r.length = r2.length + 1 + 1 := by rw [hr, hr1]; rfl
                  unfold chooseM pushM popM
                  simp only [hdI, List.headD_cons, List.tail_cons]
                  refine key _ r2 ?_ (fun x hx => by rw [hs, hr, hr1]; simp [hx]) (by omega) (by omega)
                  cases bb
                  · exact h.it z (by rw [hs, hr, hr1]; simp)
                  · exact h.it y (by rw [hs, hr, hr1]; simp)
            by_cases hp3 : f.pr = 3
            · rw [if_pos hp3] at ho ⊢
              exact hch _ (by unfold wantM; rw [if_pos (.inl hp3)])
            · rw [if_neg hp3] at ho ⊢
              by_cases hp4 : f.pr = 4
              · rw [if_pos hp4] at ho ⊢
                exact hch _ (by unfold wantM; rw [if_pos (.inr hp4)])
              · rw [if_neg hp4] at ho ⊢
                unfold calcM at ho ⊢
                by_cases hov : 1000000000 < calcV f.pr f.nu t.2 ∨ calcV f.pr f.nu t.2 < -1000000000
                · rw [if_pos hov] at ho; simp at ho
                · rw [if_neg hov]
                  refine key _ r ⟨fun _ => by simp only; omega, fun e => by simp at e, fun e => by simp at e⟩ (fun x hx => by rw [hs]; simp [hx]) (by omega) (Nat.le_refl _)
      · rw [if_pos (by simpa using ht1)] at ho; simp at ho
/-- New places: where they lie, and what the older ones hold. -/
structure Tk3 (s s' : Ms) (ps : List Int) : Prop where
  st : s'.stk = s.stk ∧ s'.frs = s.frs ∧ s'.stp = s.stp ∧ s'.out = s.out ∧ s'.val = s.val
  le : s.nds.length ≤ s'.nds.length
  ln : s'.nds.length ≤ s.nds.length + ps.length
  old : ∀ j, j < s.nds.length → s'.nds[j]? = s.nds[j]?
  new : ∀ j, s.nds.length ≤ j → j < s'.nds.length → (j : Int) ∈ ps
  val : ∀ p ∈ ps, 0 ≤ p ∧ p < s'.nds.length
  fr : ∀ p ∈ s'.fre, p ∈ s.fre
  fl : s'.fre.length ≤ s.fre.length
theorem take_tk : ∀ (n : Nat) (s : Ms), (∀ p ∈ s.fre, 0 ≤ p ∧ p < s.nds.length) → Tk3 s (takeN n s) (takeL n s)
  | 0, s, _ => ⟨⟨rfl, rfl, rfl, rfl, rfl⟩, Nat.le_refl _, by simp [takeN], fun _ _ => rfl, fun j h1 h2 => by simp [takeN] at h2; omega, fun p hp => by simp [takeL] at hp, fun _ h => h, Nat.le_refl _⟩
  | n + 1, s, h => by
    rw [takeN, takeL]
    cases hf : s.fre with
    | nil =>
      have e1 : takeM s = { s with nds := s.nds ++ [([], false)] } := by unfold takeM; rw [hf]
      have e2 : takeP s = s.nds.length := by unfold takeP; rw [hf]
      rw [e1, e2]
      have ih := take_tk n { s with nds := s.nds ++ [([], false)] } (fun p hp => by simp only [hf] at hp; simp at hp)
      have il : s.nds.length + 1 ≤ (takeN n { s with nds := s.nds ++ [([], false)] }).nds.length := by have := ih.le; simpa using this
      refine ⟨ih.st, by omega, ?_, ?_, ?_, ?_, ih.fr, ih.fl⟩
      · have := ih.ln; simp at this ⊢; omega
      · intro j hj
        have := ih.old j (by simp; omega)
        rw [this]
        exact List.getElem?_append_left hj
      · intro j h1 h2
        by_cases hj : j = s.nds.length
        · subst hj; simp
        · exact List.mem_cons_of_mem _ (ih.new j (by simp; omega) h2)
      · intro p hp
        rcases List.mem_cons.1 hp with rfl | hp
        · omega
        · exact ih.val p hp
    | cons x r =>
      have e1 : takeM s = { s with fre := r } := by unfold takeM; rw [hf]
      have e2 : takeP s = x := by unfold takeP; rw [hf]
      rw [e1, e2]
      have hx := h x (by rw [hf]; simp)
      have ih := take_tk n { s with fre := r } (fun p hp => h p (by rw [hf]; exact List.mem_cons_of_mem _ hp))
      have hle := ih.le
      simp only at hle
      refine ⟨ih.st, ih.le, ?_, ih.old, ?_, ?_, ?_, ?_⟩
      · have := ih.ln; simp at this ⊢; omega
      · intro j h1 h2; exact List.mem_cons_of_mem _ (ih.new j h1 h2)
      · intro p hp
        rcases List.mem_cons.1 hp with rfl | hp
        · omega
        · exact ih.val p hp
      · intro p hp; have := ih.fr p hp; rw [hf]; exact List.mem_cons_of_mem _ this
      · have := ih.fl; rw [hf]; simp at this ⊢; omega
/-- The lines of a template are laid, from line i + 1 on. -/
theorem lay_all (P : Ln × Bool → Prop) (ar : Ln) (ps : List Int) : ∀ (ls : List Ln) (i : Nat) (s : Ms), i + ls.length = ps.length → (∀ p ∈ ps, 0 ≤ p ∧ p < s.nds.length) → (∀ l ∈ ls, P (instM l ar ps, false)) → (∀ (j : Nat) (n : Ln × Bool), s.nds[j]? = some n → P n ∨ ∃ q, i ≤ q ∧ ps[q]? = some (j : Int)) →
    (layF ar ps (i + 1) ls s).stk = s.stk ∧ (layF ar ps (i + 1) ls s).frs = s.frs ∧ (layF ar ps (i + 1) ls s).fre = s.fre ∧ (layF ar ps (i + 1) ls s).stp = s.stp ∧ (layF ar ps (i + 1) ls s).out = s.out ∧ (layF ar ps (i + 1) ls s).nds.length = s.nds.length ∧ ∀ n ∈ (layF ar ps (i + 1) ls s).nds, P n
  | [], i, s, hl, _, _, hP => by
    refine ⟨rfl, rfl, rfl, rfl, rfl, rfl, fun n hn => ?_⟩
    obtain ⟨j, hj, rfl⟩ := List.mem_iff_getElem.1 hn
    rcases hP j _ (List.getElem?_eq_getElem hj) with h | ⟨q, h1, h2⟩
    · exact h
    · have := (List.getElem?_eq_some_iff.1 h2).1
      simp at hl; omega
  | l :: ls, i, s, hl, hv, hL, hP => by
    have hi : i < ps.length := by simp at hl; omega
    have hpi := hv ps[i] (List.getElem_mem hi)
    have e : layF ar ps (i + 1) (l :: ls) s = layF ar ps (i + 1 + 1) ls { s with nds := s.nds.set ps[i].toNat (instM l ar ps, false) } := by
      rw [layF, if_pos hi, List.getElem?_eq_getElem hi, Option.getD_some, layM, if_pos hpi]
    rw [e]
    have ih := lay_all P ar ps ls (i + 1) { s with nds := s.nds.set ps[i].toNat (instM l ar ps, false) } (by simp at hl; omega) (fun p hp => by simp only [List.length_set]; exact hv p hp) (fun m hm => hL m (by simp [hm])) ?_
    · obtain ⟨a1, a2, a3, a4, a5, a6, a7⟩ := ih
      exact ⟨a1, a2, a3, a4, a5, by rw [a6]; simp, a7⟩
    · intro j n hj
      simp only at hj
      by_cases hji : ps[i].toNat = j
      · subst hji
        rw [List.getElem?_set_self (by omega)] at hj
        cases hj
        exact .inl (hL l (by simp))
      · rw [List.getElem?_set_ne hji] at hj
        rcases hP j n hj with h | ⟨q, h1, h2⟩
        · exact .inl h
        · by_cases hq : q = i
          · subst hq
            rw [List.getElem?_eq_getElem hi] at h2
            simp at h2
            omega
          · exact .inr ⟨q, by omega, h2⟩
theorem popN_take : ∀ (n : Nat) (l : Ln), n ≤ l.length → popN n l = l.take n
  | 0, _, _ => rfl
  | n + 1, [], h => by simp at h
  | n + 1, a :: l, h => by
    rw [popN, List.take_succ_cons, List.tail_cons, popN_take n l (by simpa using h)]; rfl
theorem make_same (c : Cf) (n : Int) (s : Ms) : (makeM c n s).stk = s.stk ∧ (makeM c n s).frs = s.frs ∧ (makeM c n s).nds = s.nds ∧ (makeM c n s).stp = s.stp ∧ (makeM c n s).out = s.out := by
  unfold makeM; split <;> exact ⟨rfl, rfl, rfl, rfl, rfl⟩
theorem inst_gi {c : Cf} {t : Tp} {n : Nat} {l ar : Ln} {ps : List Int} (hl : ∀ a ∈ l, GA c t a) (har : ∀ x ∈ ar, GI c n x) (hps : ∀ p ∈ ps, 0 ≤ p ∧ p < n) (hpl : ps.length = t.ls.length - 1) : ∀ x ∈ instM l ar ps, GI c n x := by
  intro x hx
  unfold instM at hx
  obtain ⟨a, ha, rfl⟩ := List.mem_map.1 hx
  have hg := hl a ha
  unfold instA
  by_cases h5 : a.1 = 5 ∧ 0 ≤ a.2 ∧ a.2 < ps.length
  · rw [if_pos h5]
    have hlt : a.2.toNat < ps.length := by omega
    refine ⟨fun e => by simp at e, fun e => by simp at e, fun _ => ?_⟩
    simp only [List.getElem?_eq_getElem hlt, Option.getD_some]
    exact hps _ (List.getElem_mem hlt)
  · rw [if_neg h5]
    by_cases h2 : a.1 = 2 ∧ 0 ≤ a.2 ∧ a.2 < ar.length
    · rw [if_pos h2]
      have hlt : a.2.toNat < ar.length := by omega
      simp only [List.getElem?_eq_getElem hlt, Option.getD_some]
      exact har _ (List.getElem_mem hlt)
    · rw [if_neg h2]
      refine ⟨fun e => by have := hg.1 e; omega, fun e => hg.2.1 e, fun e => ?_⟩
      exact absurd ⟨e, (hg.2.2 e).1, by have := (hg.2.2 e).2; omega⟩ h5
theorem iv_call {c : Cf} {s : Ms} {i : Nat} {f : Int} {r : Ln} {t : Tp} (h : Iv c s) (hc : Ct i s) (hs : s.stk = (3, f) :: r) (ht : TG c t) (hw : t.ar ≤ argN s) (hfl : ∀ s : Ms, (freeM s).fre.length ≤ s.nds.length) (hfv : ∀ s : Ms, ∀ p ∈ (freeM s).fre, 0 ≤ p ∧ p < s.nds.length) (ho : (callM c t s).out = 0) : Iv c (callM c t s) ∧ Ct (i + 1) (callM c t s) := by
  have ha := hc.a
  have hb := hc.b
  have hd := hc.d
  have he := hc.e
  have hf := hc.f
  have hg := hc.g
  have hne := h.ne
  have hal : (r.length : Int) = argN s + flr s := by unfold argN; rw [hs, if_neg (by simp)]; simp
  have hl0 : s.stk.length = r.length + 1 := by rw [hs]; rfl
  have t0 := ht.a0
  have t1 := ht.a1
  have t2 := ht.n0
  have t3 := ht.n1
  obtain ⟨m1, m2, m3, m4, m5⟩ := make_same c ((t.ls.length : Int) - 1) s
  have m6 : (makeM c ((t.ls.length : Int) - 1) s).fre.length ≤ 12 * i ∧ ∀ p ∈ (makeM c ((t.ls.length : Int) - 1) s).fre, 0 ≤ p ∧ p < s.nds.length := by
    unfold makeM
    split
    · exact ⟨Nat.le_trans (hfl s) hd, hfv s⟩
    · exact ⟨he, h.fr⟩
  unfold callM at ho ⊢
  by_cases hbu : c.bud ≤ s.stp
  · rw [if_pos hbu] at ho; simp at ho
  · rw [if_neg hbu] at ho ⊢
    by_cases hfit : (t.ls.length : Int) - 1 ≤ roomM c (makeM c ((t.ls.length : Int) - 1) s)
    · rw [if_pos hfit] at ho ⊢
      simp only at ho ⊢
      generalize makeM c ((t.ls.length : Int) - 1) s = s1 at *
      have hpop : popN t.ar.toNat s1.stk.tail = r.take t.ar.toNat := by rw [m1, hs, List.tail_cons, popN_take _ _ (by omega)]
      have hstk : s1.stk.tail.drop t.ar.toNat = r.drop t.ar.toNat := by rw [m1, hs, List.tail_cons]
      rw [hpop, hstk] at *
      have tk := take_tk (t.ls.length - 1) { s1 with stp := s1.stp + 1, stk := r.drop t.ar.toNat } (fun p hp => by simp only [m3]; exact m6.2 p hp)
      have tl : (takeL (t.ls.length - 1) { s1 with stp := s1.stp + 1, stk := r.drop t.ar.toNat }).length = t.ls.length - 1 := by
        generalize ({ s1 with stp := s1.stp + 1, stk := r.drop t.ar.toNat } : Ms) = z
        generalize t.ls.length - 1 = n
        induction n generalizing z with
        | zero => rfl
        | succ n ih => simp [takeL, ih]
      generalize takeL (t.ls.length - 1) { s1 with stp := s1.stp + 1, stk := r.drop t.ar.toNat } = ps at *
      generalize hs3 : takeN (t.ls.length - 1) { s1 with stp := s1.stp + 1, stk := r.drop t.ar.toNat } = s3 at *
      obtain ⟨⟨k1, k2, k3, k4, k5⟩, kle, kln, kold, knew, kval, kfr, kfl⟩ := tk
      simp only [m3] at kle kln kold knew
      simp only at k1 k2 k3 k4 kfl kfr
      have hup : ∀ x ∈ r, GI c s3.nds.length x := fun x hx => (h.it x (by rw [hs]; simp [hx])).up kle
      cases hls : t.ls with
      | nil => rw [hls] at t2; simp at t2
      | cons l0 lr =>
        have hl0' := ht.ln l0 (by rw [hls]; simp)
        have hlr : t.ls.length = lr.length + 1 := by rw [hls]; rfl
        rw [layF]
        have hinst : ∀ l ∈ t.ls, ∀ x ∈ instM l (r.take t.ar.toNat) ps, GI c s3.nds.length x := fun l hl => inst_gi (t := t) (ht.ln l hl).2.2 (fun x hx => hup x (List.mem_of_mem_take hx)) kval tl
        obtain ⟨a1, a2, a3, a4, a5, a6, a7⟩ := lay_all (fun n => 1 ≤ n.1.length ∧ n.1.length ≤ 8 ∧ ∀ x ∈ n.1, GI c s3.nds.length x) (r.take t.ar.toNat) ps lr 0 (putM (instM l0 (r.take t.ar.toNat) ps) s3) (by omega) kval
          (fun l hl => by
            have h1 := ht.ln l (by rw [hls]; simp [hl])
            have h2 := hinst l (by rw [hls]; simp [hl])
            exact ⟨by simp only [instM, List.length_map]; exact h1.1, by simp only [instM, List.length_map]; exact h1.2.1, h2⟩)
          (fun j n hj => by
            have hjl : j < s3.nds.length := (List.getElem?_eq_some_iff.1 hj).1
            by_cases hjo : j < s.nds.length
            · left
              have hj2 : s.nds[j]? = some n := by rw [← kold j hjo]; exact hj
              have h3 := h.nd n (List.mem_of_getElem? hj2)
              exact ⟨h3.1, h3.2.1, fun x hx => (h3.2.2 x hx).up kle⟩
            · right
              obtain ⟨q, hq, he⟩ := List.mem_iff_getElem.1 (knew j (by omega) hjl)
              exact ⟨q, Nat.zero_le _, by rw [List.getElem?_eq_getElem hq, he]⟩)
        have hput : (putM (instM l0 (r.take t.ar.toNat) ps) s3).stk = instM l0 (r.take t.ar.toNat) ps ++ r.drop t.ar.toNat := by show _ ++ s3.stk = _; rw [k1]
        have hil : (instM l0 (r.take t.ar.toNat) ps).length = l0.length := by simp [instM]
        have hdr : (r.drop t.ar.toNat).length = r.length - t.ar.toNat := List.length_drop
        have hfr3 : (putM (instM l0 (r.take t.ar.toNat) ps) s3).frs = s.frs := by show s3.frs = _; rw [k2, m2]
        have hnl3 : (putM (instM l0 (r.take t.ar.toNat) ps) s3).nds.length = s3.nds.length := rfl
        rw [hput] at a1
        rw [hfr3] at a2
        rw [hnl3] at a6
        refine ⟨⟨?_, ?_, ?_, ?_, ?_, ?_⟩, ⟨?_, ?_, ?_, ?_, ?_, ?_⟩⟩
        · rw [flr_hd, a2, a1, ← flr_hd, List.length_append, hil, hdr]; omega
        · rw [a2]; exact h.gap
        · rw [a2]; exact h.kd
        · rw [a1, a6]
          intro x hx
          rcases List.mem_append.1 hx with hx | hx
          · exact hinst l0 (by rw [hls]; simp) x hx
          · exact hup x (List.mem_of_mem_drop hx)
        · rw [a6]; exact a7
        · rw [a3, a6]
          intro p hp
          have := m6.2 p (kfr p hp)
          omega
        · rw [a1, List.length_append, hil, hdr]; omega
        · rw [a2]; omega
        · rw [a6]; omega
        · rw [a3]; show s3.fre.length ≤ _; omega
        · rw [a4]; show 0 ≤ s3.stp; rw [k3, m4]; omega
        · rw [a4]; show s3.stp ≤ _; rw [k3, m4]; omega
    · rw [if_neg hfit] at ho; simp at ho
theorem iv_move {c : Cf} {s : Ms} {i : Nat} (h : Iv c s) (hc : Ct i s) (ht : ∀ t ∈ c.fs, TG c t) (hfl : ∀ s : Ms, (freeM s).fre.length ≤ s.nds.length) (hfv : ∀ s : Ms, ∀ p ∈ (freeM s).fre, 0 ≤ p ∧ p < s.nds.length) (ho : (moveM c s).out = 0) : Iv c (moveM c s) ∧ Ct (i + 1) (moveM c s) := by
  have hne := h.ne
  cases hs : s.stk with
  | nil => rw [hs] at hne; simp at hne
  | cons t r =>
    have hhd : hdI s.stk = t := by rw [hs]; rfl
    unfold moveM at ho ⊢
    simp only [hhd] at ho ⊢
    by_cases h5 : t.1 = 5
    · rw [if_pos h5] at ho ⊢
      obtain ⟨t1, t2⟩ := t
      simp only at h5
      subst h5
      exact iv_enter h hc hs
    · rw [if_neg h5] at ho ⊢
      by_cases h3 : t.1 = 3
      · rw [if_pos h3] at ho ⊢
        have hv := (h.it t (by rw [hs]; simp)).2.1 h3
        have hlt : t.2.toNat < c.fs.length := by omega
        have htp : tplM c t.2 ∈ c.fs := by
          unfold tplM
          rw [if_pos hv, List.getElem?_eq_getElem hlt]
          exact List.getElem_mem hlt
        have htg := ht _ htp
        by_cases hle : (tplM c t.2).ar ≤ argN s
        · rw [if_pos hle] at ho ⊢
          obtain ⟨t1, t2⟩ := t
          simp only at h3
          subst h3
          exact iv_call h hc hs htg hle hfl hfv ho
        · rw [if_neg hle] at ho ⊢
          exact iv_del h hc hs (by have := htg.a1; omega) (fun e => by omega) ho
      · rw [if_neg h3] at ho ⊢
        by_cases h4 : t.1 = 4
        · rw [if_pos h4] at ho ⊢
          by_cases hle : wantM t.2 ≤ argN s
          · rw [if_pos hle]
            obtain ⟨t1, t2⟩ := t
            simp only at h4
            subst h4
            exact iv_ask h hc hs hle
          · rw [if_neg hle] at ho ⊢
            exact iv_del h hc hs (by have := want_ge t.2; omega) (fun e => by omega) ho
        · rw [if_neg h4] at ho ⊢
          by_cases hp : 0 < argN s
          · rw [if_pos hp] at ho; simp at ho
          · rw [if_neg hp] at ho ⊢
            exact iv_del h hc hs (by omega) (fun _ => by omega) ho
end Go.Proofs.YtnndoagpbcacdaaGreatDoor
