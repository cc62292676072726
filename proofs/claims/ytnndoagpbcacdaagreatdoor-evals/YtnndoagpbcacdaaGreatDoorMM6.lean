import Derived.Test.YtnndoagpbcacdaaGreatDoorMB0
namespace Go.Proofs.YtnndoagpbcacdaaGreatDoor

/-! The machine, plain: what lies on top comes first in the stack, the frames and the free places. -/
structure Fr where
  k : Int
  h : Nat
  nd : Int
  pr : Int
  nu : Int
structure Ms where
  stk : Ln
  frs : List Fr
  nds : List (Ln × Bool)
  fre : List Int
  stp : Int
  out : Int
  val : Int
/-- What a run is given: the templates, the budget, the heap. -/
structure Cf where
  fs : List Tp
  bud : Int
  hp : Int
def hdI (l : Ln) : Int × Int := l.headD (0, 0)
def flr (s : Ms) : Nat := (s.frs.map (·.h)).headD 0
def argN (s : Ms) : Int := if s.stk.length = 0 then 0 else (s.stk.length : Int) - 1 - flr s
def pushM (x : Int × Int) (s : Ms) : Ms := { s with stk := x :: s.stk }
def putM (l : Ln) (s : Ms) : Ms := { s with stk := l ++ s.stk }
def popM (s : Ms) : Ms := { s with stk := s.stk.tail }
def popN : Nat → Ln → Ln
  | 0, _ => []
  | n + 1, l => hdI l :: popN n l.tail
def waitM (k nd pr nu : Int) (s : Ms) : Ms := { s with frs := ⟨k, s.stk.length, nd, pr, nu⟩ :: s.frs }
def dropM (s : Ms) : Ms := { s with frs := s.frs.tail }
def layM (p : Int) (n : Ln × Bool) (s : Ms) : Ms := if 0 ≤ p ∧ p < s.nds.length then { s with nds := s.nds.set p.toNat n } else s
def actM (s : Ms) : Ln := s.stk.take (s.stk.length - flr s)
def enterM (s : Ms) : Ms :=
  if 0 ≤ (hdI s.stk).2 ∧ (hdI s.stk).2 < s.nds.length then
    putM (s.nds[(hdI s.stk).2.toNat]?.getD ([], false)).1 (if (s.nds[(hdI s.stk).2.toNat]?.getD ([], false)).2 then popM s else waitM 1 (hdI s.stk).2 0 0 (popM s))
  else popM s
def updM (nd : Int) (s : Ms) : Ms := layM nd (actM s, true) (dropM s)
def tplM (c : Cf) (n : Int) : Tp := if 0 ≤ n ∧ n < c.fs.length then c.fs[n.toNat]?.getD ⟨0, []⟩ else ⟨0, []⟩
def instA (ar : Ln) (ps : List Int) (a : Int × Int) : Int × Int :=
  if a.1 = 5 ∧ 0 ≤ a.2 ∧ a.2 < ps.length then (5, ps[a.2.toNat]?.getD 0)
  else if a.1 = 2 ∧ 0 ≤ a.2 ∧ a.2 < ar.length then ar[a.2.toNat]?.getD (0, 0) else a
def instM (l : Ln) (ar : Ln) (ps : List Int) : Ln := l.map (instA ar ps)
def takeM (s : Ms) : Ms := match s.fre with
  | [] => { s with nds := s.nds ++ [([], false)] }
  | _ :: r => { s with fre := r }
def takeP (s : Ms) : Int := match s.fre with
  | [] => s.nds.length
  | p :: _ => p
def takeN : Nat → Ms → Ms
  | 0, s => s
  | n + 1, s => takeN n (takeM s)
def takeL : Nat → Ms → List Int
  | 0, _ => []
  | n + 1, s => takeP s :: takeL n (takeM s)
def layF (ar : Ln) (ps : List Int) : Nat → List Ln → Ms → Ms
  | _, [], s => s
  | 0, l :: r, s => layF ar ps 1 r (putM (instM l ar ps) s)
  | i + 1, l :: r, s => layF ar ps (i + 2) r (if i < ps.length then layM (ps[i]?.getD 0) (instM l ar ps, false) s else s)
/-- What is needed: the marks, the places in the order in which they were reached. -/
def rch (p : Int) (x : List Bool × List Int) : List Bool × List Int :=
  if p < 0 ∨ (x.1.length : Int) ≤ p ∨ x.1[p.toNat]?.getD false = true then x else (x.1.set p.toNat true, x.2 ++ [p])
def rchA : Ln → List Bool × List Int → List Bool × List Int
  | [], x => x
  | a :: l, x => rchA l (if a.1 = 5 then rch a.2 x else x)
def rchF : List Fr → List Bool × List Int → List Bool × List Int
  | [], x => x
  | f :: l, x => rchF l (if f.k = 1 then rch f.nd x else x)
def bfs (s : Ms) : Nat → Nat → List Bool × List Int → List Bool × List Int
  | 0, _, x => x
  | n + 1, i, x => if i < x.2.length then bfs s n (i + 1) (if 0 ≤ x.2[i]?.getD 0 ∧ x.2[i]?.getD 0 < s.nds.length then rchA (s.nds[(x.2[i]?.getD 0).toNat]?.getD ([], false)).1 x else x) else x
def needM (s : Ms) : List Bool × List Int := bfs s s.nds.length 0 (rchF s.frs.reverse (rchA s.stk.reverse (List.replicate s.nds.length false, [])))
/-- The places without a mark, the last first. -/
def offs : Nat → List Bool → List Int → List Int
  | _, [], acc => acc
  | i, b :: l, acc => offs (i + 1) l (if b then acc else (i : Int) :: acc)
def freeM (s : Ms) : Ms := { s with fre := offs 0 (needM s).1 [] }
def roomM (c : Cf) (s : Ms) : Int := c.hp - s.nds.length + s.fre.length
def makeM (c : Cf) (n : Int) (s : Ms) : Ms := if roomM c s < n then freeM s else s
def callM (c : Cf) (t : Tp) (s : Ms) : Ms :=
  if c.bud ≤ s.stp then { s with out := 5 }
  else if (t.ls.length : Int) - 1 ≤ roomM c (makeM c ((t.ls.length : Int) - 1) s) then
    let s1 := makeM c ((t.ls.length : Int) - 1) s
    let s2 : Ms := { s1 with stp := s1.stp + 1, stk := s1.stk.tail.drop t.ar.toNat }
    layF (popN t.ar.toNat s1.stk.tail) (takeL (t.ls.length - 1) s2) 0 t.ls (takeN (t.ls.length - 1) s2)
  else { makeM c ((t.ls.length : Int) - 1) s with out := 6 }
def wantM (p : Int) : Int := if p = 3 ∨ p = 4 then 4 else 2
def askM (p : Int) (s : Ms) : Ms := pushM (hdI s.stk.tail) (waitM 2 0 p 0 (popM (popM s)))
def askM2 (p n : Int) (s : Ms) : Ms := pushM (hdI s.stk.tail) (waitM 3 0 p n (popM (popM (dropM s))))
def chooseM (b : Bool) (s : Ms) : Ms := pushM (if b then hdI s.stk else hdI s.stk.tail) (popM (popM s))
def calcV (p x y : Int) : Int := if p = 0 then x + y else if p = 1 then x - y else x * y
def calcM (p x y : Int) (s : Ms) : Ms := if 1000000000 < calcV p x y ∨ calcV p x y < -1000000000 then { s with out := 4 } else pushM (1, calcV p x y) s
def compM (c : Cf) (p x y : Int) (s : Ms) : Ms :=
  if c.bud ≤ s.stp then { s with out := 5 }
  else
    let s1 := popM (dropM { s with stp := s.stp + 1 })
    if p = 3 then chooseM (decide (x < y)) s1 else if p = 4 then chooseM (decide (x = y)) s1 else calcM p x y s1
def finM (t : Int × Int) (s : Ms) : Ms := if t.1 = 1 then { s with out := 1, val := t.2 } else { s with out := 2 }
def delM (c : Cf) (t : Int × Int) (s : Ms) : Ms :=
  match s.frs with
  | [] => finM t s
  | f :: _ => if f.k = 1 then updM f.nd s else if t.1 ≠ 1 then { s with out := 3 } else if f.k = 2 then askM2 f.pr t.2 s else compM c f.pr f.nu t.2 s
def moveM (c : Cf) (s : Ms) : Ms :=
  let t := hdI s.stk
  if t.1 = 5 then enterM s
  else if t.1 = 3 then (if (tplM c t.2).ar ≤ argN s then callM c (tplM c t.2) s else delM c t s)
  else if t.1 = 4 then (if wantM t.2 ≤ argN s then askM t.2 s else delM c t s)
  else if 0 < argN s then { s with out := 3 } else delM c t s
def iterM (c : Cf) : Nat → Ms → Ms
  | 0, s => s
  | n + 1, s => if s.out = 0 then iterM c n (moveM c s) else s
def initM (mn : Int) : Ms := ⟨[(3, mn)], [], [], [], 0, 0, 0⟩

end Go.Proofs.YtnndoagpbcacdaaGreatDoor
namespace Go.Proofs.YtnndoagpbcacdaaGreatDoor
/-! What is needed: the marks are closed, and none is too many. -/
def cT : List Bool → Nat
  | [] => 0
  | b :: l => (if b then 1 else 0) + cT l
theorem cT_le : ∀ l : List Bool, cT l ≤ l.length
  | [] => Nat.le_refl _
  | b :: l => by have := cT_le l; unfold cT; rw [List.length_cons]; split <;> omega
theorem cT_set : ∀ (l : List Bool) (i : Nat), l[i]? = some false → cT (l.set i true) = cT l + 1
  | [], i, h => by simp at h
  | b :: l, 0, h => by simp at h; subst h; simp [cT]; omega
  | b :: l, i + 1, h => by
    have := cT_set l i (by simpa using h)
    simp only [List.set_cons_succ, cT, this]; omega
structure RI (n : Nat) (x : List Bool × List Int) : Prop where
  len : x.1.length = n
  iff : ∀ p : Int, p ∈ x.2 ↔ (0 ≤ p ∧ x.1[p.toNat]? = some true)
  cnt : x.2.length = cT x.1
theorem RI.le {n : Nat} {x : List Bool × List Int} (h : RI n x) : x.2.length ≤ n := by rw [h.cnt, ← h.len]; exact cT_le _
theorem RI.val {n : Nat} {x : List Bool × List Int} (h : RI n x) {p : Int} (hp : p ∈ x.2) : 0 ≤ p ∧ p < n := by
  obtain ⟨h1, h2⟩ := (h.iff p).1 hp
  have := (List.getElem?_eq_some_iff.1 h2).1
  rw [h.len] at this
  exact ⟨h1, by omega⟩
theorem RI.init (n : Nat) : RI n (List.replicate n false, []) := by
  refine ⟨by simp, fun p => ?_, ?_⟩
  · simp only [List.not_mem_nil, false_iff, not_and]
    intro _ h
    have := List.mem_of_getElem? h
    simp at this
  · induction n with
    | zero => rfl
    | succ n ih => simp [List.replicate_succ, cT] at ih ⊢; exact ih
theorem RI.rch {n : Nat} {x : List Bool × List Int} (h : RI n x) (p : Int) : RI n (rch p x) ∧ (∃ l, (rch p x).2 = x.2 ++ l ∧ ∀ q ∈ l, q = p) ∧ (0 ≤ p → p < n → p ∈ (rch p x).2) := by
  unfold Go.Proofs.YtnndoagpbcacdaaGreatDoor.rch
  by_cases hc : p < 0 ∨ (x.1.length : Int) ≤ p ∨ x.1[p.toNat]?.getD false = true
  · rw [if_pos hc]
    refine ⟨h, ⟨[], by simp, by simp⟩, fun h1 h2 => ?_⟩
    rcases hc with hc | hc | hc
    · omega
    · rw [h.len] at hc; omega
    · refine (h.iff p).2 ⟨h1, ?_⟩
      cases hx : x.1[p.toNat]? with
      | none => rw [hx] at hc; simp at hc
      | some b => rw [hx] at hc; simp at hc; rw [hc]
  · rw [if_neg hc]
    have hc1 : 0 ≤ p := by omega
    have hc2 : p < (x.1.length : Int) := by omega
    have hlt : p.toNat < x.1.length := by omega
    have hf : x.1[p.toNat]? = some false := by
      have : ¬ x.1[p.toNat]?.getD false = true := fun e => hc (.inr (.inr e))
      rw [List.getElem?_eq_getElem hlt] at this ⊢
      simpa using this
    refine ⟨⟨by simp [h.len], fun q => ?_, ?_⟩, ⟨[p], rfl, by simp⟩, fun _ _ => by simp⟩
    · simp only [List.mem_append, List.mem_singleton]
      constructor
      · rintro (hq | rfl)
        · obtain ⟨a, b⟩ := (h.iff q).1 hq
          refine ⟨a, ?_⟩
          rw [List.getElem?_set]
          split
          · simp
          · exact b
        · exact ⟨hc1, List.getElem?_set_self hlt⟩
      · rintro ⟨a, b⟩
        by_cases e : q = p
        · exact .inr e
        · rw [List.getElem?_set_ne (by omega)] at b
          exact .inl ((h.iff q).2 ⟨a, b⟩)
    · simp [cT_set _ _ hf, h.cnt]
/-- From x to y: more marks, the older ones first. -/
structure Mr (n : Nat) (x y : List Bool × List Int) (R : Int → Prop) : Prop where
  ri : RI n y
  pre : ∃ l, y.2 = x.2 ++ l ∧ ∀ q ∈ l, R q
theorem Mr.sub {n : Nat} {x y : List Bool × List Int} {R : Int → Prop} (h : Mr n x y R) {q : Int} (hq : q ∈ x.2) : q ∈ y.2 := by
  obtain ⟨l, e, _⟩ := h.pre; rw [e]; simp [hq]
theorem Mr.refl {n : Nat} {x : List Bool × List Int} {R : Int → Prop} (h : RI n x) : Mr n x x R := ⟨h, [], by simp, by simp⟩
theorem Mr.trans {n : Nat} {x y z : List Bool × List Int} {R : Int → Prop} (h1 : Mr n x y R) (h2 : Mr n y z R) : Mr n x z R := by
  obtain ⟨l, e, hl⟩ := h1.pre
  obtain ⟨m, e2, hm⟩ := h2.pre
  exact ⟨h2.ri, l ++ m, by rw [e2, e, List.append_assoc], fun q hq => by rcases List.mem_append.1 hq with h | h; exact hl q h; exact hm q h⟩
theorem rchA_mr {n : Nat} {R : Int → Prop} : ∀ (l : Ln) (x : List Bool × List Int), RI n x → (∀ a ∈ l, a.1 = 5 → R a.2) → Mr n x (rchA l x) R ∧ ∀ a ∈ l, a.1 = 5 → 0 ≤ a.2 → a.2 < n → a.2 ∈ (rchA l x).2
  | [], x, h, _ => ⟨Mr.refl h, by simp⟩
  | a :: l, x, h, hR => by
    rw [rchA]
    by_cases ha : a.1 = 5
    · rw [if_pos ha]
      obtain ⟨h1, ⟨m, e, hm⟩, h3⟩ := h.rch a.2
      have hm1 : Mr n x (rch a.2 x) R := ⟨h1, m, e, fun q hq => by rw [hm q hq]; exact hR a (by simp) ha⟩
      obtain ⟨h4, h5⟩ := rchA_mr l (rch a.2 x) h1 (fun b hb => hR b (by simp [hb]))
      refine ⟨hm1.trans h4, fun b hb hb5 h0 hn => ?_⟩
      rcases List.mem_cons.1 hb with rfl | hb
      · exact h4.sub (h3 h0 hn)
      · exact h5 b hb hb5 h0 hn
    · rw [if_neg ha]
      obtain ⟨h4, h5⟩ := rchA_mr l x h (fun b hb => hR b (by simp [hb]))
      refine ⟨h4, fun b hb hb5 h0 hn => ?_⟩
      rcases List.mem_cons.1 hb with rfl | hb
      · exact absurd hb5 ha
      · exact h5 b hb hb5 h0 hn
theorem rchF_mr {n : Nat} {R : Int → Prop} : ∀ (l : List Fr) (x : List Bool × List Int), RI n x → (∀ a ∈ l, a.k = 1 → R a.nd) → Mr n x (rchF l x) R ∧ ∀ a ∈ l, a.k = 1 → 0 ≤ a.nd → a.nd < n → a.nd ∈ (rchF l x).2
  | [], x, h, _ => ⟨Mr.refl h, by simp⟩
  | a :: l, x, h, hR => by
    rw [rchF]
    by_cases ha : a.k = 1
    · rw [if_pos ha]
      obtain ⟨h1, ⟨m, e, hm⟩, h3⟩ := h.rch a.nd
      have hm1 : Mr n x (rch a.nd x) R := ⟨h1, m, e, fun q hq => by rw [hm q hq]; exact hR a (by simp) ha⟩
      obtain ⟨h4, h5⟩ := rchF_mr l (rch a.nd x) h1 (fun b hb => hR b (by simp [hb]))
      refine ⟨hm1.trans h4, fun b hb hb5 h0 hn => ?_⟩
      rcases List.mem_cons.1 hb with rfl | hb
      · exact h4.sub (h3 h0 hn)
      · exact h5 b hb hb5 h0 hn
    · rw [if_neg ha]
      obtain ⟨h4, h5⟩ := rchF_mr l x h (fun b hb => hR b (by simp [hb]))
      refine ⟨h4, fun b hb hb5 h0 hn => ?_⟩
      rcases List.mem_cons.1 hb with rfl | hb
      · exact absurd hb5 ha
      · exact h5 b hb hb5 h0 hn
def ndA (s : Ms) (p : Int) : Ln × Bool := s.nds[p.toNat]?.getD ([], false)
/-- All that those ahead of i point to is marked. -/
def Cl (s : Ms) (i : Nat) (x : List Bool × List Int) : Prop := ∀ j p, j < i → x.2[j]? = some p → ∀ a ∈ (ndA s p).1, a.1 = 5 → 0 ≤ a.2 → a.2 < s.nds.length → a.2 ∈ x.2
theorem bfs_mr {s : Ms} {R : Int → Prop} (hR : ∀ p, R p → ∀ a ∈ (ndA s p).1, a.1 = 5 → R a.2) : ∀ (f i : Nat) (x : List Bool × List Int), RI s.nds.length x → (∀ p ∈ x.2, R p) → Cl s i x → s.nds.length ≤ f + i → Mr s.nds.length x (bfs s f i x) R ∧ Cl s (bfs s f i x).2.length (bfs s f i x)
  | 0, i, x, h, _, hc, hf => ⟨Mr.refl h, fun j p hj => hc j p (by have := h.le; simp only [bfs] at hj; omega)⟩
  | f + 1, i, x, h, hx, hc, hf => by
    rw [bfs]
    by_cases hi : i < x.2.length
    · rw [if_pos hi]
      have hmem : x.2[i]?.getD 0 ∈ x.2 := by rw [List.getElem?_eq_getElem hi]; exact List.getElem_mem hi
      have hv := h.val hmem
      rw [if_pos hv]
      generalize hp : x.2[i]?.getD 0 = p at *
      have hpi : x.2[i]? = some p := by rw [List.getElem?_eq_getElem hi] at hp ⊢; simpa using hp
      obtain ⟨h1, h2⟩ := rchA_mr (n := s.nds.length) (R := R) (ndA s p).1 x h (hR p (hx p hmem))
      have hx2 : ∀ q ∈ (rchA (ndA s p).1 x).2, R q := by
        intro q hq
        obtain ⟨l, e, hl⟩ := h1.pre
        rw [e] at hq
        rcases List.mem_append.1 hq with hq | hq
        · exact hx q hq
        · exact hl q hq
      have hc2 : Cl s (i + 1) (rchA (ndA s p).1 x) := by
        intro j q hj hq a ha h5 h0 hn
        obtain ⟨l, e, _⟩ := h1.pre
        have hq' : x.2[j]? = some q := by rw [e, List.getElem?_append_left (by omega)] at hq; exact hq
        by_cases hji : j = i
        · subst hji
          rw [hpi] at hq'
          cases hq'
          exact h2 a ha h5 h0 hn
        · exact h1.sub (hc j q (by omega) hq' a ha h5 h0 hn)
      obtain ⟨h3, h4⟩ := bfs_mr hR f (i + 1) (rchA (ndA s p).1 x) h1.ri hx2 hc2 (by omega)
      exact ⟨h1.trans h3, h4⟩
    · rw [if_neg hi]
      exact ⟨Mr.refl h, fun j p hj => hc j p (by omega)⟩
/-- What is marked: the roots; what the marked ones point to; nothing that R does not hold. -/
theorem need_ok {s : Ms} {R : Int → Prop} (hR : ∀ p, R p → ∀ a ∈ (ndA s p).1, a.1 = 5 → R a.2) (hS : ∀ a ∈ s.stk, a.1 = 5 → R a.2) (hF : ∀ f ∈ s.frs, f.k = 1 → R f.nd) :
    RI s.nds.length (needM s) ∧ (∀ p ∈ (needM s).2, R p) ∧ (∀ a ∈ s.stk, a.1 = 5 → 0 ≤ a.2 → a.2 < s.nds.length → a.2 ∈ (needM s).2) ∧ (∀ f ∈ s.frs, f.k = 1 → 0 ≤ f.nd → f.nd < s.nds.length → f.nd ∈ (needM s).2) ∧
    ∀ p ∈ (needM s).2, ∀ a ∈ (ndA s p).1, a.1 = 5 → 0 ≤ a.2 → a.2 < s.nds.length → a.2 ∈ (needM s).2 := by
  unfold needM
  obtain ⟨a1, a2⟩ := rchA_mr (n := s.nds.length) (R := R) s.stk.reverse _ (RI.init s.nds.length) (fun a ha => hS a (by simpa using ha))
  obtain ⟨b1, b2⟩ := rchF_mr (n := s.nds.length) (R := R) s.frs.reverse _ a1.ri (fun a ha => hF a (by simpa using ha))
  have b3 := a1.trans b1
  have hx : ∀ q ∈ (rchF s.frs.reverse (rchA s.stk.reverse (List.replicate s.nds.length false, []))).2, R q := by
    intro q hq
    obtain ⟨l, e, hl⟩ := b3.pre
    rw [e] at hq
    exact hl q (by simpa using hq)
  obtain ⟨c1, c2⟩ := bfs_mr hR s.nds.length 0 _ b1.ri hx (fun j p hj => by omega) (by omega)
  refine ⟨c1.ri, ?_, fun a ha h5 h0 hn => c1.sub (b1.sub (a2 a (by simpa using ha) h5 h0 hn)), fun f hf h5 h0 hn => c1.sub (b2 f (by simpa using hf) h5 h0 hn), ?_⟩
  · intro q hq
    obtain ⟨l, e, hl⟩ := c1.pre
    rw [e] at hq
    rcases List.mem_append.1 hq with hq | hq
    · exact hx q hq
    · exact hl q hq
  · intro p hp a ha h5 h0 hn
    obtain ⟨j, hj, rfl⟩ := List.mem_iff_getElem.1 hp
    exact c2 j _ hj (List.getElem?_eq_getElem hj) a ha h5 h0 hn
theorem mem_offs : ∀ (l : List Bool) (i : Nat) (acc : List Int) (p : Int), p ∈ offs i l acc ↔ p ∈ acc ∨ ∃ j : Nat, p = ((i + j : Nat) : Int) ∧ l[j]? = some false
  | [], i, acc, p => by simp [offs]
  | b :: l, i, acc, p => by
    rw [offs, mem_offs l (i + 1)]
    constructor
    · rintro (h | ⟨j, e, h⟩)
      · split at h
        · exact .inl h
        · rcases List.mem_cons.1 h with h | h
          · exact .inr ⟨0, by simpa using h, by simp_all⟩
          · exact .inl h
      · exact .inr ⟨j + 1, by rw [e]; congr 1; omega, by simpa using h⟩
    · rintro (h | ⟨j, e, h⟩)
      · left; split <;> simp [h]
      · cases j with
        | zero => simp at h; subst h; left; simp [e]
        | succ j => exact .inr ⟨j, by rw [e]; congr 1; omega, by simpa using h⟩
theorem nodup_offs : ∀ (l : List Bool) (i : Nat) (acc : List Int), acc.Nodup → (∀ p ∈ acc, p < (i : Int)) → (offs i l acc).Nodup
  | [], i, acc, h, _ => h
  | b :: l, i, acc, h, hl => by
    rw [offs]
    refine nodup_offs l (i + 1) _ ?_ ?_
    · split
      · exact h
      · exact List.nodup_cons.2 ⟨fun hm => by have := hl _ hm; omega, h⟩
    · intro p hp
      split at hp
      · have := hl p hp; omega
      · rcases List.mem_cons.1 hp with rfl | hp
        · omega
        · have := hl p hp; omega
end Go.Proofs.YtnndoagpbcacdaaGreatDoor
