import Derived.Test.YtnndoagpbcacdaaGreatDoorM15
namespace Go.Proofs.YtnndoagpbcacdaaGreatDoor

/-! The machine with nodes that are never freed: what waits lies with its frame. -/
structure Kf where
  k : Int
  nd : Int
  pr : Int
  nu : Int
  rs : Ln
structure Im where
  cur : Ln
  ks : List Kf
  nds : List (Ln × Bool)
  stp : Int
  out : Int
  val : Int
def flK (ks : List Kf) : Ln := ks.flatMap (·.rs)
def ndI (s : Im) (p : Int) : Ln × Bool := s.nds[p.toNat]?.getD ([], false)
/-- As a state of the machine (without heights). -/
def asM (s : Im) : Ms := ⟨s.cur ++ flK s.ks, s.ks.map (fun f => ⟨f.k, 0, f.nd, f.pr, f.nu⟩), s.nds, [], s.stp, s.out, s.val⟩
def needI (s : Im) : Nat := (needM (asM s)).2.length
def idP (a k : Nat) : List Int := (List.range k).map (fun i => ((a + i : Nat) : Int))
def callI (c : Cf) (t : Tp) (r : Ln) (s : Im) : Im :=
  if c.bud ≤ s.stp then { s with out := 5 }
  else if c.hp < (needI s : Int) + ((t.ls.length : Int) - 1) then { s with out := 6 }
  else { s with stp := s.stp + 1, cur := instM (t.ls.headD []) (r.take t.ar.toNat) (idP s.nds.length (t.ls.length - 1)) ++ r.drop t.ar.toNat, nds := s.nds ++ t.ls.tail.map (fun l => (instM l (r.take t.ar.toNat) (idP s.nds.length (t.ls.length - 1)), false)) }
def overV (v : Int) : Bool := decide (1000000000 < v) || decide (v < -1000000000)
def picks (p x y : Int) : Bool := if p = 3 then decide (x < y) else decide (x = y)
def delI (c : Cf) (t : Int × Int) (s : Im) : Im :=
  match s.ks with
  | [] => if t.1 = 1 then { s with out := 1, val := t.2 } else { s with out := 2 }
  | f :: ks =>
    if f.k = 1 then { s with cur := s.cur ++ f.rs, ks := ks, nds := s.nds.set f.nd.toNat (s.cur, true) }
    else if t.1 ≠ 1 then { s with out := 3 }
    else if f.k = 2 then { s with cur := [hdI f.rs], ks := ⟨3, 0, f.pr, t.2, f.rs.tail⟩ :: ks }
    else if c.bud ≤ s.stp then { s with out := 5 }
    else if f.pr = 3 ∨ f.pr = 4 then { s with stp := s.stp + 1, ks := ks, cur := (if picks f.pr f.nu t.2 then hdI f.rs else hdI f.rs.tail) :: f.rs.drop 2 }
    else if overV (calcV f.pr f.nu t.2) then { s with stp := s.stp + 1, ks := ks, cur := f.rs, out := 4 }
    else { s with stp := s.stp + 1, ks := ks, cur := (1, calcV f.pr f.nu t.2) :: f.rs }
def moveI (c : Cf) (s : Im) : Im :=
  let t := hdI s.cur
  let r := s.cur.tail
  if t.1 = 5 then (if (ndI s t.2).2 then { s with cur := (ndI s t.2).1 ++ r } else { s with cur := (ndI s t.2).1, ks := ⟨1, t.2, 0, 0, r⟩ :: s.ks })
  else if t.1 = 3 then (if (tplM c t.2).ar ≤ (r.length : Int) then callI c (tplM c t.2) r s else delI c t s)
  else if t.1 = 4 then (if wantM t.2 ≤ (r.length : Int) then { s with cur := [hdI r], ks := ⟨2, 0, t.2, 0, r.tail⟩ :: s.ks } else delI c t s)
  else if 0 < r.length then { s with out := 3 } else delI c t s
def iterI (c : Cf) : Nat → Im → Im
  | 0, s => s
  | n + 1, s => if s.out = 0 then iterI c n (moveI c s) else s
def initI (mn : Int) : Im := ⟨[(3, mn)], [], [], 0, 0, 0⟩

/-! Lists of numbers without twice the same. -/
theorem nodup_le {α : Type} [DecidableEq α] : ∀ (a b : List α), a.Nodup → (∀ x ∈ a, x ∈ b) → a.length ≤ b.length
  | [], b, _, _ => by simp
  | x :: a, b, h, hs => by
    have hx := hs x (by simp)
    have h1 := nodup_le a (b.erase x) (List.nodup_cons.1 h).2 (fun y hy => by
      have hne : y ≠ x := fun e => (List.nodup_cons.1 h).1 (e ▸ hy)
      exact (List.mem_erase_of_ne hne).2 (hs y (by simp [hy])))
    rw [List.length_erase_of_mem hx] at h1
    have : 0 < b.length := List.length_pos_of_mem hx
    rw [List.length_cons]; omega
theorem nodup_eq {α : Type} [DecidableEq α] (a b : List α) (ha : a.Nodup) (hb : b.Nodup) (h : ∀ x, x ∈ a ↔ x ∈ b) : a.length = b.length :=
  Nat.le_antisymm (nodup_le a b ha (fun x hx => (h x).1 hx)) (nodup_le b a hb (fun x hx => (h x).2 hx))
theorem nodup_range (a : List Int) (n : Nat) (ha : a.Nodup) (h : ∀ x ∈ a, 0 ≤ x ∧ x < n) : a.length ≤ n := by
  have h1 := nodup_le a ((List.range n).map (fun i : Nat => (i : Int))) ha (fun x hx => by
    have := h x hx
    exact List.mem_map.2 ⟨x.toNat, List.mem_range.2 (by omega), by omega⟩)
  simpa using h1
theorem nodup_map {α β : Type} (f : α → β) : ∀ (a : List α), a.Nodup → (∀ x ∈ a, ∀ y ∈ a, f x = f y → x = y) → (a.map f).Nodup
  | [], _, _ => by simp
  | x :: a, h, hf => by
    rw [List.map_cons]
    refine List.nodup_cons.2 ⟨fun hm => ?_, nodup_map f a (List.nodup_cons.1 h).2 (fun y hy z hz => hf y (by simp [hy]) z (by simp [hz]))⟩
    obtain ⟨y, hy, e⟩ := List.mem_map.1 hm
    have := hf y (by simp [hy]) x (by simp) e
    exact (List.nodup_cons.1 h).1 (this ▸ hy)

/-! What is needed is told without twice the same. -/
theorem rch_nodup {n : Nat} {x : List Bool × List Int} (h : RI n x) (hn : x.2.Nodup) (p : Int) : (rch p x).2.Nodup := by
  unfold rch
  by_cases hc : p < 0 ∨ (x.1.length : Int) ≤ p ∨ x.1[p.toNat]?.getD false = true
  · rw [if_pos hc]; exact hn
  · rw [if_neg hc]
    refine List.nodup_append.2 ⟨hn, by simp, ?_⟩
    intro a ha b hb e
    simp at hb
    subst hb
    subst e
    obtain ⟨_, h2⟩ := (h.iff a).1 ha
    exact hc (.inr (.inr (by rw [h2]; rfl)))
theorem rchA_nodup {n : Nat} : ∀ (l : Ln) (x : List Bool × List Int), RI n x → x.2.Nodup → (rchA l x).2.Nodup
  | [], _, _, h => h
  | a :: l, x, h, hn => by
    rw [rchA]
    split
    · exact rchA_nodup l _ (h.rch a.2).1 (rch_nodup h hn a.2)
    · exact rchA_nodup l _ h hn
theorem rchF_nodup {n : Nat} : ∀ (l : List Fr) (x : List Bool × List Int), RI n x → x.2.Nodup → (rchF l x).2.Nodup
  | [], _, _, h => h
  | a :: l, x, h, hn => by
    rw [rchF]
    split
    · exact rchF_nodup l _ (h.rch a.nd).1 (rch_nodup h hn a.nd)
    · exact rchF_nodup l _ h hn
theorem bfs_nodup {n : Nat} (s : Ms) : ∀ (f i : Nat) (x : List Bool × List Int), RI n x → x.2.Nodup → (bfs s f i x).2.Nodup
  | 0, _, _, _, h => h
  | f + 1, i, x, h, hn => by
    rw [bfs]
    split
    · split
      · exact bfs_nodup s f (i + 1) _ (rchA_mr (R := fun _ => True) _ x h (fun _ _ _ => trivial)).1.ri (rchA_nodup _ x h hn)
      · exact bfs_nodup s f (i + 1) _ h hn
    · exact hn
theorem need_nodup (s : Ms) : (needM s).2.Nodup := by
  unfold needM
  have h0 := RI.init s.nds.length
  have h1 := (rchA_mr (R := fun _ => True) s.stk.reverse _ h0 (fun _ _ _ => trivial)).1.ri
  have h2 := (rchF_mr (R := fun _ => True) s.frs.reverse _ h1 (fun _ _ _ => trivial)).1.ri
  exact bfs_nodup s _ _ _ h2 (rchF_nodup _ _ h1 (rchA_nodup _ _ h0 (by simp)))
theorem need_ri (s : Ms) : RI s.nds.length (needM s) := (need_ok (R := fun _ => True) (fun _ _ _ _ _ => trivial) (fun _ _ _ => trivial) (fun _ _ _ => trivial)).1
theorem offs_ct : ∀ (l : List Bool) (i : Nat) (acc : List Int), (offs i l acc).length + cT l = acc.length + l.length
  | [], _, _ => by simp [offs, cT]
  | b :: l, i, acc => by
    rw [offs, cT]
    have := offs_ct l (i + 1) (if b then acc else (i : Int) :: acc)
    cases b <;> simp at this ⊢ <;> omega
theorem free_count (s : Ms) : (freeM s).fre.length + (needM s).2.length = s.nds.length := by
  have h1 := offs_ct (needM s).1 0 []
  have h2 := (need_ri s).cnt
  have h3 := (need_ri s).len
  show (offs 0 (needM s).1 []).length + _ = _
  rw [h2]; simp at h1; omega
theorem free_iff (s : Ms) (p : Int) : p ∈ (freeM s).fre ↔ 0 ≤ p ∧ p < s.nds.length ∧ p ∉ (needM s).2 := by
  have h3 := (need_ri s).len
  show p ∈ offs 0 (needM s).1 [] ↔ _
  rw [mem_offs]
  constructor
  · rintro (h | ⟨j, e, h⟩)
    · simp at h
    · have hj := (List.getElem?_eq_some_iff.1 h).1
      refine ⟨by omega, by omega, fun hm => ?_⟩
      have := ((need_ri s).iff p).1 hm
      rw [show p.toNat = j by omega, h] at this
      simp at this
  · rintro ⟨h1, h2, h⟩
    refine .inr ⟨p.toNat, by omega, ?_⟩
    have hlt : p.toNat < (needM s).1.length := by omega
    cases hb : (needM s).1[p.toNat]? with
    | none => rw [List.getElem?_eq_getElem hlt] at hb; simp at hb
    | some b =>
      cases b
      · rfl
      · exact absurd (((need_ri s).iff p).2 ⟨h1, hb⟩) h
theorem free_nodup (s : Ms) : (freeM s).fre.Nodup := nodup_offs _ _ _ (by simp) (by simp)
/-- Needed is what every closed set holds. -/
theorem need_iff (s : Ms) (hv : ∀ a ∈ s.stk, a.1 = 5 → 0 ≤ a.2 ∧ a.2 < s.nds.length) (hf : ∀ f ∈ s.frs, f.k = 1 → 0 ≤ f.nd ∧ f.nd < s.nds.length) (hn : ∀ p : Int, 0 ≤ p → p < s.nds.length → p ∈ (needM s).2 → ∀ a ∈ (ndA s p).1, a.1 = 5 → 0 ≤ a.2 ∧ a.2 < s.nds.length) (p : Int) :
    p ∈ (needM s).2 ↔ ∀ R : Int → Prop, (∀ p, R p → ∀ a ∈ (ndA s p).1, a.1 = 5 → R a.2) → (∀ a ∈ s.stk, a.1 = 5 → R a.2) → (∀ f ∈ s.frs, f.k = 1 → R f.nd) → R p := by
  constructor
  · intro h R h1 h2 h3
    exact (need_ok h1 h2 h3).2.1 p h
  · intro h
    have k := need_ok (s := s) (R := fun _ => True) (fun _ _ _ _ _ => trivial) (fun _ _ _ => trivial) (fun _ _ _ => trivial)
    refine h (fun p => p ∈ (needM s).2) ?_ ?_ ?_
    · intro q hq a ha h5
      have hqv := k.1.val hq
      have := hn q hqv.1 hqv.2 hq a ha h5
      exact k.2.2.2.2 q hq a ha h5 this.1 this.2
    · intro a ha h5; exact k.2.2.1 a ha h5 (hv a ha h5).1 (hv a ha h5).2
    · intro f hf' h5; exact k.2.2.2.1 f hf' h5 (hf f hf' h5).1 (hf f hf' h5).2

end Go.Proofs.YtnndoagpbcacdaaGreatDoor
namespace Go.Proofs.YtnndoagpbcacdaaGreatDoor

/-! The machine and the one whose nodes are never freed: φ tells which place is which node; L: the places whose nodes may still be needed. -/
def mp (φ : Int → Int) (x : Int × Int) : Int × Int := if x.1 = 5 then (5, φ x.2) else x
def FrR (φ : Int → Int) : List Fr → List Kf → Prop
  | [], [] => True
  | f :: l, g :: m => (f.k = g.k ∧ f.h = (flK (g :: m)).length ∧ (f.k = 1 → φ f.nd = g.nd) ∧ f.pr = g.pr ∧ f.nu = g.nu) ∧ FrR φ l m
  | [], _ :: _ => False
  | _ :: _, [] => False
structure Rm (φ : Int → Int) (L : Int → Prop) (m : Ms) (s : Im) : Prop where
  stk : m.stk.map (mp φ) = s.cur ++ flK s.ks
  frs : FrR φ m.frs s.ks
  stL : ∀ x ∈ m.stk, x.1 = 5 → L x.2
  frL : ∀ f ∈ m.frs, f.k = 1 → L f.nd
  ndL : ∀ p, L p → (0 ≤ p ∧ p < m.nds.length) ∧ (0 ≤ φ p ∧ φ p < s.nds.length) ∧ ndI s (φ p) = ((ndA m p).1.map (mp φ), (ndA m p).2) ∧ ∀ x ∈ (ndA m p).1, x.1 = 5 → L x.2
  inj : ∀ p q, L p → L q → φ p = φ q → p = q
  fre : ∀ p ∈ m.fre, (0 ≤ p ∧ p < m.nds.length) ∧ ¬ L p
  nod : m.fre.Nodup
  stp : m.stp = s.stp
  out : m.out = s.out
  val : m.val = s.val
theorem Rm.outs {φ : Int → Int} {L : Int → Prop} {m m' : Ms} {s s' : Im} (h : Rm φ L m s) (e1 : m'.stk = m.stk) (e2 : m'.frs = m.frs) (e3 : m'.nds = m.nds) (e4 : m'.fre = m.fre) (f1 : s'.cur = s.cur) (f2 : s'.ks = s.ks) (f3 : s'.nds = s.nds) (g1 : m'.stp = s'.stp) (g2 : m'.out = s'.out) (g3 : m'.val = s'.val) : Rm φ L m' s' := by
  obtain ⟨a1, a2, a3, a4, a5, a6, a7, a8, _, _, _⟩ := h
  cases m
  cases m'
  cases s
  cases s'
  simp only at *
  subst e1 e2 e3 e4 f1 f2 f3
  exact ⟨a1, a2, a3, a4, a5, a6, a7, a8, g1, g2, g3⟩
theorem mp_kind (φ : Int → Int) (x : Int × Int) : (mp φ x).1 = x.1 := by unfold mp; split <;> simp_all
theorem mp_five (φ : Int → Int) (p : Int) : mp φ (5, p) = (5, φ p) := by unfold mp; rw [if_pos rfl]
theorem mp_not (φ : Int → Int) (x : Int × Int) (h : x.1 ≠ 5) : mp φ x = x := by unfold mp; rw [if_neg h]
theorem frr_flr (φ : Int → Int) : ∀ (l : List Fr) (ks : List Kf), FrR φ l ks → hdH l = (flK ks).length
  | [], [], _ => rfl
  | f :: l, g :: m, h => by show f.h = _; exact h.1.2.1
  | [], _ :: _, h => h.elim
  | _ :: _, [], h => h.elim
theorem frr_ext {φ ψ : Int → Int} : ∀ (l : List Fr) (ks : List Kf), FrR φ l ks → (∀ f ∈ l, f.k = 1 → φ f.nd = ψ f.nd) → FrR ψ l ks
  | [], [], _, _ => trivial
  | f :: l, g :: m, h, he => ⟨⟨h.1.1, h.1.2.1, fun e => by rw [← he f (by simp) e]; exact h.1.2.2.1 e, h.1.2.2.2⟩, frr_ext l m h.2 (fun x hx => he x (by simp [hx]))⟩
  | [], _ :: _, h, _ => h.elim
  | _ :: _, [], h, _ => h.elim
theorem map_ext {φ ψ : Int → Int} (l : Ln) (h : ∀ x ∈ l, x.1 = 5 → φ x.2 = ψ x.2) : l.map (mp φ) = l.map (mp ψ) := by
  refine List.map_congr_left (fun x hx => ?_)
  unfold mp
  by_cases h5 : x.1 = 5
  · rw [if_pos h5, if_pos h5, h x hx h5]
  · rw [if_neg h5, if_neg h5]
theorem hd_map (φ : Int → Int) (l : Ln) (h : l ≠ []) : hdI (l.map (mp φ)) = mp φ (hdI l) := by
  cases l with
  | nil => exact absurd rfl h
  | cons a l => rfl
/-- The top, the rest. -/
theorem rm_top {φ : Int → Int} {L : Int → Prop} {c : Cf} {m : Ms} {s : Im} (h : Rm φ L m s) (hi : Iv c m) :
    ∃ x rm r, m.stk = x :: rm ∧ s.cur = mp φ x :: r ∧ rm.map (mp φ) = r ++ flK s.ks ∧ argN m = (r.length : Int) := by
  have h1 := h.stk
  have h2 := frr_flr φ _ _ h.frs
  have h3 := hi.ne
  rw [flr_hd, h2] at h3
  cases hm : m.stk with
  | nil => rw [hm] at h3; simp at h3
  | cons x rm =>
    rw [hm, List.map_cons] at h1
    cases hc : s.cur with
    | nil =>
      rw [hc] at h1
      have : (mp φ x :: rm.map (mp φ)).length = (flK s.ks).length := by rw [h1]; rfl
      rw [hm] at h3
      simp at this h3
      omega
    | cons y r =>
      rw [hc, List.cons_append] at h1
      obtain ⟨e1, e2⟩ := List.cons.inj h1
      refine ⟨x, rm, r, rfl, by rw [e1], e2, ?_⟩
      unfold argN
      rw [hm, if_neg (by simp), flr_hd, h2]
      have : (rm.map (mp φ)).length = (r ++ flK s.ks).length := by rw [e2]
      simp at this ⊢
      omega
theorem rm_enter {φ : Int → Int} {L : Int → Prop} {m : Ms} {s : Im} {p : Int} {rm r : Ln} (h : Rm φ L m s) (hm : m.stk = (5, p) :: rm) (hr : rm.map (mp φ) = r ++ flK s.ks) :
    Rm φ L (enterM m) (if (ndI s (φ p)).2 then { s with cur := (ndI s (φ p)).1 ++ r } else { s with cur := (ndI s (φ p)).1, ks := ⟨1, φ p, 0, 0, r⟩ :: s.ks }) := by
  have hp := h.stL (5, p) (by rw [hm]; simp) rfl
  obtain ⟨hv, _, hn, hnl⟩ := h.ndL p hp
  have hnx : ∀ x ∈ (ndA m p).1 ++ rm, x.1 = 5 → L x.2 := by
    intro x hx h5
    rcases List.mem_append.1 hx with hx | hx
    · exact hnl x hx h5
    · exact h.stL x (by rw [hm]; simp [hx]) h5
  have e : enterM m = (if (ndA m p).2 then { m with stk := (ndA m p).1 ++ rm } else { m with stk := (ndA m p).1 ++ rm, frs := ⟨1, rm.length, p, 0, 0⟩ :: m.frs }) := by
    unfold enterM
    have hh : hdI m.stk = (5, p) := by rw [hm]; rfl
    rw [hh, if_pos hv]
    show putM (ndA m p).1 (if (ndA m p).2 = true then popM m else waitM 1 p 0 0 (popM m)) = _
    unfold putM waitM popM
    rw [hm]
    cases (ndA m p).2 <;> rfl
  rw [e, hn]
  simp only
  cases (ndA m p).2
  · simp only [Bool.false_eq_true, if_false]
    refine ⟨?_, ⟨⟨rfl, ?_, fun _ => rfl, rfl, rfl⟩, h.frs⟩, hnx, ?_, h.ndL, h.inj, h.fre, h.nod, h.stp, h.out, h.val⟩
    · show ((ndA m p).1 ++ rm).map (mp φ) = (ndA m p).1.map (mp φ) ++ (r ++ flK s.ks)
      rw [List.map_append, hr]
    · show rm.length = (r ++ flK s.ks).length
      rw [← hr, List.length_map]
    · intro f hf h1
      rcases List.mem_cons.1 hf with rfl | hf
      · exact hp
      · exact h.frL f hf h1
  · simp only [if_true]
    refine ⟨?_, h.frs, hnx, h.frL, h.ndL, h.inj, h.fre, h.nod, h.stp, h.out, h.val⟩
    show ((ndA m p).1 ++ rm).map (mp φ) = (ndA m p).1.map (mp φ) ++ r ++ flK s.ks
    rw [List.map_append, hr, List.append_assoc]
theorem hd_mem {l : Ln} (h : l ≠ []) : hdI l ∈ l := by
  cases l with
  | nil => exact absurd rfl h
  | cons a l => simp [hdI]
theorem rm_ask {φ : Int → Int} {L : Int → Prop} {m : Ms} {s : Im} {p : Int} {rm r : Ln} (h : Rm φ L m s) (hm : m.stk = (4, p) :: rm) (hr : rm.map (mp φ) = r ++ flK s.ks) (hl : 0 < r.length) :
    Rm φ L (askM p m) { s with cur := [hdI r], ks := ⟨2, 0, p, 0, r.tail⟩ :: s.ks } := by
  cases hrm : rm with
  | nil => rw [hrm] at hr; have := congrArg List.length hr; simp at this; omega
  | cons x rm1 =>
    cases hrr : r with
    | nil => rw [hrr] at hl; simp at hl
    | cons y r1 =>
      rw [hrm, hrr] at hr
      obtain ⟨e1, e2⟩ := List.cons.inj (show mp φ x :: rm1.map (mp φ) = y :: (r1 ++ flK s.ks) from hr)
      have e : askM p m = { m with stk := x :: rm1, frs := ⟨2, rm1.length, 0, p, 0⟩ :: m.frs } := by
        unfold askM pushM waitM popM
        rw [hm, hrm]; rfl
      rw [e]
      refine ⟨?_, ⟨⟨rfl, ?_, fun e => by simp at e, rfl, rfl⟩, h.frs⟩, ?_, ?_, h.ndL, h.inj, h.fre, h.nod, h.stp, h.out, h.val⟩
      · show mp φ x :: rm1.map (mp φ) = [y] ++ (r1 ++ flK s.ks)
        rw [e1, e2]; rfl
      · show rm1.length = (r1 ++ flK s.ks).length
        rw [← e2, List.length_map]
      · intro z hz h5; exact h.stL z (by rw [hm, hrm]; exact List.mem_cons_of_mem _ hz) h5
      · intro f hf h1
        rcases List.mem_cons.1 hf with rfl | hf
        · simp at h1
        · exact h.frL f hf h1
theorem over_iff (v : Int) : overV v = true ↔ (1000000000 < v ∨ v < -1000000000) := by unfold overV; simp
theorem rm_del {φ : Int → Int} {L : Int → Prop} {c : Cf} {m : Ms} {s : Im} {x : Int × Int} {rm r : Ln} (h : Rm φ L m s) (hi : Iv c m) (hm : m.stk = x :: rm) (hc : s.cur = mp φ x :: r) (hr : rm.map (mp φ) = r ++ flK s.ks) (h5 : x.1 ≠ 5) (h1 : x.1 = 1 → r = []) :
    Rm φ L (delM c x m) (delI c (mp φ x) s) := by
  rw [mp_not φ x h5] at hc ⊢
  have hfr := h.frs
  cases hf : m.frs with
  | nil =>
    cases hk : s.ks with
    | cons g gs => rw [hf, hk] at hfr; exact hfr.elim
    | nil =>
      unfold delM delI
      rw [hf, hk]
      simp only [finM]
      by_cases h1 : x.1 = 1
      · rw [if_pos h1, if_pos h1]
        exact h.outs rfl rfl rfl rfl rfl hk.symm rfl h.stp rfl rfl
      · rw [if_neg h1, if_neg h1]
        exact h.outs rfl rfl rfl rfl rfl hk.symm rfl h.stp rfl h.val
  | cons f fl =>
    cases hk : s.ks with
    | nil => rw [hf, hk] at hfr; exact hfr.elim
    | cons g gs =>
      rw [hf, hk] at hfr
      obtain ⟨⟨f1, f2, f3, f4, f5⟩, f6⟩ := hfr
      have hfl : (flK (g :: gs)) = g.rs ++ flK gs := rfl
      rw [hk, hfl] at hr
      have hflr : flr m = (g.rs ++ flK gs).length := by rw [flr_hd, hf]; show f.h = _; rw [f2, hfl]
      unfold delM delI
      rw [hf, hk]
      simp only
      rw [← f1]
      by_cases hk1 : f.k = 1
      · rw [if_pos hk1, if_pos hk1]
        have hLf := h.frL f (by rw [hf]; simp) hk1
        obtain ⟨hv, hv2, hn, hnl⟩ := h.ndL f.nd hLf
        have hact : actM m = x :: rm.take r.length := by
          unfold actM
          rw [hflr, hm]
          have : rm.length = r.length + (g.rs ++ flK gs).length := by
            have := congrArg List.length hr
            simpa using this
          rw [List.length_cons, this, show r.length + (g.rs ++ flK gs).length + 1 - (g.rs ++ flK gs).length = r.length + 1 by omega, List.take_succ_cons]
        have hactm : (actM m).map (mp φ) = s.cur := by
          rw [hact, hc, List.map_cons, mp_not φ x h5, List.map_take, hr, List.take_left]
        have e : updM f.nd m = { m with frs := fl, nds := m.nds.set f.nd.toNat (actM m, true) } := by
          unfold updM layM dropM
          rw [if_pos (by exact hv), hf]; rfl
        rw [e, ← f3 hk1]
        refine ⟨?_, f6, h.stL, fun f' hf' h1' => h.frL f' (by rw [hf]; simp [hf']) h1', ?_, h.inj, ?_, h.nod, h.stp, h.out, h.val⟩
        · show m.stk.map (mp φ) = s.cur ++ g.rs ++ flK gs
          rw [h.stk, hk, hfl, List.append_assoc]
        · intro p hp
          obtain ⟨w1, w2, w3, w4⟩ := h.ndL p hp
          have hne2 : f.nd ≠ p → (f.nd).toNat ≠ p.toNat := by intro h1 h2; omega
          refine ⟨by simpa using w1, by simpa using w2, ?_⟩
          by_cases hpf : f.nd = p
          · subst hpf
            have q1 : ndI { s with cur := s.cur ++ g.rs, ks := gs, nds := s.nds.set (φ f.nd).toNat (s.cur, true) } (φ f.nd) = (s.cur, true) := by
              unfold ndI; simp only; rw [List.getElem?_set_self (by omega)]; rfl
            have q2 : ndA { m with frs := fl, nds := m.nds.set f.nd.toNat (actM m, true) } f.nd = (actM m, true) := by
              unfold ndA; simp only; rw [List.getElem?_set_self (by omega)]; rfl
            rw [q1, q2, hactm]
            refine ⟨rfl, fun y hy => h.stL y ?_⟩
            simp only [hact] at hy
            rw [hm]
            rcases List.mem_cons.1 hy with rfl | hy
            · simp
            · exact List.mem_cons_of_mem _ (List.mem_of_mem_take hy)
          · have hne3 : φ f.nd ≠ φ p := fun e => hpf (h.inj _ _ hLf hp e)
            have q1 : ndI { s with cur := s.cur ++ g.rs, ks := gs, nds := s.nds.set (φ f.nd).toNat (s.cur, true) } (φ p) = ndI s (φ p) := by
              unfold ndI; simp only; rw [List.getElem?_set_ne (by omega)]
            have q2 : ndA { m with frs := fl, nds := m.nds.set f.nd.toNat (actM m, true) } p = ndA m p := by
              unfold ndA; simp only; rw [List.getElem?_set_ne (by omega)]
            rw [q1, q2]
            exact ⟨w3, w4⟩
        · intro p hp; simpa using h.fre p hp
      · rw [if_neg hk1, if_neg hk1]
        by_cases hx1 : x.1 ≠ 1
        · rw [if_pos hx1, if_pos hx1]
          exact h.outs rfl hf.symm rfl rfl rfl hk.symm rfl h.stp rfl h.val
        · have hx : x.1 = 1 := Decidable.not_not.1 hx1
          have hr0 := h1 hx
          subst hr0
          rw [if_neg hx1, if_neg hx1]
          have hgap := hi.gap
          rw [hf] at hgap
          obtain ⟨hg1, _⟩ := hgap
          rw [frr_flr φ _ _ f6, f2, hfl] at hg1
          simp only [List.length_append] at hg1
          have hwt := want_ge f.pr
          have hr' : rm.map (mp φ) = g.rs ++ flK gs := hr
          have hsub : ∀ y ∈ rm, y.1 = 5 → L y.2 := fun y hy h5 => h.stL y (by rw [hm]; simp [hy]) h5
          by_cases hk2 : f.k = 2
          · rw [if_pos hk2, if_pos hk2]
            have hgl : 1 ≤ g.rs.length := by simp [needF, hk2] at hg1; omega
            cases hg : g.rs with
            | nil => rw [hg] at hgl; simp at hgl
            | cons y g1 =>
              rw [hg] at hr'
              cases hrm : rm with
              | nil => rw [hrm] at hr'; simp at hr'
              | cons z rm1 =>
                rw [hrm] at hr'
                obtain ⟨e1, e2⟩ := List.cons.inj (show mp φ z :: rm1.map (mp φ) = y :: (g1 ++ flK gs) from hr')
                have e : askM2 f.pr x.2 m = { m with stk := z :: rm1, frs := ⟨3, rm1.length, 0, f.pr, x.2⟩ :: fl } := by
                  unfold askM2 pushM waitM popM dropM
                  rw [hm, hrm, hf]; rfl
                rw [e]
                refine ⟨?_, ⟨⟨rfl, ?_, fun e => by simp at e, f4, rfl⟩, f6⟩, ?_, ?_, h.ndL, h.inj, h.fre, h.nod, h.stp, h.out, h.val⟩
                · show mp φ z :: rm1.map (mp φ) = [y] ++ (g1 ++ flK gs)
                  rw [e1, e2]; rfl
                · show rm1.length = (g1 ++ flK gs).length
                  rw [← e2, List.length_map]
                · intro u hu h5'; exact hsub u (by rw [hrm]; exact hu) h5'
                · intro f' hf' h1'
                  rcases List.mem_cons.1 hf' with rfl | hf'
                  · simp at h1'
                  · exact h.frL f' (by rw [hf]; simp [hf']) h1'
          · rw [if_neg hk2, if_neg hk2]
            have hk3 : f.k = 3 := by have := (hi.kd f (by rw [hf]; simp)).1; omega
            unfold compM
            rw [h.stp]
            by_cases hb : c.bud ≤ s.stp
            · rw [if_pos hb, if_pos hb]
              exact h.outs rfl rfl rfl rfl rfl hk.symm rfl rfl rfl h.val
            · rw [if_neg hb, if_neg hb]
              have es : popM (dropM { m with stp := s.stp + 1 }) = { m with stp := s.stp + 1, stk := rm, frs := fl } := by
                unfold popM dropM
                rw [hm, hf]; rfl
              have hfrL : ∀ f' ∈ fl, f'.k = 1 → L f'.nd := fun f' hf' h1' => h.frL f' (by rw [hf]; simp [hf']) h1'
              simp only [es]
              rw [f4, f5]
              have hgn : needF f = wantM f.pr - 2 := by simp [needF, hk3]
              by_cases hp34 : g.pr = 3 ∨ g.pr = 4
              · rw [if_pos hp34]
                have hgl : 2 ≤ g.rs.length := by
                  have : wantM f.pr = 4 := by unfold wantM; rw [f4, if_pos hp34]
                  omega
                have key : ∀ b : Bool, Rm φ L (chooseM b { m with stp := s.stp + 1, stk := rm, frs := fl }) { s with stp := s.stp + 1, ks := gs, cur := (if b then hdI g.rs else hdI g.rs.tail) :: g.rs.drop 2 } := by
                  intro b
                  cases hg : g.rs with
                  | nil => rw [hg] at hgl; simp at hgl
                  | cons y g1 =>
                    cases hg1' : g1 with
                    | nil => rw [hg, hg1'] at hgl; simp at hgl
                    | cons y2 g2 =>
                      rw [hg, hg1'] at hr'
                      cases hrm : rm with
                      | nil => rw [hrm] at hr'; simp at hr'
                      | cons z rm1 =>
                        cases hrm1 : rm1 with
                        | nil => rw [hrm, hrm1] at hr'; simp at hr'
                        | cons z2 rm2 =>
                          rw [hrm, hrm1] at hr'
                          obtain ⟨e1, e2⟩ := List.cons.inj (show mp φ z :: mp φ z2 :: rm2.map (mp φ) = y :: y2 :: (g2 ++ flK gs) from hr')
                          obtain ⟨e3, e4⟩ := List.cons.inj e2
                          have hsub2 : ∀ (u : Int × Int), u = z ∨ u = z2 → ∀ v ∈ u :: rm2, v.1 = 5 → L v.2 := by
                            intro u hu v hv
                            refine hsub v ?_
                            rw [hrm, hrm1]
                            rcases List.mem_cons.1 hv with rfl | hv
                            · rcases hu with rfl | rfl <;> simp
                            · simp [hv]
                          cases b
                          · refine ⟨?_, f6, hsub2 z2 (.inr rfl), hfrL, h.ndL, h.inj, h.fre, h.nod, rfl, h.out, h.val⟩
                            show mp φ z2 :: rm2.map (mp φ) = y2 :: (g2 ++ flK gs)
                            rw [e3, e4]
                          · refine ⟨?_, f6, hsub2 z (.inl rfl), hfrL, h.ndL, h.inj, h.fre, h.nod, rfl, h.out, h.val⟩
                            show mp φ z :: rm2.map (mp φ) = y :: (g2 ++ flK gs)
                            rw [e1, e4]
                by_cases hp3 : g.pr = 3
                · rw [if_pos hp3]
                  have := key (decide (g.nu < x.2))
                  unfold picks
                  rw [if_pos hp3]
                  exact this
                · have hp4 : g.pr = 4 := by omega
                  rw [if_neg hp3, if_pos hp4]
                  have := key (decide (g.nu = x.2))
                  unfold picks
                  rw [if_neg hp3]
                  exact this
              · have hp3 : ¬ g.pr = 3 := fun e => hp34 (.inl e)
                have hp4 : ¬ g.pr = 4 := fun e => hp34 (.inr e)
                rw [if_neg hp3, if_neg hp4, if_neg hp34]
                unfold calcM
                by_cases ho : 1000000000 < calcV g.pr g.nu x.2 ∨ calcV g.pr g.nu x.2 < -1000000000
                · rw [if_pos ho, if_pos ((over_iff _).2 ho)]
                  exact ⟨hr', f6, hsub, hfrL, h.ndL, h.inj, h.fre, h.nod, rfl, rfl, h.val⟩
                · rw [if_neg ho, if_neg (fun e => ho ((over_iff _).1 e))]
                  refine ⟨?_, f6, ?_, hfrL, h.ndL, h.inj, h.fre, h.nod, rfl, h.out, h.val⟩
                  · show mp φ (1, _) :: rm.map (mp φ) = (1, _) :: (g.rs ++ flK gs)
                    rw [hr', mp_not φ _ (by simp)]
                  · intro y hy h5'
                    rcases List.mem_cons.1 hy with rfl | hy
                    · simp at h5'
                    · exact hsub y hy h5'

end Go.Proofs.YtnndoagpbcacdaaGreatDoor
namespace Go.Proofs.YtnndoagpbcacdaaGreatDoor

/-! A step of a function. -/
/-- How many are needed is the same in both. -/
theorem rm_need {φ : Int → Int} {L : Int → Prop} {m : Ms} {s : Im} (h : Rm φ L m s) :
    (∀ p ∈ (needM m).2, L p) ∧ (needM m).2.length = needI s ∧ (∀ x ∈ m.stk, x.1 = 5 → x.2 ∈ (needM m).2) ∧ (∀ f ∈ m.frs, f.k = 1 → f.nd ∈ (needM m).2) ∧ ∀ p ∈ (needM m).2, ∀ x ∈ (ndA m p).1, x.1 = 5 → x.2 ∈ (needM m).2 := by
  have k1 := need_ok (s := m) (R := L) (fun p hp => (h.ndL p hp).2.2.2) h.stL h.frL
  obtain ⟨r1, r2, r3, r4, r5⟩ := k1
  have q3 : ∀ x ∈ m.stk, x.1 = 5 → x.2 ∈ (needM m).2 := fun x hx h5 => by
    have := (h.ndL _ (h.stL x hx h5)).1; exact r3 x hx h5 this.1 this.2
  have q4 : ∀ f ∈ m.frs, f.k = 1 → f.nd ∈ (needM m).2 := fun f hf h1 => by
    have := (h.ndL _ (h.frL f hf h1)).1; exact r4 f hf h1 this.1 this.2
  have q5 : ∀ p ∈ (needM m).2, ∀ x ∈ (ndA m p).1, x.1 = 5 → x.2 ∈ (needM m).2 := fun p hp x hx h5 => by
    have := (h.ndL _ ((h.ndL p (r2 p hp)).2.2.2 x hx h5)).1; exact r5 p hp x hx h5 this.1 this.2
  refine ⟨r2, ?_, q3, q4, q5⟩
  -- the marked ones of s are the marked ones of m
  have hfr : ∀ (l : List Fr) (ks : List Kf), FrR φ l ks → ∀ g ∈ ks, g.k = 1 → ∃ f ∈ l, f.k = 1 ∧ φ f.nd = g.nd := by
    intro l
    induction l with
    | nil => intro ks hk g hg; cases ks with
      | nil => simp at hg
      | cons a b => exact hk.elim
    | cons f l ih => intro ks hk g hg h1; cases ks with
      | nil => exact hk.elim
      | cons a b =>
        rcases List.mem_cons.1 hg with rfl | hg
        · exact ⟨f, by simp, by rw [hk.1.1]; exact h1, hk.1.2.2.1 (by rw [hk.1.1]; exact h1)⟩
        · obtain ⟨f', hf', e⟩ := ih b hk.2 g hg h1
          exact ⟨f', by simp [hf'], e⟩
  have hfr2 : ∀ (l : List Fr) (ks : List Kf), FrR φ l ks → ∀ f ∈ l, f.k = 1 → ∃ g ∈ ks, g.k = 1 ∧ φ f.nd = g.nd := by
    intro l
    induction l with
    | nil => intro ks hk f hf; simp at hf
    | cons f0 l ih => intro ks hk f hf h1; cases ks with
      | nil => exact hk.elim
      | cons a b =>
        rcases List.mem_cons.1 hf with rfl | hf
        · exact ⟨a, by simp, by rw [← hk.1.1]; exact h1, hk.1.2.2.1 h1⟩
        · obtain ⟨g, hg, e⟩ := ih b hk.2 f hf h1
          exact ⟨g, by simp [hg], e⟩
  have hbase : ∀ x ∈ (asM s).stk, x.1 = 5 → ∃ p ∈ (needM m).2, φ p = x.2 := by
    intro x hx h5
    have hx' : x ∈ m.stk.map (mp φ) := by rw [h.stk]; exact hx
    obtain ⟨y, hy, rfl⟩ := List.mem_map.1 hx'
    rw [mp_kind] at h5
    refine ⟨y.2, q3 y hy h5, ?_⟩
    unfold mp; rw [if_pos h5]
  have hbf : ∀ f ∈ (asM s).frs, f.k = 1 → ∃ p ∈ (needM m).2, φ p = f.nd := by
    intro f hf h1
    obtain ⟨g, hg, rfl⟩ := List.mem_map.1 hf
    obtain ⟨f', hf', e1, e2⟩ := hfr _ _ h.frs g hg h1
    exact ⟨f'.nd, q4 f' hf' e1, e2⟩
  have hnd : ∀ p, ndA (asM s) p = ndI s p := fun _ => rfl
  have hcl : ∀ p, (∃ q ∈ (needM m).2, φ q = p) → ∀ x ∈ (ndA (asM s) p).1, x.1 = 5 → ∃ q ∈ (needM m).2, φ q = x.2 := by
    rintro p ⟨q, hq, rfl⟩ x hx h5
    rw [hnd, (h.ndL q (r2 q hq)).2.2.1] at hx
    obtain ⟨y, hy, rfl⟩ := List.mem_map.1 hx
    rw [mp_kind] at h5
    refine ⟨y.2, q5 q hq y hy h5, ?_⟩
    unfold mp; rw [if_pos h5]
  have k2 := need_ok (s := asM s) (R := fun p => ∃ q ∈ (needM m).2, φ q = p) hcl hbase hbf
  obtain ⟨t1, t2, t3, t4, t5⟩ := k2
  have hval : ∀ q ∈ (needM m).2, 0 ≤ φ q ∧ φ q < (asM s).nds.length := fun q hq => (h.ndL q (r2 q hq)).2.1
  -- and back
  have k3 := need_ok (s := m) (R := fun p => L p ∧ φ p ∈ (needM (asM s)).2)
    (fun p hp x hx h5 => by
      have h1 := h.ndL p hp.1
      refine ⟨h1.2.2.2 x hx h5, ?_⟩
      have h2 := h.ndL _ (h1.2.2.2 x hx h5)
      refine t5 (φ p) hp.2 (5, φ x.2) ?_ rfl h2.2.1.1 h2.2.1.2
      rw [hnd, h1.2.2.1]
      refine List.mem_map.2 ⟨x, hx, ?_⟩
      unfold mp; rw [if_pos h5])
    (fun x hx h5 => by
      have h2 := h.ndL _ (h.stL x hx h5)
      refine ⟨h.stL x hx h5, t3 (5, φ x.2) ?_ rfl h2.2.1.1 h2.2.1.2⟩
      show _ ∈ s.cur ++ flK s.ks
      rw [← h.stk]
      refine List.mem_map.2 ⟨x, hx, ?_⟩
      unfold mp; rw [if_pos h5])
    (fun f hf h1 => by
      have h2 := h.ndL _ (h.frL f hf h1)
      obtain ⟨g, hg, e1, e2⟩ := hfr2 _ _ h.frs f hf h1
      refine ⟨h.frL f hf h1, ?_⟩
      have := t4 ⟨g.k, 0, g.nd, g.pr, g.nu⟩ (List.mem_map.2 ⟨g, hg, rfl⟩) e1 (by simp only; rw [← e2]; exact h2.2.1.1) (by simp only; rw [← e2]; exact h2.2.1.2)
      rw [e2]; exact this)
  unfold needI
  rw [← List.length_map φ]
  refine nodup_eq _ _ (nodup_map φ _ (need_nodup m) (fun x hx y hy e => h.inj _ _ (r2 x hx) (r2 y hy) e)) (need_nodup _) (fun x => ?_)
  constructor
  · intro hx
    obtain ⟨q, hq, rfl⟩ := List.mem_map.1 hx
    exact (k3.2.1 q hq).2
  · intro hx
    obtain ⟨q, hq, rfl⟩ := t2 x hx
    exact List.mem_map.2 ⟨q, hq, rfl⟩
/-- Room is made. -/
theorem rm_make {φ : Int → Int} {L : Int → Prop} {c : Cf} {m : Ms} {s : Im} (h : Rm φ L m s) (n : Int) :
    (∃ L', Rm φ L' (makeM c n m) s) ∧ (n ≤ roomM c (makeM c n m) ↔ ¬ c.hp < (needI s : Int) + n) := by
  obtain ⟨n1, n2, n3, n4, n5⟩ := rm_need h
  unfold makeM
  by_cases hr : roomM c m < n
  · rw [if_pos hr]
    refine ⟨⟨fun p => p ∈ (needM m).2, h.stk, h.frs, n3, n4, fun p hp => ?_, fun p q hp hq => h.inj p q (n1 p hp) (n1 q hq), fun p hp => ?_, free_nodup m, h.stp, h.out, h.val⟩, ?_⟩
    · obtain ⟨a, b, d, _⟩ := h.ndL p (n1 p hp)
      exact ⟨a, b, d, n5 p hp⟩
    · have := (free_iff m p).1 hp
      exact ⟨⟨this.1, this.2.1⟩, this.2.2⟩
    · have hf := free_count m
      unfold roomM
      have hl : (freeM m).nds.length = m.nds.length := rfl
      rw [hl]
      omega
  · rw [if_neg hr]
    refine ⟨⟨L, h⟩, ?_⟩
    have hb : (needM m).2.length + m.fre.length ≤ m.nds.length := by
      rw [← List.length_append]
      refine nodup_range _ _ (List.nodup_append.2 ⟨need_nodup m, h.nod, fun a ha b hb e => (h.fre b hb).2 (e ▸ n1 a ha)⟩) (fun x hx => ?_)
      rcases List.mem_append.1 hx with hx | hx
      · exact (h.ndL x (n1 x hx)).1
      · exact (h.fre x hx).1
    unfold roomM at hr ⊢
    omega
theorem nodup_at {α : Type} : ∀ {l : List α} {i j : Nat} {p : α}, l.Nodup → l[i]? = some p → l[j]? = some p → i = j
  | [], i, j, p, _, h, _ => by simp at h
  | a :: l, 0, 0, p, _, _, _ => rfl
  | a :: l, 0, j + 1, p, hn, h1, h2 => by
    simp at h1 h2
    exact absurd (List.mem_of_getElem? h2) (h1 ▸ (List.nodup_cons.1 hn).1)
  | a :: l, i + 1, 0, p, hn, h1, h2 => by
    simp at h1 h2
    exact absurd (List.mem_of_getElem? h1) (h2 ▸ (List.nodup_cons.1 hn).1)
  | a :: l, i + 1, j + 1, p, hn, h1, h2 => by
    have h1' : l[i]? = some p := by simpa using h1
    have h2' : l[j]? = some p := by simpa using h2
    have := nodup_at (List.nodup_cons.1 hn).2 h1' h2'
    omega
/-- The places that are taken: none twice, none in use. -/
structure TkD (m m' : Ms) (ps : List Int) : Prop where
  nod : ps.Nodup
  src : ∀ p ∈ ps, p ∈ m.fre ∨ (m.nds.length : Int) ≤ p
  fre : ∀ p ∈ m'.fre, p ∈ m.fre ∧ p ∉ ps
  fnd : m'.fre.Nodup
theorem take_d : ∀ (n : Nat) (m : Ms), (∀ p ∈ m.fre, 0 ≤ p ∧ p < m.nds.length) → m.fre.Nodup → TkD m (takeN n m) (takeL n m)
  | 0, m, _, hn => ⟨by simp [takeL], fun p hp => by simp [takeL] at hp, fun p hp => ⟨hp, by simp [takeL]⟩, hn⟩
  | n + 1, m, hv, hn => by
    rw [takeN, takeL]
    cases hf : m.fre with
    | nil =>
      have e1 : takeM m = { m with nds := m.nds ++ [([], false)] } := by unfold takeM; rw [hf]
      have e2 : takeP m = m.nds.length := by unfold takeP; rw [hf]
      rw [e1, e2]
      have ih := take_d n { m with nds := m.nds ++ [([], false)] } (fun p hp => by simp only [hf] at hp; simp at hp) hn
      have hfn : ∀ p, p ∉ ({ m with nds := m.nds ++ [([], false)] } : Ms).fre := fun p hp => by simp only [hf] at hp; simp at hp
      refine ⟨List.nodup_cons.2 ⟨fun hm => ?_, ih.nod⟩, fun p hp => ?_, fun p hp => absurd (ih.fre p hp).1 (hfn p), ih.fnd⟩
      · rcases ih.src _ hm with h | h
        · exact hfn _ h
        · simp at h; omega
      · rcases List.mem_cons.1 hp with rfl | hp
        · exact .inr (by omega)
        · rcases ih.src p hp with h | h
          · exact absurd h (hfn p)
          · simp at h; exact .inr (by omega)
    | cons x r =>
      have e1 : takeM m = { m with fre := r } := by unfold takeM; rw [hf]
      have e2 : takeP m = x := by unfold takeP; rw [hf]
      rw [e1, e2]
      rw [hf] at hn
      have hx := hv x (by rw [hf]; simp)
      have ih := take_d n { m with fre := r } (fun p hp => hv p (by rw [hf]; exact List.mem_cons_of_mem _ hp)) (List.nodup_cons.1 hn).2
      have hxr := (List.nodup_cons.1 hn).1
      refine ⟨List.nodup_cons.2 ⟨fun hm => ?_, ih.nod⟩, fun p hp => ?_, fun p hp => ?_, ih.fnd⟩
      · rcases ih.src _ hm with h | h
        · exact hxr h
        · simp at h; omega
      · rcases List.mem_cons.1 hp with rfl | hp
        · exact .inl (by rw [hf]; simp)
        · rcases ih.src p hp with h | h
          · exact .inl (by rw [hf]; exact List.mem_cons_of_mem _ h)
          · exact .inr h
      · obtain ⟨a, b⟩ := ih.fre p hp
        have hpr : p ∈ r := a
        exact ⟨by rw [hf]; simp [hpr], fun hm => by
          rcases List.mem_cons.1 hm with rfl | hm
          · exact hxr hpr
          · exact b hm⟩
theorem takeL_ln : ∀ (n : Nat) (m : Ms), (takeL n m).length = n
  | 0, _ => rfl
  | n + 1, m => by rw [takeL, List.length_cons, takeL_ln n]
/-- What is laid where. -/
theorem lay_at (ar : Ln) (ps : List Int) : ∀ (ls : List Ln) (i : Nat) (m : Ms), i + ls.length = ps.length → ps.Nodup → (∀ p ∈ ps, 0 ≤ p ∧ p < m.nds.length) →
    (∀ (j : Nat) (hj : j < ls.length), ∃ p, ps[i + j]? = some p ∧ ndA (layF ar ps (i + 1) ls m) p = (instM ls[j] ar ps, false)) ∧
    (∀ p : Int, 0 ≤ p → (∀ q : Nat, i ≤ q → ps[q]? ≠ some p) → ndA (layF ar ps (i + 1) ls m) p = ndA m p) ∧
    (layF ar ps (i + 1) ls m).stk = m.stk ∧ (layF ar ps (i + 1) ls m).frs = m.frs ∧ (layF ar ps (i + 1) ls m).fre = m.fre ∧ (layF ar ps (i + 1) ls m).stp = m.stp ∧ (layF ar ps (i + 1) ls m).out = m.out ∧ (layF ar ps (i + 1) ls m).val = m.val ∧ (layF ar ps (i + 1) ls m).nds.length = m.nds.length
  | [], i, m, _, _, _ => ⟨fun j hj => by simp at hj, fun _ _ _ => rfl, rfl, rfl, rfl, rfl, rfl, rfl, rfl⟩
  | l :: ls, i, m, hl, hn, hv => by
    have hi : i < ps.length := by simp at hl; omega
    have hpi := hv ps[i] (List.getElem_mem hi)
    have e : layF ar ps (i + 1) (l :: ls) m = layF ar ps (i + 1 + 1) ls { m with nds := m.nds.set ps[i].toNat (instM l ar ps, false) } := by
      rw [layF, if_pos hi, List.getElem?_eq_getElem hi, Option.getD_some, layM, if_pos hpi]
    rw [e]
    obtain ⟨a1, a2, a3, a4, a5, a6, a7, a8, a9⟩ := lay_at ar ps ls (i + 1) { m with nds := m.nds.set ps[i].toNat (instM l ar ps, false) } (by simp at hl; omega) hn (fun p hp => by simp only [List.length_set]; exact hv p hp)
    have hdis : ∀ q : Nat, i + 1 ≤ q → ps[q]? ≠ some ps[i] := by
      intro q hq he
      have := nodup_at hn he (List.getElem?_eq_getElem hi)
      omega
    refine ⟨fun j hj => ?_, fun p hp0 hp => ?_, a3, a4, a5, a6, a7, a8, by rw [a9]; simp⟩
    · cases j with
      | zero =>
        refine ⟨ps[i], by rw [Nat.add_zero, List.getElem?_eq_getElem hi], ?_⟩
        rw [a2 _ hpi.1 hdis]
        show ndA { m with nds := m.nds.set ps[i].toNat (instM l ar ps, false) } ps[i] = _
        unfold ndA
        simp only
        rw [List.getElem?_set_self (by omega)]; rfl
      | succ j =>
        obtain ⟨p, e1, e2⟩ := a1 j (by simpa using hj)
        exact ⟨p, by rw [← e1]; congr 1; omega, e2⟩
    · rw [a2 p hp0 (fun q hq => hp q (by omega))]
      have hne : ps[i] ≠ p := fun e => hp i (Nat.le_refl _) (by rw [List.getElem?_eq_getElem hi, e])
      unfold ndA
      simp only
      rw [List.getElem?_set_ne (by omega)]
/-- Which of the new ones. -/
def ixP (p : Int) : List Int → Nat → Option Nat
  | [], _ => none
  | q :: l, i => if q = p then some i else ixP p l (i + 1)
theorem ixP_some (p : Int) : ∀ (l : List Int) (i k : Nat), ixP p l i = some k → i ≤ k ∧ l[k - i]? = some p
  | [], _, _, h => by simp [ixP] at h
  | q :: l, i, k, h => by
    rw [ixP] at h
    split at h
    · next e => cases h; simp [e]
    · obtain ⟨h1, h2⟩ := ixP_some p l (i + 1) k h
      refine ⟨by omega, ?_⟩
      rw [show k - i = (k - (i + 1)) + 1 by omega]; simpa using h2
theorem ixP_none (p : Int) : ∀ (l : List Int) (i : Nat), ixP p l i = none ↔ p ∉ l
  | [], _ => by simp [ixP]
  | q :: l, i => by
    rw [ixP]
    split
    · next e => simp [e]
    · next e => rw [ixP_none p l (i + 1)]; simp [Ne.symm e]
theorem ixP_at {l : List Int} (hn : l.Nodup) {k : Nat} {p : Int} (h : l[k]? = some p) : ixP p l 0 = some k := by
  cases hx : ixP p l 0 with
  | none => exact absurd (List.mem_of_getElem? h) ((ixP_none p l 0).1 hx)
  | some j =>
    have := (ixP_some p l 0 j hx).2
    rw [Nat.sub_zero] at this
    rw [nodup_at hn h this]
def newφ (φ : Int → Int) (ps : List Int) (a : Nat) (p : Int) : Int := match ixP p ps 0 with
  | some k => ((a + k : Nat) : Int)
  | none => φ p
theorem newφ_old {φ : Int → Int} {ps : List Int} {a : Nat} {p : Int} (h : p ∉ ps) : newφ φ ps a p = φ p := by
  unfold newφ; rw [(ixP_none p ps 0).2 h]
theorem newφ_new {φ : Int → Int} {ps : List Int} {a k : Nat} {p : Int} (hn : ps.Nodup) (h : ps[k]? = some p) : newφ φ ps a p = ((a + k : Nat) : Int) := by
  unfold newφ; rw [ixP_at hn h]
theorem newφ_map {φ : Int → Int} {ps : List Int} {a : Nat} (hn : ps.Nodup) : ps.map (newφ φ ps a) = idP a ps.length := by
  refine List.ext_getElem (by simp [idP]) (fun i h1 h2 => ?_)
  simp only [List.getElem_map, idP, List.getElem_range]
  rw [List.length_map] at h1
  exact newφ_new hn (List.getElem?_eq_getElem h1)
theorem inst_map (φ : Int → Int) (l ar : Ln) (ps : List Int) (h : ∀ x ∈ l, x.1 = 5 → 0 ≤ x.2 ∧ x.2 < ps.length) : (instM l ar ps).map (mp φ) = instM l (ar.map (mp φ)) (ps.map φ) := by
  unfold instM
  rw [List.map_map]
  refine List.map_congr_left (fun x hx => ?_)
  show mp φ (instA ar ps x) = instA (ar.map (mp φ)) (ps.map φ) x
  unfold instA
  by_cases h5 : x.1 = 5
  · have hb := h x hx h5
    rw [if_pos ⟨h5, hb⟩, if_pos ⟨h5, by simpa using hb⟩, mp_five]
    have hlt : x.2.toNat < ps.length := by omega
    simp [List.getElem?_eq_getElem hlt]
  · have n1 : ¬ (x.1 = 5 ∧ 0 ≤ x.2 ∧ x.2 < ps.length) := fun e => h5 e.1
    have n2 : ¬ (x.1 = 5 ∧ 0 ≤ x.2 ∧ x.2 < (ps.map φ).length) := fun e => h5 e.1
    rw [if_neg n1, if_neg n2]
    by_cases h2 : x.1 = 2 ∧ 0 ≤ x.2 ∧ x.2 < ar.length
    · rw [if_pos h2, if_pos (by simpa using h2)]
      have hlt : x.2.toNat < ar.length := by omega
      simp [List.getElem?_eq_getElem hlt]
    · rw [if_neg h2, if_neg (by simpa using h2), mp_not φ x h5]

theorem rm_call {φ : Int → Int} {L : Int → Prop} {c : Cf} {m : Ms} {s : Im} {f : Int} {rm r : Ln} {t : Tp} (h : Rm φ L m s) (hm : m.stk = (3, f) :: rm) (hr : rm.map (mp φ) = r ++ flK s.ks) (ht : TG c t) (hw : t.ar ≤ (r.length : Int)) :
    ∃ φ' L', Rm φ' L' (callM c t m) (callI c t r s) := by
  have t0 := ht.a0
  have t2 := ht.n0
  unfold callM callI
  rw [h.stp]
  by_cases hb : c.bud ≤ s.stp
  · rw [if_pos hb, if_pos hb]
    exact ⟨φ, L, h.outs rfl rfl rfl rfl rfl rfl rfl rfl rfl h.val⟩
  · rw [if_neg hb, if_neg hb]
    obtain ⟨⟨L1, h1⟩, hfit⟩ := rm_make (c := c) h ((t.ls.length : Int) - 1)
    obtain ⟨m1, m2, m3, m4, m5⟩ := make_same c ((t.ls.length : Int) - 1) m
    by_cases hfl : c.hp < (needI s : Int) + ((t.ls.length : Int) - 1)
    · rw [if_pos hfl, if_neg (fun e => hfit.1 e hfl)]
      exact ⟨φ, L1, h1.outs rfl rfl rfl rfl rfl rfl rfl (by show (makeM _ _ _).stp = _; rw [m4, h.stp]) rfl (by show (makeM _ _ _).val = _; exact h1.val)⟩
    · rw [if_neg hfl, if_pos (hfit.2 hfl)]
      simp only
      generalize makeM c ((t.ls.length : Int) - 1) m = s1 at *
      clear hfit hfl
      have hlen : rm.length = r.length + (flK s.ks).length := by have := congrArg List.length hr; simpa using this
      have hpop : popN t.ar.toNat s1.stk.tail = rm.take t.ar.toNat := by rw [m1, hm, List.tail_cons, popN_take _ _ (by omega)]
      have hstk : s1.stk.tail.drop t.ar.toNat = rm.drop t.ar.toNat := by rw [m1, hm, List.tail_cons]
      rw [hpop, hstk]
      have hfre : ∀ p ∈ ({ s1 with stp := s1.stp + 1, stk := rm.drop t.ar.toNat } : Ms).fre, 0 ≤ p ∧ p < ({ s1 with stp := s1.stp + 1, stk := rm.drop t.ar.toNat } : Ms).nds.length := fun p hp => (h1.fre p hp).1
      have tk := take_tk (t.ls.length - 1) { s1 with stp := s1.stp + 1, stk := rm.drop t.ar.toNat } hfre
      have td := take_d (t.ls.length - 1) { s1 with stp := s1.stp + 1, stk := rm.drop t.ar.toNat } hfre h1.nod
      have tl := takeL_ln (t.ls.length - 1) { s1 with stp := s1.stp + 1, stk := rm.drop t.ar.toNat }
      generalize takeL (t.ls.length - 1) { s1 with stp := s1.stp + 1, stk := rm.drop t.ar.toNat } = ps at *
      generalize takeN (t.ls.length - 1) { s1 with stp := s1.stp + 1, stk := rm.drop t.ar.toNat } = s3 at *
      obtain ⟨⟨k1, k2, k3, k4, k5⟩, kle, kln, kold, knew, kval, kfr, kfl⟩ := tk
      obtain ⟨dn, dsrc, dfre, dfnd⟩ := td
      simp only at k1 k2 k3 k4 k5 kle kln kold knew kfr kfl dsrc dfre
      cases hls : t.ls with
      | nil => rw [hls] at t2; simp at t2
      | cons l0 lr =>
        have hlr : t.ls.length = lr.length + 1 := by rw [hls]; rfl
        rw [layF]
        obtain ⟨a1, a2, a3, a4, a5, a6, a7, a8, a9⟩ := lay_at (rm.take t.ar.toNat) ps lr 0 (putM (instM l0 (rm.take t.ar.toNat) ps) s3) (by omega) dn kval
        generalize layF (rm.take t.ar.toNat) ps (0 + 1) lr (putM (instM l0 (rm.take t.ar.toNat) ps) s3) = m' at *
        have hnl3 : (putM (instM l0 (rm.take t.ar.toNat) ps) s3).nds.length = s3.nds.length := rfl
        have hst3 : (putM (instM l0 (rm.take t.ar.toNat) ps) s3).stk = instM l0 (rm.take t.ar.toNat) ps ++ rm.drop t.ar.toNat := by show _ ++ s3.stk = _; rw [k1]
        have hnd3 : ∀ p, ndA (putM (instM l0 (rm.take t.ar.toNat) ps) s3) p = ndA s3 p := fun _ => rfl
        rw [hst3] at a3
        rw [hnl3] at a9
        have hold : ∀ p, 0 ≤ p → p < (s1.nds.length : Int) → ndA s3 p = ndA s1 p := fun p h0 h1 => by
          unfold ndA; rw [kold p.toNat (by omega)]
        -- an old live place is none of the new ones
        have hLps : ∀ p, L1 p → p ∉ ps := by
          intro p hp hm'
          rcases dsrc p hm' with hx | hx
          · exact (h1.fre p hx).2 hp
          · have := (h1.ndL p hp).1.2; omega
        have htail : lr.length = ps.length := by omega
        have hpl : (s.nds.length : Nat) + ps.length = (s.nds ++ lr.map (fun l => (instM l (r.take t.ar.toNat) (idP s.nds.length ps.length), false))).length := by simp [htail]
        have hk1 : t.ls.length - 1 = ps.length := tl.symm
        have hgood : ∀ l ∈ t.ls, ∀ x ∈ l, x.1 = 5 → 0 ≤ x.2 ∧ x.2 < ps.length := fun l hl x hx h5 => by
          have := ((ht.ln l hl).2.2 x hx).2.2 h5; omega
        -- arguments
        have hrt : (rm.take t.ar.toNat).map (mp (newφ φ ps s.nds.length)) = r.take t.ar.toNat := by
          have e1 : (rm.take t.ar.toNat).map (mp (newφ φ ps s.nds.length)) = (rm.take t.ar.toNat).map (mp φ) :=
            map_ext _ (fun x hx h5 => newφ_old (hLps x.2 (h1.stL x (by rw [m1, hm]; exact List.mem_cons_of_mem _ (List.mem_of_mem_take hx)) h5)))
          rw [e1, List.map_take, hr, List.take_append_of_le_length (by omega)]
        have hrd : (rm.drop t.ar.toNat).map (mp (newφ φ ps s.nds.length)) = r.drop t.ar.toNat ++ flK s.ks := by
          have e1 : (rm.drop t.ar.toNat).map (mp (newφ φ ps s.nds.length)) = (rm.drop t.ar.toNat).map (mp φ) :=
            map_ext _ (fun x hx h5 => newφ_old (hLps x.2 (h1.stL x (by rw [m1, hm]; exact List.mem_cons_of_mem _ (List.mem_of_mem_drop hx)) h5)))
          rw [e1, List.map_drop, hr, List.drop_append_of_le_length (by omega)]
        have hinst : ∀ l ∈ t.ls, (instM l (rm.take t.ar.toNat) ps).map (mp (newφ φ ps s.nds.length)) = instM l (r.take t.ar.toNat) (idP s.nds.length ps.length) := fun l hl => by
          rw [inst_map _ _ _ _ (hgood l hl), hrt, newφ_map dn]
        -- what a new line points to
        have hptr : ∀ l ∈ t.ls, ∀ x ∈ instM l (rm.take t.ar.toNat) ps, x.1 = 5 → L1 x.2 ∨ x.2 ∈ ps := by
          intro l hl x hx h5
          unfold instM at hx
          obtain ⟨y, hy, rfl⟩ := List.mem_map.1 hx
          unfold instA at h5 ⊢
          by_cases hy5 : y.1 = 5
          · have hb := hgood l hl y hy hy5
            rw [if_pos ⟨hy5, hb⟩]
            right
            have hlt : y.2.toNat < ps.length := by omega
            simp only [List.getElem?_eq_getElem hlt, Option.getD_some]
            exact List.getElem_mem hlt
          · rw [if_neg (fun e => hy5 e.1)] at h5 ⊢
            by_cases h2 : y.1 = 2 ∧ 0 ≤ y.2 ∧ y.2 < (rm.take t.ar.toNat).length
            · rw [if_pos h2] at h5 ⊢
              left
              have hlt : y.2.toNat < (rm.take t.ar.toNat).length := by omega
              simp only [List.getElem?_eq_getElem hlt, Option.getD_some] at h5 ⊢
              refine h1.stL _ ?_ h5
              rw [m1, hm]
              exact List.mem_cons_of_mem _ (List.mem_of_mem_take (List.getElem_mem hlt))
            · rw [if_neg h2] at h5
              exact absurd h5 hy5
        refine ⟨newφ φ ps s.nds.length, fun p => L1 p ∨ p ∈ ps, ?_⟩
        simp only [List.headD_cons, List.tail_cons, List.length_cons, Nat.add_sub_cancel]
        rw [htail]
        refine ⟨?_, ?_, ?_, ?_, ?_, ?_, ?_, ?_, ?_, ?_, ?_⟩
        · rw [a3, List.map_append, hinst l0 (by rw [hls]; simp), hrd]
          show _ = _ ++ _ ++ flK s.ks
          rw [List.append_assoc]
        · rw [a4]
          show FrR _ s3.frs s.ks
          rw [k2]
          exact frr_ext _ _ h1.frs (fun f' hf' h1' => (newφ_old (hLps _ (h1.frL f' hf' h1'))).symm)
        · rw [a3]
          intro x hx h5
          rcases List.mem_append.1 hx with hx | hx
          · exact hptr l0 (by rw [hls]; simp) x hx h5
          · exact .inl (h1.stL x (by rw [m1, hm]; exact List.mem_cons_of_mem _ (List.mem_of_mem_drop hx)) h5)
        · rw [a4]
          intro f' hf' h1'
          exact .inl (h1.frL f' (by rw [← k2]; exact hf') h1')
        · intro p hp
          by_cases hps : p ∈ ps
          · obtain ⟨k, hk, rfl⟩ := List.mem_iff_getElem.1 hps
            obtain ⟨p', e1, e2⟩ := a1 k (by omega)
            rw [Nat.zero_add, List.getElem?_eq_getElem hk] at e1
            cases e1
            have hlm : lr[k]'(by omega) ∈ t.ls := by rw [hls]; exact List.mem_cons_of_mem _ (List.getElem_mem _)
            have e3 : newφ φ ps s.nds.length ps[k] = ((s.nds.length + k : Nat) : Int) := newφ_new dn (List.getElem?_eq_getElem hk)
            rw [e2, e3]
            refine ⟨by rw [a9]; exact kval _ (List.getElem_mem hk), ⟨by omega, by simp only; rw [← hpl]; omega⟩, ?_, hptr _ hlm⟩
            unfold ndI
            simp only
            rw [show ((s.nds.length + k : Nat) : Int).toNat = s.nds.length + k by omega, List.getElem?_append_right (by omega), show s.nds.length + k - s.nds.length = k by omega, List.getElem?_map, List.getElem?_eq_getElem (by omega : k < lr.length)]
            simp only [Option.map_some, Option.getD_some]
            rw [hinst _ hlm]
          · have hp1 : L1 p := by
              rcases hp with hp | hp
              · exact hp
              · exact absurd hp hps
            obtain ⟨w1, w2, w3, w4⟩ := h1.ndL p hp1
            have e1 : ndA m' p = ndA s1 p := by
              rw [a2 p w1.1 (fun q _ hq => hps (List.mem_of_getElem? hq)), hnd3, hold p w1.1 w1.2]
            rw [e1, newφ_old hps]
            refine ⟨by rw [a9]; omega, ⟨w2.1, by simp only [List.length_append]; omega⟩, ?_, fun x hx h5 => .inl (w4 x hx h5)⟩
            have e2 : ndI { s with stp := s.stp + 1, cur := instM l0 (r.take t.ar.toNat) (idP s.nds.length ps.length) ++ r.drop t.ar.toNat, nds := s.nds ++ lr.map (fun l => (instM l (r.take t.ar.toNat) (idP s.nds.length ps.length), false)) } (φ p) = ndI s (φ p) := by
              unfold ndI
              simp only
              rw [List.getElem?_append_left (by omega)]
            rw [e2, w3]
            rw [map_ext (φ := φ) (ψ := newφ φ ps s.nds.length) _ (fun x hx h5 => (newφ_old (hLps x.2 (w4 x hx h5))).symm)]
        · intro p q hp hq e
          have key : ∀ p q, L1 p → p ∉ ps → q ∈ ps → newφ φ ps s.nds.length p = newφ φ ps s.nds.length q → False := by
            intro p q hp hpn hqs e
            obtain ⟨k, hk, rfl⟩ := List.mem_iff_getElem.1 hqs
            rw [newφ_old hpn, newφ_new dn (List.getElem?_eq_getElem hk)] at e
            have := (h1.ndL p hp).2.1.2
            omega
          by_cases hps : p ∈ ps
          · by_cases hqs : q ∈ ps
            · obtain ⟨k, hk, rfl⟩ := List.mem_iff_getElem.1 hps
              obtain ⟨j, hj, rfl⟩ := List.mem_iff_getElem.1 hqs
              rw [newφ_new dn (List.getElem?_eq_getElem hk), newφ_new dn (List.getElem?_eq_getElem hj)] at e
              have : k = j := by omega
              subst this; rfl
            · exact (key q p (hq.resolve_right hqs) hqs hps e.symm).elim
          · by_cases hqs : q ∈ ps
            · exact (key p q (hp.resolve_right hps) hps hqs e).elim
            · rw [newφ_old hps, newφ_old hqs] at e
              exact h1.inj p q (hp.resolve_right hps) (hq.resolve_right hqs) e
        · rw [a5]
          intro p hp
          obtain ⟨d1, d2⟩ := dfre p hp
          have := h1.fre p d1
          exact ⟨by rw [a9]; omega, fun e => by
            rcases e with e | e
            · exact this.2 e
            · exact d2 e⟩
        · rw [a5]; exact dfnd
        · rw [a6]; show s3.stp = _; rw [k3, m4, h.stp]
        · rw [a7]; show s3.out = _; rw [k4, m5, h.out]
        · rw [a8]; show s3.val = _; rw [k5]; exact h1.val

theorem rm_move {φ : Int → Int} {L : Int → Prop} {c : Cf} {m : Ms} {s : Im} (h : Rm φ L m s) (hi : Iv c m) (ht : ∀ t ∈ c.fs, TG c t) : ∃ φ' L', Rm φ' L' (moveM c m) (moveI c s) := by
  obtain ⟨x, rm, r, hm, hc, hr, hal⟩ := rm_top h hi
  have hhd : hdI m.stk = x := by rw [hm]; rfl
  have hhd2 : hdI s.cur = mp φ x := by rw [hc]; rfl
  have htl : s.cur.tail = r := by rw [hc]; rfl
  unfold moveM moveI
  simp only [hhd, hhd2, htl]
  rw [mp_kind, hal]
  by_cases h5 : x.1 = 5
  · rw [if_pos h5, if_pos h5]
    obtain ⟨x1, x2⟩ := x
    simp only at h5
    subst h5
    rw [mp_five]
    exact ⟨φ, L, rm_enter h hm hr⟩
  · rw [if_neg h5, if_neg h5]
    have hx := mp_not φ x h5
    have hdel : (x.1 = 1 → r = []) → ∃ φ' L', Rm φ' L' (delM c x m) (delI c (mp φ x) s) := fun h1 => ⟨φ, L, rm_del h hi hm hc hr h5 h1⟩
    by_cases h3 : x.1 = 3
    · rw [if_pos h3, if_pos h3]
      have hv := (hi.it x (by rw [hm]; simp)).2.1 h3
      have hlt : x.2.toNat < c.fs.length := by omega
      have htp : tplM c x.2 ∈ c.fs := by
        unfold tplM
        rw [if_pos hv, List.getElem?_eq_getElem hlt]
        exact List.getElem_mem hlt
      rw [hx]
      by_cases hle : (tplM c x.2).ar ≤ (r.length : Int)
      · rw [if_pos hle, if_pos hle]
        obtain ⟨x1, x2⟩ := x
        simp only at h3
        subst h3
        exact rm_call h hm hr (ht _ htp) hle
      · rw [if_neg hle, if_neg hle]
        have := hdel (fun e => by omega)
        rw [hx] at this; exact this
    · rw [if_neg h3, if_neg h3]
      by_cases h4 : x.1 = 4
      · rw [if_pos h4, if_pos h4, hx]
        by_cases hle : wantM x.2 ≤ (r.length : Int)
        · rw [if_pos hle, if_pos hle]
          obtain ⟨x1, x2⟩ := x
          simp only at h4 hle
          subst h4
          exact ⟨φ, L, rm_ask h hm hr (by have := want_ge x2; omega)⟩
        · rw [if_neg hle, if_neg hle]
          have := hdel (fun e => by omega)
          rw [hx] at this; exact this
      · rw [if_neg h4, if_neg h4]
        by_cases hp : 0 < r.length
        · rw [if_pos (by omega), if_pos hp]
          exact ⟨φ, L, h.outs rfl rfl rfl rfl rfl rfl rfl h.stp rfl h.val⟩
        · rw [if_neg (by omega), if_neg hp]
          exact hdel (fun _ => by cases r with
            | nil => rfl
            | cons a b => simp at hp)

end Go.Proofs.YtnndoagpbcacdaaGreatDoor
