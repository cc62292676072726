import Derived.Test.YtnndoagpbcacdaaGreatDoorMI1
namespace Go.Proofs.YtnndoagpbcacdaaGreatDoor

/-! What holds behind every move; the machine ends. -/
def isVal (c : Cf) (l : Ln) : Prop := (hdI l).1 ≠ 5 ∧ ((hdI l).1 = 3 → (l.tail.length : Int) < (tplM c (hdI l).2).ar) ∧ ((hdI l).1 = 4 → (l.tail.length : Int) < wantM (hdI l).2) ∧ ((hdI l).1 ≠ 3 → (hdI l).1 ≠ 4 → l.tail.length = 0)
/-- The next node that is open. -/
def nxO : List Kf → Option Int
  | [] => none
  | f :: ks => if f.k = 1 then some f.nd else nxO ks
def Bl (rk : Int → Nat) (ks : List Kf) (p : Int) : Prop := ∀ n, nxO ks = some n → rk p < rk n
def RkK (rk : Int → Nat) : List Kf → Prop
  | [] => True
  | f :: ks => (∀ x ∈ f.rs, x.1 = 5 → Bl rk ks x.2) ∧ (f.k = 1 → Bl rk ks f.nd) ∧ RkK rk ks
def frOk (f : Kf) : Prop := f.k = 1 ∨ (f.k = 2 ∧ wantM f.pr - 1 ≤ (f.rs.length : Int)) ∨ (f.k = 3 ∧ wantM f.pr - 2 ≤ (f.rs.length : Int))
structure Ii (c : Cf) (rk : Int → Nat) (s : Im) : Prop where
  ne : s.cur ≠ []
  it : ∀ x ∈ s.cur, GI c s.nds.length x
  fr : ∀ f ∈ s.ks, frOk f ∧ (f.k = 1 → 0 ≤ f.nd ∧ f.nd < s.nds.length) ∧ (∀ x ∈ f.rs, GI c s.nds.length x) ∧ -1000000000 ≤ f.nu ∧ f.nu ≤ 1000000000
  nd : ∀ n ∈ s.nds, n.1 ≠ [] ∧ (∀ x ∈ n.1, GI c s.nds.length x) ∧ (n.2 = true → isVal c n.1)
  ord : ∀ p : Int, 0 ≤ p → p < s.nds.length → ∀ x ∈ (ndI s p).1, x.1 = 5 → rk x.2 < rk p
  cb : ∀ x ∈ s.cur, x.1 = 5 → Bl rk s.ks x.2
  kb : RkK rk s.ks
structure TGo (c : Cf) (t : Tp) : Prop where
  tg : TG c t
  lt : ∀ (j : Nat) (l : Ln), t.ls[j]? = some l → ∀ a ∈ l, a.1 = 5 → (j : Int) ≤ a.2
def opens (ks : List Kf) : List Int := ks.flatMap (fun f => if f.k = 1 then [f.nd] else [])
def cntU : Nat → List (Ln × Bool) → List Int → Nat
  | _, [], _ => 0
  | i, n :: l, op => (if n.2 = false ∧ (i : Int) ∉ op then 1 else 0) + cntU (i + 1) l op
def frW (f : Kf) : Nat := if f.k = 1 then 5 else if f.k = 2 then 2 else 0
def sumW : List Kf → Nat
  | [] => 0
  | f :: ks => frW f + sumW ks
def topW (l : Ln) : Nat := if (hdI l).1 = 5 then (if l.tail.length = 0 then 1 else 5) else if (hdI l).1 = 4 then (if wantM (hdI l).2 ≤ (l.tail.length : Int) then 4 else 0) else 0
def pot (s : Im) : Nat := 11 * cntU 0 s.nds (opens s.ks) + sumW s.ks + topW s.cur
theorem topW_le (l : Ln) : topW l ≤ 5 := by
  unfold topW
  split
  · split <;> omega
  · split
    · split <;> omega
    · omega
theorem topW_np {l : Ln} (h : (hdI l).1 ≠ 5) : topW l ≤ 4 := by
  unfold topW
  rw [if_neg h]
  split
  · split <;> omega
  · omega
theorem topW_one (x : Int × Int) : topW [x] ≤ 1 := by
  unfold topW
  split
  · simp
  · split
    · have := want_ge (hdI [x]).2
      rw [if_neg (by simp; omega)]; omega
    · omega
theorem topW_val {c : Cf} {l : Ln} (h : isVal c l) : topW l = 0 := by
  unfold topW
  rw [if_neg h.1]
  split
  · next h4 => rw [if_neg (by have := h.2.2.1 h4; omega)]
  · rfl
theorem cntU_mono (op op' : List Int) : ∀ (l : List (Ln × Bool)) (i : Nat), (∀ p ∈ op, p ∈ op') → cntU i l op' ≤ cntU i l op
  | [], _, _ => Nat.le_refl _
  | n :: l, i, h => by
    have ih := cntU_mono op op' l (i + 1) h
    rw [cntU, cntU]
    by_cases h1 : n.2 = false ∧ (i : Int) ∉ op'
    · rw [if_pos h1, if_pos ⟨h1.1, fun e => h1.2 (h _ e)⟩]; omega
    · rw [if_neg h1]; omega
theorem cntU_open (op : List Int) (p : Nat) : ∀ (l : List (Ln × Bool)) (i : Nat) (n : Ln × Bool), i ≤ p → l[p - i]? = some n → n.2 = false → (p : Int) ∉ op → cntU i l ((p : Int) :: op) + 1 ≤ cntU i l op
  | [], i, n, _, h, _, _ => by simp at h
  | m :: l, i, n, hi, h, hn, hp => by
    rw [cntU, cntU]
    by_cases e : i = p
    · subst e
      simp at h
      subst h
      have := cntU_mono op ((i : Int) :: op) l (i + 1) (fun q hq => by simp [hq])
      rw [if_neg (by simp), if_pos ⟨hn, hp⟩]
      omega
    · have ih := cntU_open op p l (i + 1) n (by omega) (by rw [show p - i = (p - (i + 1)) + 1 by omega] at h; simpa using h) hn hp
      by_cases h1 : m.2 = false ∧ (i : Int) ∉ op
      · rw [if_pos h1, if_pos ⟨h1.1, by simp [h1.2]; omega⟩]; omega
      · rw [if_neg h1, if_neg (fun e => h1 ⟨e.1, fun h => e.2 (by simp [h])⟩)]; omega
theorem cntU_app (op : List Int) : ∀ (l m : List (Ln × Bool)) (i : Nat), cntU i (l ++ m) op ≤ cntU i l op + m.length
  | [], m, i => by
    induction m generalizing i with
    | nil => simp [cntU]
    | cons n m ih => have := ih (i + 1); simp only [List.nil_append, cntU, List.length_cons] at this ⊢; split <;> omega
  | n :: l, m, i => by
    have := cntU_app op l m (i + 1)
    simp only [List.cons_append, cntU]; omega
theorem cntU_upd (op : List Int) (p : Nat) (v : Ln) : ∀ (l : List (Ln × Bool)) (i : Nat), i ≤ p → cntU i (l.set (p - i) (v, true)) op ≤ cntU i l ((p : Int) :: op)
  | [], i, _ => by simp [cntU]
  | m :: l, i, hi => by
    by_cases e : i = p
    · subst e
      rw [Nat.sub_self, List.set_cons_zero, cntU, cntU, if_neg (by simp), if_neg (by simp)]
      have h : ∀ (l : List (Ln × Bool)) (j : Nat), i < j → cntU j l op ≤ cntU j l ((i : Int) :: op) := by
        intro l
        induction l with
        | nil => intro j _; simp [cntU]
        | cons n l ih =>
          intro j hj
          have := ih (j + 1) (by omega)
          rw [cntU, cntU]
          by_cases h1 : n.2 = false ∧ (j : Int) ∉ op
          · rw [if_pos h1, if_pos ⟨h1.1, by simp [h1.2]; omega⟩]; omega
          · rw [if_neg h1]; omega
      have := h l (i + 1) (by omega)
      omega
    · have ih := cntU_upd op p v l (i + 1) (by omega)
      rw [show p - i = (p - (i + 1)) + 1 by omega, List.set_cons_succ, cntU, cntU]
      by_cases h1 : m.2 = false ∧ (i : Int) ∉ op
      · rw [if_pos h1, if_pos ⟨h1.1, by simp [h1.2]; omega⟩]; omega
      · rw [if_neg h1]; omega
theorem ndI_mem {s : Im} {p : Int} (h0 : 0 ≤ p) (h1 : p < s.nds.length) : ndI s p ∈ s.nds := by
  have hlt : p.toNat < s.nds.length := by omega
  unfold ndI
  rw [List.getElem?_eq_getElem hlt]
  exact List.getElem_mem hlt
theorem Bl.not_open {rk : Int → Nat} : ∀ {ks : List Kf} {p : Int}, Bl rk ks p → RkK rk ks → p ∉ opens ks
  | [], p, _, _ => by simp [opens]
  | f :: ks, p, hb, hk => by
    obtain ⟨k1, k2, k3⟩ := hk
    have hop : opens (f :: ks) = (if f.k = 1 then [f.nd] else []) ++ opens ks := rfl
    rw [hop]
    by_cases h1 : f.k = 1
    · rw [if_pos h1]
      have h2 : rk p < rk f.nd := hb f.nd (by rw [nxO, if_pos h1])
      intro hm
      rcases List.mem_append.1 hm with hm | hm
      · simp at hm; subst hm; omega
      · exact Bl.not_open (p := p) (fun n hn => by have := k2 h1 n hn; omega) k3 hm
    · rw [if_neg h1, List.nil_append]
      exact Bl.not_open (fun n hn => hb n (by rw [nxO, if_neg h1]; exact hn)) k3
theorem Bl.le {rk : Int → Nat} {ks : List Kf} {p q : Int} (h : Bl rk ks p) (hq : rk q < rk p) : Bl rk ks q := fun n hn => by have := h n hn; omega

theorem ii_enter {c : Cf} {rk : Int → Nat} {s : Im} {p : Int} {r : Ln} (h : Ii c rk s) (hc : s.cur = (5, p) :: r) :
    Ii c rk (if (ndI s p).2 then { s with cur := (ndI s p).1 ++ r } else { s with cur := (ndI s p).1, ks := ⟨1, p, 0, 0, r⟩ :: s.ks }) ∧ pot (if (ndI s p).2 then { s with cur := (ndI s p).1 ++ r } else { s with cur := (ndI s p).1, ks := ⟨1, p, 0, 0, r⟩ :: s.ks }) + 1 ≤ pot s := by
  have hv := (h.it (5, p) (by rw [hc]; simp)).2.2 rfl
  have hb := h.cb (5, p) (by rw [hc]; simp) rfl
  simp only at hv hb
  have hn := h.nd _ (ndI_mem hv.1 hv.2)
  have ho := h.ord p hv.1 hv.2
  have hrI : ∀ x ∈ r, GI c s.nds.length x := fun x hx => h.it x (by rw [hc]; simp [hx])
  have hrB : ∀ x ∈ r, x.1 = 5 → Bl rk s.ks x.2 := fun x hx => h.cb x (by rw [hc]; simp [hx])
  have htw : topW s.cur = if r.length = 0 then 1 else 5 := by rw [hc]; simp [topW, hdI]
  cases hd : (ndI s p).2
  · simp only [Bool.false_eq_true, if_false]
    refine ⟨⟨hn.1, hn.2.1, ?_, h.nd, h.ord, ?_, ⟨hrB, fun _ => hb, h.kb⟩⟩, ?_⟩
    · intro f hf
      rcases List.mem_cons.1 hf with rfl | hf
      · exact ⟨.inl rfl, fun _ => hv, hrI, by simp⟩
      · exact h.fr f hf
    · intro x hx h5 n hn'
      rw [nxO, if_pos rfl] at hn'
      cases hn'
      exact ho x hx h5
    · unfold pot
      rw [htw]
      simp only
      have h1 := topW_le (ndI s p).1
      have h2 : opens (⟨1, p, 0, 0, r⟩ :: s.ks) = p :: opens s.ks := rfl
      have h3 : sumW (⟨1, p, 0, 0, r⟩ :: s.ks) = 5 + sumW s.ks := rfl
      have hlt : p.toNat < s.nds.length := by omega
      have h4 := cntU_open (opens s.ks) p.toNat s.nds 0 s.nds[p.toNat] (by omega) (by rw [Nat.sub_zero, List.getElem?_eq_getElem hlt]) (by
        have : ndI s p = s.nds[p.toNat] := by unfold ndI; rw [List.getElem?_eq_getElem hlt]; rfl
        rw [← this]; exact hd) (by rw [show ((p.toNat : Nat) : Int) = p by omega]; exact hb.not_open h.kb)
      rw [show ((p.toNat : Nat) : Int) = p by omega] at h4
      rw [h2, h3]
      split <;> omega
  · simp only [if_true]
    have hval := hn.2.2 hd
    refine ⟨⟨?_, ?_, h.fr, h.nd, h.ord, ?_, h.kb⟩, ?_⟩
    · intro e
      have := (List.append_eq_nil_iff.1 e).1
      exact hn.1 this
    · intro x hx
      rcases List.mem_append.1 hx with hx | hx
      · exact hn.2.1 x hx
      · exact hrI x hx
    · intro x hx h5
      rcases List.mem_append.1 hx with hx | hx
      · exact hb.le (ho x hx h5)
      · exact hrB x hx h5
    · unfold pot
      rw [htw]
      simp only
      cases hr : r with
      | nil =>
        rw [List.append_nil, topW_val hval]
        simp
      | cons y r1 =>
        have hh : hdI ((ndI s p).1 ++ y :: r1) = hdI (ndI s p).1 := by
          cases hq : (ndI s p).1 with
          | nil => exact absurd hq hn.1
          | cons a b => rfl
        have := topW_np (l := (ndI s p).1 ++ y :: r1) (by rw [hh]; exact hval.1)
        simp; omega
theorem ii_ask {c : Cf} {rk : Int → Nat} {s : Im} {p : Int} {r : Ln} (h : Ii c rk s) (hc : s.cur = (4, p) :: r) (hw : wantM p ≤ (r.length : Int)) :
    Ii c rk { s with cur := [hdI r], ks := ⟨2, 0, p, 0, r.tail⟩ :: s.ks } ∧ pot { s with cur := [hdI r], ks := ⟨2, 0, p, 0, r.tail⟩ :: s.ks } + 1 ≤ pot s := by
  have hw2 := want_ge p
  cases hr : r with
  | nil => rw [hr] at hw; simp at hw; omega
  | cons y r1 =>
    have hrI : ∀ x ∈ y :: r1, GI c s.nds.length x := fun x hx => h.it x (by rw [hc, hr]; simp at hx ⊢; right; exact hx)
    have hrB : ∀ x ∈ y :: r1, x.1 = 5 → Bl rk s.ks x.2 := fun x hx => h.cb x (by rw [hc, hr]; simp at hx ⊢; right; exact hx)
    refine ⟨⟨by simp, ?_, ?_, h.nd, h.ord, ?_, ⟨fun x hx => hrB x (by simp at hx ⊢; right; exact hx), fun e => by simp at e, h.kb⟩⟩, ?_⟩
    · intro x hx
      simp [hdI] at hx
      subst hx
      exact hrI x (by simp)
    · intro f hf
      rcases List.mem_cons.1 hf with rfl | hf
      · refine ⟨.inr (.inl ⟨rfl, ?_⟩), fun e => by simp at e, fun x hx => hrI x (by simp at hx ⊢; right; exact hx), by simp⟩
        rw [hr] at hw; simp at hw ⊢; omega
      · exact h.fr f hf
    · intro x hx h5 n hn
      simp [hdI] at hx
      subst hx
      rw [nxO, if_neg (by simp)] at hn
      exact hrB x (by simp) h5 n hn
    · unfold pot
      simp only
      have h1 := topW_one (hdI (y :: r1))
      have h2 : opens (⟨2, 0, p, 0, (y :: r1).tail⟩ :: s.ks) = opens s.ks := rfl
      have h3 : sumW (⟨2, 0, p, 0, (y :: r1).tail⟩ :: s.ks) = 2 + sumW s.ks := rfl
      have h4 : topW s.cur = 4 := by
        unfold topW
        rw [hc, if_neg (by simp [hdI]), if_pos (by simp [hdI]), if_pos (by simpa [hdI] using hw)]
      rw [h2, h3, h4]
      omega
theorem ii_del {c : Cf} {rk : Int → Nat} {s : Im} (h : Ii c rk s) (hv : isVal c s.cur) (ho : (delI c (hdI s.cur) s).out = 0) :
    Ii c rk (delI c (hdI s.cur) s) ∧ pot (delI c (hdI s.cur) s) + 1 ≤ pot s + 138 * ((delI c (hdI s.cur) s).stp - s.stp).toNat ∧ (0 : Int) ≤ (delI c (hdI s.cur) s).stp - s.stp ∧ (s.stp < (delI c (hdI s.cur) s).stp → s.stp < c.bud ∧ (delI c (hdI s.cur) s).stp = s.stp + 1) := by
  have htw := topW_val hv
  have hhm : hdI s.cur ∈ s.cur := hd_mem h.ne
  unfold delI at ho ⊢
  cases hk : s.ks with
  | nil =>
    rw [hk] at ho
    simp only at ho
    split at ho <;> simp at ho
  | cons f ks =>
    rw [hk] at ho
    simp only at ho ⊢
    obtain ⟨f1, f2, f3, f4⟩ := h.fr f (by rw [hk]; simp)
    have hkb := h.kb
    rw [hk] at hkb
    obtain ⟨g1, g2, g3⟩ := hkb
    have hfr' : ∀ g ∈ ks, frOk g ∧ (g.k = 1 → 0 ≤ g.nd ∧ g.nd < s.nds.length) ∧ (∀ x ∈ g.rs, GI c s.nds.length x) ∧ -1000000000 ≤ g.nu ∧ g.nu ≤ 1000000000 := fun g hg => h.fr g (by rw [hk]; simp [hg])
    have hsw : sumW s.ks = frW f + sumW ks := by rw [hk]; rfl
    have hopn : opens s.ks = (if f.k = 1 then [f.nd] else []) ++ opens ks := by rw [hk]; rfl
    by_cases hk1 : f.k = 1
    · rw [if_pos hk1] at ho ⊢
      obtain ⟨v0, v1⟩ := f2 hk1
      have hcb : ∀ x ∈ s.cur, x.1 = 5 → rk x.2 < rk f.nd := fun x hx h5 => h.cb x hx h5 f.nd (by rw [hk, nxO, if_pos hk1])
      have hlt : f.nd.toNat < s.nds.length := by omega
      refine ⟨⟨?_, ?_, ?_, ?_, ?_, ?_, g3⟩, ?_, by simp, fun e => by simp at e⟩
      · intro e
        exact h.ne (List.append_eq_nil_iff.1 e).1
      · simp only [List.length_set]
        intro x hx
        rcases List.mem_append.1 hx with hx | hx
        · exact h.it x hx
        · exact f3 x hx
      · simp only [List.length_set]; exact hfr'
      · simp only [List.length_set]
        intro n hn
        rcases List.mem_or_eq_of_mem_set hn with hn | rfl
        · exact h.nd n hn
        · exact ⟨h.ne, h.it, fun _ => hv⟩
      · intro p h0 h1 x hx h5
        simp only [List.length_set] at h1
        by_cases hpf : f.nd = p
        · subst hpf
          have q1 : ndI { s with cur := s.cur ++ f.rs, ks := ks, nds := s.nds.set f.nd.toNat (s.cur, true) } f.nd = (s.cur, true) := by
            unfold ndI; simp only; rw [List.getElem?_set_self hlt]; rfl
          rw [q1] at hx
          exact hcb x hx h5
        · have q1 : ndI { s with cur := s.cur ++ f.rs, ks := ks, nds := s.nds.set f.nd.toNat (s.cur, true) } p = ndI s p := by
            unfold ndI; simp only; rw [List.getElem?_set_ne (by omega)]
          rw [q1] at hx
          exact h.ord p h0 h1 x hx h5
      · intro x hx h5
        rcases List.mem_append.1 hx with hx | hx
        · exact (g2 hk1).le (hcb x hx h5)
        · exact g1 x hx h5
      · unfold pot
        simp only
        rw [htw, hsw, hopn, if_pos hk1]
        have hh : hdI (s.cur ++ f.rs) = hdI s.cur := by
          cases hq : s.cur with
          | nil => exact absurd hq h.ne
          | cons a b => rfl
        have h1 := topW_np (l := s.cur ++ f.rs) (by rw [hh]; exact hv.1)
        have h2 := cntU_upd (opens ks) f.nd.toNat s.cur s.nds 0 (by omega)
        rw [Nat.sub_zero, show ((f.nd.toNat : Nat) : Int) = f.nd by omega] at h2
        have h3 : frW f = 5 := by unfold frW; rw [if_pos hk1]
        rw [h3, List.singleton_append]
        omega
    · rw [if_neg hk1] at ho ⊢
      by_cases hx1 : (hdI s.cur).1 ≠ 1
      · rw [if_pos hx1] at ho; simp at ho
      · rw [if_neg hx1] at ho ⊢
        rw [if_neg hk1, List.nil_append] at hopn
        have hnx : nxO s.ks = nxO ks := by rw [hk, nxO, if_neg hk1]
        by_cases hk2 : f.k = 2
        · rw [if_pos hk2] at ho ⊢
          have hl : wantM f.pr - 1 ≤ (f.rs.length : Int) := by
            rcases f1 with e | e | e
            · omega
            · exact e.2
            · omega
          have hwt := want_ge f.pr
          have hx := Decidable.not_not.1 hx1
          have hnum := (h.it _ hhm).1 hx
          cases hrs : f.rs with
          | nil => rw [hrs] at hl; simp at hl; omega
          | cons y r1 =>
            refine ⟨⟨by simp, ?_, ?_, h.nd, h.ord, ?_, ⟨fun x hx => g1 x (by rw [hrs]; simp at hx ⊢; right; exact hx), fun e => by simp at e, g3⟩⟩, ?_, by simp, fun e => by simp at e⟩
            · intro x hx
              simp [hdI] at hx
              subst hx
              exact f3 x (by rw [hrs]; simp)
            · intro g hg
              rcases List.mem_cons.1 hg with rfl | hg
              · refine ⟨.inr (.inr ⟨rfl, ?_⟩), fun e => by simp at e, fun x hx => f3 x (by rw [hrs]; simp at hx ⊢; right; exact hx), hnum⟩
                rw [hrs] at hl; simp at hl ⊢; omega
              · exact hfr' g hg
            · intro x hx h5 n hn
              simp [hdI] at hx
              subst hx
              rw [nxO, if_neg (by simp)] at hn
              exact g1 x (by rw [hrs]; simp) h5 n hn
            · unfold pot
              simp only
              have h1 := topW_one (hdI (y :: r1))
              have h2 : opens (⟨3, 0, f.pr, (hdI s.cur).2, (y :: r1).tail⟩ :: ks) = opens ks := rfl
              have h3 : sumW (⟨3, 0, f.pr, (hdI s.cur).2, (y :: r1).tail⟩ :: ks) = 0 + sumW ks := rfl
              have h4 : frW f = 2 := by unfold frW; rw [if_neg hk1, if_pos hk2]
              rw [h2, h3, htw, hsw, hopn, h4]
              omega
        · rw [if_neg hk2] at ho ⊢
          have hk3 : f.k = 3 ∧ wantM f.pr - 2 ≤ (f.rs.length : Int) := by
            rcases f1 with e | e | e
            · omega
            · omega
            · exact e
          by_cases hb : c.bud ≤ s.stp
          · rw [if_pos hb] at ho; simp at ho
          · rw [if_neg hb] at ho ⊢
            have e1 : (s.stp + 1 - s.stp).toNat = 1 := by omega
            by_cases hp : f.pr = 3 ∨ f.pr = 4
            · rw [if_pos hp] at ho ⊢
              have hwt : wantM f.pr = 4 := by unfold wantM; rw [if_pos hp]
              have hl := hk3.2
              cases hrs : f.rs with
              | nil => rw [hrs] at hl; simp at hl; omega
              | cons y r1 =>
                cases hrs1 : r1 with
                | nil => rw [hrs, hrs1] at hl; simp at hl; omega
                | cons y2 r2 =>
                  have hmem : ∀ x ∈ (if picks f.pr f.nu (hdI s.cur).2 = true then hdI (y :: y2 :: r2) else hdI (y :: y2 :: r2).tail) :: (y :: y2 :: r2).drop 2, x ∈ f.rs := by
                    intro x hx
                    rw [hrs, hrs1]
                    rcases List.mem_cons.1 hx with hx | hx
                    · split at hx <;> simp [hdI] at hx <;> simp [hx]
                    · simp at hx; simp [hx]
                  refine ⟨⟨by simp, fun x hx => f3 x (hmem x hx), hfr', h.nd, h.ord, fun x hx => g1 x (hmem x hx), g3⟩, ?_, by simp only; omega, fun _ => ⟨by omega, rfl⟩⟩
                  unfold pot
                  simp only
                  rw [e1, hsw, hopn]
                  have := topW_le ((if picks f.pr f.nu (hdI s.cur).2 = true then hdI (y :: y2 :: r2) else hdI (y :: y2 :: r2).tail) :: (y :: y2 :: r2).drop 2)
                  omega
            · rw [if_neg hp] at ho ⊢
              by_cases hov : overV (calcV f.pr f.nu (hdI s.cur).2) = true
              · rw [if_pos hov] at ho; simp at ho
              · rw [if_neg hov] at ho ⊢
                have hov2 : ¬ (1000000000 < calcV f.pr f.nu (hdI s.cur).2 ∨ calcV f.pr f.nu (hdI s.cur).2 < -1000000000) := fun e => hov ((over_iff _).2 e)
                refine ⟨⟨by simp, ?_, hfr', h.nd, h.ord, ?_, g3⟩, ?_, by simp only; omega, fun _ => ⟨by omega, rfl⟩⟩
                · intro x hx
                  rcases List.mem_cons.1 hx with rfl | hx
                  · exact ⟨fun _ => by simp only; omega, fun e => by simp at e, fun e => by simp at e⟩
                  · exact f3 x hx
                · intro x hx h5
                  rcases List.mem_cons.1 hx with rfl | hx
                  · simp at h5
                  · exact g1 x hx h5
                · unfold pot
                  simp only
                  rw [e1, hsw, hopn]
                  have := topW_le ((1, calcV f.pr f.nu (hdI s.cur).2) :: f.rs)
                  omega

end Go.Proofs.YtnndoagpbcacdaaGreatDoor
namespace Go.Proofs.YtnndoagpbcacdaaGreatDoor

/-! A step of a function, and the whole run: it ends. -/
theorem rk_bound (rk : Int → Nat) : ∀ n : Nat, ∃ M, ∀ p : Int, 0 ≤ p → p < n → rk p < M
  | 0 => ⟨0, fun p h0 h1 => by omega⟩
  | n + 1 => by
    obtain ⟨M, hM⟩ := rk_bound rk n
    refine ⟨M + rk n + 1, fun p h0 h1 => ?_⟩
    by_cases e : p = n
    · subst e; omega
    · have := hM p h0 (by omega); omega
/-- New ranks: the new nodes lie at r0, what lay there or above goes up. -/
def newR (rk : Int → Nat) (a k r0 : Nat) (p : Int) : Nat := if (a : Int) ≤ p then r0 + (k - 1 - (p.toNat - a)) else if r0 ≤ rk p then rk p + k else rk p
theorem newR_old {rk : Int → Nat} {a k r0 : Nat} {p q : Int} (hp : p < a) (hq : q < a) (h : rk p < rk q) : newR rk a k r0 p < newR rk a k r0 q := by
  have n1 : ¬ (a : Int) ≤ p := by omega
  have n2 : ¬ (a : Int) ≤ q := by omega
  unfold newR
  rw [if_neg n1, if_neg n2]
  split <;> split <;> omega
theorem newR_bl {rk : Int → Nat} {a k r0 : Nat} {p : Int} : ∀ {ks : List Kf}, (∀ f ∈ ks, f.k = 1 → f.nd < a) → p < a → Bl rk ks p → Bl (newR rk a k r0) ks p := by
  intro ks hk hp hb n hn
  have h1 := hb n hn
  have h2 : n < a := by
    clear h1 hb
    induction ks with
    | nil => simp [nxO] at hn
    | cons f ks ih =>
      rw [nxO] at hn
      split at hn
      · next e => cases hn; exact hk f (by simp) e
      · exact ih (fun g hg => hk g (by simp [hg])) hn
  exact newR_old hp h2 h1
theorem newR_rkk {rk : Int → Nat} {a k r0 : Nat} : ∀ {ks : List Kf}, (∀ f ∈ ks, (f.k = 1 → f.nd < a) ∧ ∀ x ∈ f.rs, x.1 = 5 → x.2 < a) → RkK rk ks → RkK (newR rk a k r0) ks
  | [], _, _ => trivial
  | f :: ks, h, hk => by
    have h1 := h f (by simp)
    have h2 : ∀ g ∈ ks, (g.k = 1 → g.nd < a) ∧ ∀ x ∈ g.rs, x.1 = 5 → x.2 < a := fun g hg => h g (by simp [hg])
    exact ⟨fun x hx h5 => newR_bl (fun g hg => (h2 g hg).1) (h1.2 x hx h5) (hk.1 x hx h5), fun e => newR_bl (fun g hg => (h2 g hg).1) (h1.1 e) (hk.2.1 e), newR_rkk h2 hk.2.2⟩
theorem inst_mem {l ar : Ln} {a k : Nat} {x : Int × Int} (hg : ∀ y ∈ l, y.1 = 5 → 0 ≤ y.2 ∧ y.2 < k) (hx : x ∈ instM l ar (idP a k)) : (∃ y ∈ l, y.1 = 5 ∧ x = (5, (a : Int) + y.2)) ∨ x ∈ ar ∨ (x ∈ l ∧ x.1 ≠ 5) := by
  unfold instM at hx
  obtain ⟨y, hy, rfl⟩ := List.mem_map.1 hx
  unfold instA
  have hlen : (idP a k).length = k := by simp [idP]
  by_cases hy5 : y.1 = 5
  · have hb := hg y hy hy5
    rw [if_pos ⟨hy5, by rw [hlen]; exact hb⟩]
    left
    refine ⟨y, hy, hy5, ?_⟩
    have hlt : y.2.toNat < k := by omega
    simp [idP, List.getElem?_range hlt]
    omega
  · rw [if_neg (fun e => hy5 e.1)]
    by_cases h2 : y.1 = 2 ∧ 0 ≤ y.2 ∧ y.2 < ar.length
    · rw [if_pos h2]
      right; left
      have hlt : y.2.toNat < ar.length := by omega
      simp only [List.getElem?_eq_getElem hlt, Option.getD_some]
      exact List.getElem_mem hlt
    · rw [if_neg h2]
      exact .inr (.inr ⟨hy, hy5⟩)
theorem ii_call {c : Cf} {rk : Int → Nat} {s : Im} {f : Int} {r : Ln} {t : Tp} (h : Ii c rk s) (hc : s.cur = (3, f) :: r) (ht : TGo c t) (ho : (callI c t r s).out = 0) :
    (∃ rk', Ii c rk' (callI c t r s)) ∧ pot (callI c t r s) + 1 ≤ pot s + 138 ∧ (callI c t r s).stp = s.stp + 1 ∧ s.stp < c.bud ∧ (callI c t r s).nds.length ≤ s.nds.length + 12 := by
  have t2 := ht.tg.n0
  have t3 := ht.tg.n1
  unfold callI at ho ⊢
  by_cases hb : c.bud ≤ s.stp
  · rw [if_pos hb] at ho; simp at ho
  rw [if_neg hb] at ho ⊢
  by_cases hf : c.hp < (needI s : Int) + ((t.ls.length : Int) - 1)
  · rw [if_pos hf] at ho; simp at ho
  rw [if_neg hf] at ho ⊢
  clear ho
  cases hls : t.ls with
  | nil => rw [hls] at t2; simp at t2
  | cons l0 lr =>
    have hk : t.ls.length = lr.length + 1 := by rw [hls]; rfl
    simp only [List.headD_cons, List.tail_cons, List.length_cons, Nat.add_sub_cancel]
    generalize hns : lr.map (fun l => (instM l (r.take t.ar.toNat) (idP s.nds.length lr.length), false)) = ns
    have hnl : ns.length = lr.length := by rw [← hns]; simp
    have hrI : ∀ x ∈ r, GI c s.nds.length x := fun x hx => h.it x (by rw [hc]; simp [hx])
    have hrB : ∀ x ∈ r, x.1 = 5 → Bl rk s.ks x.2 := fun x hx => h.cb x (by rw [hc]; simp [hx])
    -- the place of the new ranks
    obtain ⟨r0, hr1, hr2⟩ : ∃ r0, (∀ n, nxO s.ks = some n → rk n = r0) ∧ (∀ p : Int, 0 ≤ p → p < s.nds.length → Bl rk s.ks p → rk p < r0) := by
      cases hn : nxO s.ks with
      | none =>
        obtain ⟨M, hM⟩ := rk_bound rk s.nds.length
        exact ⟨M, fun n e => by simp at e, fun p h0 h1 _ => hM p h0 h1⟩
      | some n => exact ⟨rk n, fun m e => by cases e; rfl, fun p _ _ hb => hb n hn⟩
    have hfrn : ∀ g ∈ s.ks, g.k = 1 → g.nd < s.nds.length := fun g hg e => ((h.fr g hg).2.1 e).2
    have hnxv : ∀ n, nxO s.ks = some n → n < (s.nds.length : Int) := by
      intro n hn
      revert hfrn hn
      generalize s.ks = ks
      intro hfrn hn
      induction ks with
      | nil => simp [nxO] at hn
      | cons g ks ih =>
        rw [nxO] at hn
        split at hn
        · next e => cases hn; exact hfrn g (by simp) e
        · exact ih (fun g' hg' => hfrn g' (by simp [hg'])) hn
    -- pointers
    have hg : ∀ (j : Nat) (l : Ln), t.ls[j]? = some l → ∀ y ∈ l, y.1 = 5 → 0 ≤ y.2 ∧ y.2 < lr.length := fun j l hl y hy h5 => by
      have := ((ht.tg.ln l (List.mem_of_getElem? hl)).2.2 y hy).2.2 h5; omega
    have hgi : ∀ (j : Nat) (l : Ln), t.ls[j]? = some l → ∀ x ∈ instM l (r.take t.ar.toNat) (idP s.nds.length lr.length), GI c (s.nds ++ ns).length x := by
      intro j l hl x hx
      rw [List.length_append, hnl]
      rcases inst_mem (hg j l hl) hx with ⟨y, hy, h5, rfl⟩ | hx | ⟨hx, h5⟩
      · have := hg j l hl y hy h5
        exact ⟨fun e => by simp at e, fun e => by simp at e, fun _ => by simp only; omega⟩
      · exact (hrI x (List.mem_of_mem_take hx)).up (by omega)
      · have hga := (ht.tg.ln l (List.mem_of_getElem? hl)).2.2 x hx
        exact ⟨fun e => by have := hga.1 e; omega, hga.2.1, fun e => absurd e h5⟩
    -- ranks of what a line points to
    have hrnk : ∀ (j : Nat) (l : Ln), t.ls[j]? = some l → ∀ x ∈ instM l (r.take t.ar.toNat) (idP s.nds.length lr.length), x.1 = 5 → newR rk s.nds.length lr.length r0 x.2 < r0 + (lr.length - j) := by
      intro j l hl x hx h5
      rcases inst_mem (hg j l hl) hx with ⟨y, hy, hy5, rfl⟩ | hx | ⟨hx, hn5⟩
      · have h1 := hg j l hl y hy hy5
        have h2 := ht.lt j l hl y hy hy5
        unfold newR
        simp only
        rw [if_pos (by omega)]
        omega
      · have hxr := List.mem_of_mem_take hx
        have hv := (hrI x hxr).2.2 h5
        have := hr2 x.2 hv.1 hv.2 (hrB x hxr h5)
        unfold newR
        rw [if_neg (by omega), if_neg (by omega)]
        omega
      · exact absurd h5 hn5
    have hlen1 : ∀ l ∈ t.ls, ∀ ar ps, instM l ar ps ≠ [] := fun l hl ar ps e => by
      have := (ht.tg.ln l hl).1
      have h2 : (instM l ar ps).length = 0 := by rw [e]; rfl
      simp [instM] at h2
      rw [h2] at this; simp at this
    have h00 : t.ls[0]? = some l0 := by rw [hls]; rfl
    have hsmall : ∀ n, nxO s.ks = some n → newR rk s.nds.length lr.length r0 n = r0 + lr.length := by
      intro n hn
      have := hnxv n hn
      unfold newR
      rw [if_neg (by omega), if_pos (by rw [hr1 n hn]; omega), hr1 n hn]
    refine ⟨⟨newR rk s.nds.length lr.length r0, ?_, ?_, ?_, ?_, ?_, ?_, ?_⟩, ?_, by simp, by omega, ?_⟩
    · intro e
      exact hlen1 l0 (by rw [hls]; simp) _ _ (List.append_eq_nil_iff.1 e).1
    · intro x hx
      rcases List.mem_append.1 hx with hx | hx
      · exact hgi 0 l0 h00 x hx
      · simp only [List.length_append]
        exact (hrI x (List.mem_of_mem_drop hx)).up (by omega)
    · intro g hg'
      obtain ⟨a1, a2, a3, a4⟩ := h.fr g hg'
      refine ⟨a1, fun e => ?_, fun x hx => ?_, a4⟩
      · have := a2 e; simp only [List.length_append]; omega
      · simp only [List.length_append]; exact (a3 x hx).up (by omega)
    · intro n hn
      simp only [List.length_append]
      rcases List.mem_append.1 hn with hn | hn
      · obtain ⟨a1, a2, a3⟩ := h.nd n hn
        exact ⟨a1, fun x hx => (a2 x hx).up (by omega), a3⟩
      · rw [← hns] at hn
        obtain ⟨l, hl, rfl⟩ := List.mem_map.1 hn
        obtain ⟨j, hj, hjl⟩ := List.mem_iff_getElem.1 hl
        have hjl' : t.ls[j + 1]? = some l := by rw [hls, List.getElem?_cons_succ, List.getElem?_eq_getElem hj, hjl]
        refine ⟨hlen1 l (by rw [hls]; simp [hl]) _ _, fun x hx => ?_, fun e => by simp at e⟩
        have := hgi (j + 1) l hjl' x hx
        rw [List.length_append] at this
        exact this
    · intro p h0 h1 x hx h5
      simp only [List.length_append, hnl] at h1
      by_cases hp : p < (s.nds.length : Int)
      · have e : ndI { s with stp := s.stp + 1, cur := instM l0 (r.take t.ar.toNat) (idP s.nds.length lr.length) ++ r.drop t.ar.toNat, nds := s.nds ++ ns } p = ndI s p := by
          unfold ndI
          simp only
          rw [List.getElem?_append_left (by omega)]
        rw [e] at hx
        have hlt := h.ord p h0 hp x hx h5
        have hv := ((h.nd _ (ndI_mem h0 hp)).2.1 x hx).2.2 h5
        exact newR_old hv.2 hp hlt
      · obtain ⟨j, rfl⟩ : ∃ j : Nat, p = ((s.nds.length + j : Nat) : Int) := ⟨p.toNat - s.nds.length, by omega⟩
        have hj : j < lr.length := by omega
        have e : ndI { s with stp := s.stp + 1, cur := instM l0 (r.take t.ar.toNat) (idP s.nds.length lr.length) ++ r.drop t.ar.toNat, nds := s.nds ++ ns } ((s.nds.length + j : Nat) : Int) = (instM lr[j] (r.take t.ar.toNat) (idP s.nds.length lr.length), false) := by
          unfold ndI
          simp only
          rw [show ((s.nds.length + j : Nat) : Int).toNat = s.nds.length + j by omega, List.getElem?_append_right (by omega), show s.nds.length + j - s.nds.length = j by omega, ← hns, List.getElem?_map, List.getElem?_eq_getElem hj]
          rfl
        rw [e] at hx
        have hjl' : t.ls[j + 1]? = some lr[j] := by rw [hls, List.getElem?_cons_succ, List.getElem?_eq_getElem hj]
        have h2 := hrnk (j + 1) lr[j] hjl' x hx h5
        have h3 : newR rk s.nds.length lr.length r0 ((s.nds.length + j : Nat) : Int) = r0 + (lr.length - 1 - j) := by
          unfold newR
          rw [if_pos (by omega)]
          congr 2
          omega
        rw [h3]
        omega
    · intro x hx h5 n hn
      rcases List.mem_append.1 hx with hx | hx
      · have h2 := hrnk 0 l0 h00 x hx h5
        have h3 := hsmall n hn
        rw [h3]
        omega
      · have hxr := List.mem_of_mem_drop hx
        have hv := (hrI x hxr).2.2 h5
        exact newR_bl hfrn hv.2 (hrB x hxr h5) n hn
    · exact newR_rkk (fun g hg' => ⟨hfrn g hg', fun x hx h5 => (((h.fr g hg').2.2.1 x hx).2.2 h5).2⟩) h.kb
    · unfold pot
      simp only
      have h1 := cntU_app (opens s.ks) s.nds ns 0
      have h2 := topW_le (instM l0 (r.take t.ar.toNat) (idP s.nds.length lr.length) ++ r.drop t.ar.toNat)
      omega
    · simp only [List.length_append]; omega

structure Mv (c : Cf) (s s' : Im) : Prop where
  iv : ∃ rk', Ii c rk' s'
  pt : pot s' + 1 ≤ pot s + 138 * (s'.stp - s.stp).toNat
  st : s.stp ≤ s'.stp
  sb : s.stp < s'.stp → s.stp < c.bud ∧ s'.stp = s.stp + 1
  nl : s'.nds.length ≤ s.nds.length + 12 * (s'.stp - s.stp).toNat
theorem tpl_go {c : Cf} {n : Int} (ht : ∀ t ∈ c.fs, TGo c t) (hv : 0 ≤ n ∧ n < c.fs.length) : TGo c (tplM c n) := by
  refine ht _ ?_
  have hlt : n.toNat < c.fs.length := by omega
  unfold tplM
  rw [if_pos hv, List.getElem?_eq_getElem hlt]
  exact List.getElem_mem hlt
theorem ii_move {c : Cf} {rk : Int → Nat} {s : Im} (h : Ii c rk s) (ht : ∀ t ∈ c.fs, TGo c t) (ho : (moveI c s).out = 0) : Mv c s (moveI c s) := by
  have hne := h.ne
  obtain ⟨x, r, hc⟩ : ∃ x r, s.cur = x :: r := by
    cases hq : s.cur with
    | nil => exact absurd hq hne
    | cons a b => exact ⟨a, b, rfl⟩
  have hhd : hdI s.cur = x := by rw [hc]; rfl
  have htl : s.cur.tail = r := by rw [hc]; rfl
  have hdl : isVal c s.cur → (delI c x s).out = 0 → Mv c s (delI c x s) := by
    intro hv ho
    rw [← hhd] at ho ⊢
    obtain ⟨d1, d2, d3, d4⟩ := ii_del h hv ho
    refine ⟨⟨rk, d1⟩, d2, by omega, d4, ?_⟩
    have : (delI c (hdI s.cur) s).nds.length = s.nds.length := by
      unfold delI
      split
      · split <;> rfl
      · repeat' split
        all_goals simp
    omega
  unfold moveI at ho ⊢
  simp only [hhd, htl] at ho ⊢
  by_cases h5 : x.1 = 5
  · rw [if_pos h5] at ho ⊢
    obtain ⟨x1, x2⟩ := x
    simp only at h5
    subst h5
    obtain ⟨e1, e2⟩ := ii_enter h hc
    simp only at e1 e2 ⊢
    cases hd : (ndI s x2).2
    · rw [hd] at e1 e2
      simp only [Bool.false_eq_true, if_false] at e1 e2 ⊢
      exact ⟨⟨rk, e1⟩, by simp only; omega, by simp, fun e => by simp at e, by simp only; omega⟩
    · rw [hd] at e1 e2
      simp only [if_true] at e1 e2 ⊢
      exact ⟨⟨rk, e1⟩, by simp only; omega, by simp, fun e => by simp at e, by simp only; omega⟩
  · rw [if_neg h5] at ho ⊢
    by_cases h3 : x.1 = 3
    · rw [if_pos h3] at ho ⊢
      have hv := (h.it x (by rw [hc]; simp)).2.1 h3
      by_cases hle : (tplM c x.2).ar ≤ (r.length : Int)
      · rw [if_pos hle] at ho ⊢
        obtain ⟨x1, x2⟩ := x
        simp only at h3
        subst h3
        obtain ⟨a1, a2, a3, a4, a5⟩ := ii_call h hc (tpl_go ht hv) ho
        have e1 : (s.stp + 1 - s.stp).toNat = 1 := by omega
        exact ⟨a1, by rw [a3, e1]; omega, by omega, fun _ => ⟨a4, a3⟩, by rw [a3, e1]; omega⟩
      · rw [if_neg hle] at ho ⊢
        refine hdl ⟨by rw [hhd]; exact h5, fun _ => by rw [hhd, htl]; omega, fun e => by rw [hhd] at e; omega, fun e => by rw [hhd] at e; omega⟩ ho
    · rw [if_neg h3] at ho ⊢
      by_cases h4 : x.1 = 4
      · rw [if_pos h4] at ho ⊢
        by_cases hle : wantM x.2 ≤ (r.length : Int)
        · rw [if_pos hle] at ho ⊢
          obtain ⟨x1, x2⟩ := x
          simp only at h4
          subst h4
          obtain ⟨e1, e2⟩ := ii_ask h hc hle
          exact ⟨⟨rk, e1⟩, by simp only at e2 ⊢; omega, by simp, fun e => by simp at e, by simp only; omega⟩
        · rw [if_neg hle] at ho ⊢
          refine hdl ⟨by rw [hhd]; exact h5, fun e => by rw [hhd] at e; omega, fun _ => by rw [hhd, htl]; omega, fun _ e => by rw [hhd] at e; omega⟩ ho
      · rw [if_neg h4] at ho ⊢
        by_cases hp : 0 < r.length
        · rw [if_pos hp] at ho; simp at ho
        · rw [if_neg hp] at ho ⊢
          refine hdl ⟨by rw [hhd]; exact h5, fun e => by rw [hhd] at e; omega, fun e => by rw [hhd] at e; omega, fun _ _ => by rw [htl]; omega⟩ ho
theorem iterI_done (c : Cf) : ∀ (n : Nat) (s : Im), s.out ≠ 0 → iterI c n s = s
  | 0, _, _ => rfl
  | n + 1, s, h => by rw [iterI, if_neg h]
theorem iterI_one (c : Cf) : ∀ (n : Nat) (s : Im), (iterI c n s).out = 0 → iterI c (n + 1) s = moveI c (iterI c n s)
  | 0, s, h => by
    have h' : s.out = 0 := h
    simp [iterI, h']
  | n + 1, s, h => by
    by_cases hs : s.out = 0
    · have h2 : (iterI c n (moveI c s)).out = 0 := by rw [iterI, if_pos hs] at h; exact h
      rw [iterI, if_pos hs, iterI_one c n (moveI c s) h2, iterI, if_pos hs]
    · rw [iterI_done c (n + 1) s hs] at h; exact absurd h hs
theorem iterI_out (c : Cf) : ∀ (n m : Nat) (s : Im), n ≤ m → (iterI c n s).out ≠ 0 → iterI c m s = iterI c n s
  | 0, m, s, _, h => iterI_done c m s h
  | n + 1, 0, _, hm, _ => by omega
  | n + 1, m + 1, s, hm, h => by
    by_cases hs : s.out = 0
    · rw [iterI, if_pos hs] at h ⊢
      rw [iterI, if_pos hs]
      exact iterI_out c n m _ (by omega) h
    · rw [iterI_done c _ s hs, iterI_done c _ s hs]
theorem iterI_zero (c : Cf) (n : Nat) (s : Im) (h : (iterI c (n + 1) s).out = 0) : (iterI c n s).out = 0 := by
  apply Classical.byContradiction
  intro hn
  rw [iterI_out c n (n + 1) _ (by omega) hn] at h
  exact hn h
theorem iterI_add (c : Cf) : ∀ (a b : Nat) (s : Im), iterI c (a + b) s = iterI c b (iterI c a s)
  | 0, b, s => by rw [Nat.zero_add]; rfl
  | a + 1, b, s => by
    rw [Nat.add_right_comm, iterI, iterI]
    by_cases h : s.out = 0
    · rw [if_pos h, if_pos h]; exact iterI_add c a b _
    · rw [if_neg h, if_neg h, iterI_done c b s h]
theorem ii_init (c : Cf) (mn : Int) (h : 0 ≤ mn ∧ mn < c.fs.length) : Ii c (fun _ => 0) (initI mn) := by
  refine ⟨by simp [initI], fun x hx => ?_, fun f hf => by simp [initI] at hf, fun n hn => by simp [initI] at hn, fun p h0 h1 => by simp [initI] at h1; omega, fun x hx h5 => ?_, trivial⟩
  · simp [initI] at hx
    subst hx
    exact ⟨fun e => by simp at e, fun _ => h, fun e => by simp at e⟩
  · simp [initI] at hx
    subst hx
    simp at h5
theorem ii_iter {c : Cf} (ht : ∀ t ∈ c.fs, TGo c t) {s : Im} {rk : Int → Nat} (h : Ii c rk s) (hs : s.stp ≤ c.bud) : ∀ i, (iterI c i s).out = 0 → (∃ rk', Ii c rk' (iterI c i s)) ∧ pot (iterI c i s) + i ≤ pot s + 138 * ((iterI c i s).stp - s.stp).toNat ∧ s.stp ≤ (iterI c i s).stp ∧ (iterI c i s).stp ≤ c.bud ∧ (iterI c i s).nds.length ≤ s.nds.length + 12 * ((iterI c i s).stp - s.stp).toNat
  | 0, _ => ⟨⟨rk, h⟩, by simp [iterI], by simp [iterI], hs, by simp [iterI]⟩
  | i + 1, ho => by
    have ho' := iterI_zero c i s ho
    obtain ⟨⟨rk', h1⟩, h2, h3, h4, h5⟩ := ii_iter ht h hs i ho'
    rw [iterI_one c i s ho'] at ho ⊢
    obtain ⟨m1, m2, m3, m4, m5⟩ := ii_move h1 ht ho
    refine ⟨m1, ?_, by omega, ?_, ?_⟩
    · by_cases e : (iterI c i s).stp < (moveI c (iterI c i s)).stp
      · have := (m4 e).2; omega
      · omega
    · by_cases e : (iterI c i s).stp < (moveI c (iterI c i s)).stp
      · have := m4 e; omega
      · omega
    · by_cases e : (iterI c i s).stp < (moveI c (iterI c i s)).stp
      · have := (m4 e).2; omega
      · omega
/-- The run ends. -/
theorem run_ends (c : Cf) (mn : Int) (hmn : 0 ≤ mn ∧ mn < c.fs.length) (ht : ∀ t ∈ c.fs, TGo c t) (hb0 : 0 ≤ c.bud) (hb : c.bud ≤ 2000) : (iterI c 276001 (initI mn)).out ≠ 0 := by
  intro ho
  obtain ⟨_, h2, h3, h4, _⟩ := ii_iter ht (ii_init c mn hmn) (by exact hb0) 276001 ho
  have e : pot (initI mn) = 0 := by simp [pot, initI, cntU, sumW, topW, hdI, opens]
  have e2 : (initI mn).stp = 0 := rfl
  rw [e, e2] at h2
  omega
/-- The machine and the other one, move by move. -/
theorem rm_init (mn : Int) : Rm (fun p => p) (fun _ => False) (initM mn) (initI mn) :=
  ⟨rfl, trivial, fun x hx h5 => by simp [initM] at hx; subst hx; simp at h5, fun f hf => by simp [initM] at hf, fun _ h => h.elim, fun _ _ h => h.elim, fun p hp => by simp [initM] at hp, by simp [initM], rfl, rfl, rfl⟩

end Go.Proofs.YtnndoagpbcacdaaGreatDoor
namespace Go.Proofs.YtnndoagpbcacdaaGreatDoor

/-! The two machines come to the same; what a run comes to. -/
theorem lock {c : Cf} (ht : ∀ t ∈ c.fs, TG c t) : ∀ (n i : Nat) (φ : Int → Int) (L : Int → Prop) (m : Ms) (s : Im), Rm φ L m s → (m.out = 0 → Iv c m ∧ Ct i m) →
    (iterM c n m).out = (iterI c n s).out ∧ (iterM c n m).val = (iterI c n s).val ∧ (iterM c n m).stp = (iterI c n s).stp
  | 0, _, _, _, _, _, h, _ => ⟨h.out, h.val, h.stp⟩
  | n + 1, i, φ, L, m, s, h, hi => by
    rw [iterM, iterI]
    by_cases ho : m.out = 0
    · rw [if_pos ho, if_pos (by rw [← h.out]; exact ho)]
      obtain ⟨h1, h2⟩ := hi ho
      obtain ⟨φ', L', h3⟩ := rm_move h h1 ht
      exact lock ht n (i + 1) φ' L' _ _ h3 (fun ho' => iv_move h1 h2 ht (fun s => by have := free_count s; omega) (fun s p hp => by have := (free_iff s p).1 hp; exact ⟨this.1, this.2.1⟩) ho')
    · rw [if_neg ho, if_neg (by rw [← h.out]; exact ho)]
      exact ⟨h.out, h.val, h.stp⟩
def runI (c : Cf) (mn : Int) : Im := iterI c 276001 (initI mn)
theorem run_same (c : Cf) (mn : Int) (hmn : 0 ≤ mn ∧ mn < c.fs.length) (ht : ∀ t ∈ c.fs, TG c t) :
    (iterM c 276001 (initM mn)).out = (runI c mn).out ∧ (iterM c 276001 (initM mn)).val = (runI c mn).val ∧ (iterM c 276001 (initM mn)).stp = (runI c mn).stp := by
  refine lock ht 276001 0 _ _ _ _ (rm_init mn) (fun _ => ?_)
  refine ⟨⟨by simp [initM, flr], trivial, fun f hf => by simp [initM] at hf, fun x hx => ?_, fun n hn => by simp [initM] at hn, fun p hp => by simp [initM] at hp⟩, ⟨by simp [initM], by simp [initM], by simp [initM], by simp [initM], by simp [initM], by simp [initM]⟩⟩
  simp [initM] at hx
  subst hx
  exact ⟨fun e => by simp at e, fun _ => hmn, fun e => by simp at e⟩
theorem run_out (c : Cf) (mn : Int) (n : Nat) (h : (iterI c n (initI mn)).out ≠ 0) (hn : n ≤ 276001) : runI c mn = iterI c n (initI mn) := iterI_out c n _ _ hn h
/-- Good code. -/
theorem good_at (nf : Nat) (ar : Int) (nl : Nat) : ∀ (L : List Ln) (j : Nat), goodLs nf ar nl j L = true → ∀ (i : Nat) (l : Ln), L[i]? = some l → goodL nf ar nl (j + i) l = true
  | [], _, _, i, l, h => by simp at h
  | m :: L, j, hg, i, l, h => by
    rw [goodLs, Bool.and_eq_true] at hg
    cases i with
    | zero => simp at h; subst h; exact hg.1
    | succ i =>
      have := good_at nf ar nl L (j + 1) hg.2 i l (by simpa using h)
      rw [show j + (i + 1) = j + 1 + i by omega]; exact this
theorem tgo_good {cd : Cd} {bud hp : Int} (h : goodC cd = true) : (0 ≤ cd.mn ∧ cd.mn < cd.fs.length) ∧ (∀ t ∈ cd.fs, TGo ⟨cd.fs, bud, hp⟩ t) ∧ (cd.fs[cd.mn.toNat]?.getD ⟨0, []⟩).ar = 0 ∧ ∀ t ∈ cd.fs, ∀ l ∈ t.ls, (hdI l).1 ≠ 5 ∧ ∀ a ∈ l, (a.1 = 1 ∨ a.1 = 2 ∨ a.1 = 3 ∨ a.1 = 4 ∨ a.1 = 5) ∧ 0 ≤ a.2 ∧ (a.1 = 2 → a.2 < t.ar) ∧ (a.1 = 4 → a.2 < 5) ∧ (a.1 = 1 → a.2 ≤ 999999) := by
  simp only [goodC, Bool.and_eq_true, decide_eq_true_eq, List.all_eq_true] at h
  obtain ⟨h1, h2, h3, h4, h5, h6⟩ := h
  refine ⟨⟨h3, h4⟩, fun t ht => ?_, h6, fun t ht l hl => ?_⟩
  · have g := h5 t ht
    simp only [goodT, Bool.and_eq_true, decide_eq_true_eq] at g
    obtain ⟨g1, g2, g3, g4, g5⟩ := g
    have hat := good_at cd.fs.length t.ar t.ls.length t.ls 0 g5
    refine ⟨⟨g1, g2, g3, g4, fun l hl => ?_⟩, fun j l hjl a ha e => ?_⟩
    · obtain ⟨i, hi, rfl⟩ := List.mem_iff_getElem.1 hl
      have hi := hat i _ (List.getElem?_eq_getElem hi)
      simp only [goodL, Bool.and_eq_true, decide_eq_true_eq, List.all_eq_true] at hi
      obtain ⟨k1, k2, _, _, k5⟩ := hi
      refine ⟨k2, k1, fun a ha => ?_⟩
      have q := k5 a ha
      simp only [goodA, Bool.and_eq_true, decide_eq_true_eq] at q
      obtain ⟨q1, q2, _⟩ := q
      unfold boundF at q2
      refine ⟨fun e => ?_, fun e => ?_, fun e => ?_⟩
      · rw [if_pos e] at q2; omega
      · rw [if_neg (by omega), if_neg (by omega), if_pos e] at q2; exact ⟨q1, q2⟩
      · rw [if_neg (by omega), if_neg (by omega), if_neg (by omega), if_neg (by omega), if_pos e] at q2; exact ⟨q1, by omega⟩
    · have hi := hat j l hjl
      simp only [goodL, Bool.and_eq_true, decide_eq_true_eq, List.all_eq_true] at hi
      obtain ⟨_, _, _, _, k5⟩ := hi
      have q := k5 a ha
      simp only [goodA, Bool.and_eq_true, decide_eq_true_eq] at q
      obtain ⟨_, _, q3⟩ := q
      simp [e] at q3
      omega
  · have g := h5 t ht
    simp only [goodT, Bool.and_eq_true, decide_eq_true_eq] at g
    obtain ⟨g1, g2, g3, g4, g5⟩ := g
    obtain ⟨i, hi, rfl⟩ := List.mem_iff_getElem.1 hl
    have hi := good_at cd.fs.length t.ar t.ls.length t.ls 0 g5 i _ (List.getElem?_eq_getElem hi)
    simp only [goodL, Bool.and_eq_true, decide_eq_true_eq, List.all_eq_true] at hi
    obtain ⟨k1, k2, _, k4, k5⟩ := hi
    refine ⟨?_, fun a ha => ?_⟩
    · cases hq : t.ls[i] with
      | nil => simp [hdI]
      | cons a b => rw [hq] at k4; simpa [hdI] using k4
    · have q := k5 a ha
      simp only [goodA, Bool.and_eq_true, decide_eq_true_eq] at q
      obtain ⟨q1, q2, _⟩ := q
      unfold boundF at q2
      refine ⟨?_, q1, fun e => ?_, fun e => ?_, fun e => ?_⟩
      · by_cases e1 : a.1 = 1
        · exact .inl e1
        by_cases e2 : a.1 = 2
        · exact .inr (.inl e2)
        by_cases e3 : a.1 = 3
        · exact .inr (.inr (.inl e3))
        by_cases e4 : a.1 = 4
        · exact .inr (.inr (.inr (.inl e4)))
        by_cases e5 : a.1 = 5
        · exact .inr (.inr (.inr (.inr e5)))
        rw [if_neg e1, if_neg e2, if_neg e3, if_neg e4, if_neg e5] at q2
        omega
      · rw [if_neg (by omega), if_pos e] at q2; exact q2
      · rw [if_neg (by omega), if_neg (by omega), if_neg (by omega), if_pos e] at q2; exact q2
      · rw [if_pos e] at q2; omega
theorem tg_of {c : Cf} (h : ∀ t ∈ c.fs, TGo c t) : ∀ t ∈ c.fs, TG c t := fun t ht => (h t ht).tg

end Go.Proofs.YtnndoagpbcacdaaGreatDoor
