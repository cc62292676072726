import Derived.Test.YtnndoagpbcacdaaGreatDoorMK5
import Derived.Test.YtnndoagpbcacdaaGreatDoorR16
import Derived.Test.YtnndoagpbcacdaaGreatDoorMI7
import Derived.Test.YtnndoagpbcacdaaGreatDoorMN2
namespace Go.Proofs.YtnndoagpbcacdaaGreatDoor

/-! The meaning of a text against the machine: plain. -/
/-- What is delayed: the parameters of its definition, its application, what they stand for, what it came to; 0: as it was made, 1: it is worked out, 2: it is known. -/
structure Dl where
  ps : List Tk
  b : At
  env : Ln
  val : Ln
  st : Nat
def imA (ρ : List Nat) (x : Int × Int) : Int × Int := if x.1 = 5 then (5, ((ρ[x.2.toNat]?.getD 0 : Nat) : Int)) else x
def imL (ρ : List Nat) (l : Ln) : Ln := l.map (imA ρ)
def vA (n : Nat) (x : Int × Int) : Prop := x.1 = 5 → 0 ≤ x.2 ∧ x.2 < n
def vL (n : Nat) (l : Ln) : Prop := ∀ x ∈ l, vA n x
def sbA (A : Ln) (a : Int × Int) : Int × Int := if a.1 = 2 ∧ 0 ≤ a.2 ∧ a.2 < A.length then A[a.2.toNat]?.getD (0, 0) else a
def sbL (A : Ln) (l : Ln) : Ln := l.map (sbA A)
def Lie (nds : List (Ln × Bool)) (A : Ln) (ls : List Ln) (p : Nat) : Prop := ∀ (j : Nat) (l : Ln), ls[j]? = some l → nds[p + j]? = some (sbL A l, false)
def exD (d : Dl) : Nat := if d.st = 0 then unT d.b else 0

theorem vL.up {n m : Nat} {l : Ln} (h : vL n l) (hm : n ≤ m) : vL m l := fun x hx h5 => by have := h x hx h5; omega
theorem vL.nil (n : Nat) : vL n [] := fun x hx => by simp at hx
theorem vL.app {n : Nat} {a b : Ln} (ha : vL n a) (hb : vL n b) : vL n (a ++ b) := fun x hx => by
  rcases List.mem_append.1 hx with h | h
  · exact ha x h
  · exact hb x h
theorem vL.cons {n : Nat} {x : Int × Int} {b : Ln} (ha : vA n x) (hb : vL n b) : vL n (x :: b) := fun y hy => by
  rcases List.mem_cons.1 hy with h | h
  · rw [h]; exact ha
  · exact hb y h
theorem vL.sub {n : Nat} {a b : Ln} (h : vL n b) (hs : ∀ x ∈ a, x ∈ b) : vL n a := fun x hx => h x (hs x hx)
theorem imA_ext {ρ ρ' : List Nat} {x : Int × Int} (h : vA ρ.length x) : imA (ρ ++ ρ') x = imA ρ x := by
  unfold imA
  by_cases h5 : x.1 = 5
  · have := h h5
    rw [if_pos h5, if_pos h5, List.getElem?_append_left (by omega)]
  · rw [if_neg h5, if_neg h5]
theorem imL_ext {ρ ρ' : List Nat} {l : Ln} (h : vL ρ.length l) : imL (ρ ++ ρ') l = imL ρ l := by
  unfold imL
  exact List.map_congr_left fun x hx => imA_ext (h x hx)
theorem imL_app (ρ : List Nat) (a b : Ln) : imL ρ (a ++ b) = imL ρ a ++ imL ρ b := by unfold imL; simp
theorem imL_len (ρ : List Nat) (a : Ln) : (imL ρ a).length = a.length := by unfold imL; simp
theorem imA_k (ρ : List Nat) (x : Int × Int) : (imA ρ x).1 = x.1 := by
  unfold imA
  split
  · rename_i h; exact h.symm
  · rfl
theorem imA_ne {ρ : List Nat} {x : Int × Int} (h : x.1 ≠ 5) : imA ρ x = x := by unfold imA; rw [if_neg h]
theorem im_sb (ρ : List Nat) (E : Ln) {x : Int × Int} (h : x.1 ≠ 5) : imA ρ (sbA E x) = sbA (imL ρ E) x := by
  unfold sbA
  rw [imL_len]
  by_cases h2 : x.1 = 2 ∧ 0 ≤ x.2 ∧ x.2 < E.length
  · rw [if_pos h2, if_pos h2]
    have hl : x.2.toNat < E.length := by omega
    unfold imL
    rw [List.getElem?_map, List.getElem?_eq_getElem hl]
    rfl
  · rw [if_neg h2, if_neg h2, imA_ne h]
theorem vA_sb {n : Nat} {E : Ln} {x : Int × Int} (h : x.1 ≠ 5) (hE : vL n E) : vA n (sbA E x) := by
  unfold sbA
  by_cases h2 : x.1 = 2 ∧ 0 ≤ x.2 ∧ x.2 < E.length
  · rw [if_pos h2]
    have hl : x.2.toNat < E.length := by omega
    rw [List.getElem?_eq_getElem hl]
    exact hE _ (List.getElem_mem hl)
  · rw [if_neg h2]; exact fun h5 => absurd h5 h
theorem Lie.app {nds : List (Ln × Bool)} {A : Ln} {a b : List Ln} {p : Nat} (h : Lie nds A (a ++ b) p) : Lie nds A a p ∧ Lie nds A b (p + a.length) := by
  refine ⟨fun j l hj => h j l ?_, fun j l hj => ?_⟩
  · have := (List.getElem?_eq_some_iff.1 hj).1
    rw [List.getElem?_append_left this]; exact hj
  · have := h (a.length + j) l (by rw [List.getElem?_append_right (by omega), Nat.add_sub_cancel_left]; exact hj)
    rw [show p + a.length + j = p + (a.length + j) by omega]; exact this
theorem Lie.cons {nds : List (Ln × Bool)} {A : Ln} {x : Ln} {b : List Ln} {p : Nat} (h : Lie nds A (x :: b) p) : nds[p]? = some (sbL A x, false) ∧ Lie nds A b (p + 1) := by
  refine ⟨h 0 x rfl, fun j l hj => ?_⟩
  have := h (j + 1) l (by simpa using hj)
  rw [show p + 1 + j = p + (j + 1) by omega]; exact this

/-- Delays and nodes. -/
structure Smr (nm : List Tk) (D : List Dl) (ρ : List Nat) (nds : List (Ln × Bool)) (ops : List Int) : Prop where
  len : ρ.length = D.length
  dj : ∀ (i j : Nat) (d e : Dl) (p q : Nat), D[i]? = some d → D[j]? = some e → ρ[i]? = some p → ρ[j]? = some q → i ≠ j → p + exD d < q ∨ q + exD e < p
  lt : ∀ (i : Nat) (d : Dl) (p : Nat), D[i]? = some d → ρ[i]? = some p → p + exD d < nds.length
  env : ∀ d ∈ D, vL D.length d.env ∧ d.st ≤ 2
  s0 : ∀ (i : Nat) (d : Dl) (p : Nat), D[i]? = some d → ρ[i]? = some p → d.st = 0 → d.val = [] ∧ Lie nds (imL ρ d.env) (ownT (knownF d.ps nm) d.b (p + 1) :: restT (knownF d.ps nm) d.b (p + 1)) p
  s1 : ∀ (i : Nat) (d : Dl) (p : Nat), D[i]? = some d → ρ[i]? = some p → d.st = 1 → d.val = [] ∧ (p : Int) ∈ ops
  s2 : ∀ (i : Nat) (d : Dl) (p : Nat), D[i]? = some d → ρ[i]? = some p → d.st = 2 → d.val ≠ [] ∧ vL D.length d.val ∧ nds[p]? = some (imL ρ d.val, true)

theorem get_snoc {α : Type} {l : List α} {x y : α} {i : Nat} (h : (l ++ [x])[i]? = some y) : (i < l.length ∧ l[i]? = some y) ∨ (i = l.length ∧ y = x) := by
  by_cases hi : i < l.length
  · rw [List.getElem?_append_left hi] at h; exact .inl ⟨hi, h⟩
  · have h1 := (List.getElem?_eq_some_iff.1 h).1
    simp at h1
    have : i = l.length := by omega
    subst this
    rw [List.getElem?_append_right (Nat.le_refl _), Nat.sub_self] at h
    simp at h
    exact .inr ⟨rfl, h.symm⟩
/-- One more that is delayed. -/
theorem Smr.push {nm : List Tk} {D : List Dl} {ρ : List Nat} {nds : List (Ln × Bool)} {ops : List Int} (h : Smr nm D ρ nds ops) {d : Dl} {p : Nat} (hst : d.st = 0) (hv : d.val = []) (he : vL D.length d.env)
    (hl : Lie nds (imL ρ d.env) (ownT (knownF d.ps nm) d.b (p + 1) :: restT (knownF d.ps nm) d.b (p + 1)) p) (hd : ∀ (i : Nat) (e : Dl) (q : Nat), D[i]? = some e → ρ[i]? = some q → q + exD e < p ∨ p + exD d < q) (hp : p + exD d < nds.length) :
    Smr nm (D ++ [d]) (ρ ++ [p]) nds ops := by
  have hlen := h.len
  have old : ∀ {l : Ln}, vL D.length l → imL (ρ ++ [p]) l = imL ρ l := fun hl => imL_ext (by rw [hlen]; exact hl)
  have pick : ∀ {i : Nat} {e : Dl} {q : Nat}, (D ++ [d])[i]? = some e → (ρ ++ [p])[i]? = some q → (D[i]? = some e ∧ ρ[i]? = some q ∧ i < D.length) ∨ (i = D.length ∧ e = d ∧ q = p) := by
    intro i e q h1 h2
    rcases get_snoc h1 with ⟨a, b⟩ | ⟨a, b⟩ <;> rcases get_snoc h2 with ⟨a', b'⟩ | ⟨a', b'⟩
    · exact .inl ⟨b, b', a⟩
    · omega
    · omega
    · exact .inr ⟨a, b, b'⟩
  refine ⟨by simp [hlen], ?_, ?_, ?_, ?_, ?_, ?_⟩
  · intro i j x y a b h1 h2 h3 h4 hij
    rcases pick h1 h3 with ⟨k1, k2, _⟩ | ⟨k1, rfl, rfl⟩ <;> rcases pick h2 h4 with ⟨l1, l2, _⟩ | ⟨l1, rfl, rfl⟩
    · exact h.dj i j x y a b k1 l1 k2 l2 hij
    · exact hd i x a k1 k2
    · exact (hd j y b l1 l2).symm
    · omega
  · intro i x a h1 h2
    rcases pick h1 h2 with ⟨k1, k2, _⟩ | ⟨k1, rfl, rfl⟩
    · exact h.lt i x a k1 k2
    · exact hp
  · intro x hx
    rw [List.length_append]
    rcases List.mem_append.1 hx with k | k
    · exact ⟨(h.env x k).1.up (by simp), (h.env x k).2⟩
    · simp at k; subst k; exact ⟨he.up (by simp), by omega⟩
  · intro i x a h1 h2 h3
    rcases pick h1 h2 with ⟨k1, k2, _⟩ | ⟨k1, rfl, rfl⟩
    · rw [old (h.env x (List.mem_of_getElem? k1)).1]; exact h.s0 i x a k1 k2 h3
    · rw [old he]; exact ⟨hv, hl⟩
  · intro i x a h1 h2 h3
    rcases pick h1 h2 with ⟨k1, k2, _⟩ | ⟨k1, rfl, rfl⟩
    · exact h.s1 i x a k1 k2 h3
    · omega
  · intro i x a h1 h2 h3
    rcases pick h1 h2 with ⟨k1, k2, _⟩ | ⟨k1, rfl, rfl⟩
    · obtain ⟨q1, q2, q3⟩ := h.s2 i x a k1 k2 h3
      exact ⟨q1, q2.up (by simp), by rw [old q2]; exact q3⟩
    · omega
/-- What some parts delay, where their nodes lie, what they stand for. -/
def dls (ps : List Tk) (E : Ln) : At → List Dl
  | .nil => []
  | .sim _ r => dls ps E r
  | .par _ h _ ag r => if ag.isNil then dls ps E r else ⟨ps, .sim h ag, E, [], 0⟩ :: dls ps E r
def bss : At → Nat → List Nat
  | .nil, _ => []
  | .sim _ r, p => bss r p
  | .par _ _ _ ag r, p => if ag.isNil then bss r p else p :: bss r (p + 1 + unT ag)
def ous (f : Tk → Int × Int) (E : Ln) : At → Nat → Ln
  | .nil, _ => []
  | .sim t r, k => sbA E (f t) :: ous f E r k
  | .par _ h _ ag r, k => if ag.isNil then sbA E (f h) :: ous f E r k else (5, (k : Int)) :: ous f E r (k + 1)
theorem bss_len (ps : List Tk) (E : Ln) (b : At) : ∀ p, (bss b p).length = (dls ps E b).length := by
  induction b with
  | nil => intro p; rfl
  | sim t r ih => intro p; exact ih p
  | par o h c ag r ih1 ih2 =>
    intro p
    by_cases hn : ag.isNil = true
    · simp [bss, dls, hn, ih2]
    · simp [bss, dls, hn, ih2]
theorem parts_sim {nm : List Tk} {nds : List (Ln × Bool)} {ops : List Int} (ps : List Tk) (E : Ln) : ∀ (b : At) (D : List Dl) (ρ : List Nat) (p : Nat), Smr nm D ρ nds ops → Lie nds (imL ρ E) (restT (knownF ps nm) b p) p → vL D.length E →
    (∀ (i : Nat) (d : Dl) (q : Nat), D[i]? = some d → ρ[i]? = some q → q + exD d < p ∨ p + unT b ≤ q) → p + unT b ≤ nds.length →
    Smr nm (D ++ dls ps E b) (ρ ++ bss b p) nds ops ∧ imL (ρ ++ bss b p) (ous (knownF ps nm) E b D.length) = sbL (imL ρ E) (ownT (knownF ps nm) b p) ∧ vL (D ++ dls ps E b).length (ous (knownF ps nm) E b D.length) := by
  intro b
  induction b with
  | nil => intro D ρ p h _ _ _ _; simp only [dls, bss, ous, ownT, List.append_nil]; exact ⟨h, rfl, vL.nil _⟩
  | sim t r ih =>
    intro D ρ p h hl hE hd hp
    obtain ⟨i1, i2, i3⟩ := ih D ρ p h hl hE hd hp
    refine ⟨i1, ?_, ?_⟩
    · show imA (ρ ++ bss r p) _ :: imL (ρ ++ bss r p) _ = sbA _ _ :: sbL _ _
      rw [i2, im_sb _ _ (knownF_ne5 ps nm t), imL_ext (by rw [h.len]; exact hE)]
    · exact vL.cons (vA_sb (knownF_ne5 ps nm t) (hE.up (by simp))) i3
  | par o x c ag r ih1 ih2 =>
    intro D ρ p h hl hE hd hp
    by_cases hn : ag.isNil = true
    · simp only [dls, bss, ous, ownT, restT, unT, hn, if_true] at *
      obtain ⟨i1, i2, i3⟩ := ih2 D ρ p h hl hE hd hp
      refine ⟨i1, ?_, ?_⟩
      · show imA _ _ :: imL _ _ = sbA _ _ :: sbL _ _
        rw [i2, im_sb _ _ (knownF_ne5 ps nm x), imL_ext (by rw [h.len]; exact hE)]
      · exact vL.cons (vA_sb (knownF_ne5 ps nm x) (hE.up (by simp))) i3
    · simp only [dls, bss, ous, ownT, restT, unT, hn, Bool.false_eq_true, if_false] at *
      obtain ⟨l1, l2⟩ := Lie.app (a := (knownF ps nm x :: ownT (knownF ps nm) ag (p + 1)) :: restT (knownF ps nm) ag (p + 1)) (b := restT (knownF ps nm) r (p + 1 + unT ag)) hl
      have hpu := h.push (d := ⟨ps, .sim x ag, E, [], 0⟩) (p := p) rfl rfl hE l1 (fun i e q h1 h2 => by
        rcases hd i e q h1 h2 with g | g
        · exact .inl g
        · right; show p + unT ag < q; omega) (by show p + unT ag < _; omega)
      have e1 : imL (ρ ++ [p]) E = imL ρ E := imL_ext (by rw [h.len]; exact hE)
      obtain ⟨i1, i2, i3⟩ := ih2 (D ++ [⟨ps, .sim x ag, E, [], 0⟩]) (ρ ++ [p]) (p + 1 + unT ag) hpu (by
        rw [e1]
        rw [List.length_cons, restT_len] at l2
        rw [show p + 1 + unT ag = p + (unT ag + 1) by omega]; rw [show p + 1 + unT ag = p + (unT ag + 1) by omega] at l2; exact l2) (hE.up (by simp)) (by
        intro i d q h1 h2
        rcases get_snoc h1 with ⟨a, b⟩ | ⟨a, b⟩ <;> rcases get_snoc h2 with ⟨a', b'⟩ | ⟨a', b'⟩
        · rcases hd i d q b b' with g | g
          · left; omega
          · right; omega
        · have := h.len; omega
        · have := h.len; omega
        · left; subst b; subst b'; show q + unT ag < _; omega) (by omega)
      have hsl : ∀ x : Dl, (D ++ [x]).length = D.length + 1 := fun x => by simp
      rw [hsl] at i2 i3
      rw [e1] at i2
      have a1 : D ++ [⟨ps, .sim x ag, E, [], 0⟩] ++ dls ps E r = D ++ ⟨ps, .sim x ag, E, [], 0⟩ :: dls ps E r := by simp
      have a2 : ρ ++ [p] ++ bss r (p + 1 + unT ag) = ρ ++ p :: bss r (p + 1 + unT ag) := by simp
      rw [a1, a2] at i1
      rw [a2] at i2
      rw [a1] at i3
      refine ⟨i1, ?_, vL.cons (fun _ => ⟨by show (0 : Int) ≤ (D.length : Int); omega, by show (D.length : Int) < _; simp; omega⟩) i3⟩
      show imA _ _ :: imL _ _ = sbA _ _ :: sbL _ _
      rw [i2]
      congr 1
      unfold imA sbA
      rw [if_pos rfl, if_neg (by simp)]
      simp only [Int.toNat_natCast]
      rw [← h.len, List.getElem?_append_right (Nat.le_refl _), Nat.sub_self]
      rfl
theorem Smr.grow {nm : List Tk} {D : List Dl} {ρ : List Nat} {nds nds' : List (Ln × Bool)} {ops : List Int} (h : Smr nm D ρ nds ops) (hg : ∀ (k : Nat) (x : Ln × Bool), nds[k]? = some x → nds'[k]? = some x) (hl : nds.length ≤ nds'.length) : Smr nm D ρ nds' ops :=
  ⟨h.len, h.dj, fun i d p h1 h2 => Nat.lt_of_lt_of_le (h.lt i d p h1 h2) hl, h.env, fun i d p h1 h2 h3 => ⟨(h.s0 i d p h1 h2 h3).1, fun j l hj => hg _ _ ((h.s0 i d p h1 h2 h3).2 j l hj)⟩, h.s1, fun i d p h1 h2 h3 => ⟨(h.s2 i d p h1 h2 h3).1, (h.s2 i d p h1 h2 h3).2.1, hg _ _ (h.s2 i d p h1 h2 h3).2.2⟩⟩
theorem get_set {α : Type} {l : List α} {x y : α} {i j : Nat} (h : (l.set i x)[j]? = some y) : (j = i ∧ y = x) ∨ (j ≠ i ∧ l[j]? = some y) := by
  by_cases hj : j = i
  · subst hj
    have h1 := (List.getElem?_eq_some_iff.1 h).1
    rw [List.length_set] at h1
    rw [List.getElem?_set_self h1] at h
    simp at h
    exact .inl ⟨rfl, h.symm⟩
  · rw [List.getElem?_set_ne (fun e => hj e.symm)] at h
    exact .inr ⟨hj, h⟩
/-- One is taken up. -/
theorem Smr.take {nm : List Tk} {D : List Dl} {ρ : List Nat} {nds : List (Ln × Bool)} {ops : List Int} (h : Smr nm D ρ nds ops) {n p : Nat} {d : Dl} (hd : D[n]? = some d) (hp : ρ[n]? = some p) (hv : d.val = []) :
    Smr nm (D.set n { d with st := 1 }) ρ nds (ops ++ [(p : Int)]) := by
  have hdm := List.mem_of_getElem? hd
  have ex1 : exD { d with st := 1 } = 0 := rfl
  refine ⟨by simp [h.len], ?_, ?_, ?_, ?_, ?_, ?_⟩
  · intro i j x y a b h1 h2 h3 h4 hij
    rcases get_set h1 with ⟨rfl, rfl⟩ | ⟨n1, k1⟩ <;> rcases get_set h2 with ⟨rfl, rfl⟩ | ⟨n2, k2⟩
    · omega
    · have := h.dj _ j d y a b hd k2 h3 h4 hij
      rw [ex1]; omega
    · have := h.dj i _ x d a b k1 hd h3 h4 hij
      rw [ex1]; omega
    · exact h.dj i j x y a b k1 k2 h3 h4 hij
  · intro i x a h1 h2
    rcases get_set h1 with ⟨rfl, rfl⟩ | ⟨n1, k1⟩
    · have := h.lt _ d a hd h2; rw [ex1]; omega
    · exact h.lt i x a k1 h2
  · intro x hx
    rw [List.length_set]
    obtain ⟨i, hi⟩ := List.getElem?_of_mem hx
    rcases get_set hi with ⟨rfl, rfl⟩ | ⟨n1, k1⟩
    · exact ⟨(h.env d hdm).1, by show (1 : Nat) ≤ 2; omega⟩
    · exact h.env x (List.mem_of_getElem? k1)
  · intro i x a h1 h2 h3
    rcases get_set h1 with ⟨rfl, rfl⟩ | ⟨n1, k1⟩
    · exact absurd h3 (by show (1 : Nat) ≠ 0; omega)
    · exact h.s0 i x a k1 h2 h3
  · intro i x a h1 h2 h3
    rcases get_set h1 with ⟨rfl, rfl⟩ | ⟨n1, k1⟩
    · rw [hp] at h2; cases h2; exact ⟨hv, by simp⟩
    · exact ⟨(h.s1 i x a k1 h2 h3).1, List.mem_append.2 (.inl (h.s1 i x a k1 h2 h3).2)⟩
  · intro i x a h1 h2 h3
    rw [List.length_set]
    rcases get_set h1 with ⟨rfl, rfl⟩ | ⟨n1, k1⟩
    · exact absurd h3 (by show (1 : Nat) ≠ 2; omega)
    · exact h.s2 i x a k1 h2 h3
/-- One is known. -/
theorem Smr.known {nm : List Tk} {D : List Dl} {ρ : List Nat} {nds : List (Ln × Bool)} {ops : List Int} {n p : Nat} {d : Dl} {v : Ln} (h : Smr nm D ρ nds (ops ++ [(p : Int)])) (hd : D[n]? = some d) (hp : ρ[n]? = some p) (hst : d.st = 1) (hv : v ≠ []) (hvl : vL D.length v) :
    Smr nm (D.set n { d with st := 2, val := v }) ρ (nds.set p (imL ρ v, true)) ops := by
  have hdm := List.mem_of_getElem? hd
  have ex1 : exD { d with st := 2, val := v } = 0 := rfl
  have ex0 : exD d = 0 := by unfold exD; rw [hst]; rfl
  have hpl : p < nds.length := by have := h.lt n d p hd hp; omega
  have oth : ∀ (i : Nat) (x : Dl) (a k : Nat), i ≠ n → D[i]? = some x → ρ[i]? = some a → k ≤ exD x → (nds.set p (imL ρ v, true))[a + k]? = nds[a + k]? := by
    intro i x a k hi h1 h2 hk
    rw [List.getElem?_set_ne]
    intro e
    have := h.dj i n x d a p h1 hd h2 hp hi
    omega
  refine ⟨by simp [h.len], ?_, ?_, ?_, ?_, ?_, ?_⟩
  · intro i j x y a b h1 h2 h3 h4 hij
    rcases get_set h1 with ⟨rfl, rfl⟩ | ⟨n1, k1⟩ <;> rcases get_set h2 with ⟨rfl, rfl⟩ | ⟨n2, k2⟩
    · omega
    · have := h.dj _ j d y a b hd k2 h3 h4 hij
      rw [ex1]; omega
    · have := h.dj i _ x d a b k1 hd h3 h4 hij
      rw [ex1]; omega
    · exact h.dj i j x y a b k1 k2 h3 h4 hij
  · intro i x a h1 h2
    rw [List.length_set]
    rcases get_set h1 with ⟨rfl, rfl⟩ | ⟨n1, k1⟩
    · have := h.lt _ d a hd h2; rw [ex1]; omega
    · exact h.lt i x a k1 h2
  · intro x hx
    rw [List.length_set]
    obtain ⟨i, hi⟩ := List.getElem?_of_mem hx
    rcases get_set hi with ⟨rfl, rfl⟩ | ⟨n1, k1⟩
    · exact ⟨(h.env d hdm).1, by show (2 : Nat) ≤ 2; omega⟩
    · exact h.env x (List.mem_of_getElem? k1)
  · intro i x a h1 h2 h3
    rcases get_set h1 with ⟨rfl, rfl⟩ | ⟨n1, k1⟩
    · exact absurd h3 (by show (2 : Nat) ≠ 0; omega)
    · obtain ⟨q1, q2⟩ := h.s0 i x a k1 h2 h3
      refine ⟨q1, fun j l hj => ?_⟩
      have hjl := (List.getElem?_eq_some_iff.1 hj).1
      rw [List.length_cons, restT_len] at hjl
      rw [oth i x a j n1 k1 h2 (by unfold exD; rw [if_pos h3]; omega)]
      exact q2 j l hj
  · intro i x a h1 h2 h3
    rcases get_set h1 with ⟨rfl, rfl⟩ | ⟨n1, k1⟩
    · exact absurd h3 (by show (2 : Nat) ≠ 1; omega)
    · obtain ⟨q1, q2⟩ := h.s1 i x a k1 h2 h3
      refine ⟨q1, ?_⟩
      rcases List.mem_append.1 q2 with g | g
      · exact g
      · simp at g
        have := h.dj i n x d a p k1 hd h2 hp n1
        omega
  · intro i x a h1 h2 h3
    rw [List.length_set]
    rcases get_set h1 with ⟨rfl, rfl⟩ | ⟨n1, k1⟩
    · rw [hp] at h2; cases h2
      exact ⟨hv, hvl, by rw [List.getElem?_set_self hpl]⟩
    · obtain ⟨q1, q2, q3⟩ := h.s2 i x a k1 h2 h3
      refine ⟨q1, q2, ?_⟩
      have := oth i x a 0 n1 k1 h2 (Nat.zero_le _)
      rw [Nat.add_zero] at this
      rw [this]; exact q3
/-- A line of a template, with its arguments. -/
theorem inst_own (f : Tk → Int × Int) (hf : ∀ t, (f t).1 ≠ 5) (ar : Ln) (at' K : Nat) (b : At) : ∀ k, k + unT b ≤ K → instM (ownT f b k) ar (idP at' K) = sbL ar (ownT f b (at' + k)) := by
  have one : ∀ t, instA ar (idP at' K) (f t) = sbA ar (f t) := fun t => by
    unfold instA sbA
    rw [if_neg (fun h => hf t h.1)]
  induction b with
  | nil => intro k _; rfl
  | sim t r ih => intro k hk; show _ :: instM _ _ _ = _ :: sbL _ _; rw [ih k hk, one]
  | par o h c ag r ih1 ih2 =>
    intro k hk
    by_cases hn : ag.isNil = true
    · simp only [ownT, unT, hn, if_true] at hk ⊢
      show _ :: instM _ _ _ = _ :: sbL _ _; rw [ih2 k hk, one]
    · simp only [ownT, unT, hn, Bool.false_eq_true, if_false] at hk ⊢
      show _ :: instM _ _ _ = _ :: sbL _ _
      rw [ih2 (k + 1 + unT ag) (by omega), show at' + (k + 1 + unT ag) = at' + k + 1 + unT ag by omega]
      congr 1
      have hl : (idP at' K).length = K := by unfold idP; simp
      unfold instA sbA
      rw [if_pos ⟨rfl, by show (0 : Int) ≤ (k : Int); omega, by rw [hl]; show (k : Int) < (K : Int); omega⟩, if_neg (by simp)]
      simp only [Int.toNat_natCast]
      unfold idP
      rw [List.getElem?_map, List.getElem?_range (by omega)]
      rfl
theorem inst_rest (f : Tk → Int × Int) (hf : ∀ t, (f t).1 ≠ 5) (ar : Ln) (at' K : Nat) (b : At) : ∀ k, k + unT b ≤ K → (restT f b k).map (fun l => instM l ar (idP at' K)) = (restT f b (at' + k)).map (sbL ar) := by
  induction b with
  | nil => intro k _; rfl
  | sim t r ih => intro k hk; exact ih k hk
  | par o h c ag r ih1 ih2 =>
    intro k hk
    by_cases hn : ag.isNil = true
    · simp only [restT, unT, hn, if_true] at hk ⊢
      exact ih2 k hk
    · simp only [restT, unT, hn, Bool.false_eq_true, if_false] at hk ⊢
      rw [List.map_cons, List.map_cons, List.map_append, List.map_append, ih1 (k + 1) (by omega), ih2 (k + 1 + unT ag) (by omega), show at' + (k + 1) = at' + k + 1 by omega, show at' + (k + 1 + unT ag) = at' + k + 1 + unT ag by omega]
      congr 1
      exact inst_own f hf ar at' K (.sim h ag) (k + 1) (by show k + 1 + unT ag ≤ K; omega)
/-- What stays while something is worked out. -/
structure Exd (D D' : List Dl) (ρ ρ' : List Nat) : Prop where
  ex : ∃ ρ2, ρ' = ρ ++ ρ2
  le : D.length ≤ D'.length
  o1 : ∀ (i : Nat) (d : Dl), D[i]? = some d → d.st = 1 → D'[i]? = some d
theorem Exd.refl (D : List Dl) (ρ : List Nat) : Exd D D ρ ρ := ⟨⟨[], by simp⟩, Nat.le_refl _, fun _ _ h _ => h⟩
theorem Exd.trans {D D' D'' : List Dl} {ρ ρ' ρ'' : List Nat} (h : Exd D D' ρ ρ') (h' : Exd D' D'' ρ' ρ'') : Exd D D'' ρ ρ'' := by
  obtain ⟨a, rfl⟩ := h.ex
  obtain ⟨b, rfl⟩ := h'.ex
  exact ⟨⟨a ++ b, by simp⟩, Nat.le_trans h.le h'.le, fun i d h1 h2 => h'.o1 i d (h.o1 i d h1 h2) h2⟩
theorem Exd.app (D X : List Dl) (ρ Y : List Nat) : Exd D (D ++ X) ρ (ρ ++ Y) :=
  ⟨⟨Y, rfl⟩, by simp, fun i d h1 _ => by rw [List.getElem?_append_left (List.getElem?_eq_some_iff.1 h1).1]; exact h1⟩
theorem Exd.im {D D' : List Dl} {ρ ρ' : List Nat} (h : Exd D D' ρ ρ') {l : Ln} (hl : ρ.length = D.length) (hv : vL D.length l) : imL ρ' l = imL ρ l := by
  obtain ⟨a, rfl⟩ := h.ex
  exact imL_ext (by rw [hl]; exact hv)
theorem Exd.vl {D D' : List Dl} {ρ ρ' : List Nat} (h : Exd D D' ρ ρ') {l : Ln} (hv : vL D.length l) : vL D'.length l := hv.up h.le
theorem Exd.force {D D3 X : List Dl} {ρ ρ3 Y : List Nat} {n : Nat} {d : Dl} (hd : D[n]? = some d) (h0 : d.st = 0) (h : Exd (D.set n { d with st := 1 } ++ X) D3 (ρ ++ Y) ρ3) : D3[n]? = some { d with st := 1 } ∧ ∀ d', Exd D (D3.set n d') ρ ρ3 := by
  have hn := (List.getElem?_eq_some_iff.1 hd).1
  have hs : (D.set n { d with st := 1 } ++ X)[n]? = some { d with st := 1 } := by
    rw [List.getElem?_append_left (by simpa using hn), List.getElem?_set_self hn]
  refine ⟨h.o1 n _ hs rfl, fun d' => ⟨?_, ?_, fun i e h1 h2 => ?_⟩⟩
  · obtain ⟨a, ha⟩ := h.ex
    exact ⟨Y ++ a, by rw [ha]; simp⟩
  · have := h.le; simp at this ⊢; omega
  · have hin : n ≠ i := fun e' => by subst e'; rw [hd] at h1; cases h1; omega
    rw [List.getElem?_set_ne hin]
    refine h.o1 i e ?_ h2
    rw [List.getElem?_append_left (by simpa using (List.getElem?_eq_some_iff.1 h1).1), List.getElem?_set_ne hin]
    exact h1
/-- A function is called. -/
theorem call_sim {nm : List Tk} {D : List Dl} {ρ : List Nat} {nds : List (Ln × Bool)} {ops : List Int} (h : Smr nm D ρ nds ops) {t : Tp} {ps : List Tk} {b : At} (ht : t.ls = ownT (knownF ps nm) b 0 :: restT (knownF ps nm) b 0) (har : t.ar = (ps.length : Int)) {lr : Ln} (hv : vL D.length lr) :
    Smr nm (D ++ dls ps (lr.take ps.length) b) (ρ ++ bss b nds.length) (nds ++ t.ls.tail.map (fun l => (instM l ((imL ρ lr).take t.ar.toNat) (idP nds.length (t.ls.length - 1)), false))) ops ∧
      imL (ρ ++ bss b nds.length) (ous (knownF ps nm) (lr.take ps.length) b D.length ++ lr.drop ps.length) = instM (t.ls.headD []) ((imL ρ lr).take t.ar.toNat) (idP nds.length (t.ls.length - 1)) ++ (imL ρ lr).drop t.ar.toNat ∧
      vL (D ++ dls ps (lr.take ps.length) b).length (ous (knownF ps nm) (lr.take ps.length) b D.length ++ lr.drop ps.length) := by
  have hA : t.ar.toNat = ps.length := by omega
  rw [hA]
  have hK : t.ls.length - 1 = unT b := by rw [ht, List.length_cons, restT_len]; omega
  rw [hK]
  have e1 : (imL ρ lr).take ps.length = imL ρ (lr.take ps.length) := by unfold imL; rw [List.map_take]
  have e2 : (imL ρ lr).drop ps.length = imL ρ (lr.drop ps.length) := by unfold imL; rw [List.map_drop]
  rw [e1, e2, ht]
  simp only [List.tail_cons, List.headD_cons]
  have hk5 := knownF_ne5 ps nm
  have e3 := inst_own (knownF ps nm) hk5 (imL ρ (lr.take ps.length)) nds.length (unT b) b 0 (by omega)
  have e4 := inst_rest (knownF ps nm) hk5 (imL ρ (lr.take ps.length)) nds.length (unT b) b 0 (by omega)
  rw [Nat.add_zero] at e3 e4
  have e5 : (restT (knownF ps nm) b 0).map (fun l => (instM l (imL ρ (lr.take ps.length)) (idP nds.length (unT b)), false)) = (restT (knownF ps nm) b nds.length).map (fun l => (sbL (imL ρ (lr.take ps.length)) l, false)) := by
    have := congrArg (List.map (fun l : Ln => (l, false))) e4
    rw [List.map_map, List.map_map] at this
    exact this
  rw [e3, e5]
  have hvA : vL D.length (lr.take ps.length) := hv.sub (fun x hx => List.mem_of_mem_take hx)
  have hvB : vL D.length (lr.drop ps.length) := hv.sub (fun x hx => List.mem_of_mem_drop hx)
  obtain ⟨i1, i2, i3⟩ := parts_sim ps (lr.take ps.length) b D ρ nds.length (h.grow (nds' := nds ++ (restT (knownF ps nm) b nds.length).map (fun l => (sbL (imL ρ (lr.take ps.length)) l, false))) (fun k x hk => by rw [List.getElem?_append_left (List.getElem?_eq_some_iff.1 hk).1]; exact hk) (by simp)) (fun j l hj => by
      rw [List.getElem?_append_right (by omega), Nat.add_sub_cancel_left, List.getElem?_map, hj]; rfl) hvA (fun i d q h1 h2 => .inl (h.lt i d q h1 h2)) (by simp [restT_len])
  refine ⟨i1, ?_, vL.app i3 (hvB.up (by simp))⟩
  rw [imL_app, i2, imL_ext (by rw [h.len]; exact hvB)]
/-- What is delayed is taken up. -/
theorem force_sim {nm : List Tk} {D : List Dl} {ρ : List Nat} {nds : List (Ln × Bool)} {ops : List Int} (h : Smr nm D ρ nds ops) {n p : Nat} {d : Dl} (hd : D[n]? = some d) (hp : ρ[n]? = some p) (h0 : d.st = 0) :
    nds[p]? = some (imL (ρ ++ bss d.b (p + 1)) (ous (knownF d.ps nm) d.env d.b D.length), false) ∧
    Smr nm (D.set n { d with st := 1 } ++ dls d.ps d.env d.b) (ρ ++ bss d.b (p + 1)) nds (ops ++ [(p : Int)]) ∧
      vL (D.set n { d with st := 1 } ++ dls d.ps d.env d.b).length (ous (knownF d.ps nm) d.env d.b D.length) := by
  obtain ⟨hv, hl⟩ := h.s0 n d p hd hp h0
  have hlt := h.lt n d p hd hp
  have hex : exD d = unT d.b := by unfold exD; rw [if_pos h0]
  obtain ⟨l1, l2⟩ := Lie.cons hl
  have hT := h.take hd hp hv
  have hE := (h.env d (List.mem_of_getElem? hd)).1
  obtain ⟨i1, i2, i3⟩ := parts_sim d.ps d.env d.b (D.set n { d with st := 1 }) ρ (p + 1) hT l2 (by simpa using hE) (fun i e q h1 h2 => by
    rcases get_set h1 with ⟨rfl, rfl⟩ | ⟨n1, k1⟩
    · rw [hp] at h2; cases h2
      left
      show p + 0 < p + 1
      omega
    · have := h.dj i n e d q p k1 hd h2 hp n1
      omega) (by omega)
  rw [List.length_set] at i2 i3
  exact ⟨by rw [i2]; exact l1, i1, i3⟩

end Go.Proofs.YtnndoagpbcacdaaGreatDoor
namespace Go.Proofs.YtnndoagpbcacdaaGreatDoor
open Go.RowKit

/-! The reference's Sense in memory. -/
def PO (w : World) (T : Nat) (nm : List Tk) (d : Dl) (pv : Value) : Prop :=
  ∃ xs, w.ownsRow 0 212 3 pv d.b.cnt xs ∧ (∀ k, pv.ownBlock = some k → k < T) ∧ ER w (fun k => k < T) d.ps nm d.b xs
theorem PO.keep {w w' : World} {T : Nat} {nm : List Tk} {d : Dl} {pv : Value} (h : PO w T nm d pv) (hb : Below T w w') : PO w' T nm d pv := by
  obtain ⟨xs, h1, h2, h3⟩ := h
  exact ⟨xs, ownsRow_below h1 hb h2, h2, ER.keep (fun k hk => hb.block k hk) (fun _ h => h) h3⟩
def dcs (vs : List (Value × Value × Value)) : List Value := vs.flatMap (fun v => [v.1, v.2.1, v.2.2])
theorem dcs_snoc (vs : List (Value × Value × Value)) (v : Value × Value × Value) : dcs (vs ++ [v]) = dcs vs ++ [v.1, v.2.1, v.2.2] := by simp [dcs]
theorem dcs_at : ∀ (vs : List (Value × Value × Value)) (j : Nat) (v : Value × Value × Value), vs[j]? = some v → (dcs vs)[j * 3]? = some v.1 ∧ (dcs vs)[j * 3 + 1]? = some v.2.1 ∧ (dcs vs)[j * 3 + 2]? = some v.2.2
  | [], j, v, h => by simp at h
  | u :: vs, 0, v, h => by simp at h; subst h; exact ⟨rfl, rfl, rfl⟩
  | u :: vs, j + 1, v, h => by
    have := dcs_at vs j v (by simpa using h)
    have e : ∀ k, (dcs (u :: vs))[(j + 1) * 3 + k]? = (dcs vs)[j * 3 + k]? := fun k => by
      show (u.1 :: u.2.1 :: u.2.2 :: dcs vs)[(j + 1) * 3 + k]? = _
      rw [show (j + 1) * 3 + k = j * 3 + k + 1 + 1 + 1 by omega]
      rfl
    exact ⟨(e 0).trans this.1, (e 1).trans this.2.1, (e 2).trans this.2.2⟩
theorem dcs_set : ∀ (vs : List (Value × Value × Value)) (j : Nat) (v : Value × Value × Value) (x : Value), vs[j]? = some v → dcs (vs.set j (v.1, v.2.1, x)) = (dcs vs).set (j * 3 + 2) x
  | [], j, v, x, h => by simp at h
  | u :: vs, 0, v, x, h => by simp at h; subst h; rfl
  | u :: vs, j + 1, v, x, h => by
    have := dcs_set vs j v x (by simpa using h)
    show u.1 :: u.2.1 :: u.2.2 :: dcs (vs.set j (v.1, v.2.1, x)) = (u.1 :: u.2.1 :: u.2.2 :: dcs vs).set ((j + 1) * 3 + 2) x
    rw [this, show (j + 1) * 3 + 2 = j * 3 + 2 + 1 + 1 + 1 by omega]
    rfl
structure SB (w : World) (T g : Nat) (fv : Value) (nm : List Tk) (ds : List Df) (bud : Int) (D : List Dl) (stp out : Int) (av : Value) (vs : List (Value × Value × Value)) : Prop where
  blk : w.heap[g]? = some (.cells #[fv, .int .i64 bud, .int .i64 stp, av, .int .i64 out] 165 (0, 0))
  lo : T ≤ g
  fu : ∃ xs, w.ownsRow 0 149 3 fv ds.length xs ∧ (∀ k, fv.ownBlock = some k → k < T) ∧ FList w T nm ds xs
  ra : w.ownsRow T 242 3 av D.length (dcs vs)
  vl : vs.length = D.length
  rv : ∀ (j : Nat) (v : Value × Value × Value) (d : Dl), vs[j]? = some v → D[j]? = some d → PO w T nm d v.1 ∧ Rd w T v.2.1 d.env ∧ Rd w T v.2.2 d.val
  ev : ∀ d ∈ D, d.env.length = d.ps.length ∧ d.b.toks.length ≤ 1000
structure SQ (w0 w : World) (T g : Nat) (fv : Value) (nm : List Tk) (ds : List Df) (bud : Int) (D : List Dl) (stp out : Int) (av : Value) (vs : List (Value × Value × Value)) : Prop where
  blk : w.heap[g]? = some (.cells #[fv, .int .i64 bud, .int .i64 stp, av, .int .i64 out] 165 (0, 0))
  lo : T ≤ g
  fu : ∃ xs, w0.ownsRow 0 149 3 fv ds.length xs ∧ (∀ k, fv.ownBlock = some k → k < T) ∧ FList w0 T nm ds xs
  ra : w.ownsRow T 242 3 av D.length (dcs vs)
  vl : vs.length = D.length
  rv : ∀ (j : Nat) (v : Value × Value × Value) (d : Dl), vs[j]? = some v → D[j]? = some d → PO w0 T nm d v.1 ∧ Rd w0 T v.2.1 d.env ∧ Rd w0 T v.2.2 d.val
  ev : ∀ d ∈ D, d.env.length = d.ps.length ∧ d.b.toks.length ≤ 1000
def SnP (w : World) (T g : Nat) (fv : Value) (nm : List Tk) (ds : List Df) (bud : Int) (D : List Dl) (stp out : Int) : Prop := ∃ av vs, SB w T g fv nm ds bud D stp out av vs
theorem Fx.set2 {T b i : Nat} {w w3 : World} {u : Value} (hf : Fx T w w3) (hb : w.heap.size ≤ b) (hT : T ≤ b) : Fx T w (w3.setCell ⟨b, i, none⟩ u) :=
  ⟨hf.bel.setCell hT u, fun k hk => by rw [heap_set_ne _ (by have := hk.lt; omega)]; exact hf.ab k hk⟩
theorem Fx.grow2 {T : Nat} {w W w2 : World} {blk : Option Nat} (hf : Fx T w W) (hg : W.grownBy w2 blk) (hk : ∀ k, blk = some k → w.heap.size ≤ k) (hT : T ≤ w.heap.size) : Fx T w w2 := by
  have hb : Below w.heap.size W w2 := (Below.refl _ W).grown hg hf.size hk
  exact ⟨hf.bel.trans (hb.mono hT), fun b hb' => (hb.block b hb'.lt).trans (hf.ab b hb')⟩
section
variable {w w' w2 : World} {T g : Nat} {fv : Value} {nm : List Tk} {ds : List Df} {bud : Int} {D : List Dl} {stp out : Int} {av : Value} {vs : List (Value × Value × Value)}
theorem SB.lt (h : SB w T g fv nm ds bud D stp out av vs) : g < w.heap.size := (Array.getElem?_eq_some_iff.1 h.blk).1
theorem SB.hT (h : SB w T g fv nm ds bud D stp out av vs) : T ≤ w.heap.size := by have := h.lt; have := h.lo; omega
theorem SB.fuk (h : SB w T g fv nm ds bud D stp out av vs) (hb : Below T w w') : ∃ xs, w'.ownsRow 0 149 3 fv ds.length xs ∧ (∀ k, fv.ownBlock = some k → k < T) ∧ FList w' T nm ds xs := by
  obtain ⟨xs, h1, h2, h3⟩ := h.fu
  exact ⟨xs, ownsRow_below h1 hb h2, h2, h3.keep hb⟩
theorem SB.rvk (h : SB w T g fv nm ds bud D stp out av vs) (fx : Fx T w w') : ∀ (j : Nat) (v : Value × Value × Value) (d : Dl), vs[j]? = some v → D[j]? = some d → PO w' T nm d v.1 ∧ Rd w' T v.2.1 d.env ∧ Rd w' T v.2.2 d.val := fun j v d a b =>
  ⟨(h.rv j v d a b).1.keep fx.bel, (h.rv j v d a b).2.1.keep fx, (h.rv j v d a b).2.2.keep fx⟩
theorem SB.old (h : SB w T g fv nm ds bud D stp out av vs) (hb : Below w.heap.size w w') : SB w' T g fv nm ds bud D stp out av vs :=
  ⟨(hb.block g h.lt).trans h.blk, h.lo, h.fuk (hb.mono h.hT), ownsRow_old h.ra hb, h.vl, h.rvk (Fx.of hb h.hT), h.ev⟩
theorem SnP.old (h : SnP w T g fv nm ds bud D stp out) (hb : Below w.heap.size w w') : SnP w' T g fv nm ds bud D stp out := by
  obtain ⟨av, vs, h⟩ := h
  exact ⟨av, vs, h.old hb⟩
/-- A field of its own. -/
theorem SB.field (h : SB w T g fv nm ds bud D stp out av vs) {i : Nat} {u : Value} {stp' out' : Int} (he : (#[fv, .int .i64 bud, .int .i64 stp, av, .int .i64 out] : Array Value).setIfInBounds i u = #[fv, .int .i64 bud, .int .i64 stp', av, .int .i64 out']) :
    Fx T w (w.setCell ⟨g, i, none⟩ u) ∧ SB (w.setCell ⟨g, i, none⟩ u) T g fv nm ds bud D stp' out' av vs := by
  have fx : Fx T w (w.setCell ⟨g, i, none⟩ u) := Fx.set h.blk (by decide) h.lo
  exact ⟨fx, by rw [blk_set _ h.blk, he], h.lo, h.fuk fx.bel, ownsRow_set h.ra h.blk (by decide), h.vl, h.rvk fx, h.ev⟩
theorem SB.setStp (h : SB w T g fv nm ds bud D stp out av vs) (m : Int) : Fx T w (w.setCell ⟨g, 2, none⟩ (.int .i64 m)) ∧ SB (w.setCell ⟨g, 2, none⟩ (.int .i64 m)) T g fv nm ds bud D m out av vs := h.field rfl
theorem SB.setOut (h : SB w T g fv nm ds bud D stp out av vs) (m : Int) : Fx T w (w.setCell ⟨g, 4, none⟩ (.int .i64 m)) ∧ SB (w.setCell ⟨g, 4, none⟩ (.int .i64 m)) T g fv nm ds bud D stp m av vs := h.field rfl
theorem SB.cells (h : SB w T g fv nm ds bud D stp out av vs) : w.cell? ⟨g, 0, none⟩ = some fv ∧ w.cell? ⟨g, 1, none⟩ = some (.int .i64 bud) ∧ w.cell? ⟨g, 2, none⟩ = some (.int .i64 stp) ∧ w.cell? ⟨g, 3, none⟩ = some av ∧ w.cell? ⟨g, 4, none⟩ = some (.int .i64 out) := by
  refine ⟨?_, ?_, ?_, ?_, ?_⟩ <;> rw [cell_of_row _ _ _ _ _ _ h.blk] <;> rfl
theorem SB.fz (h : SB w T g fv nm ds bud D stp out av vs) (i : Nat) : w.frozen? ⟨g, i, none⟩ = false := frozen_of_row _ _ _ _ _ h.blk
/-- One more is delayed. -/
theorem SB.pushD (h : SB w T g fv nm ds bud D stp out av vs) {q cap : Nat} {pv ev : Value} {d : Dl} (hp : PO w T nm d pv) (he : Rd w T ev d.env) (hv : d.val = []) (hd : d.env.length = d.ps.length ∧ d.b.toks.length ≤ 1000) (hown : w2.ownsRow T 242 3 (.slice (some ⟨q, 0, none⟩) (D.length + 1) cap) (D.length + 1) (dcs vs ++ [pv, ev, .slice none 0 0])) (hg : w.grownBy w2 av.ownBlock) :
    Fx T w (w2.setCell ⟨g, 3, none⟩ (.slice (some ⟨q, 0, none⟩) (D.length + 1) cap)) ∧ SB (w2.setCell ⟨g, 3, none⟩ (.slice (some ⟨q, 0, none⟩) (D.length + 1) cap)) T g fv nm ds bud (D ++ [d]) stp out (.slice (some ⟨q, 0, none⟩) (D.length + 1) cap) (vs ++ [(pv, ev, .slice none 0 0)]) := by
  have hb2 := grown_type h.ra hg (by decide) h.blk
  have fx : Fx T w (w2.setCell ⟨g, 3, none⟩ (.slice (some ⟨q, 0, none⟩) (D.length + 1) cap)) := (Fx.grown h.ra hg (by decide) h.hT).trans (Fx.set hb2 (by decide) h.lo)
  refine ⟨fx, blk_set _ hb2, h.lo, h.fuk fx.bel, ?_, by simp [h.vl], fun j u n hu hn => ?_, fun e he => ?_⟩
  · rw [List.length_append, dcs_snoc]; exact ownsRow_set hown hb2 (by decide)
  · by_cases hj : j < D.length
    · rw [List.getElem?_append_left (by rw [h.vl]; exact hj)] at hu
      rw [List.getElem?_append_left hj] at hn
      exact h.rvk fx j u n hu hn
    · rw [List.getElem?_append_right (by rw [h.vl]; omega)] at hu
      rw [List.getElem?_append_right (by omega)] at hn
      rw [h.vl] at hu
      have hj0 : j - D.length = 0 := by
        have := (List.getElem?_eq_some_iff.1 hn).1; simp at this; omega
      rw [hj0] at hu hn
      simp at hu hn
      subst hu hn
      exact ⟨hp.keep fx.bel, he.keep fx, by rw [hv]; exact Rd.nil _ _⟩
  · rcases List.mem_append.1 he with k | k
    · exact h.ev e k
    · simp at k; subst k; exact hd
/-- What is told of an earlier world stays told. -/
theorem SB.sq (h : SB w T g fv nm ds bud D stp out av vs) : SQ w w T g fv nm ds bud D stp out av vs := ⟨h.blk, h.lo, h.fu, h.ra, h.vl, h.rv, h.ev⟩
theorem SQ.sb {w0 : World} (h : SQ w0 w T g fv nm ds bud D stp out av vs) (fx : Fx T w0 w) : SB w T g fv nm ds bud D stp out av vs := by
  obtain ⟨xs, h1, h2, h3⟩ := h.fu
  exact ⟨h.blk, h.lo, ⟨xs, ownsRow_below h1 fx.bel h2, h2, h3.keep fx.bel⟩, h.ra, h.vl, fun j v d a b => ⟨(h.rv j v d a b).1.keep fx.bel, (h.rv j v d a b).2.1.keep fx, (h.rv j v d a b).2.2.keep fx⟩, h.ev⟩
theorem SQ.push {w0 w4 : World} {d : Dl} {pv ev av3 : Value} (h : SQ w0 w T g fv nm ds bud D stp out av vs) (hp : PO w0 T nm d pv) (he : Rd w0 T ev d.env) (hv : d.val = []) (hd : d.env.length = d.ps.length ∧ d.b.toks.length ≤ 1000) (hb : w4.heap[g]? = some (.cells #[fv, .int .i64 bud, .int .i64 stp, av3, .int .i64 out] 165 (0, 0))) (ra : w4.ownsRow T 242 3 av3 (D ++ [d]).length (dcs (vs ++ [(pv, ev, .slice none 0 0)]))) :
    SQ w0 w4 T g fv nm ds bud (D ++ [d]) stp out av3 (vs ++ [(pv, ev, .slice none 0 0)]) := by
  refine ⟨hb, h.lo, h.fu, ra, by simp [h.vl], fun j u n hu hn => ?_, fun e he => ?_⟩
  · by_cases hj : j < D.length
    · rw [List.getElem?_append_left (by rw [h.vl]; exact hj)] at hu
      rw [List.getElem?_append_left hj] at hn
      exact h.rv j u n hu hn
    · rw [List.getElem?_append_right (by rw [h.vl]; omega)] at hu
      rw [List.getElem?_append_right (by omega)] at hn
      rw [h.vl] at hu
      have hj0 : j - D.length = 0 := by
        have := (List.getElem?_eq_some_iff.1 hn).1; simp at this; omega
      rw [hj0] at hu hn
      simp at hu hn
      subst hu hn
      exact ⟨hp, he, by rw [hv]; exact Rd.nil _ _⟩
  · rcases List.mem_append.1 he with k | k
    · exact h.ev e k
    · simp at k; subst k; exact hd
/-- A row of atoms grows. -/
theorem SQ.grow {w0 : World} {size n base : Nat} {v : Value} {xs0 : List Value} (h : SQ w0 w T g fv nm ds bud D stp out av vs) (hr : w.ownsRow base 75 size v n xs0) (hg : w.grownBy w2 v.ownBlock) : SQ w0 w2 T g fv nm ds bud D stp out av vs :=
  ⟨grown_type hr hg (by decide) h.blk, h.lo, h.fu, own_grown_type hr hg (by decide) h.ra, h.vl, h.rv, h.ev⟩
theorem SQ.old {w0 : World} (h : SQ w0 w T g fv nm ds bud D stp out av vs) (hb : Below w.heap.size w w') : SQ w0 w' T g fv nm ds bud D stp out av vs :=
  ⟨(hb.block g (Array.getElem?_eq_some_iff.1 h.blk).1).trans h.blk, h.lo, h.fu, ownsRow_old h.ra hb, h.vl, h.rv, h.ev⟩
/-- What one came to is laid down. -/
theorem SB.layV (h : SB w T g fv nm ds bud D stp out av vs) {q m cap n st : Nat} {v : Value} {l : Ln} {d : Dl} (ha : av = .slice (some ⟨q, 0, none⟩) m cap) (hr : Rd w T v l) (hd : D[n]? = some d) :
    ∃ vs', Fx T w (w.setCell ⟨q, n * 3 + 2, none⟩ v) ∧ SB (w.setCell ⟨q, n * 3 + 2, none⟩ v) T g fv nm ds bud (D.set n { d with val := l, st := st }) stp out av vs' := by
  subst ha
  have hn := (List.getElem?_eq_some_iff.1 hd).1
  have hra := h.ra
  obtain ⟨q', cap', hq, hqb, hqlt⟩ := hra.form (by omega)
  cases hq
  obtain ⟨cs, hg⟩ := rowB hra
  have hnv : n < vs.length := by rw [h.vl]; exact hn
  have hu0 : vs[n]? = some vs[n] := List.getElem?_eq_getElem hnv
  have fx : Fx T w (w.setCell ⟨q, n * 3 + 2, none⟩ v) := Fx.set hg (by decide) hqb
  refine ⟨vs.set n (vs[n].1, vs[n].2.1, v), fx, ?_, h.lo, h.fuk fx.bel, ?_, by simp [h.vl], fun j u e hu he => ?_, fun e he => ?_⟩
  · rw [heap_set_ne _ (ty_ne' h.blk hg (by decide))]; exact h.blk
  · rw [dcs_set vs n _ v hu0, List.length_set]
    exact own_store hra _ _
  · by_cases hjp : n = j
    · subst hjp
      rw [List.getElem?_set_self hnv] at hu
      rw [List.getElem?_set_self hn] at he
      cases hu; cases he
      obtain ⟨a, b, _⟩ := h.rvk fx n _ d hu0 hd
      exact ⟨a, b, hr.keep fx⟩
    · rw [List.getElem?_set_ne hjp] at hu he
      exact h.rvk fx j u e hu he
  · obtain ⟨i, hi⟩ := List.getElem?_of_mem he
    rcases get_set hi with ⟨rfl, rfl⟩ | ⟨n1, k1⟩
    · exact h.ev d (List.mem_of_getElem? hd)
    · exact h.ev e (List.mem_of_getElem? k1)
theorem SB.take (h : SB w T g fv nm ds bud D stp out av vs) {n st : Nat} {d : Dl} (hd : D[n]? = some d) : SB w T g fv nm ds bud (D.set n { d with st := st }) stp out av vs := by
  have hn := (List.getElem?_eq_some_iff.1 hd).1
  refine ⟨h.blk, h.lo, h.fu, by rw [List.length_set]; exact h.ra, by simp [h.vl], fun j u e hu he => ?_, fun e he => ?_⟩
  · rcases get_set he with ⟨rfl, rfl⟩ | ⟨n1, k1⟩
    · exact h.rv _ u d hu hd
    · exact h.rv j u e hu k1
  · obtain ⟨i, hi⟩ := List.getElem?_of_mem he
    rcases get_set hi with ⟨rfl, rfl⟩ | ⟨n1, k1⟩
    · exact h.ev d (List.mem_of_getElem? hd)
    · exact h.ev e (List.mem_of_getElem? k1)
end
theorem Tryz.infoDelay : (Tryz.prog.info? 242).map (fun i => (i.zero, i.size, i.bytes)) = some (some (.agg #[.slice none 0 0, .slice none 0 0, .slice none 0 0]), 3, 72) := by kernel_rfl
/-! step. -/
set_option maxHeartbeats 1000000 in
theorem eStepY (w : World) (T g : Nat) (fv : Value) (nm : List Tk) (ds : List Df) (bud : Int) (D : List Dl) (stp out : Int) (h : SnP w T g fv nm ds bud D stp out) (hs : 0 ≤ stp) (hb : bud ≤ 2000) (hlt2 : stp < bud) :
    Calls Tryz.prog 183 #[.pointer (some ⟨g, 0, none⟩)] w fun e w' => e = .returned (.bool true) ∧ Fx T w w' ∧ But g w w' ∧ SnP w' T g fv nm ds bud D (stp + 1) out := by
  obtain ⟨av, vs, hw⟩ := h
  obtain ⟨_, c1, c2, _, c4⟩ := hw.cells
  have f2 := hw.fz 2
  have f4 := hw.fz 4
  have hlt := hw.lt
  have H1 : Hid _ := hw.setStp (stp + 1)
  have hd : decide (bud ≤ stp) = false := decide_eq_false (by omega)
  have hd2 : ¬ bud ≤ stp := by omega
  go_enter Tryz.func183, Tryz.ntmps183
  go_wp2_with fail
  go_region
  all_goals
    go_wp2_with fail
    go_ret
    exact ⟨rfl, H1.out.1.drew, (But.refl g w).set.trans (But.of (Below.drew (Below.refl _ _)) (by rw [sz_setc]; omega)), _, _, H1.out.2.old (Below.drew (Below.refl _ _))⟩
set_option maxHeartbeats 1000000 in
theorem eStepN (w : World) (T g : Nat) (fv : Value) (nm : List Tk) (ds : List Df) (bud : Int) (D : List Dl) (stp out : Int) (h : SnP w T g fv nm ds bud D stp out) (hlt2 : bud ≤ stp) :
    Calls Tryz.prog 183 #[.pointer (some ⟨g, 0, none⟩)] w fun e w' => e = .returned (.bool false) ∧ Fx T w w' ∧ But g w w' ∧ SnP w' T g fv nm ds bud D stp 5 := by
  obtain ⟨av, vs, hw⟩ := h
  obtain ⟨_, c1, c2, _, c4⟩ := hw.cells
  have f2 := hw.fz 2
  have f4 := hw.fz 4
  have hlt := hw.lt
  have H1 : Hid _ := hw.setOut 5
  have hd : decide (bud ≤ stp) = true := decide_eq_true hlt2
  go_enter Tryz.func183, Tryz.ntmps183
  go_wp2_with fail
  go_region
  all_goals
    go_wp2_with fail
    go_ret
    exact ⟨rfl, H1.out.1.drew, (But.refl g w).set.trans (But.of (Below.drew (Below.refl _ _)) (by rw [sz_setc]; omega)), _, _, H1.out.2.old (Below.drew (Below.refl _ _))⟩

end Go.Proofs.YtnndoagpbcacdaaGreatDoor
