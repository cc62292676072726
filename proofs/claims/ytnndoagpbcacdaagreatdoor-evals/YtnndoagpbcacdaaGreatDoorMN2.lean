import Derived.Test.YtnndoagpbcacdaaGreatDoorMI7
import Derived.Test.YtnndoagpbcacdaaGreatDoorM1
import Derived.Test.YtnndoagpbcacdaaGreatDoorMX5
namespace Go.Proofs.YtnndoagpbcacdaaGreatDoor
open Go.RowKit

/-! The reference's run in memory: blocks of atoms are never changed. -/
def AB (w : World) (b : Nat) : Prop := ∃ cs, w.heap[b]? = some (.cells cs 75 (0, 0))
structure Fx (T : Nat) (w w' : World) : Prop where
  bel : Below T w w'
  ab : ∀ b, AB w b → w'.heap[b]? = w.heap[b]?
theorem Fx.refl (T : Nat) (w : World) : Fx T w w := ⟨Below.refl _ _, fun _ _ => rfl⟩
theorem Fx.size {T : Nat} {w w' : World} (h : Fx T w w') : w.heap.size ≤ w'.heap.size := h.bel.size
theorem AB.lt {w : World} {b : Nat} (h : AB w b) : b < w.heap.size := by obtain ⟨cs, h⟩ := h; exact (Array.getElem?_eq_some_iff.1 h).1
theorem AB.fx {T b : Nat} {w w' : World} (h : AB w b) (hf : Fx T w w') : AB w' b := by
  have h0 := h
  obtain ⟨cs, h⟩ := h
  exact ⟨cs, (hf.ab b h0).trans h⟩
theorem Fx.trans {T : Nat} {w w' w'' : World} (h : Fx T w w') (h' : Fx T w' w'') : Fx T w w'' :=
  ⟨h.bel.trans h'.bel, fun b hb => (h'.ab b (hb.fx h)).trans (h.ab b hb)⟩
theorem Fx.of {T : Nat} {w w' : World} (h : Below w.heap.size w w') (hT : T ≤ w.heap.size) : Fx T w w' := ⟨h.mono hT, fun b hb => h.block b hb.lt⟩
theorem Fx.drew {T : Nat} {w w' : World} (h : Fx T w w') : Fx T w w'.drew := ⟨Below.drew h.bel, fun b hb => h.ab b hb⟩
/-- Another block than one of atoms. -/
theorem Fx.set {T b i : Nat} {w : World} {u : Value} {cs : Array Value} {t : TypeId} (hb : w.heap[b]? = some (.cells cs t (0, 0))) (ht : t ≠ 75) (hT : T ≤ b) : Fx T w (w.setCell ⟨b, i, none⟩ u) := by
  refine ⟨(Below.refl T w).setCell (by exact hT) _, fun k hk => heap_set_ne _ (fun e => ?_)⟩
  subst e
  obtain ⟨ds, hk⟩ := hk
  rw [hb] at hk
  simp at hk
  exact ht hk.2
theorem Fx.grown {T n size : Nat} {w w' : World} {t : TypeId} {v : Value} {xs : List Value} (hr : w.ownsRow T t size v n xs) (hg : w.grownBy w' v.ownBlock) (ht : 75 ≠ t) (hT : T ≤ w.heap.size) : Fx T w w' := by
  refine ⟨(Below.refl T w).grown hg hT (fun k hk => (hr.lt k hk).1), fun b hb => ?_⟩
  obtain ⟨cs, hb⟩ := hb
  rw [grown_type hr hg ht hb, hb]
theorem rowB {w : World} {base : Nat} {e : TypeId} {size n q m cap : Nat} {xs : List Value} (h : w.ownsRow base e size (.slice (some ⟨q, 0, none⟩) m cap) n xs) : ∃ cur, w.heap[q]? = some (.cells cur e (0, 0)) := by
  rcases h.2 with ⟨h0, _⟩ | ⟨g', cap', cur, h0, hg, hh, _⟩
  · cases h0
  · cases h0; exact ⟨cur, hh⟩
theorem rowF {w : World} {base : Nat} {e : TypeId} {size n q m cap : Nat} {xs : List Value} (h : w.ownsRow base e size (.slice (some ⟨q, 0, none⟩) m cap) n xs) (i : Nat) : w.frozen? ⟨q, i, none⟩ = false := by
  obtain ⟨cur, hh⟩ := rowB h
  exact frozen_of_row _ _ _ _ _ hh
/-- A list of atoms, as it is read. -/
def Rd (w : World) (T : Nat) (v : Value) (l : Ln) : Prop :=
  ∃ a cap, v = .slice a l.length cap ∧ l.length ≤ cap ∧ cap ≤ maxLen ∧ (a = none → cap = 0) ∧ (l.length = 0 ∨ ∃ b off, a = some ⟨b, off, none⟩ ∧ b < w.heap.size ∧ (b < T ∨ AB w b) ∧ ∀ j (h : j < l.length), w.cell? ⟨b, off + j * 2, none⟩ = some (.int .i64 l[j].1) ∧ w.cell? ⟨b, off + j * 2 + 1, none⟩ = some (.int .i64 l[j].2))
theorem cell_same {w w' : World} {b i : Nat} (h : w'.heap[b]? = w.heap[b]?) : w'.cell? ⟨b, i, none⟩ = w.cell? ⟨b, i, none⟩ := by
  unfold World.cell?; simp only [h]
theorem Rd.keep {w w' : World} {T : Nat} {v : Value} {l : Ln} (h : Rd w T v l) (hf : Fx T w w') : Rd w' T v l := by
  obtain ⟨a, cap, h1, h2, h3, h0, h4⟩ := h
  refine ⟨a, cap, h1, h2, h3, h0, ?_⟩
  rcases h4 with h4 | ⟨b, off, e, hlt, hb, hc⟩
  · exact .inl h4
  · have hs : w'.heap[b]? = w.heap[b]? := by
      rcases hb with hb | hb
      · exact hf.bel.block b hb
      · exact hf.ab b hb
    refine .inr ⟨b, off, e, Nat.lt_of_lt_of_le hlt hf.size, ?_, fun j hj => ?_⟩
    · rcases hb with hb | hb
      · exact .inl hb
      · exact .inr (hb.fx hf)
    · rw [cell_same hs, cell_same hs]; exact hc j hj
theorem Rd.old {w w' : World} {T : Nat} {v : Value} {l : Ln} (h : Rd w T v l) (hf : Below w.heap.size w w') : Rd w' T v l := by
  obtain ⟨a, cap, h1, h2, h3, h0, h4⟩ := h
  refine ⟨a, cap, h1, h2, h3, h0, ?_⟩
  rcases h4 with h4 | ⟨b, off, e, hlt, hb, hc⟩
  · exact .inl h4
  · have hs := hf.block b hlt
    refine .inr ⟨b, off, e, Nat.lt_of_lt_of_le hlt hf.size, ?_, fun j hj => ?_⟩
    · rcases hb with hb | ⟨cs, hb⟩
      · exact .inl hb
      · exact .inr ⟨cs, hs.trans hb⟩
    · rw [cell_same hs, cell_same hs]; exact hc j hj
theorem Rd.own {w : World} {B T : Nat} {v : Value} {l : Ln} (h : w.ownsRow B 75 2 v l.length (acs l)) : Rd w T v l := by
  have h0 := h
  rcases h.2 with ⟨rfl, hn⟩ | ⟨g, cap, cur, rfl, _, hh, hn, hc, _⟩
  · exact ⟨none, 0, by rw [hn], by omega, by unfold maxLen; omega, fun _ => rfl, .inl hn⟩
  · exact ⟨some ⟨g, 0, none⟩, cap, rfl, hn, hc, fun e => (by cases e), .inr ⟨g, 0, rfl, (Array.getElem?_eq_some_iff.1 hh).1, .inr ⟨cur, hh⟩, fun j hj => by rw [Nat.zero_add]; exact ⟨row_cell h0 _ _ (acs_at l j hj).1, row_cell h0 _ _ (acs_at l j hj).2⟩⟩⟩
theorem Rd.atoms {w : World} {T : Nat} {v : Value} {l : Ln} (h : AtomsRd w T v l) (hT : T ≤ w.heap.size) (hl : 0 < l.length) : Rd w T v l := by
  obtain ⟨a, cap, h1, h2, h3, h4⟩ := h
  rcases h4 with h4 | ⟨b, off, e, hb, hc⟩
  · omega
  · exact ⟨a, cap, h1, h2, h3, fun e2 => (by rw [e] at e2; cases e2), .inr ⟨b, off, e, Nat.lt_of_lt_of_le hb hT, .inl hb, hc⟩⟩
theorem Rd.nil (w : World) (T : Nat) : Rd w T (.slice none 0 0) [] := ⟨none, 0, rfl, Nat.le_refl _, by unfold maxLen; omega, fun _ => rfl, .inl rfl⟩
theorem Rd.form {w : World} {T : Nat} {v : Value} {l : Ln} (h : Rd w T v l) : ∃ a cap, v = .slice a l.length cap := by obtain ⟨a, cap, h1, _⟩ := h; exact ⟨a, cap, h1⟩
/-- A part of a list. -/
theorem Rd.part {w : World} {T : Nat} {l : Ln} {b off n cap k m c : Nat} (h : Rd w T (.slice (some ⟨b, off, none⟩) n cap) l) (hkm : k + m ≤ l.length) (hc : m ≤ c) (hcm : c ≤ maxLen) : Rd w T (.slice (some ⟨b, off + k * 2, none⟩) m c) ((l.drop k).take m) := by
  obtain ⟨a, cap', h1, h2, h3, _, h4⟩ := h
  cases h1
  have hl : ((l.drop k).take m).length = m := by rw [List.length_take, List.length_drop]; omega
  refine ⟨_, c, by rw [hl], by rw [hl]; exact hc, hcm, fun e => (by cases e), ?_⟩
  by_cases hm : m = 0
  · exact .inl (by rw [hl]; exact hm)
  rcases h4 with h4 | ⟨b', off', e, hlt, hb, hcell⟩
  · omega
  cases e
  refine .inr ⟨b, off + k * 2, rfl, hlt, hb, fun j hj => ?_⟩
  have := hcell (k + j) (by rw [hl] at hj; omega)
  simp only [List.getElem_take, List.getElem_drop]
  rw [show off + k * 2 + j * 2 = off + (k + j) * 2 by omega]
  exact this

theorem acs_find : ∀ (l : Ln) (j : Nat) (u : Value), (acs l)[j]? = some u → ∃ m, ∃ h : m < l.length, (j = m * 2 ∧ u = .int .i64 l[m].1) ∨ (j = m * 2 + 1 ∧ u = .int .i64 l[m].2)
  | [], j, u, h => by simp [acs] at h
  | a :: l, 0, u, h => ⟨0, by simp, .inl ⟨rfl, by simpa [acs] using h.symm⟩⟩
  | a :: l, 1, u, h => ⟨0, by simp, .inr ⟨rfl, by simpa [acs] using h.symm⟩⟩
  | a :: l, j + 2, u, h => by
    obtain ⟨m, hm, h1⟩ := acs_find l j u (by simpa [acs] using h)
    refine ⟨m + 1, by simpa using hm, ?_⟩
    rcases h1 with ⟨rfl, h2⟩ | ⟨rfl, h2⟩
    · exact .inl ⟨by omega, by simpa using h2⟩
    · exact .inr ⟨by omega, by simpa using h2⟩
theorem acs_one (l : Ln) : ∀ u ∈ acs l, u.oneCell' = true := by
  intro u hu
  obtain ⟨j, hj⟩ := List.mem_iff_getElem?.1 hu
  obtain ⟨m, hm, h | h⟩ := acs_find l j u hj <;> rw [h.2] <;> rfl
theorem addr_add {b off i : Nat} : ((⟨b, off, none⟩ : Addr).add i) = ⟨b, off + i, none⟩ := by
  simp [Addr.add]
theorem Rd.news {w : World} {T : Nat} {l : Ln} {ad : Addr} {n cap : Nat} (h : Rd w T (.slice (some ad) n cap) l) : ∀ j u, (acs l)[j]? = some u → w.cell? (ad.add j) = some u := by
  intro j u hu
  obtain ⟨m, hm, hj⟩ := acs_find l j u hu
  obtain ⟨a, cap', h1, _, _, _, h4⟩ := h
  cases h1
  rcases h4 with h4 | ⟨b, off, e, _, _, hc⟩
  · omega
  cases e
  rw [addr_add]
  rcases hj with ⟨rfl, rfl⟩ | ⟨rfl, rfl⟩
  · exact (hc m hm).1
  · exact (hc m hm).2
theorem Rd.cap {w : World} {T : Nat} {l : Ln} {a : Option Addr} {n cap : Nat} (h : Rd w T (.slice a n cap) l) : n = l.length ∧ n ≤ cap ∧ cap ≤ maxLen := by
  obtain ⟨a', cap', h1, h2, h3, _⟩ := h
  cases h1
  exact ⟨rfl, h2, h3⟩
theorem Rd.isNone {w : World} {T : Nat} {l : Ln} {n cap : Nat} (h : Rd w T (.slice none n cap) l) : l = [] ∧ n = 0 ∧ cap = 0 := by
  obtain ⟨a', cap', h1, h2, h3, h0, h4⟩ := h
  cases h1
  rcases h4 with h4 | ⟨b, off, e, _⟩
  · exact ⟨List.length_eq_zero_iff.1 h4, h4, h0 rfl⟩
  · cases e
theorem Rd.isSome {w : World} {T : Nat} {v : Value} {l : Ln} (h : Rd w T v l) (hl : 0 < l.length) : ∃ b off cap, v = .slice (some ⟨b, off, none⟩) l.length cap ∧ b < w.heap.size := by
  obtain ⟨a', cap', h1, h2, h3, h0, h4⟩ := h
  rcases h4 with h4 | ⟨b, off, e, hb, _⟩
  · omega
  · exact ⟨b, off, cap', by rw [h1, e], hb⟩
/-- The atom at a place. -/
theorem Rd.at {w : World} {T : Nat} {l : Ln} {b off n cap : Nat} (h : Rd w T (.slice (some ⟨b, off, none⟩) n cap) l) (j : Nat) (hj : j < l.length) : w.cell? ⟨b, off + j * 2, none⟩ = some (.int .i64 l[j].1) ∧ w.cell? ⟨b, off + j * 2 + 1, none⟩ = some (.int .i64 l[j].2) := by
  obtain ⟨a', cap', h1, _, _, _, h4⟩ := h
  cases h1
  rcases h4 with h4 | ⟨b', off', e, _, _, hc⟩
  · omega
  · cases e; exact hc j hj

end Go.Proofs.YtnndoagpbcacdaaGreatDoor
namespace Go.Proofs.YtnndoagpbcacdaaGreatDoor

/-! How long the lists of a run may grow: eight items a move. -/
def totI (s : Im) : Nat := s.cur.length + (flK s.ks).length
def NdB (s : Im) : Prop := ∀ n ∈ s.nds, n.1.length ≤ 8
theorem flK_cons (f : Kf) (ks : List Kf) : flK (f :: ks) = f.rs ++ flK ks := rfl
theorem val_len {c : Cf} {l : Ln} {n : Nat} (hv : isVal c l) (hg : ∀ x ∈ l, GI c n x) (ht : ∀ t ∈ c.fs, TGo c t) : l.length ≤ 8 := by
  cases l with
  | nil => simp
  | cons x r =>
    obtain ⟨_, h2, h3, h4⟩ := hv
    have hx := hg x (by simp)
    have hh : hdI (x :: r) = x := rfl
    rw [hh, List.tail_cons] at h2 h3 h4
    rw [List.length_cons]
    by_cases e3 : x.1 = 3
    · have h := h2 e3
      have hb := (tpl_go ht (hx.2.1 e3)).tg.a1
      omega
    · by_cases e4 : x.1 = 4
      · have h := h3 e4
        have := want_ge x.2
        omega
      · have := h4 e3 e4
        omega
theorem nd_len {s : Im} (hn : NdB s) (p : Int) : (ndI s p).1.length ≤ 8 := by
  unfold ndI
  cases h : s.nds[p.toNat]? with
  | none => simp
  | some x => exact hn x (List.mem_of_getElem? h)
theorem call_tot {c : Cf} {s : Im} {t : Tp} {x : Int × Int} {r : Ln} (ht : TG c t) (hc : s.cur = x :: r) (hn : NdB s) : totI (callI c t r s) ≤ totI s + 8 ∧ NdB (callI c t r s) := by
  unfold callI
  split
  · exact ⟨by unfold totI; simp only; omega, hn⟩
  split
  · exact ⟨by unfold totI; simp only; omega, hn⟩
  obtain ⟨l, L, hl⟩ : ∃ l L, t.ls = l :: L := by
    cases h : t.ls with
    | nil => have := ht.n0; rw [h] at this; simp at this
    | cons l L => exact ⟨l, L, rfl⟩
  have h8 := (ht.ln l (by rw [hl]; simp)).2.1
  refine ⟨?_, fun n hm => ?_⟩
  · unfold totI
    simp only
    have hcl : s.cur.length = r.length + 1 := by rw [hc]; rfl
    rw [hl, hcl, List.headD_cons, List.length_append, List.length_drop]
    unfold instM
    rw [List.length_map]
    omega
  · rcases List.mem_append.1 hm with hm | hm
    · exact hn n hm
    · obtain ⟨m, hm2, rfl⟩ := List.mem_map.1 hm
      simp only [instM, List.length_map]
      exact (ht.ln m (List.mem_of_mem_tail hm2)).2.1
theorem tot_move {c : Cf} {rk : Int → Nat} {s : Im} (h : Ii c rk s) (ht : ∀ t ∈ c.fs, TGo c t) (hn : NdB s) : totI (moveI c s) ≤ totI s + 8 ∧ NdB (moveI c s) ∧ (moveI c s).ks.length ≤ s.ks.length + 1 := by
  have hne := h.ne
  obtain ⟨x, r, hc⟩ : ∃ x r, s.cur = x :: r := by
    cases hq : s.cur with
    | nil => exact absurd hq hne
    | cons a b => exact ⟨a, b, rfl⟩
  have hhd : hdI s.cur = x := by rw [hc]; rfl
  have htl : s.cur.tail = r := by rw [hc]; rfl
  have hcl : s.cur.length = r.length + 1 := by rw [hc]; rfl
  have hx := h.it x (by rw [hc]; simp)
  rcases move_cases c s with ⟨_, e⟩ | ⟨e1, e2, e⟩ | ⟨e1, e2, e⟩ | ⟨_, _, _, _, e⟩ | ⟨hval, e⟩
  · rw [e, hhd, htl]
    have := nd_len hn x.2
    split
    · refine ⟨?_, hn, by simp⟩
      unfold totI; simp only [List.length_append]; omega
    · refine ⟨?_, hn, by simp⟩
      unfold totI; simp only [flK_cons, List.length_append]; omega
  · rw [e, htl]
    rw [hhd] at e1 e2 ⊢
    obtain ⟨q1, q2⟩ := call_tot (t := tplM c x.2) (tpl_go ht (hx.2.1 e1)).tg hc hn
    exact ⟨q1, q2, by rw [call_ks]; omega⟩
  · rw [e, htl]
    refine ⟨?_, hn, by simp⟩
    have : r.tail.length ≤ r.length := by simp
    unfold totI; simp only [flK_cons, List.length_append, List.length_singleton]; omega
  · rw [e]
    exact ⟨by unfold totI; simp only; omega, hn, by simp⟩
  · rw [e]
    have h8 := val_len hval h.it ht
    unfold delI
    cases hk : s.ks with
    | nil =>
      simp only
      split
      · exact ⟨by unfold totI; simp only [hk]; omega, hn, by simp⟩
      · exact ⟨by unfold totI; simp only [hk]; omega, hn, by simp⟩
    | cons f ks =>
      have hfl : (flK s.ks).length = f.rs.length + (flK ks).length := by rw [hk, flK_cons, List.length_append]
      have hfl2 : (flK (f :: ks)).length = f.rs.length + (flK ks).length := by rw [flK_cons, List.length_append]
      have htl2 : f.rs.tail.length ≤ f.rs.length := by simp
      have hT : totI s = s.cur.length + (f.rs.length + (flK ks).length) := by unfold totI; rw [hfl]
      simp only
      split
      · refine ⟨?_, fun n hm => ?_, by simp only [List.length_cons]; omega⟩
        · rw [hT]; unfold totI; simp only [List.length_append]; omega
        · rcases List.mem_or_eq_of_mem_set hm with hm | rfl
          · exact hn n hm
          · exact h8
      split
      · exact ⟨by rw [hT]; unfold totI; simp only [hfl2]; omega, hn, by simp⟩
      split
      · refine ⟨?_, hn, by simp⟩
        rw [hT]; unfold totI; simp only [flK_cons, List.length_append, List.length_singleton]; omega
      split
      · exact ⟨by rw [hT]; unfold totI; simp only [hfl2]; omega, hn, by simp⟩
      split
      · refine ⟨?_, hn, by simp only [List.length_cons]; omega⟩
        rw [hT]; unfold totI; simp only [List.length_cons, List.length_drop]; omega
      split
      · refine ⟨?_, hn, by simp only [List.length_cons]; omega⟩
        rw [hT]; unfold totI; simp only; omega
      · refine ⟨?_, hn, by simp only [List.length_cons]; omega⟩
        rw [hT]; unfold totI; simp only [List.length_cons]; omega

end Go.Proofs.YtnndoagpbcacdaaGreatDoor
namespace Go.Proofs.YtnndoagpbcacdaaGreatDoor

/-! Kinds of items: what is on the stack, in frames and in nodes is a number, a function, a primitive or a node. -/
def PI (x : Int × Int) : Prop := x.1 = 1 ∨ x.1 = 3 ∨ (x.1 = 4 ∧ 0 ≤ x.2 ∧ x.2 ≤ 4) ∨ x.1 = 5
def TPg (t : Tp) : Prop := ∀ l ∈ t.ls, ∀ a ∈ l, PI a ∨ (a.1 = 2 ∧ 0 ≤ a.2 ∧ a.2 < t.ar)
structure PG (s : Im) : Prop where
  cur : ∀ x ∈ s.cur, PI x
  fr : ∀ f ∈ s.ks, (∀ x ∈ f.rs, PI x) ∧ (f.k = 1 ∨ (0 ≤ f.pr ∧ f.pr ≤ 4))
  nd : ∀ n ∈ s.nds, ∀ x ∈ n.1, PI x
theorem tpg_good {cd : Cd} (h : goodC cd = true) : ∀ t ∈ cd.fs, TPg t := by
  obtain ⟨_, _, _, h4⟩ := tgo_good (bud := 0) (hp := 0) h
  intro t ht l hl a ha
  obtain ⟨h1, h2, h3, h5, _⟩ := (h4 t ht l hl).2 a ha
  unfold PI
  rcases h1 with e | e | e | e | e
  · exact .inl (.inl e)
  · exact .inr ⟨e, h2, h3 e⟩
  · exact .inl (.inr (.inl e))
  · exact .inl (.inr (.inr (.inl ⟨e, h2, by have := h5 e; omega⟩)))
  · exact .inl (.inr (.inr (.inr e)))
theorem inst_pi {t : Tp} (ht : TPg t) {l : Ln} (hl : l ∈ t.ls) {ar : Ln} (har : (ar.length : Int) = t.ar) (hp : ∀ x ∈ ar, PI x) (ps : List Int) : ∀ x ∈ instM l ar ps, PI x := by
  intro x hx
  obtain ⟨a, ha, rfl⟩ := List.mem_map.1 hx
  unfold instA
  split
  · exact .inr (.inr (.inr rfl))
  · rename_i h5
    split
    · rename_i h2
      have hlt : a.2.toNat < ar.length := by omega
      rw [List.getElem?_eq_getElem hlt]
      exact hp _ (List.getElem_mem hlt)
    · rename_i h2
      rcases ht l hl a ha with h | ⟨h, h0, h1⟩
      · exact h
      · exact absurd ⟨h, h0, by omega⟩ h2
theorem pg_call {c : Cf} {s : Im} {t : Tp} {x : Int × Int} {r : Ln} (h : PG s) (ht : TPg t) (hg : TG c t) (hc : s.cur = x :: r) (har : t.ar ≤ (r.length : Int)) : PG (callI c t r s) := by
  have hr : ∀ y ∈ r, PI y := fun y hy => h.cur y (by rw [hc]; simp [hy])
  unfold callI
  split
  · exact ⟨h.cur, h.fr, h.nd⟩
  split
  · exact ⟨h.cur, h.fr, h.nd⟩
  have ha0 := hg.a0
  have hal : ((r.take t.ar.toNat).length : Int) = t.ar := by rw [List.length_take]; omega
  have hap : ∀ y ∈ r.take t.ar.toNat, PI y := fun y hy => hr y (List.mem_of_mem_take hy)
  obtain ⟨l, L, hl⟩ : ∃ l L, t.ls = l :: L := by
    cases h : t.ls with
    | nil => have := hg.n0; rw [h] at this; simp at this
    | cons l L => exact ⟨l, L, rfl⟩
  refine ⟨fun y hy => ?_, h.fr, fun n hn y hy => ?_⟩
  · rcases List.mem_append.1 hy with hy | hy
    · rw [hl, List.headD_cons] at hy
      exact inst_pi ht (l := l) (by rw [hl]; simp) hal hap _ y hy
    · exact hr y (List.mem_of_mem_drop hy)
  · rcases List.mem_append.1 hn with hn | hn
    · exact h.nd n hn y hy
    · obtain ⟨m, hm, rfl⟩ := List.mem_map.1 hn
      exact inst_pi ht (List.mem_of_mem_tail hm) hal hap _ y hy
theorem pg_move {c : Cf} {rk : Int → Nat} {s : Im} (hi : Ii c rk s) (h : PG s) (ht : ∀ t ∈ c.fs, TGo c t) (hp : ∀ t ∈ c.fs, TPg t) : PG (moveI c s) := by
  obtain ⟨x, r, hc⟩ : ∃ x r, s.cur = x :: r := by
    cases hq : s.cur with
    | nil => exact absurd hq hi.ne
    | cons a b => exact ⟨a, b, rfl⟩
  have hhd : hdI s.cur = x := by rw [hc]; rfl
  have htl : s.cur.tail = r := by rw [hc]; rfl
  have hx := hi.it x (by rw [hc]; simp)
  have hxp := h.cur x (by rw [hc]; simp)
  have hr : ∀ y ∈ r, PI y := fun y hy => h.cur y (by rw [hc]; simp [hy])
  have hnd : ∀ p : Int, ∀ y ∈ (ndI s p).1, PI y := by
    intro p y hy
    unfold ndI at hy
    cases hq : s.nds[p.toNat]? with
    | none => rw [hq] at hy; simp at hy
    | some n => rw [hq] at hy; exact h.nd n (List.mem_of_getElem? hq) y hy
  have hd : ∀ l : Ln, (∀ y ∈ l, PI y) → l ≠ [] → PI (hdI l) := by
    intro l hl hne
    cases l with
    | nil => exact absurd rfl hne
    | cons a b => exact hl a (by simp)
  rcases move_cases c s with ⟨_, e⟩ | ⟨e1, e2, e⟩ | ⟨e1, e2, e⟩ | ⟨_, _, _, _, e⟩ | ⟨hval, e⟩
  · rw [e, hhd, htl]
    split
    · refine ⟨fun y hy => ?_, h.fr, h.nd⟩
      rcases List.mem_append.1 hy with hy | hy
      · exact hnd _ y hy
      · exact hr y hy
    · refine ⟨fun y hy => hnd _ y hy, fun f hf => ?_, h.nd⟩
      rcases List.mem_cons.1 hf with rfl | hf
      · exact ⟨hr, .inl rfl⟩
      · exact h.fr f hf
  · rw [e, htl]
    rw [hhd] at e1 e2 ⊢
    rw [htl] at e2
    have hv := hx.2.1 e1
    have hm : tplM c x.2 ∈ c.fs := by
      unfold tplM
      rw [if_pos hv, List.getElem?_eq_getElem (by omega)]
      exact List.getElem_mem _
    exact pg_call h (hp _ hm) (ht _ hm).tg hc e2
  · rw [e, htl]
    rw [hhd] at e1 e2 ⊢
    have hw := want_ge x.2
    rw [htl] at e2
    refine ⟨fun y hy => ?_, fun f hf => ?_, h.nd⟩
    · simp only [List.mem_singleton] at hy
      subst hy
      exact hd r hr (by intro e; rw [e] at e2; simp at e2; omega)
    · rcases List.mem_cons.1 hf with rfl | hf
      · refine ⟨fun y hy => hr y (List.mem_of_mem_tail hy), .inr ?_⟩
        rcases hxp with e | e | ⟨_, h0, h4⟩ | e
        · omega
        · omega
        · exact ⟨h0, h4⟩
        · omega
      · exact h.fr f hf
  · rw [e]; exact ⟨h.cur, h.fr, h.nd⟩
  · rw [e]
    unfold delI
    cases hk : s.ks with
    | nil =>
      simp only
      split
      · exact ⟨h.cur, fun f hf => by simp at hf, h.nd⟩
      · exact ⟨h.cur, fun f hf => by simp at hf, h.nd⟩
    | cons f ks =>
      have hf := h.fr f (by rw [hk]; simp)
      have hfi := hi.fr f (by rw [hk]; simp)
      have hks : ∀ g ∈ ks, (∀ x ∈ g.rs, PI x) ∧ (g.k = 1 ∨ (0 ≤ g.pr ∧ g.pr ≤ 4)) := fun g hg => h.fr g (by rw [hk]; simp [hg])
      have hw := want_ge f.pr
      simp only
      split
      · refine ⟨fun y hy => ?_, hks, fun n hn y hy => ?_⟩
        · rcases List.mem_append.1 hy with hy | hy
          · exact h.cur y hy
          · exact hf.1 y hy
        · rcases List.mem_or_eq_of_mem_set hn with hn | rfl
          · exact h.nd n hn y hy
          · exact h.cur y hy
      rename_i hk1
      split
      · exact ⟨h.cur, fun g hg => h.fr g (by rw [hk]; exact hg), h.nd⟩
      split
      · rename_i hk2
        have hlen : 0 < f.rs.length := by
          rcases hfi.1 with g | ⟨_, g⟩ | ⟨g, _⟩
          · exact absurd g hk1
          · omega
          · omega
        refine ⟨fun y hy => ?_, fun g hg => ?_, h.nd⟩
        · simp only [List.mem_singleton] at hy
          subst hy
          exact hd _ hf.1 (by intro e; rw [e] at hlen; simp at hlen)
        · rcases List.mem_cons.1 hg with rfl | hg
          · exact ⟨fun y hy => hf.1 y (List.mem_of_mem_tail hy), .inr (hf.2.resolve_left hk1)⟩
          · exact hks g hg
      rename_i hk2
      split
      · exact ⟨h.cur, fun g hg => h.fr g (by rw [hk]; exact hg), h.nd⟩
      split
      · rename_i hp34
        have hlen : 2 ≤ f.rs.length := by
          rcases hfi.1 with g | ⟨g, _⟩ | ⟨_, g⟩
          · exact absurd g hk1
          · exact absurd g hk2
          · unfold wantM at g; rw [if_pos hp34] at g; omega
        refine ⟨fun y hy => ?_, hks, h.nd⟩
        rcases List.mem_cons.1 hy with rfl | hy
        · split
          · exact hd _ hf.1 (by intro e; rw [e] at hlen; simp at hlen)
          · refine hd _ (fun y hy => hf.1 y (List.mem_of_mem_tail hy)) ?_
            intro e
            have := congrArg List.length e
            rw [List.length_tail] at this
            simp at this
            omega
        · exact hf.1 y (List.mem_of_mem_drop hy)
      split
      · exact ⟨hf.1, hks, h.nd⟩
      · refine ⟨fun y hy => ?_, hks, h.nd⟩
        rcases List.mem_cons.1 hy with rfl | hy
        · exact .inl rfl
        · exact hf.1 y hy

end Go.Proofs.YtnndoagpbcacdaaGreatDoor
namespace Go.Proofs.YtnndoagpbcacdaaGreatDoor
open Go.RowKit

/-! What the runs of the reference have in common, plain. -/
def bysK (ks : List Kf) : List Ln := (ks.map (·.rs)).reverse
def opsK (ks : List Kf) : List Int := (opens ks).reverse
theorem bysK_cons (f : Kf) (ks : List Kf) : bysK (f :: ks) = bysK ks ++ [f.rs] := by simp [bysK]
theorem opsK_no {f : Kf} (ks : List Kf) (h : f.k ≠ 1) : opsK (f :: ks) = opsK ks := by unfold opsK opens; rw [List.flatMap_cons, if_neg h]; rfl
theorem opsK_yes {f : Kf} (ks : List Kf) (h : f.k = 1) : opsK (f :: ks) = opsK ks ++ [f.nd] := by unfold opsK opens; rw [List.flatMap_cons, if_pos h]; simp
/-- How large a state may be, with so many moves to come. -/
structure Sz (c : Cf) (n : Nat) (s : Im) : Prop where
  st : 0 ≤ s.stp
  tot : totI s + 8 * n ≤ 8000000
  ks : s.ks.length + n ≤ 800000
  nd : (s.nds.length : Int) ≤ 12 * s.stp
  sb : s.stp ≤ c.bud
structure Gd (c : Cf) (s : Im) : Prop where
  ii : ∃ rk, Ii c rk s
  nb : NdB s
  pg : PG s
  out : s.out = 0
theorem gs_move {c : Cf} (ht : ∀ t ∈ c.fs, TGo c t) (hp : ∀ t ∈ c.fs, TPg t) {n : Nat} {s : Im} (hg : Gd c s) (hs : Sz c (n + 1) s) (ho : (moveI c s).out = 0) : Gd c (moveI c s) ∧ Sz c n (moveI c s) := by
  obtain ⟨⟨rk, hi⟩, hn, hpg, _⟩ := hg
  have hm := ii_move hi ht ho
  obtain ⟨t1, t2, t3⟩ := tot_move hi ht hn
  have h1 := hs.st
  have h2 := hs.tot
  have h3 := hs.ks
  have h4 := hs.nd
  have h5 := hs.sb
  have m1 := hm.st
  have m2 := hm.sb
  have m3 := hm.nl
  refine ⟨⟨hm.iv, t2, pg_move hi hpg ht hp, ho⟩, by omega, by omega, by omega, by omega, ?_⟩
  by_cases h : s.stp < (moveI c s).stp
  · have := m2 h; omega
  · omega
theorem gs_ev {c : Cf} (ht : ∀ t ∈ c.fs, TGo c t) (hp : ∀ t ∈ c.fs, TPg t) {ks : List Kf} : ∀ {n1 n2 : Nat} {s U : Im}, Ev c ks n1 s U → Gd c s → Sz c (n1 + n2) s → U.out = 0 → Gd c U ∧ Sz c n2 U
  | 0, n2, s, U, he, hg, hs, _ => by
    obtain ⟨rfl, _⟩ := he
    rw [Nat.zero_add] at hs
    exact ⟨hg, hs⟩
  | n1 + 1, n2, s, U, he, hg, hs, ho => by
    obtain ⟨_, _, h3⟩ := he
    have hmo : (moveI c s).out = 0 := by
      cases n1 with
      | zero => obtain ⟨rfl, _⟩ := h3; exact ho
      | succ n => exact h3.1
    obtain ⟨g1, g2⟩ := gs_move ht hp hg (n := n1 + n2) (by rw [show n1 + n2 + 1 = n1 + 1 + n2 by omega]; exact hs) hmo
    exact gs_ev ht hp h3 g1 g2 ho
def numO (U : Im) : Int := if U.out = 0 then (if (hdI U.cur).1 = 1 then 0 else 3) else U.out
def frcN (p : Nat) (U : Im) : List (Ln × Bool) := if U.out = 0 then U.nds.set p (U.cur, true) else U.nds
theorem cell_set_other {w : World} {b k i j : Nat} {v : Value} (h : b ≠ k) : (w.setCell ⟨k, i, none⟩ v).cell? ⟨b, j, none⟩ = w.cell? ⟨b, j, none⟩ := cell_same (heap_set_ne _ h)
theorem sz_setc (w : World) (a : Addr) (v : Value) : (w.setCell a v).heap.size = w.heap.size := by simp [World.setCell]
theorem Rd.from {w : World} {T b off n cap : Nat} {l : Ln} (h : Rd w T (.slice (some ⟨b, off, none⟩) n cap) l) (k : Nat) (hk : k ≤ n) : Rd w T (.slice (some ⟨b, off + k * 2, none⟩) (n - k) (cap - k)) (l.drop k) ∧ (cap = k → Rd w T (.slice (some ⟨b, off, none⟩) (n - k) 0) (l.drop k)) := by
  obtain ⟨e1, e2, e3⟩ := h.cap
  constructor
  · have q := Rd.part (k := k) (m := n - k) (c := cap - k) h (by omega) (by omega) (by omega)
    rw [List.take_of_length_le (by rw [List.length_drop]; omega)] at q
    exact q
  · intro hc
    have q := Rd.part (k := 0) (m := n - k) (c := 0) h (by omega) (by omega) (by unfold maxLen; omega)
    have hd : l.drop k = [] := List.drop_eq_nil_of_le (by omega)
    rw [show n - k = 0 by omega, List.take_zero] at q
    rw [hd, show n - k = 0 by omega]
    exact q
theorem del_three {c : Cf} {U : Im} {p va vb : Int} {r : Ln} {ks : List Kf} (hk : U.ks = ⟨3, 0, p, va, r⟩ :: ks) (h1 : (hdI U.cur).1 = 1) (h2 : vb = (hdI U.cur).2) : delI c (hdI U.cur) U = if c.bud ≤ U.stp then { U with out := 5 } else if p = 3 ∨ p = 4 then { U with stp := U.stp + 1, ks := ks, cur := (if picks p va vb then hdI r else hdI r.tail) :: r.drop 2 } else if overV (calcV p va vb) then { U with stp := U.stp + 1, ks := ks, cur := r, out := 4 } else { U with stp := U.stp + 1, ks := ks, cur := (1, calcV p va vb) :: r } := by
  unfold delI
  rw [hk]
  simp only
  rw [if_neg (by decide), if_neg (by simpa using h1), if_neg (by decide), h2]
def cmpR (c : Cf) (U1 U2 : Im) : Im := if numO U1 ≠ 0 then { U1 with out := numO U1 } else if numO U2 ≠ 0 then { U2 with out := numO U2 } else delI c (hdI U2.cur) U2

end Go.Proofs.YtnndoagpbcacdaaGreatDoor
