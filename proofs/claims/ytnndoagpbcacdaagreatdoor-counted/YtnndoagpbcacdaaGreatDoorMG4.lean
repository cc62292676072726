import Derived.Test.YtnndoagpbcacdaaGreatDoorMG1
import Derived.Test.YtnndoagpbcacdaaGreatDoorK7
namespace Go.Proofs.YtnndoagpbcacdaaGreatDoor
open Go.RowKit

/-! Grown programs, whole: each is a program, and its code is told. -/
structure Fn (d : Nat) where
  nm : List UInt8
  pn : List (List UInt8)
  hd : Wd
  ag : List (Ex d)
section
variable {d : Nat} {σ : Sty}
def nmsOf (fs : List (Fn d)) (f : Fn d) : Nms := ⟨fs.map (·.nm), f.pn⟩
def fnTk (σ : Sty) (fs : List (Fn d)) (f : Fn d) : List (List UInt8) := f.nm :: (f.pn ++ ([61] :: nzT σ (nmsOf fs f) f.hd :: (tkA σ (nmsOf fs f) d f.ag ++ [[59]])))
def fnCode (f : Fn d) : Tp := ⟨f.pn.length, (f.hd :: ownA d f.ag 0) :: restA d f.ag 0⟩
def fnShow (fs : List (Fn d)) (f : Fn d) : List UInt8 := f.nm ++ (f.pn.flatMap (fun p => 32 :: p) ++ ([32, 61, 32] ++ (wdT (nmsOf fs f) f.hd ++ (shA (nmsOf fs f) d f.ag ++ [59, 10]))))
def mainT : List UInt8 := [109, 97, 105, 110]
structure PrOk (σ : Sty) (fs : List (Fn d)) : Prop where
  n0 : fs ≠ []
  n1 : fs.length ≤ 16
  nd : (fs.map (·.nm)).Nodup
  nk : ∀ f ∈ fs, kdL f.nm = 1
  pk : ∀ f ∈ fs, f.pn.length ≤ 6 ∧ (∀ p ∈ f.pn, kdL p = 1) ∧ f.pn.Nodup ∧ ∀ p ∈ f.pn, p ∉ fs.map (·.nm)
  hd : ∀ f ∈ fs, wOk f.pn.length fs.length f.hd ∧ nzOk σ f.hd
  ag : ∀ f ∈ fs, f.ag.length ≤ 7 ∧ (∀ e ∈ f.ag, exOk f.pn.length fs.length d e) ∧ (∀ e ∈ f.ag, exNz σ d e) ∧ unA d f.ag ≤ 12
theorem PrOk.nm {fs : List (Fn d)} (h : PrOk σ fs) {f : Fn d} (hf : f ∈ fs) : NmOk (nmsOf fs f) :=
  ⟨fun x hx => by obtain ⟨g, hg, rfl⟩ := List.mem_map.1 hx; exact h.nk g hg, (h.pk f hf).2.1⟩
theorem k61 : kdL [61] = 4 := by decide
theorem k59 : kdL [59] = 5 := by decide
/-- The grammar. -/
theorem gRun_ps : ∀ (ps : List (List UInt8)) (g : Gr), (∀ p ∈ ps, kdL p = 1) → g.aw = 1 → g.pa + ps.length ≤ 6 → gRun g (ps.map kdL) = some { g with pa := g.pa + ps.length }
  | [], g, _, _, _ => by simp [gRun]
  | p :: ps, g, hk, ha, hl => by
    rw [List.map_cons, hk p (by simp)]
    rw [List.length_cons] at hl
    have e : gTake g 1 = (0, { g with pa := g.pa + 1 }) := by
      unfold gTake
      rw [if_neg (by omega), if_pos ha]
      unfold gParameter
      rw [if_neg (by omega), if_neg (by omega), if_neg (by omega)]
    rw [gRun_cons g _ 1 _ e, gRun_ps ps { g with pa := g.pa + 1 } (fun q hq => hk q (by simp [hq])) ha (by simp only; omega)]
    simp only [List.length_cons]
    congr 2
    omega
theorem gRun_fn {fs : List (Fn d)} (h : PrOk σ fs) {f : Fn d} (hf : f ∈ fs) (g : Gr) (ha : g.aw = 0) (hr : g.ar = []) (hn : g.fn < 16) : ∃ g', gRun g ((fnTk σ fs f).map kdL) = some g' ∧ g'.aw = 0 ∧ g'.ar = [] ∧ g'.fn = g.fn + 1 := by
  obtain ⟨p1, p2, p3, p4⟩ := h.pk f hf
  obtain ⟨a1, a2, a3, a4⟩ := h.ag f hf
  obtain ⟨h1, h2⟩ := h.hd f hf
  have hN := h.nm hf
  have hlf : fs.length = (nmsOf fs f).fn.length := by simp [nmsOf]
  have hs := simple_wd hN (np := f.pn.length) (nf := fs.length) rfl hlf h1 h2
  unfold fnTk
  rw [List.map_cons, List.map_append, List.map_cons, List.map_cons, List.map_append, h.nk f hf, k61]
  have e1 : gTake g 1 = (0, { g with fn := g.fn + 1, pa := 0, aw := 1 }) := by
    unfold gTake
    rw [if_pos ha]
    unfold gFunction
    rw [if_neg (by omega), if_neg (by omega)]
  rw [gRun_cons g _ 1 _ e1, gRun_app, gRun_ps f.pn { g with fn := g.fn + 1, pa := 0, aw := 1 } p2 rfl (by simp only; omega), Option.bind_some]
  have e2 : gTake { g with fn := g.fn + 1, pa := 0 + (f.pn.length : Int), aw := 1 } 4 = (0, { g with fn := g.fn + 1, pa := 0 + (f.pn.length : Int), no := 0, aw := 2 }) := by
    unfold gTake
    rw [if_neg (by simp), if_pos rfl]
    unfold gParameter
    rw [if_pos rfl]
  rw [gRun_cons _ _ _ _ e2, gRun_cons _ _ _ _ (gTake_head _ _ rfl hs), gRun_app]
  have hsec : secG { g with fn := g.fn + 1, pa := 0 + (f.pn.length : Int), no := 0, wi := 1, aw := 3 } = 0 := by unfold secG; rw [if_neg (fun e => e.2 hr)]
  obtain ⟨g2, r1, r2⟩ := (gRun_ex (σ := σ) hN (np := f.pn.length) (nf := fs.length) rfl hlf d).2 f.ag { g with fn := g.fn + 1, pa := 0 + (f.pn.length : Int), no := 0, wi := 1, aw := 3 } a2 a3 rfl (by simp) (by simp only; omega) (by rw [hsec]; simp; omega)
  rw [r1, Option.bind_some]
  have e3 : gTake g2 5 = (0, { g2 with aw := 0 }) := by
    unfold gTake
    have := r2.aw
    rw [if_neg (by omega), if_neg (by omega), if_neg (by omega)]
    unfold gPart
    rw [if_pos rfl]
    unfold gEndDef
    rw [if_pos (by rw [r2.ar]; exact hr)]
  refine ⟨{ g2 with aw := 0 }, ?_, rfl, by rw [← hr]; exact r2.ar, r2.fn⟩
  rw [List.map_cons, k59, gRun_cons _ _ _ _ e3]; rfl
theorem gRun_fns {fs : List (Fn d)} (h : PrOk σ fs) : ∀ (l : List (Fn d)) (g : Gr), (∀ f ∈ l, f ∈ fs) → g.aw = 0 → g.ar = [] → 0 ≤ g.fn → g.fn + l.length ≤ 16 → ∃ g', gRun g ((l.flatMap (fnTk σ fs)).map kdL) = some g' ∧ g'.aw = 0 ∧ g'.ar = [] ∧ g'.fn = g.fn + l.length
  | [], g, _, h1, h2, _, _ => ⟨g, rfl, h1, h2, by simp⟩
  | f :: l, g, hl, h1, h2, h3, h4 => by
    rw [List.length_cons] at h4
    obtain ⟨g1, q1, q2, q3, q4⟩ := gRun_fn h (hl f (by simp)) g h1 h2 (by omega)
    obtain ⟨g2, r1, r2, r3, r4⟩ := gRun_fns h l g1 (fun x hx => hl x (by simp [hx])) q2 q3 (by omega) (by omega)
    refine ⟨g2, ?_, r2, r3, by rw [r4, q4, List.length_cons]; omega⟩
    rw [List.flatMap_cons, List.map_append, gRun_app, q1]
    exact r1
/-- The definitions. -/
structure DfE (σ : Sty) (fs : List (Fn d)) (f : Fn d) (x : Df) : Prop where
  nm : txL x.name = f.nm
  ps : x.ps.map txL = f.pn
  bd : ∃ t a, x.body = t :: a.toks ∧ txL t = nzT σ (nmsOf fs f) f.hd ∧ simp3 t ∧ AtE σ (nmsOf fs f) f.pn.length fs.length d f.ag a.toks a ∧ a.toks.map txL = tkA σ (nmsOf fs f) d f.ag
def DfA (σ : Sty) (fs : List (Fn d)) : List (Fn d) → List Df → Prop
  | [], [] => True
  | f :: l, x :: ds => DfE σ fs f x ∧ DfA σ fs l ds
  | [], _ :: _ => False
  | _ :: _, [] => False
theorem defs_of {fs : List (Fn d)} (h : PrOk σ fs) : ∀ (l : List (Fn d)) (ts : List Tk), (∀ f ∈ l, f ∈ fs) → ts.map txL = l.flatMap (fnTk σ fs) → ∃ ds, Shq ts ds ∧ DfA σ fs l ds
  | [], ts, _, e => by
    have : ts = [] := by simpa using e
    subst this
    exact ⟨[], .nil, trivial⟩
  | f :: l, ts, hl, e => by
    have hf := hl f (by simp)
    rw [List.flatMap_cons] at e
    obtain ⟨ts1, ts2, rfl, q1, q2⟩ := List.map_eq_append_iff.1 e
    obtain ⟨ds, s1, s2⟩ := defs_of h l ts2 (fun x hx => hl x (by simp [hx])) q2
    unfold fnTk at q1
    obtain ⟨n, ts3, rfl, n1, n2⟩ := List.map_eq_cons_iff.1 q1
    obtain ⟨ps, ts4, rfl, m1, m2⟩ := List.map_eq_append_iff.1 n2
    obtain ⟨ee, t, ts5, rfl, o1, o2, o3⟩ := map_two m2
    obtain ⟨ts6, ts7, rfl, u1, u2⟩ := List.map_eq_append_iff.1 o3
    obtain ⟨m, rfl, v1⟩ := map_one u2
    obtain ⟨p1, p2, p3, p4⟩ := h.pk f hf
    obtain ⟨a1, a2, a3, a4⟩ := h.ag f hf
    obtain ⟨h1, h2⟩ := h.hd f hf
    have hN := h.nm hf
    have hlf : fs.length = (nmsOf fs f).fn.length := by simp [nmsOf]
    obtain ⟨a, ha⟩ := at_list (σ := σ) hN (np := f.pn.length) (nf := fs.length) rfl hlf d f.ag ts6 a2 a3 u1
    have hs := simp_wd hN (np := f.pn.length) (nf := fs.length) rfl hlf h1 h2 o2
    have hat := ha.tk
    subst hat
    refine ⟨⟨n, ps, t :: a.toks⟩ :: ds, ?_, ⟨n1, m1, t, a, rfl, o2, hs, ha, u1⟩, s2⟩
    have := Shq.cons n ps ee t a m ts2 ds (by rw [kind_kL, n1]; exact h.nk f hf) (fun p hp => by rw [kind_kL]; exact p2 _ (by rw [← m1]; exact List.mem_map.2 ⟨p, hp, rfl⟩)) (by rw [kind_kL, o1]; exact k61) hs ha.ok (by rw [kind_kL, v1]; exact k59) s1
    simpa using this
theorem DfA.names {fs : List (Fn d)} : ∀ {l : List (Fn d)} {ds : List Df}, DfA σ fs l ds → ds.map (fun x => txL x.name) = l.map (·.nm)
  | [], [], _ => rfl
  | f :: l, x :: ds, h => by rw [List.map_cons, List.map_cons, h.1.nm, DfA.names h.2]
  | [], _ :: _, h => h.elim
  | _ :: _, [], h => h.elim
theorem DfA.mem {fs : List (Fn d)} : ∀ {l : List (Fn d)} {ds : List Df}, DfA σ fs l ds → ∀ x ∈ ds, ∃ f ∈ l, DfE σ fs f x
  | [], [], _, x, hx => by simp at hx
  | f :: l, y :: ds, h, x, hx => by
    rcases List.mem_cons.1 hx with rfl | hx
    · exact ⟨f, by simp, h.1⟩
    · obtain ⟨g, hg, e⟩ := DfA.mem h.2 x hx
      exact ⟨g, by simp [hg], e⟩
  | [], _ :: _, h, _, _ => h.elim
  | _ :: _, [], h, _, _ => h.elim
/-! Names by their texts. -/
theorem toL (t : ByteArray) : t.toList = t.data.toList := ByteArray.toList_eq t
theorem hasP_iff (ps : List Tk) (n : ByteArray) : hasP ps n = true ↔ n.data.toList ∈ ps.map txL := by
  unfold hasP
  rw [List.any_eq_true]
  constructor
  · rintro ⟨p, hp, e⟩
    rw [toL, toL, beq_iff_eq] at e
    exact List.mem_map.2 ⟨p, hp, e⟩
  · intro h
    obtain ⟨p, hp, e⟩ := List.mem_map.1 h
    refine ⟨p, hp, ?_⟩
    rw [toL, toL, beq_iff_eq]; exact e
theorem hasF_iff (ds : List Df) (n : ByteArray) : hasF ds n = true ↔ n.data.toList ∈ ds.map (fun x => txL x.name) := by
  unfold hasF
  rw [List.any_eq_true]
  constructor
  · rintro ⟨p, hp, e⟩
    rw [toL, toL, beq_iff_eq] at e
    exact List.mem_map.2 ⟨p, hp, e⟩
  · intro h
    obtain ⟨p, hp, e⟩ := List.mem_map.1 h
    refine ⟨p, hp, ?_⟩
    rw [toL, toL, beq_iff_eq]; exact e
theorem whr_at (ps : List Tk) (n : ByteArray) (i : Nat) (hn : (ps.map txL).Nodup) (h : (ps.map txL)[i]? = some n.data.toList) : whr ps n = i := by
  unfold whr
  have : ps.findIdx? (fun t => t.txt.toList == n.toList) = some i := by
    rw [List.findIdx?_eq_some_iff_getElem]
    rw [List.getElem?_map] at h
    cases hp : ps[i]? with
    | none => rw [hp] at h; simp at h
    | some p =>
      rw [hp] at h
      obtain ⟨hi, he⟩ := List.getElem?_eq_some_iff.1 hp
      have hp1 : txL p = n.data.toList := by simpa using h
      refine ⟨hi, ?_, fun j hj => ?_⟩
      · rw [toL, toL, beq_iff_eq, he]; exact hp1
      · rw [toL, toL, beq_iff_eq]
        intro e
        have h1 : (ps.map txL)[j]? = some n.data.toList := by
          rw [List.getElem?_map, List.getElem?_eq_getElem (by omega)]
          exact congrArg some e
        have h2 : (ps.map txL)[i]? = some n.data.toList := by rw [List.getElem?_map, hp]; exact congrArg some hp1
        have h3 : ∀ {l : List (List UInt8)} {i j : Nat} {p : List UInt8}, l.Nodup → l[i]? = some p → l[j]? = some p → i = j := by
          intro l i j p hn a b
          obtain ⟨a1, a2⟩ := List.getElem?_eq_some_iff.1 a
          obtain ⟨b1, b2⟩ := List.getElem?_eq_some_iff.1 b
          exact (List.getElem_inj hn).1 (a2.trans b2.symm)
        have := h3 hn h1 h2
        omega
  rw [this]
theorem whr_no (ps : List Tk) (n : ByteArray) (h : n.data.toList ∉ ps.map txL) : whr ps n = -1 := by
  unfold whr
  have : ps.findIdx? (fun t => t.txt.toList == n.toList) = none := by
    rw [List.findIdx?_eq_none_iff]
    intro x hx
    rw [beq_eq_false_iff_ne, toL, toL]
    intro e
    exact h (List.mem_map.2 ⟨x, hx, e⟩)
  rw [this]
theorem nodup_take {α : Type} {l : List α} (h : l.Nodup) {i : Nat} {a : α} (ha : l[i]? = some a) : a ∉ l.take i := by
  intro hm
  obtain ⟨j, hj, e⟩ := List.mem_iff_getElem.1 hm
  obtain ⟨hi, e2⟩ := List.getElem?_eq_some_iff.1 ha
  rw [List.length_take] at hj
  rw [List.getElem_take] at e
  have := (List.getElem_inj h).1 (e.trans e2.symm)
  omega
theorem twiceP_none (ps : List Tk) (h : (ps.map txL).Nodup) : ∀ (r : List Tk) (j : Nat), ps.drop j = r → twiceP ps j r = none
  | [], _, _ => rfl
  | p :: r, j, e => by
    have hj : ps[j]? = some p := by rw [← List.head?_drop, e]; rfl
    rw [twiceP, if_neg]
    · exact twiceP_none ps h r (j + 1) (by rw [← List.drop_drop, e]; rfl)
    · rw [hasP_iff, List.map_take]
      exact nodup_take h (by rw [List.getElem?_map, hj]; rfl)
theorem twiceF_none (ds : List Df) (h : (ds.map (fun x => txL x.name)).Nodup) (hp : ∀ x ∈ ds, (x.ps.map txL).Nodup) : ∀ (r : List Df) (j : Nat), ds.drop j = r → twiceF ds j r = none
  | [], _, _ => rfl
  | x :: r, j, e => by
    have hj : ds[j]? = some x := by rw [← List.head?_drop, e]; rfl
    rw [twiceF, if_neg]
    · rw [twiceP_none x.ps (hp x (List.mem_of_getElem? hj)) x.ps 0 rfl]
      exact twiceF_none ds h hp r (j + 1) (by rw [← List.drop_drop, e]; rfl)
    · rw [hasF_iff, List.map_take]
      exact nodup_take h (by rw [List.getElem?_map, hj]; rfl)
theorem toks_in {N : Nms} {np nf : Nat} : ∀ (d : Nat), (∀ (e : Ex d), exOk np nf d e → exNz σ d e → ∀ y ∈ tkE σ N d e, y = [40] ∨ y = [41] ∨ ∃ x, wOk np nf x ∧ nzOk σ x ∧ y = nzT σ N x) ∧
    (∀ (l : List (Ex d)), (∀ e ∈ l, exOk np nf d e) → (∀ e ∈ l, exNz σ d e) → ∀ y ∈ tkA σ N d l, y = [40] ∨ y = [41] ∨ ∃ x, wOk np nf x ∧ nzOk σ x ∧ y = nzT σ N x) := by
  have hw : ∀ x, wOk np nf x → nzOk σ x → ∀ y ∈ agT σ N x, y = [40] ∨ y = [41] ∨ ∃ x, wOk np nf x ∧ nzOk σ x ∧ y = nzT σ N x := by
    intro x h1 h2 y hy
    unfold agT at hy
    split at hy
    · simp at hy
      rcases hy with rfl | rfl | rfl
      · exact .inl rfl
      · exact .inr (.inr ⟨x, h1, h2, rfl⟩)
      · exact .inr (.inl rfl)
    · simp at hy
      exact .inr (.inr ⟨x, h1, h2, hy⟩)
  have hl : ∀ (d : Nat), (∀ (e : Ex d), exOk np nf d e → exNz σ d e → ∀ y ∈ tkE σ N d e, y = [40] ∨ y = [41] ∨ ∃ x, wOk np nf x ∧ nzOk σ x ∧ y = nzT σ N x) → (∀ (l : List (Ex d)), (∀ e ∈ l, exOk np nf d e) → (∀ e ∈ l, exNz σ d e) → ∀ y ∈ tkA σ N d l, y = [40] ∨ y = [41] ∨ ∃ x, wOk np nf x ∧ nzOk σ x ∧ y = nzT σ N x) := by
    intro d he l h1 h2 y hy
    obtain ⟨e, hm, hy⟩ := List.mem_flatMap.1 hy
    exact he e (h1 e hm) (h2 e hm) y hy
  intro d
  induction d with
  | zero =>
    have h0 : ∀ (e : Ex 0), exOk np nf 0 e → exNz σ 0 e → ∀ y ∈ tkE σ N 0 e, y = [40] ∨ y = [41] ∨ ∃ x, wOk np nf x ∧ nzOk σ x ∧ y = nzT σ N x := fun e h1 h2 => hw e h1 h2
    exact ⟨h0, hl 0 h0⟩
  | succ d ih =>
    have h0 : ∀ (e : Ex (d + 1)), exOk np nf (d + 1) e → exNz σ (d + 1) e → ∀ y ∈ tkE σ N (d + 1) e, y = [40] ∨ y = [41] ∨ ∃ x, wOk np nf x ∧ nzOk σ x ∧ y = nzT σ N x := by
      intro e h1 h2 y hy
      cases e with
      | inl x => exact hw x h1 h2 y hy
      | inr p =>
        obtain ⟨h, l⟩ := p
        obtain ⟨g1, _, _, g4⟩ := h1
        obtain ⟨z1, z2⟩ := h2
        have hy' : y ∈ [40] :: nzT σ N h :: (tkA σ N d l ++ [[41]]) := hy
        rcases List.mem_cons.1 hy' with rfl | hy'
        · exact .inl rfl
        rcases List.mem_cons.1 hy' with rfl | hy'
        · exact .inr (.inr ⟨h, g1, z1, rfl⟩)
        rcases List.mem_append.1 hy' with hy' | hy'
        · exact ih.2 l g4 z2 y hy'
        · simp at hy'; exact .inr (.inl hy')
    exact ⟨h0, hl (d + 1) h0⟩
theorem valL_app (a b : List UInt8) : valL (a ++ b) = b.foldl (fun n c => 10 * n + ((c.toNat : Int) - 48)) (valL a) := by
  unfold valL; rw [List.foldl_append]
theorem valL_dec (n : Nat) : valL (decL n) = n := by
  induction n using Nat.strongRecOn with
  | ind n ih =>
    by_cases h : n < 10
    · rw [decL_lt n h]
      simp only [valL, List.foldl_cons, List.foldl_nil]
      rw [UInt8.toNat_ofNat']
      omega
    · rw [decL_ge n h, valL_app, ih (n / 10) (by omega)]
      simp only [List.foldl_cons, List.foldl_nil]
      rw [UInt8.toNat_ofNat']
      omega
/-- The program tells its words by their texts. -/
theorem tells {fs : List (Fn d)} (h : PrOk σ fs) {ds : List Df} (hd : DfA σ fs fs ds) {f : Fn d} (hf : f ∈ fs) {x : Df} (hx : DfE σ fs f x) : Tells σ (nmsOf fs f) f.pn.length fs.length (atomF x.ps ds) := by
  intro t y hy hz ht
  have hN := h.nm hf
  have hlf : fs.length = (nmsOf fs f).fn.length := by simp [nmsOf]
  have hk := kind_wd hN (np := f.pn.length) (nf := fs.length) rfl hlf hy hz
  have ht' : t.txt.data.toList = nzT σ (nmsOf fs f) y := ht
  obtain ⟨p1, p2, p3, p4⟩ := h.pk f hf
  obtain ⟨y1, y2⟩ := y
  unfold atomF
  rw [kind_kL, ht, hk]
  rcases hy with ⟨e, h0, h1⟩ | ⟨e, h0, h1⟩ | ⟨e, h0, h1⟩ | ⟨e, h0, h1⟩
  · simp only at e
    subst e
    rw [if_pos rfl, if_pos rfl, ht']
    simp only [Prod.mk.injEq, true_and]
    have hw : wdT (nmsOf fs f) (1, y2) = decL y2.toNat := by unfold wdT; rw [if_pos rfl]
    have e0 : (48 : UInt8).toNat = 48 := rfl
    have hv : valL (nzT σ (nmsOf fs f) (1, y2)) = valL (decL y2.toNat) := by
      unfold nzT
      rw [hw]
      split
      · unfold valL
        rw [List.foldl_cons, List.foldl_cons, e0]; rfl
      · rfl
    rw [hv, valL_dec]
    simp only at h0
    omega
  · simp only at e h0 h1
    subst e
    have hlt : y2.toNat < f.pn.length := by omega
    have hw : nzT σ (nmsOf fs f) (2, y2) = f.pn[y2.toNat] := by
      unfold nzT wdT
      rw [if_neg (by simp), if_neg (by simp), if_pos (by simp)]
      show (f.pn[y2.toNat]?).getD [] = _
      rw [List.getElem?_eq_getElem hlt]; rfl
    have hwh : whr x.ps t.txt = y2.toNat := whr_at x.ps t.txt y2.toNat (by rw [hx.ps]; exact p3) (by rw [hx.ps, ht', hw, List.getElem?_eq_getElem hlt])
    simp only [show ¬ ((2 : Int) = 1) by decide, show ¬ ((2 : Int) = 4) by decide, if_false]
    rw [if_neg (by decide), if_neg (by decide), hwh, if_pos (by omega)]
    simp only [Prod.mk.injEq, true_and]
    omega
  · simp only at e h0 h1
    subst e
    have hlt : y2.toNat < fs.length := by omega
    have hw : nzT σ (nmsOf fs f) (3, y2) = fs[y2.toNat].nm := by
      unfold nzT wdT
      rw [if_neg (by simp), if_neg (by simp), if_neg (by simp), if_pos (by simp)]
      show ((fs.map (·.nm))[y2.toNat]?).getD [] = _
      rw [List.getElem?_map, List.getElem?_eq_getElem hlt]; rfl
    have hno : whr x.ps t.txt = -1 := whr_no x.ps t.txt (by
      rw [hx.ps, ht', hw]
      intro hm
      exact p4 _ hm (List.mem_map.2 ⟨_, List.getElem_mem hlt, rfl⟩))
    have hfn : fnd ds t.txt = y2.toNat := by
      unfold fnd
      refine whr_at _ t.txt y2.toNat ?_ ?_
      · rw [List.map_map]
        have := hd.names
        have e2 : ds.map (txL ∘ fun x => x.name) = ds.map (fun x => txL x.name) := rfl
        rw [e2, this]; exact h.nd
      · rw [List.map_map]
        have e2 : ds.map (txL ∘ fun x => x.name) = ds.map (fun x => txL x.name) := rfl
        rw [e2, hd.names, ht', hw, List.getElem?_map, List.getElem?_eq_getElem hlt]; rfl
    simp only [show ¬ ((3 : Int) = 1) by decide, show ¬ ((3 : Int) = 4) by decide, if_false]
    rw [if_neg (by decide), if_neg (by decide), hno, if_neg (by decide), hfn]
    simp only [Prod.mk.injEq, true_and]
    omega
  · simp only at e h0 h1
    subst e
    have hw : nzT σ (nmsOf fs f) (4, y2) = [(([43, 45, 42, 60, 63] : List UInt8)[y2.toNat]?).getD 0] := by
      unfold nzT wdT
      rw [if_neg (by simp), if_neg (by simp), if_neg (by simp), if_neg (by simp)]
    simp only [show ¬ ((4 : Int) = 1) by decide, if_false, if_true]
    rw [toL, ht', hw]
    refine congrArg (Prod.mk (4 : Int)) ?_
    have : y2 = 0 ∨ y2 = 1 ∨ y2 = 2 ∨ y2 = 3 ∨ y2 = 4 := by omega
    rcases this with rfl | rfl | rfl | rfl | rfl <;> decide
theorem unkB_none (ds : List Df) (ps : List Tk) : ∀ (b : List Tk), (∀ t ∈ b, unkT ds ps t = false) → unkB ds ps b = none
  | [], _ => rfl
  | t :: r, h => by rw [unkB, h t (by simp), if_neg (by simp)]; exact unkB_none ds ps r (fun x hx => h x (by simp [hx]))
theorem unkF_none (ds0 : List Df) : ∀ (ds : List Df), (∀ x ∈ ds, unkB ds0 x.ps x.body = none) → unkF ds0 ds = none
  | [], _ => rfl
  | x :: r, h => by rw [unkF, h x (by simp)]; exact unkF_none ds0 r (fun y hy => h y (by simp [hy]))
theorem unk_word {fs : List (Fn d)} (h : PrOk σ fs) {ds : List Df} (hd : DfA σ fs fs ds) {f : Fn d} (hf : f ∈ fs) {x : Df} (hx : DfE σ fs f x) {t : Tk} {y : Wd} (hy : wOk f.pn.length fs.length y) (hz : nzOk σ y) (ht : txL t = nzT σ (nmsOf fs f) y) : unkT ds x.ps t = false := by
  have hN := h.nm hf
  have hlf : fs.length = (nmsOf fs f).fn.length := by simp [nmsOf]
  have hk := kind_wd hN (np := f.pn.length) (nf := fs.length) rfl hlf hy hz
  have ht' : t.txt.data.toList = nzT σ (nmsOf fs f) y := ht
  unfold unkT
  rw [kind_kL, ht, hk]
  obtain ⟨y1, y2⟩ := y
  rcases hy with ⟨e, h0, h1⟩ | ⟨e, h0, h1⟩ | ⟨e, h0, h1⟩ | ⟨e, h0, h1⟩
  · simp only at e; subst e; simp
  · simp only at e h0 h1
    subst e
    have hlt : y2.toNat < f.pn.length := by omega
    have hw : nzT σ (nmsOf fs f) (2, y2) = f.pn[y2.toNat] := by
      unfold nzT wdT
      rw [if_neg (by simp), if_neg (by simp), if_pos (by simp)]
      show (f.pn[y2.toNat]?).getD [] = _
      rw [List.getElem?_eq_getElem hlt]; rfl
    have : hasP x.ps t.txt = true := (hasP_iff _ _).2 (by rw [ht', hw, hx.ps]; exact List.getElem_mem hlt)
    rw [this]; simp
  · simp only at e h0 h1
    subst e
    have hlt : y2.toNat < fs.length := by omega
    have hw : nzT σ (nmsOf fs f) (3, y2) = fs[y2.toNat].nm := by
      unfold nzT wdT
      rw [if_neg (by simp), if_neg (by simp), if_neg (by simp), if_pos (by simp)]
      show ((fs.map (·.nm))[y2.toNat]?).getD [] = _
      rw [List.getElem?_map, List.getElem?_eq_getElem hlt]; rfl
    have : hasF ds t.txt = true := (hasF_iff _ _).2 (by rw [ht', hw, hd.names]; exact List.mem_map.2 ⟨_, List.getElem_mem hlt, rfl⟩)
    rw [this]; simp
  · simp only at e; subst e; simp
theorem DfA.code {fs : List (Fn d)} (h : PrOk σ fs) {ds : List Df} (hd : DfA σ fs fs ds) : ∀ {l : List (Fn d)} {r : List Df}, (∀ f ∈ l, f ∈ fs) → DfA σ fs l r → r.map (tpOf ds) = l.map fnCode
  | [], [], _, _ => rfl
  | f :: l, x :: r, hl, hx => by
    rw [List.map_cons, List.map_cons, DfA.code h hd (fun y hy => hl y (by simp [hy])) hx.2]
    congr 1
    have hf := hl f (by simp)
    have hT := tells h hd hf hx.1
    obtain ⟨h1, h2⟩ := h.hd f hf
    obtain ⟨t, a, e, e1, e2, ha, _⟩ := hx.1.bd
    unfold tpOf fnCode
    rw [e, cut_body x.ps ds e2 ha.ok]
    have hl1 : x.ps.length = f.pn.length := by rw [← hx.1.ps, List.length_map]
    have o1 : ownT (atomF x.ps ds) (.sim t a) 0 = f.hd :: ownA d f.ag 0 := by
      show atomF x.ps ds t :: ownT (atomF x.ps ds) a 0 = _
      rw [hT t f.hd h1 h2 e1, ha.own _ hT]
    have o2 : restT (atomF x.ps ds) (.sim t a) 0 = restA d f.ag 0 := by
      show restT (atomF x.ps ds) a 0 = _
      rw [ha.rst _ hT]
    rw [o1, o2, hl1]
  | [], _ :: _, _, h => h.elim
  | _ :: _, [], _, h => h.elim
theorem DfA.show {fs : List (Fn d)} (h : PrOk σ fs) : ∀ {l : List (Fn d)} {r : List Df}, (∀ f ∈ l, f ∈ fs) → DfA σ fs l r → (∀ x ∈ r, ∀ t ∈ x.body, WT t.txt) → r.flatMap defL = l.flatMap (fnShow fs)
  | [], [], _, _, _ => rfl
  | f :: l, x :: r, hl, hx, hw => by
    rw [List.flatMap_cons, List.flatMap_cons, DfA.show h (fun y hy => hl y (by simp [hy])) hx.2 (fun y hy => hw y (by simp [hy]))]
    congr 1
    have hf := hl f (by simp)
    have hN := h.nm hf
    have hlf : fs.length = (nmsOf fs f).fn.length := by simp [nmsOf]
    obtain ⟨h1, h2⟩ := h.hd f hf
    obtain ⟨t, a, e, e1, e2, ha, _⟩ := hx.1.bd
    have hwx := hw x (by simp)
    rw [e] at hwx
    unfold defL fnShow
    rw [e, show_body e2 ha.ok (fun u hu => hwx u (by simp [hu])), tkL_wd hN (np := f.pn.length) (nf := fs.length) rfl hlf h1 h2 e1, ha.sho]
    have hnm : x.name.txt.data.toList = f.nm := hx.1.nm
    have hps : psL x.ps = f.pn.flatMap (fun p => 32 :: p) := by
      unfold psL
      rw [← hx.1.ps, List.flatMap_map]
      rfl
    rw [hnm, hps]
    simp
  | [], _ :: _, _, h, _ => h.elim
  | _ :: _, [], _, h, _ => h.elim
theorem prog_ok {fs : List (Fn d)} (h : PrOk σ fs) (i : Nat) (fm : Fn d) (hi : fs[i]? = some fm) (hm : fm.nm = mainT) (hp : fm.pn = []) (s : ByteArray) (hs : s.size ≤ 1000) (ht : (toksF s 0).map txL = fs.flatMap (fnTk σ fs)) :
    (chk s).2 = 0 ∧ codeOf (cAll (toksF s 0)).ds = ⟨(i : Int), fs.map fnCode⟩ ∧ progL (cAll (toksF s 0)).ds = fs.flatMap (fnShow fs) := by
  have hwt := toksF_wt s hs 0
  obtain ⟨ds, s1, hd⟩ := defs_of h fs (toksF s 0) (fun _ hf => hf) ht
  have hds : (cAll (toksF s 0)).ds = ds := cAll_shp s1.shp
  have hg : (gAll s.size g0 (toksF s 0)).2 = 0 := by
    obtain ⟨g', q1, q2, _, q4⟩ := gRun_fns h fs g0 (fun _ hf => hf) rfl rfl (by decide) (by show (0 : Int) + _ ≤ 16; have := h.n1; omega)
    have hne : 0 < fs.length := List.length_pos_iff.2 h.n0
    refine gAll_run s.size _ g0 g' ?_ (by rw [q4]; show (0 : Int) + _ ≠ 0; omega) q2
    rw [← q1, ← ht, List.map_map]
    congr 1
    exact List.map_congr_left (fun t _ => kind_kL t)
  have hpsn : ∀ x ∈ ds, (x.ps.map txL).Nodup := fun x hx => by
    obtain ⟨f, hf, e⟩ := hd.mem x hx
    rw [e.ps]; exact (h.pk f hf).2.2.1
  have htw : twiceF ds 0 ds = none := twiceF_none ds (by rw [hd.names]; exact h.nd) hpsn ds 0 rfl
  have hun : unkF ds ds = none := by
    refine unkF_none ds ds (fun x hx => ?_)
    obtain ⟨f, hf, e⟩ := hd.mem x hx
    obtain ⟨t, a, e0, e1, e2, ha, e3⟩ := e.bd
    obtain ⟨h1, h2⟩ := h.hd f hf
    obtain ⟨_, a2, a3, _⟩ := h.ag f hf
    refine unkB_none ds x.ps _ (fun u hu => ?_)
    rw [e0] at hu
    rcases List.mem_cons.1 hu with rfl | hu
    · exact unk_word h hd hf e h1 h2 e1
    · have hy : txL u ∈ tkA σ (nmsOf fs f) d f.ag := by rw [← e3]; exact List.mem_map.2 ⟨u, hu, rfl⟩
      rcases (toks_in (σ := σ) (N := nmsOf fs f) d).2 f.ag a2 a3 _ hy with g | g | ⟨y, g1, g2, g3⟩
      · unfold unkT; rw [kind_kL, g, k40]; rfl
      · unfold unkT; rw [kind_kL, g, k41]; rfl
      · exact unk_word h hd hf e g1 g2 g3
  have hfm : fnd ds mainB = i := by
    unfold fnd
    have e2 : ds.map (txL ∘ fun x => x.name) = ds.map (fun x => txL x.name) := rfl
    refine whr_at _ mainB i ?_ ?_
    · rw [List.map_map, e2, hd.names]; exact h.nd
    · rw [List.map_map, e2, hd.names, List.getElem?_map, hi]
      show some fm.nm = _
      rw [hm]; rfl
  have hmain : mainE ds = 0 := by
    unfold mainE
    rw [hfm, if_neg (by omega), if_neg]
    have key : ∀ (l : List (Fn d)) (r : List Df) (j : Nat), DfA σ fs l r → l[j]? = some fm → (r[j]?.getD df0).ps.length = 0 := by
      intro l
      induction l with
      | nil => intro r j _ e; simp at e
      | cons f l ih =>
        intro r j hr e
        cases r with
        | nil => exact hr.elim
        | cons x r =>
          cases j with
          | zero =>
            simp at e
            subst e
            have : (x.ps.map txL).length = 0 := by rw [hr.1.ps, hp]; rfl
            simpa using this
          | succ j => simpa using ih r j hr.2 (by simpa using e)
    have := key fs ds i hd hi
    rw [show (i : Int).toNat = i by omega, this]
    omega
  refine ⟨?_, ?_, ?_⟩
  · unfold chk
    rw [if_neg (by omega), if_neg (by rw [hg]; simp), hds, htw, hun]
    simp [orErr, hmain]
  · rw [hds]
    unfold codeOf
    rw [hfm, DfA.code h hd (fun _ hf => hf) hd]
  · rw [hds]
    exact DfA.show h (fun _ hf => hf) hd (fun x hx t ht' => hwt t (s1.mem x hx t ht'))
end

end Go.Proofs.YtnndoagpbcacdaaGreatDoor
namespace Go.Proofs.YtnndoagpbcacdaaGreatDoor
open Go.RowKit

/-! How programs grow out of numbers: plain. -/
def pickF (c : Int) (n : Nat) : Nat := ((if c < 0 then -(c + 1) else c) % (n : Int)).toNat
def nxF (n : Nat) : List Int → Nat × List Int
  | [] => (0, [])
  | c :: l => (pickF c n, l)
def wordF (np nf : Nat) (l : List Int) : Wd × List Int :=
  if (nxF 10 l).1 < 4 ∧ 0 < np then ((2, ((nxF np (nxF 10 l).2).1 : Int)), (nxF np (nxF 10 l).2).2)
  else if (nxF 10 l).1 < 6 then ((3, ((nxF nf (nxF 10 l).2).1 : Int)), (nxF nf (nxF 10 l).2).2)
  else if (nxF 10 l).1 < 8 then ((1, ((nxF 1000 (nxF 10 l).2).1 : Int)), (nxF 1000 (nxF 10 l).2).2)
  else ((4, ((nxF 5 (nxF 10 l).2).1 : Int)), (nxF 5 (nxF 10 l).2).2)
abbrev Ap (d : Nat) := Wd × List (Ex d)
def argsF {d : Nat} (step : Nat → List Int → Ex d × Nat × List Int) : Nat → Nat → List Int → List (Ex d) × Nat × List Int
  | 0, i, l => ([], i, l)
  | m + 1, i, l => ((step i l).1 :: (argsF step m (step i l).2.1 (step i l).2.2).1, (argsF step m (step i l).2.1 (step i l).2.2).2)
def appG (np nf : Nat) {d : Nat} (step : Nat → List Int → Ex d × Nat × List Int) (least i : Nat) (l : List Int) : Ap d × Nat × List Int :=
  (((wordF np nf l).1, (argsF step (least + (nxF (5 - least) (wordF np nf l).2).1 - 1) i (nxF (5 - least) (wordF np nf l).2).2).1), (argsF step (least + (nxF (5 - least) (wordF np nf l).2).1 - 1) i (nxF (5 - least) (wordF np nf l).2).2).2)
def stepF (np nf : Nat) : (d : Nat) → Nat → List Int → Ex d × Nat × List Int
  | 0, i, l => ((wordF np nf (nxF 3 l).2).1, i, (wordF np nf (nxF 3 l).2).2)
  | d + 1, i, l => if (nxF 3 l).1 = 1 ∧ i < 3 then (.inr (appG np nf (stepF np nf d) 2 (i + 1) (nxF 3 l).2).1, (appG np nf (stepF np nf d) 2 (i + 1) (nxF 3 l).2).2) else (.inl (wordF np nf (nxF 3 l).2).1, i, (wordF np nf (nxF 3 l).2).2)
def appF (np nf d least i : Nat) (l : List Int) : Ap d × Nat × List Int := appG np nf (stepF np nf d) least i l
/-- A function without names: its number of parameters, its application. -/
structure Fb where
  np : Nat
  ap : Ap 2
def fnsF (nf : Nat) : Nat → Nat → List Int → List Fb
  | 0, _, _ => []
  | m + 1, i, l => ⟨if i = 0 then 0 else (nxF 4 l).1, (appF (if i = 0 then 0 else (nxF 4 l).1) nf 2 1 0 (nxF 4 l).2).1⟩ :: fnsF nf m (i + 1) (appF (if i = 0 then 0 else (nxF 4 l).1) nf 2 1 0 (nxF 4 l).2).2.2
def progF (l : List Int) : List Fb := fnsF ((nxF 4 l).1 + 1) ((nxF 4 l).1 + 1) 0 (nxF 4 l).2
theorem pickF_lt (c : Int) (n : Nat) (h : 0 < n) : pickF c n < n := by
  unfold pickF
  have h1 := Int.emod_nonneg (if c < 0 then -(c + 1) else c) (show (n : Int) ≠ 0 by omega)
  have h2 := Int.emod_lt_of_pos (if c < 0 then -(c + 1) else c) (show (0 : Int) < n by omega)
  omega
theorem nxF_lt (n : Nat) (l : List Int) (h : 0 < n) : (nxF n l).1 < n := by
  cases l with
  | nil => exact h
  | cons c l => exact pickF_lt c n h
theorem wordF_ok (np nf : Nat) (l : List Int) (hf : 0 < nf) : wOk np nf (wordF np nf l).1 ∧ ((wordF np nf l).1.1 = 1 → (wordF np nf l).1.2 < 1000) := by
  unfold wordF
  split
  · next h => have := nxF_lt np (nxF 10 l).2 h.2; exact ⟨.inr (.inl ⟨rfl, by simp only; omega, by simp only; omega⟩), fun e => by simp at e⟩
  · split
    · have := nxF_lt nf (nxF 10 l).2 hf; exact ⟨.inr (.inr (.inl ⟨rfl, by simp only; omega, by simp only; omega⟩)), fun e => by simp at e⟩
    · split
      · have := nxF_lt 1000 (nxF 10 l).2 (by omega); exact ⟨.inl ⟨rfl, by simp only; omega, by simp only; omega⟩, fun _ => by simp only; omega⟩
      · have := nxF_lt 5 (nxF 10 l).2 (by omega); exact ⟨.inr (.inr (.inr ⟨rfl, by simp only; omega, by simp only; omega⟩)), fun e => by simp at e⟩
/-- All words are small; applications have two to four parts. -/
def exS : (d : Nat) → Ex d → Prop
  | 0, x => x.1 = 1 → x.2 < 1000
  | _ + 1, .inl x => x.1 = 1 → x.2 < 1000
  | d + 1, .inr (h, l) => (h.1 = 1 → h.2 < 1000) ∧ l.length ≤ 3 ∧ ∀ e ∈ l, exS d e
structure StOk (np nf d : Nat) (step : Nat → List Int → Ex d × Nat × List Int) : Prop where
  ok : ∀ i l, exOk np nf d (step i l).1 ∧ exS d (step i l).1
  un : ∀ i l, (step i l).2.1 = i + unE d (step i l).1
  le : ∀ i l, i ≤ 3 → (step i l).2.1 ≤ 3
theorem argsF_ok {np nf d : Nat} {step : Nat → List Int → Ex d × Nat × List Int} (h : StOk np nf d step) : ∀ (m i : Nat) (l : List Int), (argsF step m i l).1.length = m ∧ (∀ e ∈ (argsF step m i l).1, exOk np nf d e ∧ exS d e) ∧ (argsF step m i l).2.1 = i + unA d (argsF step m i l).1 ∧ (i ≤ 3 → (argsF step m i l).2.1 ≤ 3)
  | 0, i, l => ⟨rfl, fun e he => by simp [argsF] at he, by simp [argsF, unA], fun h => h⟩
  | m + 1, i, l => by
    obtain ⟨a1, a2, a3, a4⟩ := argsF_ok h m (step i l).2.1 (step i l).2.2
    rw [argsF]
    refine ⟨by rw [List.length_cons, a1], fun e he => ?_, ?_, fun hi => a4 (h.le i l hi)⟩
    · rcases List.mem_cons.1 he with rfl | he
      · exact h.ok i l
      · exact a2 e he
    · simp only
      rw [a3, h.un i l]
      simp [unA]; omega
theorem appG_ok {np nf d : Nat} (hf : 0 < nf) {step : Nat → List Int → Ex d × Nat × List Int} (h : StOk np nf d step) (least i : Nat) (hl : 1 ≤ least) (hl2 : least ≤ 2) (l : List Int) :
    wOk np nf (appG np nf step least i l).1.1 ∧ ((appG np nf step least i l).1.1.1 = 1 → (appG np nf step least i l).1.1.2 < 1000) ∧ least - 1 ≤ (appG np nf step least i l).1.2.length ∧ (appG np nf step least i l).1.2.length ≤ 3 ∧ (∀ e ∈ (appG np nf step least i l).1.2, exOk np nf d e ∧ exS d e) ∧ (appG np nf step least i l).2.1 = i + unA d (appG np nf step least i l).1.2 ∧ (i ≤ 3 → (appG np nf step least i l).2.1 ≤ 3) := by
  obtain ⟨w1, w2⟩ := wordF_ok np nf l hf
  have hn := nxF_lt (5 - least) (wordF np nf l).2 (by omega)
  obtain ⟨a1, a2, a3, a4⟩ := argsF_ok h (least + (nxF (5 - least) (wordF np nf l).2).1 - 1) i (nxF (5 - least) (wordF np nf l).2).2
  unfold appG
  simp only
  exact ⟨w1, w2, by rw [a1]; omega, by rw [a1]; omega, a2, a3, a4⟩
theorem stepF_ok (np nf : Nat) (hf : 0 < nf) : ∀ d, StOk np nf d (stepF np nf d)
  | 0 => ⟨fun i l => wordF_ok np nf (nxF 3 l).2 hf, fun i l => rfl, fun i l h => h⟩
  | d + 1 => by
    have ih := stepF_ok np nf hf d
    refine ⟨fun i l => ?_, fun i l => ?_, fun i l h => ?_⟩
    · unfold stepF
      split
      · obtain ⟨a1, a2, a3, a4, a5, a6, a7⟩ := appG_ok hf ih 2 (i + 1) (by omega) (by omega) (nxF 3 l).2
        generalize appG np nf (stepF np nf d) 2 (i + 1) (nxF 3 l).2 = z at *
        obtain ⟨⟨z1, z2⟩, z3⟩ := z
        exact ⟨⟨a1, by simp only at a3; omega, by simp only at a4; omega, fun e he => (a5 e he).1⟩, a2, a4, fun e he => (a5 e he).2⟩
      · exact wordF_ok np nf (nxF 3 l).2 hf
    · unfold stepF
      split
      · obtain ⟨a1, a2, a3, a4, a5, a6, a7⟩ := appG_ok hf ih 2 (i + 1) (by omega) (by omega) (nxF 3 l).2
        generalize appG np nf (stepF np nf d) 2 (i + 1) (nxF 3 l).2 = z at *
        obtain ⟨⟨z1, z2⟩, z3⟩ := z
        simp only at a6 ⊢
        rw [a6]
        show _ = i + (1 + unA d z2)
        omega
      · rfl
    · unfold stepF
      split
      · next hc =>
        obtain ⟨a1, a2, a3, a4, a5, a6, a7⟩ := appG_ok hf ih 2 (i + 1) (by omega) (by omega) (nxF 3 l).2
        exact a7 (by omega)
      · exact h
structure FbOk (nf : Nat) (f : Fb) : Prop where
  np : f.np ≤ 3
  hd : wOk f.np nf f.ap.1
  hs : f.ap.1.1 = 1 → f.ap.1.2 < 1000
  ln : f.ap.2.length ≤ 3
  ag : ∀ e ∈ f.ap.2, exOk f.np nf 2 e ∧ exS 2 e
  un : unA 2 f.ap.2 ≤ 3
theorem fnsF_ok (nf : Nat) (hf : 0 < nf) : ∀ (m i : Nat) (l : List Int), (fnsF nf m i l).length = m ∧ ∀ f ∈ fnsF nf m i l, FbOk nf f
  | 0, _, _ => ⟨rfl, fun f hf => by simp [fnsF] at hf⟩
  | m + 1, i, l => by
    have hk := nxF_lt 4 l (by omega)
    have hnp : (if i = 0 then 0 else (nxF 4 l).1) ≤ 3 := by split <;> omega
    rw [fnsF]
    generalize (if i = 0 then 0 else (nxF 4 l).1) = np at *
    obtain ⟨a1, a2, a3, a4, a5, a6, a7⟩ := appG_ok hf (stepF_ok np nf hf 2) 1 0 (by omega) (by omega) (nxF 4 l).2
    obtain ⟨b1, b2⟩ := fnsF_ok nf hf m (i + 1) (appF np nf 2 1 0 (nxF 4 l).2).2.2
    refine ⟨by rw [List.length_cons, b1], fun f hm => ?_⟩
    rcases List.mem_cons.1 hm with rfl | hm
    · refine ⟨hnp, a1, a2, a4, a5, ?_⟩
      have := a7 (by omega)
      rw [a6] at this
      show unA 2 (appG np nf (stepF np nf 2) 1 0 (nxF 4 l).2).1.2 ≤ 3
      omega
    · exact b2 f hm
theorem fnsF_main (nf m : Nat) (l : List Int) : ∀ f, (fnsF nf m 0 l)[0]? = some f → f.np = 0 := by
  intro f h
  cases m with
  | zero => simp [fnsF] at h
  | succ m => simp [fnsF] at h; rw [← h]
theorem progF_ok (l : List Int) : 1 ≤ (progF l).length ∧ (progF l).length ≤ 4 ∧ (∀ f ∈ progF l, FbOk (progF l).length f) ∧ ∀ f, (progF l)[0]? = some f → f.np = 0 := by
  have hn := nxF_lt 4 l (by omega)
  unfold progF
  obtain ⟨a1, a2⟩ := fnsF_ok ((nxF 4 l).1 + 1) (by omega) ((nxF 4 l).1 + 1) 0 (nxF 4 l).2
  exact ⟨by omega, by omega, by rw [a1]; exact a2, fnsF_main _ _ _⟩
/-! Names. -/
def fNm (i : Nat) : List UInt8 := 102 :: decL i
def nmL (main : List UInt8) : Nat → List (List UInt8)
  | 0 => []
  | n + 1 => main :: (List.range n).map (fun i => fNm (i + 1))
def letL : List (List UInt8) := [[120], [121], [122]]
def named (nms : List (List UInt8)) (pl : List (List UInt8)) : List Fb → List (Fn 2)
  | l => l.zipWith (fun f n => ⟨n, pl.take f.np, f.ap.1, f.ap.2⟩) nms

end Go.Proofs.YtnndoagpbcacdaaGreatDoor
