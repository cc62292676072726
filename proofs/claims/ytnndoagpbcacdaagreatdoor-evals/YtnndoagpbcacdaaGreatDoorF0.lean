import Derived.Test.YtnndoagpbcacdaaGreatDoorMC5
import Derived.Test.YtnndoagpbcacdaaGreatDoorMK5
namespace Go.Proofs.YtnndoagpbcacdaaGreatDoor

/-! A text without a fault keeps to the bounds: its code is good. -/
/-- Every inner application keeps to the width. -/
def wdA : At → Prop
  | .nil => True
  | .sim _ r => wdA r
  | .par _ _ _ ag r => ag.cnt ≤ 7 ∧ wdA ag ∧ wdA r
theorem all_one {n : Nat} {g : Gr} {t : Tk} {r : List Tk} (h : (gAll n g (t :: r)).2 = 0) : (gTake g (kindOf t.txt)).1 = 0 ∧ (gAll n (gTake g (kindOf t.txt)).2 r).2 = 0 := by
  unfold gAll at h
  split at h
  · rename_i he; exact ⟨he, h⟩
  · rename_i he; exact absurd h he
def sec (g : Gr) : Int := if g.wi = 1 ∧ g.ar ≠ [] then 1 else 0
theorem count_in {g : Gr} (h : (gCount g).1 = 0) : g.wi < 8 ∧ (gCount g).2 = { g with wi := g.wi + 1, no := g.no + sec g } ∧ (g.no ≤ 12 → g.no + sec g ≤ 12) := by
  unfold gCount at h ⊢
  by_cases h1 : 8 ≤ g.wi
  · rw [if_pos h1] at h; simp at h
  · rw [if_neg h1] at h ⊢
    by_cases h2 : g.wi + 1 ≠ 2 ∨ g.ar = []
    · rw [if_pos h2] at h ⊢
      have : sec g = 0 := by
        unfold sec
        rw [if_neg]
        rintro ⟨a, b⟩
        rcases h2 with h2 | h2
        · omega
        · exact b h2
      rw [this]
      exact ⟨by omega, by simp, by omega⟩
    · rw [if_neg h2] at h ⊢
      have hs : sec g = 1 := by
        unfold sec
        rw [if_pos]
        refine ⟨?_, fun e => h2 (.inr e)⟩
        by_cases hw : g.wi = 1
        · exact hw
        · exact absurd (.inl (by omega)) h2
      by_cases h3 : 12 ≤ g.no
      · rw [if_pos h3] at h; simp at h
      · rw [if_neg h3] at h ⊢
        rw [hs]
        exact ⟨by omega, rfl, by omega⟩
theorem take_simple {g : Gr} {k : Int} (h3 : g.aw = 3) (hk : k = 1 ∨ k = 2 ∨ k = 3) : gTake g k = gCount g := by
  unfold gTake gPart
  rw [if_neg (by omega), if_neg (by omega), if_neg (by omega), if_neg (by omega), if_neg (by omega), if_neg (by omega), if_pos (by simpa [simpleK] using hk)]
structure GOn (a : At) (g g' : Gr) : Prop where
  aw : g'.aw = 3
  ar : g'.ar = g.ar
  fn : g'.fn = g.fn
  wi : g'.wi = g.wi + a.cnt
  no : g'.no = g.no + unT a + (if a.isNil then 0 else sec g)
  le : g.no ≤ 12 → g'.no ≤ 12
theorem at_go (n : Nat) : ∀ (a : At) (g : Gr) (rest : List Tk), a.ok → g.aw = 3 → 1 ≤ g.wi → g.wi ≤ 8 → (gAll n g (a.toks ++ rest)).2 = 0 → wdA a ∧ g.wi + a.cnt ≤ 8 ∧ ∃ g', (gAll n g' rest).2 = 0 ∧ GOn a g g' := by
  intro a
  induction a with
  | nil =>
    intro g rest _ h3 _ h8 h
    exact ⟨trivial, by simpa [At.cnt] using h8, g, h, h3, rfl, rfl, by simp [At.cnt], by simp [unT, At.isNil], fun h => h⟩
  | sim t r ih =>
    intro g rest hok h3 h1 _ h
    obtain ⟨k1, k2⟩ := all_one h
    rw [take_simple h3 hok.1] at k1 k2
    obtain ⟨c1, c2, c3⟩ := count_in k1
    rw [c2] at k2
    obtain ⟨i1, i2, g', i3, i4⟩ := ih { g with wi := g.wi + 1, no := g.no + sec g } rest hok.2 h3 (by simp only; omega) (by simp only; omega) k2
    have hs : sec { g with wi := g.wi + 1, no := g.no + sec g } = 0 := by
      unfold sec; rw [if_neg]; rintro ⟨a, _⟩; simp only at a; omega
    have j4 := i4.wi
    have j5 := i4.no
    simp only [hs, ite_self] at i2 j4 j5
    refine ⟨i1, by simp only [At.cnt]; omega, g', i3, i4.aw, i4.ar, i4.fn, by simp only [At.cnt]; omega, ?_, fun hl => i4.le (c3 hl)⟩
    simp only [unT, At.isNil, Bool.false_eq_true, if_false]
    omega
  | par o x c ag r ih1 ih2 =>
    intro g rest hok h3 h1 _ h
    obtain ⟨ho, hx, hc, hag, hr⟩ := hok
    rw [show (At.par o x c ag r).toks ++ rest = o :: x :: (ag.toks ++ (c :: (r.toks ++ rest))) by simp [At.toks]] at h
    obtain ⟨k1, k2⟩ := all_one h
    rw [ho] at k1 k2
    have e6 : gTake g 6 = gBegin g := by
      unfold gTake gPart
      rw [if_neg (by omega), if_neg (by omega), if_neg (by omega), if_neg (by decide), if_neg (by decide), if_pos rfl]
    rw [e6] at k1 k2
    have hc0 : (gCount g).1 = 0 := by
      unfold gBegin at k1
      by_cases hq : (gCount g).1 = 0
      · exact hq
      · rw [if_neg hq] at k1; exact absurd k1 hq
    obtain ⟨c1, c2, c3⟩ := count_in hc0
    have eB : (gBegin g).2 = { g with wi := g.wi + 1, no := g.no + sec g, ar := g.ar ++ [g.wi + 1], aw := 2 } := by
      unfold gBegin; rw [if_pos hc0, c2]
    rw [eB] at k2
    obtain ⟨l1, l2⟩ := all_one k2
    have eH : gTake { g with wi := g.wi + 1, no := g.no + sec g, ar := g.ar ++ [g.wi + 1], aw := 2 } (kindOf x.txt) = (0, { g with wi := 1, no := g.no + sec g, ar := g.ar ++ [g.wi + 1], aw := 3 }) := by
      unfold gTake gHead
      rw [if_neg (by simp), if_neg (by simp), if_pos rfl, if_pos (by unfold simp3 at hx; simpa [simpleK] using hx)]
    rw [eH] at l2
    obtain ⟨i1, i2, g1, i3, i4⟩ := ih1 { g with wi := 1, no := g.no + sec g, ar := g.ar ++ [g.wi + 1], aw := 3 } (c :: (r.toks ++ rest)) hag rfl (by simp only; omega) (by simp only; omega) l2
    obtain ⟨m1, m2⟩ := all_one i3
    rw [hc] at m1 m2
    have e7 : gTake g1 7 = gEndInner g1 := by
      unfold gTake gPart
      have := i4.aw
      rw [if_neg (by omega), if_neg (by omega), if_neg (by omega), if_neg (by decide), if_pos rfl]
    have ear := i4.ar
    simp only at ear
    have eE : gEndInner g1 = (0, { g1 with wi := g.wi + 1, ar := g.ar }) := by
      unfold gEndInner
      rw [if_neg (by rw [ear]; simp), ear]
      simp
    rw [e7, eE] at m2
    have jw := i4.wi
    have jn := i4.no
    have jl := i4.le
    have jf := i4.fn
    have s1 : sec { g with wi := 1, no := g.no + sec g, ar := g.ar ++ [g.wi + 1], aw := 3 } = 1 := by
      unfold sec; rw [if_pos]; exact ⟨rfl, by simp⟩
    simp only [s1] at jw jn jl jf i2
    obtain ⟨o1, o2, g', o3, o4⟩ := ih2 { g1 with wi := g.wi + 1, ar := g.ar } rest hr i4.aw (by simp only; omega) (by simp only; omega) m2
    have hs : sec { g1 with wi := g.wi + 1, ar := g.ar } = 0 := by
      unfold sec; rw [if_neg]; rintro ⟨a, _⟩; simp only at a; omega
    have j4 := o4.wi
    have j5 := o4.no
    have j6 := o4.le
    simp only [hs, ite_self] at o2 j4 j5 j6
    refine ⟨⟨by omega, i1, o1⟩, by simp only [At.cnt]; omega, g', o3, o4.aw, o4.ar, o4.fn.trans jf, by simp only [At.cnt]; omega, ?_, fun hl => j6 (jl (c3 hl))⟩
    have e1 : (At.par o x c ag r).isNil = false := rfl
    rw [e1]
    simp only [unT, Bool.false_eq_true, if_false]
    by_cases hn : ag.isNil = true
    · have : ag = .nil := by cases ag <;> simp_all [At.isNil]
      subst this
      simp [At.isNil, unT] at jn ⊢
      omega
    · simp [hn] at jn ⊢
      omega
theorem par_go (n : Nat) : ∀ (ps : List Tk) (g : Gr) (rest : List Tk), (∀ p ∈ ps, kindOf p.txt = 1) → g.aw = 1 → 0 ≤ g.pa → g.pa ≤ 6 → (gAll n g (ps ++ rest)).2 = 0 → g.pa + ps.length ≤ 6 ∧ (gAll n { g with pa := g.pa + ps.length } rest).2 = 0 := by
  intro ps
  induction ps with
  | nil => intro g rest _ h1 _ h6 h; exact ⟨by simpa using h6, by simpa using h⟩
  | cons p ps ih =>
    intro g rest hp h1 h0 _ h
    obtain ⟨k1, k2⟩ := all_one h
    have e : gTake g (kindOf p.txt) = gParameter g 1 := by
      unfold gTake; rw [hp p (by simp), if_neg (by omega), if_pos h1]
    rw [e] at k1 k2
    unfold gParameter at k1 k2
    rw [if_neg (by decide), if_neg (by simp)] at k1 k2
    by_cases h6 : 6 ≤ g.pa
    · rw [if_pos h6] at k1; simp at k1
    · rw [if_neg h6] at k2
      obtain ⟨i1, i2⟩ := ih { g with pa := g.pa + 1 } rest (fun q hq => hp q (by simp [hq])) h1 (by simp only; omega) (by simp only; omega) k2
      simp only at i1 i2
      rw [List.length_cons]
      refine ⟨by omega, ?_⟩
      rw [show g.pa + ((ps.length + 1 : Nat) : Int) = g.pa + 1 + (ps.length : Int) by omega]
      exact i2
/-- What keeps to the bounds. -/
def DfW (d : Df) : Prop := d.ps.length ≤ 6 ∧ ∃ h a, d.body = h :: At.toks a ∧ simp3 h ∧ a.ok ∧ a.cnt ≤ 7 ∧ wdA a ∧ unT a ≤ 12
theorem defs_go (n : Nat) {ts : List Tk} {ds : List Df} (hq : Shq ts ds) : ∀ g : Gr, g.aw = 0 → g.ar = [] → (gAll n g ts).2 = 0 → (∀ d ∈ ds, DfW d) ∧ (ds ≠ [] → g.fn + ds.length ≤ 16) ∧ (ds = [] → g.fn ≠ 0) := by
  induction hq with
  | nil =>
    intro g ha hr h
    refine ⟨fun d hd => by simp at hd, fun h => absurd rfl h, fun _ hf => ?_⟩
    unfold gAll at h
    rw [if_pos (.inl hf)] at h
    simp at h
  | cons nn ps e x a m r ds hn hp he hh hok hm hr ih =>
    intro g ha har h
    obtain ⟨k1, k2⟩ := all_one h
    have e1 : gTake g (kindOf nn.txt) = gFunction g 1 := by unfold gTake; rw [hn, if_pos ha]
    rw [e1] at k1 k2
    unfold gFunction at k1 k2
    rw [if_neg (by simp)] at k1 k2
    by_cases hf : 16 ≤ g.fn
    · rw [if_pos hf] at k1; simp at k1
    · rw [if_neg hf] at k2
      obtain ⟨l1, l2⟩ := par_go n ps { g with fn := g.fn + 1, pa := 0, aw := 1 } _ hp rfl (by simp) (by simp) k2
      simp only at l1 l2
      obtain ⟨m1, m2⟩ := all_one l2
      rw [he] at m1 m2
      have e2 : gTake { g with fn := g.fn + 1, pa := 0 + (ps.length : Int), aw := 1 } 4 = (0, { g with fn := g.fn + 1, pa := 0 + (ps.length : Int), no := 0, aw := 2 }) := by
        unfold gTake gParameter; rw [if_neg (by simp), if_pos rfl, if_pos rfl]
      rw [e2] at m2
      obtain ⟨n1, n2⟩ := all_one m2
      have e3 : gTake { g with fn := g.fn + 1, pa := 0 + (ps.length : Int), no := 0, aw := 2 } (kindOf x.txt) = (0, { g with fn := g.fn + 1, pa := 0 + (ps.length : Int), no := 0, wi := 1, aw := 3 }) := by
        unfold gTake gHead
        rw [if_neg (by simp), if_neg (by simp), if_pos rfl, if_pos (by unfold simp3 at hh; simpa [simpleK] using hh)]
      rw [e3] at n2
      obtain ⟨i1, i2, g', i3, i4⟩ := at_go n a { g with fn := g.fn + 1, pa := 0 + (ps.length : Int), no := 0, wi := 1, aw := 3 } (m :: r) hok rfl (by simp) (by simp) n2
      have jn := i4.no
      have jl := i4.le
      have jf := i4.fn
      have jr := i4.ar
      have s0 : sec { g with fn := g.fn + 1, pa := 0 + (ps.length : Int), no := 0, wi := 1, aw := 3 } = 0 := by
        unfold sec; rw [if_neg]; rintro ⟨_, b⟩; exact b har
      simp only [s0, ite_self] at jn jl jf jr i2
      obtain ⟨o1, o2⟩ := all_one i3
      have e4 : gTake g' (kindOf m.txt) = (0, { g' with aw := 0 }) := by
        unfold gTake gPart gEndDef
        have := i4.aw
        rw [hm, if_neg (by omega), if_neg (by omega), if_neg (by omega), if_pos rfl, if_pos (by rw [jr, har])]
      rw [e4] at o2
      obtain ⟨q1, q2, q3⟩ := ih { g' with aw := 0 } rfl (by simp only; rw [jr, har]) o2
      simp only at q2 q3
      refine ⟨fun d hd => ?_, fun _ => ?_, fun h => by simp at h⟩
      · rcases List.mem_cons.1 hd with rfl | hd
        · exact ⟨by simp only; omega, x, a, rfl, hh, hok, by omega, i1, by have := jl (by omega); omega⟩
        · exact q1 d hd
      · by_cases hd : ds = []
        · subst hd; simp; omega
        · have := q2 hd; rw [List.length_cons]; omega
/-- The lines of an application, by their numbers. -/
theorem own_in (f : Tk → Int × Int) (P : Int × Int → Prop) (N : Nat) (b : At) : ∀ k, (∀ t ∈ b.toks, simp3 t → P (f t)) → b.ok → k + unT b ≤ N → (∀ i : Nat, k ≤ i → i < N → P (5, (i : Int))) → ∀ x ∈ ownT f b k, P x := by
  induction b with
  | nil => intro k _ _ _ _ x hx; simp [ownT] at hx
  | sim t r ih =>
    intro k h1 hok hk h5 x hx
    simp only [ownT, List.mem_cons] at hx
    rcases hx with rfl | hx
    · exact h1 t (by simp [At.toks]) hok.1
    · exact ih k (fun u hu hs => h1 u (by simp [At.toks, hu]) hs) hok.2 hk h5 x hx
  | par o h c ag r ih1 ih2 =>
    intro k h1 hok hk h5 x hx
    by_cases hn : ag.isNil = true
    · simp only [ownT, unT, hn, if_true, List.mem_cons] at hx hk
      rcases hx with rfl | hx
      · exact h1 h (by simp [At.toks]) hok.2.1
      · exact ih2 k (fun u hu hs => h1 u (by simp [At.toks, hu]) hs) hok.2.2.2.2 hk h5 x hx
    · simp only [ownT, unT, hn, Bool.false_eq_true, if_false, List.mem_cons] at hx hk
      rcases hx with rfl | hx
      · exact h5 k (Nat.le_refl _) (by omega)
      · exact ih2 (k + 1 + unT ag) (fun u hu hs => h1 u (by simp [At.toks, hu]) hs) hok.2.2.2.2 (by omega) (fun i a b => h5 i (by omega) b) x hx
theorem own_cnt (f : Tk → Int × Int) (a : At) : ∀ k, (ownT f a k).length = a.cnt := by
  induction a with
  | nil => intro k; rfl
  | sim t r ih => intro k; simp [ownT, At.cnt, ih]
  | par o h c ag r ih1 ih2 =>
    intro k
    by_cases hn : ag.isNil = true
    · simp [ownT, At.cnt, hn, ih2]
    · simp [ownT, At.cnt, hn, ih2]
theorem rest_in (f : Tk → Int × Int) (Q : Nat → Ln → Prop) (b : At) : ∀ k N, k + unT b ≤ N → b.ok → wdA b → (∀ (h : Tk) (ag : At) (j : Nat), simp3 h → ag.ok → ag ≠ .nil → ag.cnt ≤ 7 → (∀ t ∈ h :: ag.toks, t ∈ b.toks) → j + 1 + unT ag ≤ N → Q j (f h :: ownT f ag (j + 1))) → ∀ (j : Nat) (l : Ln), (restT f b k)[j]? = some l → Q (k + j) l := by
  induction b with
  | nil => intro k N _ _ _ _ j l h; simp [restT] at h
  | sim t r ih =>
    intro k N hk hok hw hQ j l h
    exact ih k N hk hok.2 hw (fun h ag j a b c d e f' => hQ h ag j a b c d (fun t ht => by simp [At.toks, e t ht]) f') j l h
  | par o x c ag r ih1 ih2 =>
    intro k N hk hok hw hQ j l h
    obtain ⟨_, hx, _, hag, hr⟩ := hok
    obtain ⟨w1, w2, w3⟩ := hw
    have hsub2 : ∀ t ∈ r.toks, t ∈ (At.par o x c ag r).toks := fun t ht => by simp [At.toks, ht]
    have hsub1 : ∀ t ∈ ag.toks, t ∈ (At.par o x c ag r).toks := fun t ht => by simp [At.toks, ht]
    by_cases hn : ag.isNil = true
    · simp only [restT, unT, hn, if_true] at h hk
      exact ih2 k N hk hr w3 (fun h ag j a b c d e f' => hQ h ag j a b c d (fun t ht => hsub2 t (e t ht)) f') j l h
    · have hne : ag ≠ .nil := fun e => by subst e; simp [At.isNil] at hn
      simp only [restT, unT, hn, Bool.false_eq_true, if_false] at h hk
      cases j with
      | zero =>
        simp at h
        subst h
        exact hQ x ag k hx hag hne w1 (fun t ht => by
          rcases List.mem_cons.1 ht with rfl | ht
          · simp [At.toks]
          · exact hsub1 t ht) (by omega)
      | succ j =>
        rw [List.getElem?_cons_succ] at h
        by_cases hj : j < unT ag
        · rw [List.getElem?_append_left (by rw [restT_len]; exact hj)] at h
          have := ih1 (k + 1) N (by omega) hag w2 (fun h ag j a b c d e f' => hQ h ag j a b c d (fun t ht => hsub1 t (e t ht)) f') j l h
          rw [show k + (j + 1) = k + 1 + j by omega]; exact this
        · rw [List.getElem?_append_right (by rw [restT_len]; omega), restT_len] at h
          have := ih2 (k + 1 + unT ag) N (by omega) hr w3 (fun h ag j a b c d e f' => hQ h ag j a b c d (fun t ht => hsub2 t (e t ht)) f') (j - unT ag) l h
          rw [show k + (j + 1) = k + 1 + unT ag + (j - unT ag) by omega]; exact this
theorem goodLs_all {nf : Nat} {ar : Int} {nl : Nat} : ∀ {L : List Ln} {j : Nat}, (∀ (i : Nat) (l : Ln), L[i]? = some l → goodL nf ar nl (j + i) l = true) → goodLs nf ar nl j L = true
  | [], _, _ => rfl
  | l :: r, j, h => by
    rw [goodLs, Bool.and_eq_true]
    exact ⟨h 0 l rfl, goodLs_all (fun i x hx => by have := h (i + 1) x (by simpa using hx); rw [show j + 1 + i = j + (i + 1) by omega]; exact this)⟩
theorem goodA_5 {nf : Nat} {ar : Int} {nl j i : Nat} (h : i + 1 < nl) (hj : j ≤ i) : goodA nf ar nl j (5, (i : Int)) = true := by
  unfold goodA boundF
  simp
  omega
/-- The lines of a definition. -/
theorem good_lines {f : Tk → Int × Int} {nf : Nat} {ar : Int} {h : Tk} {a : At} (hh : simp3 h) (ha : a.ok) (h7 : a.cnt ≤ 7) (hw : wdA a) (h5 : ∀ t, (f t).1 ≠ 5) (hf : ∀ t ∈ h :: a.toks, simp3 t → 0 ≤ (f t).2 ∧ (f t).2 < boundF (f t).1 nf ar (unT a + 1)) :
    goodLs nf ar (unT a + 1) 0 (ownT f (.sim h a) 0 :: restT f (.sim h a) 0) = true := by
  have hg : ∀ (j : Nat) (t : Tk), t ∈ h :: a.toks → simp3 t → goodA nf ar (unT a + 1) j (f t) = true := fun j t ht hs => by
    obtain ⟨a1, a2⟩ := hf t ht hs
    unfold goodA
    simp [a1, a2, h5 t]
  refine goodLs_all fun i l hl => ?_
  rw [Nat.zero_add]
  cases i with
  | zero =>
    simp at hl
    subst hl
    unfold goodL
    have hlen : (ownT f (.sim h a) 0).length = a.cnt + 1 := own_cnt f (.sim h a) 0
    rw [hlen]
    have hall : (ownT f (.sim h a) 0).all (goodA nf ar (unT a + 1) 0) = true := by
      rw [List.all_eq_true]
      exact own_in f (fun x => goodA nf ar (unT a + 1) 0 x = true) (unT a) (.sim h a) 0 (fun t ht hs => hg 0 t ht hs) ⟨hh, ha⟩ (by simp [unT]) (fun i _ hi => goodA_5 (by omega) (Nat.zero_le _))
    rw [hall]
    simp [ownT, h5 h]
    omega
  | succ i =>
    rw [List.getElem?_cons_succ] at hl
    have := rest_in f (fun j l => goodL nf ar (unT a + 1) (j + 1) l = true) (.sim h a) 0 (unT a) (by simp [unT]) ⟨hh, ha⟩ hw (fun x ag j hx hag hne hc hm hj => by
      have hlen : (f x :: ownT f ag (j + 1)).length = ag.cnt + 1 := own_cnt f (.sim x ag) (j + 1)
      have hall : (f x :: ownT f ag (j + 1)).all (goodA nf ar (unT a + 1) (j + 1)) = true := by
        rw [List.all_eq_true]
        exact own_in f (fun x => goodA nf ar (unT a + 1) (j + 1) x = true) (unT a) (.sim x ag) (j + 1) (fun t ht hs => hg (j + 1) t (hm t ht) hs) ⟨hx, hag⟩ (by simp [unT]; omega) (fun i h1 hi => goodA_5 (by omega) h1)
      have hc1 : 1 ≤ ag.cnt := by cases ag <;> simp_all [At.cnt]
      unfold goodL
      rw [hlen, hall]
      simp [h5 x]
      omega) i l hl
    rw [Nat.zero_add] at this
    exact this
theorem chk_parts {s : ByteArray} (h : (chk s).2 = 0) : (gAll s.size g0 (toksF s 0)).2 = 0 ∧ mainE (cAll (toksF s 0)).ds = 0 := by
  unfold chk at h
  split at h
  · simp at h
  split at h
  · rename_i hg; exact absurd h hg
  rename_i hg
  split at h
  · rename_i hg; exact absurd h hg
  split at h
  · rename_i hg; exact absurd h hg
  exact ⟨by simpa using hg, h⟩
theorem known_in {ps nm : List Tk} {t : Tk} {nl : Nat} (hnum : (knownF ps nm t).1 = 1 → t.txt.size ≤ 6 ∧ digL t.txt.data.toList) : 0 ≤ (knownF ps nm t).2 ∧ (knownF ps nm t).2 < boundF (knownF ps nm t).1 nm.length (ps.length : Int) nl := by
  unfold knownF at hnum ⊢
  by_cases h1 : 0 ≤ primL t.txt.toList
  · rw [if_pos h1]
    refine ⟨h1, ?_⟩
    show _ < (5 : Int)
    obtain ⟨_, _, h⟩ := prim_get h1
    simp only
    omega
  · rw [if_neg h1] at hnum ⊢
    by_cases h2 : 0 ≤ whr ps t.txt
    · rw [if_pos h2]
      obtain ⟨i, hi, he, _⟩ := whr_get h2
      refine ⟨h2, ?_⟩
      show _ < (ps.length : Int)
      simp only
      omega
    · rw [if_neg h2] at hnum ⊢
      by_cases h3 : 0 ≤ whr nm t.txt
      · rw [if_pos h3]
        obtain ⟨i, hi, he, _⟩ := whr_get h3
        refine ⟨h3, ?_⟩
        show _ < (nm.length : Int)
        simp only
        omega
      · rw [if_neg h3] at hnum ⊢
        obtain ⟨n1, n2⟩ := hnum rfl
        obtain ⟨v1, v2⟩ := valL_le t.txt.data.toList n2
        refine ⟨v1, ?_⟩
        show _ < (1000000 : Int)
        have hl : t.txt.data.toList.length ≤ 6 := by rw [← size_len]; exact n1
        have hp : (10 : Int) ^ t.txt.data.toList.length ≤ 1000000 := (by decide : ∀ n : Nat, n < 7 → (10 : Int) ^ n ≤ 1000000) _ (by omega)
        simp only
        omega
/-- The code of a text without a fault is good. -/
theorem chk_good (s : ByteArray) (h : (chk s).2 = 0) : goodC (codeOf (cAll (toksF s 0)).ds) = true := by
  obtain ⟨_, hpr, _, _, _⟩ := prog_of s h
  have hsc := (prog_more s h).1
  obtain ⟨hga, hme⟩ := chk_parts h
  generalize (cAll (toksF s 0)).ds = ds at *
  obtain ⟨b1, b2, b3⟩ := defs_go s.size hpr.shq g0 rfl rfl hga
  have hne : ds ≠ [] := fun e => b3 e rfl
  have h16 := b2 hne
  have hge : (g0 : Gr).fn = 0 := rfl
  rw [hge] at h16
  have h1 : 1 ≤ ds.length := by
    cases ds with
    | nil => exact absurd rfl hne
    | cons a b => simp
  unfold mainE at hme
  by_cases hm0 : fnd ds mainB < 0
  · rw [if_pos hm0] at hme; simp at hme
  · rw [if_neg hm0] at hme
    have hm1 : 0 ≤ fnd ds mainB := by omega
    obtain ⟨i, hi, he, _⟩ := whr_get (show 0 ≤ whr (ds.map (·.name)) mainB from hm1)
    rw [List.length_map] at hi
    have hfi : fnd ds mainB = (i : Int) := he
    have hps : ¬ 0 < (ds[(fnd ds mainB).toNat]?.getD df0).ps.length := fun hq => by rw [if_pos hq] at hme; simp at hme
    rw [hfi, Int.toNat_natCast, List.getElem?_eq_getElem hi] at hps
    unfold goodC codeOf
    simp only [List.length_map, Bool.and_eq_true, decide_eq_true_eq, List.all_eq_true, List.mem_map]
    refine ⟨h1, by omega, hm1, by rw [hfi]; omega, ?_, ?_⟩
    · rintro t ⟨d, hd, rfl⟩
      obtain ⟨w1, hh, a, hbody, hs3, hok, h7, hw, h12⟩ := b1 d hd
      have hls := hsc d hd hh a hbody hs3 hok
      unfold goodT tpOf
      simp only [Bool.and_eq_true, decide_eq_true_eq]
      rw [← hls]
      have hlen : (ownT (knownF d.ps (ds.map (·.name))) (.sim hh a) 0 :: restT (knownF d.ps (ds.map (·.name))) (.sim hh a) 0).length = unT a + 1 := by rw [List.length_cons, restT_len]; rfl
      rw [hlen]
      refine ⟨by omega, by omega, by omega, by omega, ?_⟩
      refine good_lines hs3 hok h7 hw (knownF_ne5 _ _) (fun t ht hs => ?_)
      have := known_in (ps := d.ps) (nm := ds.map (·.name)) (t := t) (nl := unT a + 1) (hpr.num d hd t (hpr.shq.mem d hd t (by rw [hbody]; exact ht)) hs (by rw [hbody]; exact ht))
      rw [List.length_map] at this
      exact this
    · rw [hfi, Int.toNat_natCast, List.getElem?_map, List.getElem?_eq_getElem hi]
      show ((tpOf ds ds[i]).ar : Int) = 0
      unfold tpOf
      simp only [Option.getD_some] at hps
      simp only
      omega

end Go.Proofs.YtnndoagpbcacdaaGreatDoor
