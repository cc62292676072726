import Derived.Test.YtnndoagpbcacdaaGreatDoorMG10
import Derived.Test.YtnndoagpbcacdaaGreatDoorG14
import Derived.Test.YtnndoagpbcacdaaGreatDoorML0
import Derived.Test.YtnndoagpbcacdaaGreatDoorMI7
namespace Go.Proofs.YtnndoagpbcacdaaGreatDoor
open Go.RowKit

/-! The code of a grown program is good. -/
section
variable {np nf nl : Nat}
theorem wd_good {x : Wd} {j : Nat} (h : wOk np nf x) : goodA nf np nl j x = true := by
  unfold goodA boundF
  rcases h with ⟨h, h0, h1⟩ | ⟨h, h0, h1⟩ | ⟨h, h0, h1⟩ | ⟨h, h0, h1⟩
  · rw [if_pos h]; simp [h]; omega
  · rw [if_neg (by omega), if_pos h]; simp [h]; omega
  · rw [if_neg (by omega), if_neg (by omega), if_pos h]; simp [h]; omega
  · rw [if_neg (by omega), if_neg (by omega), if_neg (by omega), if_pos h]; simp [h]; omega
theorem wd_ne5 {x : Wd} (h : wOk np nf x) : x.1 ≠ 5 := by unfold wOk at h; omega
theorem nd_good {k j : Nat} (h1 : k + 1 ≤ nl - 1) (hj : j ≤ k) : goodA nf np nl j (5, (k : Int)) = true := by
  unfold goodA boundF
  simp
  omega
theorem own_good : ∀ (d : Nat) (l : List (Ex d)) (k j : Nat), (∀ e ∈ l, exOk np nf d e) → j ≤ k → k + unA d l ≤ nl - 1 → ∀ a ∈ ownA d l k, goodA nf np nl j a = true := by
  intro d l
  induction l with
  | nil => intro k j _ _ _ a ha; simp [ownA, ownL] at ha
  | cons e l ih =>
    intro k j h hj hk a ha
    have hu : unA d (e :: l) = unE d e + unA d l := by simp [unA]
    rw [hu] at hk
    have ho : ownA d (e :: l) k = partE d e k :: ownA d l (k + unE d e) := rfl
    rw [ho] at ha
    rcases List.mem_cons.1 ha with rfl | ha
    · have he := h e (by simp)
      cases d with
      | zero => exact wd_good he
      | succ d =>
        cases e with
        | inl x => exact wd_good (show wOk np nf x from he)
        | inr p =>
          obtain ⟨y, m⟩ := p
          have e1 : unE (d + 1) (.inr (y, m)) = 1 + unA d m := rfl
          rw [e1] at hk
          exact nd_good (by omega) hj
    · exact ih (k + unE d e) j (fun x hx => h x (by simp [hx])) (by omega) (by omega) a ha
theorem lines_len : ∀ (d : Nat), (∀ (e : Ex d) (k : Nat), (linesE d e k).length = unE d e) ∧ (∀ (l : List (Ex d)) (k : Nat), (restA d l k).length = unA d l) := by
  have hl : ∀ d, (∀ (e : Ex d) (k : Nat), (linesE d e k).length = unE d e) → (∀ (l : List (Ex d)) (k : Nat), (restA d l k).length = unA d l) := by
    intro d he l
    induction l with
    | nil => intro k; rfl
    | cons e l ih =>
      intro k
      have h1 : restA d (e :: l) k = linesE d e k ++ restA d l (k + unE d e) := rfl
      have hu : unA d (e :: l) = unE d e + unA d l := by simp [unA]
      rw [h1, List.length_append, he, ih, hu]
  intro d
  induction d with
  | zero => exact ⟨fun _ _ => rfl, hl 0 (fun _ _ => rfl)⟩
  | succ d ih =>
    have h0 : ∀ (e : Ex (d + 1)) (k : Nat), (linesE (d + 1) e k).length = unE (d + 1) e := by
      intro e k
      cases e with
      | inl x => rfl
      | inr p =>
        obtain ⟨y, m⟩ := p
        show ((y :: ownA d m (k + 1)) :: restA d m (k + 1)).length = 1 + unA d m
        rw [List.length_cons, ih.2]; omega
    exact ⟨h0, hl (d + 1) h0⟩
theorem own_len (d : Nat) (l : List (Ex d)) : ∀ k, (ownA d l k).length = l.length := by
  induction l with
  | nil => intro k; rfl
  | cons e l ih =>
    intro k
    have ho : ownA d (e :: l) k = partE d e k :: ownA d l (k + unE d e) := rfl
    rw [ho, List.length_cons, ih, List.length_cons]
theorem line_good {d : Nat} {h : Wd} {l : List (Ex d)} {k j : Nat} (hh : wOk np nf h) (hl : ∀ e ∈ l, exOk np nf d e) (h7 : l.length ≤ 7) (hj : j ≤ k) (hk : k + unA d l ≤ nl - 1) (h1 : 0 < j → 1 ≤ l.length) : goodL nf np nl j (h :: ownA d l k) = true := by
  unfold goodL
  have h5 := wd_ne5 hh
  have hol := own_len d l k
  have hall : (h :: ownA d l k).all (goodA nf np nl j) = true := by
    rw [List.all_eq_true]
    intro a ha
    rcases List.mem_cons.1 ha with rfl | ha
    · exact wd_good hh
    · exact own_good d l k j hl hj hk a ha
  rw [hall]
  simp [hol, h5]
  omega
theorem rest_good : ∀ (d : Nat), (∀ (e : Ex d) (k i : Nat) (ln : Ln), exOk np nf d e → k + unE d e ≤ nl - 1 → (linesE d e k)[i]? = some ln → goodL nf np nl (k + 1 + i) ln = true) ∧
    (∀ (l : List (Ex d)) (k i : Nat) (ln : Ln), (∀ e ∈ l, exOk np nf d e) → k + unA d l ≤ nl - 1 → (restA d l k)[i]? = some ln → goodL nf np nl (k + 1 + i) ln = true) := by
  have hl : ∀ d, (∀ (e : Ex d) (k i : Nat) (ln : Ln), exOk np nf d e → k + unE d e ≤ nl - 1 → (linesE d e k)[i]? = some ln → goodL nf np nl (k + 1 + i) ln = true) →
      (∀ (l : List (Ex d)) (k i : Nat) (ln : Ln), (∀ e ∈ l, exOk np nf d e) → k + unA d l ≤ nl - 1 → (restA d l k)[i]? = some ln → goodL nf np nl (k + 1 + i) ln = true) := by
    intro d he l
    induction l with
    | nil => intro k i ln _ _ h; simp [restA, rstL] at h
    | cons e l ih =>
      intro k i ln h hk hg
      have h1 : restA d (e :: l) k = linesE d e k ++ restA d l (k + unE d e) := rfl
      have hu : unA d (e :: l) = unE d e + unA d l := by simp [unA]
      rw [hu] at hk
      rw [h1] at hg
      have hlen := (lines_len d).1 e k
      by_cases hi : i < unE d e
      · rw [List.getElem?_append_left (by omega)] at hg
        exact he e k i ln (h e (by simp)) (by omega) hg
      · rw [List.getElem?_append_right (by omega), hlen] at hg
        have := ih (k + unE d e) (i - unE d e) ln (fun x hx => h x (by simp [hx])) (by omega) hg
        rw [show k + unE d e + 1 + (i - unE d e) = k + 1 + i by omega] at this
        exact this
  intro d
  induction d with
  | zero =>
    have h0 : ∀ (e : Ex 0) (k i : Nat) (ln : Ln), exOk np nf 0 e → k + unE 0 e ≤ nl - 1 → (linesE 0 e k)[i]? = some ln → goodL nf np nl (k + 1 + i) ln = true := fun e k i ln _ _ h => by simp [linesE] at h
    exact ⟨h0, hl 0 h0⟩
  | succ d ih =>
    have h0 : ∀ (e : Ex (d + 1)) (k i : Nat) (ln : Ln), exOk np nf (d + 1) e → k + unE (d + 1) e ≤ nl - 1 → (linesE (d + 1) e k)[i]? = some ln → goodL nf np nl (k + 1 + i) ln = true := by
      intro e k i ln h hk hg
      cases e with
      | inl x => simp [linesE] at hg
      | inr p =>
        obtain ⟨y, m⟩ := p
        obtain ⟨g1, g2, g3, g4⟩ := h
        have e1 : unE (d + 1) (.inr (y, m)) = 1 + unA d m := rfl
        have e2 : linesE (d + 1) (.inr (y, m)) k = (y :: ownA d m (k + 1)) :: restA d m (k + 1) := rfl
        rw [e1] at hk
        rw [e2] at hg
        cases i with
        | zero =>
          simp at hg
          rw [← hg]
          exact line_good g1 g4 g3 (by omega) (by omega) (fun _ => g2)
        | succ i =>
          rw [List.getElem?_cons_succ] at hg
          have := ih.2 m (k + 1) i ln g4 (by omega) hg
          rw [show k + 1 + 1 + i = k + 1 + (i + 1) by omega] at this
          exact this
    exact ⟨h0, hl (d + 1) h0⟩
theorem goodLs_of : ∀ (L : List Ln) (j : Nat), (∀ i l, L[i]? = some l → goodL nf np nl (j + i) l = true) → goodLs nf np nl j L = true
  | [], _, _ => rfl
  | l :: L, j, h => by
    rw [goodLs, Bool.and_eq_true]
    refine ⟨h 0 l rfl, goodLs_of L (j + 1) (fun i m hm => ?_)⟩
    have := h (i + 1) m (by simpa using hm)
    rw [show j + (i + 1) = j + 1 + i by omega] at this
    exact this
end
theorem fn_good {d : Nat} {σ : Sty} {fs : List (Fn d)} (h : PrOk σ fs) {f : Fn d} (hf : f ∈ fs) : goodT fs.length (fnCode f) = true := by
  obtain ⟨p1, _⟩ := h.pk f hf
  obtain ⟨a1, a2, _, a4⟩ := h.ag f hf
  have hln := (lines_len d).2 f.ag 0
  have hls : (fnCode f).ls.length = unA d f.ag + 1 := by show ((f.hd :: ownA d f.ag 0) :: restA d f.ag 0).length = _; rw [List.length_cons, hln]
  unfold goodT
  have hg : goodLs fs.length (fnCode f).ar (fnCode f).ls.length 0 (fnCode f).ls = true := by
    rw [hls]
    refine goodLs_of (np := f.pn.length) _ 0 (fun i l hl => ?_)
    rw [Nat.zero_add]
    have hl' : ((f.hd :: ownA d f.ag 0) :: restA d f.ag 0)[i]? = some l := hl
    cases i with
    | zero =>
      simp at hl'
      rw [← hl']
      exact line_good (h.hd f hf).1 a2 a1 (Nat.le_refl _) (by omega) (fun e => by omega)
    | succ i =>
      rw [List.getElem?_cons_succ] at hl'
      have := (rest_good (np := f.pn.length) (nf := fs.length) (nl := unA d f.ag + 1) d).2 f.ag 0 i l a2 (by omega) hl'
      rw [show 0 + 1 + i = i + 1 by omega] at this
      exact this
  rw [hg, hls]
  have har : (fnCode f).ar = (f.pn.length : Int) := rfl
  rw [har]
  simp
  omega
theorem prog_good {d : Nat} {σ : Sty} {fs : List (Fn d)} (h : PrOk σ fs) (i : Nat) (fm : Fn d) (hi : fs[i]? = some fm) (hp : fm.pn = []) : goodC ⟨(i : Int), fs.map fnCode⟩ = true := by
  have hlt := (List.getElem?_eq_some_iff.1 hi).1
  unfold goodC
  have hall : (fs.map fnCode).all (goodT (fs.map fnCode).length) = true := by
    rw [List.all_eq_true]
    intro t ht
    obtain ⟨f, hf, rfl⟩ := List.mem_map.1 ht
    rw [List.length_map]
    exact fn_good h hf
  have hm : ((fs.map fnCode)[(i : Int).toNat]?.getD ⟨0, []⟩).ar = 0 := by
    rw [Int.toNat_natCast, List.getElem?_map, hi]
    show (fm.pn.length : Int) = 0
    rw [hp]; rfl
  have h16 := h.n1
  simp only [hall, hm]
  simp
  omega
/-! The text of a program and what stands behind it. -/
theorem wd_ext {A B pn : List (List UInt8)} {np : Nat} {x : Wd} (h : wOk np A.length x) : wdT ⟨A ++ B, pn⟩ x = wdT ⟨A, pn⟩ x := by
  unfold wdT
  rcases h with ⟨h, h0, h1⟩ | ⟨h, h0, h1⟩ | ⟨h, h0, h1⟩ | ⟨h, h0, h1⟩
  · rw [if_pos h, if_pos h]
  · rw [if_neg (by omega), if_pos h, if_neg (by omega), if_pos h]
  · rw [if_neg (by omega), if_neg (by omega), if_pos h, if_neg (by omega), if_neg (by omega), if_pos h]
    show ((A ++ B)[x.2.toNat]?).getD [] = (A[x.2.toNat]?).getD []
    rw [List.getElem?_append_left (by omega)]
  · rw [if_neg (by omega), if_neg (by omega), if_neg (by omega), if_neg (by omega), if_neg (by omega), if_neg (by omega)]
theorem sh_ext {A B pn : List (List UInt8)} {np : Nat} : ∀ (d : Nat), (∀ (e : Ex d), exOk np A.length d e → shE ⟨A ++ B, pn⟩ d e = shE ⟨A, pn⟩ d e) ∧ (∀ (l : List (Ex d)), (∀ e ∈ l, exOk np A.length d e) → shA ⟨A ++ B, pn⟩ d l = shA ⟨A, pn⟩ d l) := by
  have hl : ∀ d, (∀ (e : Ex d), exOk np A.length d e → shE ⟨A ++ B, pn⟩ d e = shE ⟨A, pn⟩ d e) → (∀ (l : List (Ex d)), (∀ e ∈ l, exOk np A.length d e) → shA ⟨A ++ B, pn⟩ d l = shA ⟨A, pn⟩ d l) := by
    intro d he l
    induction l with
    | nil => intro _; rfl
    | cons e l ih =>
      intro h
      have e1 : ∀ N, shA N d (e :: l) = shE N d e ++ shA N d l := fun N => by simp [shA]
      rw [e1, e1, he e (h e (by simp)), ih (fun x hx => h x (by simp [hx]))]
  intro d
  induction d with
  | zero =>
    have h0 : ∀ (e : Ex 0), exOk np A.length 0 e → shE ⟨A ++ B, pn⟩ 0 e = shE ⟨A, pn⟩ 0 e := fun e h => by
      show 32 :: wdT _ e = 32 :: wdT _ e
      rw [wd_ext h]
    exact ⟨h0, hl 0 h0⟩
  | succ d ih =>
    have h0 : ∀ (e : Ex (d + 1)), exOk np A.length (d + 1) e → shE ⟨A ++ B, pn⟩ (d + 1) e = shE ⟨A, pn⟩ (d + 1) e := by
      intro e h
      cases e with
      | inl x =>
        show 32 :: wdT _ x = 32 :: wdT _ x
        rw [wd_ext (show wOk np A.length x from h)]
      | inr p =>
        obtain ⟨y, m⟩ := p
        show 32 :: 40 :: (wdT _ y ++ (shA _ d m ++ [41])) = 32 :: 40 :: (wdT _ y ++ (shA _ d m ++ [41]))
        rw [wd_ext h.1, ih.2 m h.2.2.2]
    exact ⟨h0, hl (d + 1) h0⟩

end Go.Proofs.YtnndoagpbcacdaaGreatDoor
namespace Go.Proofs.YtnndoagpbcacdaaGreatDoor
open Go.RowKit

/-! Parts by hand: a word, an application. -/
def wE : (d : Nat) → Wd → Ex d
  | 0, x => x
  | _ + 1, x => .inl x
def aE {d : Nat} (h : Wd) (l : List (Ex d)) : Ex (d + 1) := .inr (h, l)
section
variable {d k np nf : Nat} {x h : Wd} {l : List (Ex d)} {N : Nms}
theorem unE_w : unE d (wE d x) = 0 := by cases d <;> rfl
theorem unE_a : unE (d + 1) (aE h l) = 1 + unA d l := rfl
theorem ok_w : exOk np nf d (wE d x) = wOk np nf x := by cases d <;> rfl
theorem ok_a : exOk np nf (d + 1) (aE h l) = (wOk np nf h ∧ 1 ≤ l.length ∧ l.length ≤ 7 ∧ ∀ e ∈ l, exOk np nf d e) := rfl
theorem pc_w : pcE N d (wE d x) = [[32], wdT N x] := by cases d <;> rfl
theorem pc_a : pcE N (d + 1) (aE h l) = [32] :: [40] :: wdT N h :: (pcA N d l ++ [[41]]) := rfl
theorem part_w : partE d (wE d x) k = x := by cases d <;> rfl
theorem part_a : partE (d + 1) (aE h l) k = (5, (k : Int)) := rfl
theorem lines_w : linesE d (wE d x) k = [] := by cases d <;> rfl
theorem lines_a : linesE (d + 1) (aE h l) k = (h :: ownA d l (k + 1)) :: restA d l (k + 1) := rfl
theorem unA_n : unA d [] = 0 := rfl
theorem unA_c (e : Ex d) : unA d (e :: l) = unE d e + unA d l := by simp [unA]
theorem pcA_n : pcA N d [] = [] := rfl
theorem pcA_c (e : Ex d) : pcA N d (e :: l) = pcE N d e ++ pcA N d l := by simp [pcA]
theorem ownA_n : ownA d [] k = [] := rfl
theorem ownA_c (e : Ex d) : ownA d (e :: l) k = partE d e k :: ownA d l (k + unE d e) := rfl
theorem restA_n : restA d [] k = [] := rfl
theorem restA_c (e : Ex d) : restA d (e :: l) k = linesE d e k ++ restA d l (k + unE d e) := rfl
end

end Go.Proofs.YtnndoagpbcacdaaGreatDoor
namespace Go.Proofs.YtnndoagpbcacdaaGreatDoor
open Go.RowKit

/-! A grown program's text, with functions behind it: it is a program, and its code is told. -/
theorem names_of {main : ByteArray} {ns : List ByteArray} (h : NmsB main ns) : ns.map (fun s => s.data.toList) = nmL main.data.toList ns.length := by
  refine List.ext_getElem? (fun j => ?_)
  rw [List.getElem?_map]
  cases hq : ns[j]? with
  | none =>
    have := List.getElem?_eq_none_iff.1 hq
    rw [List.getElem?_eq_none (by rw [nmL_len]; exact this)]; rfl
  | some x =>
    have hj := (List.getElem?_eq_some_iff.1 hq).1
    have hx := h j x hq
    obtain ⟨n, hn⟩ : ∃ n, ns.length = n + 1 := ⟨ns.length - 1, by omega⟩
    rw [hn, nmL]
    cases j with
    | zero => have : x = main := hx; subst this; rfl
    | succ j =>
      rw [List.getElem?_cons_succ, List.getElem?_map, List.getElem?_range (by omega)]
      show some x.data.toList = some (fNm (j + 1))
      rw [show x.data.toList = fNm (j + 1) from hx]
theorem letB_take (n : Nat) : (letB.take n).map (fun s => s.data.toList) = letL.take n := by rw [List.map_take]; rfl
/-- What plain gives is what is shown. -/
theorem plain_text {main : ByteArray} {ns : List ByteArray} (h : NmsB main ns) (fb : List Fb) (hl : ns.length = fb.length) (hfb : ∀ b ∈ fb, FbOk fb.length b) (ex : List (Fn 2)) :
    (fzOf ns fb).flatMap (fzS ns) = (namedF main.data.toList fb).flatMap (fnShow (namedF main.data.toList fb ++ ex)) := by
  have hns := names_of h
  have hnames : ∀ f : Fn 2, nmsOf (namedF main.data.toList fb ++ ex) f = ⟨nmL main.data.toList fb.length ++ ex.map (·.nm), f.pn⟩ := fun f => by
    unfold nmsOf; rw [List.map_append, namedF_names]
  rw [List.flatMap_def, List.flatMap_def]
  congr 1
  refine List.ext_getElem? (fun j => ?_)
  rw [List.getElem?_map, List.getElem?_map]
  by_cases hj : j < fb.length
  · rw [namedF_get hj]
    have hz : (fzOf ns fb)[j]? = some ⟨ns[j]'(by omega), letB.take fb[j].np, fb[j].ap⟩ := by
      unfold fzOf
      rw [List.getElem?_zipWith, List.getElem?_eq_getElem hj, List.getElem?_eq_getElem (by omega)]
    rw [hz]
    simp only [Option.map_some]
    congr 1
    have hb := hfb fb[j] (List.getElem_mem hj)
    have hnm : (ns[j]'(by omega)).data.toList = if j = 0 then main.data.toList else fNm j := by
      have := h j _ (List.getElem?_eq_getElem (by omega))
      cases j with
      | zero => rw [show ns[0] = main from this]; rfl
      | succ j => rw [show (ns[j + 1]'(by omega)).data.toList = fNm (j + 1) from this, if_neg (by omega)]
    have hN : nmsB ns (letB.take fb[j].np) = ⟨nmL main.data.toList fb.length, letL.take fb[j].np⟩ := by
      unfold nmsB; rw [hns, hl, letB_take]
    have hlen : (nmL main.data.toList fb.length).length = fb.length := nmL_len _ _
    have hw : wdT ⟨nmL main.data.toList fb.length ++ ex.map (·.nm), letL.take fb[j].np⟩ fb[j].ap.1 = wdT ⟨nmL main.data.toList fb.length, letL.take fb[j].np⟩ fb[j].ap.1 := wd_ext (np := fb[j].np) (by rw [hlen]; exact hb.hd)
    have hs : shA ⟨nmL main.data.toList fb.length ++ ex.map (·.nm), letL.take fb[j].np⟩ 2 fb[j].ap.2 = shA ⟨nmL main.data.toList fb.length, letL.take fb[j].np⟩ 2 fb[j].ap.2 := (sh_ext (np := fb[j].np) 2).2 _ (fun e he => by rw [hlen]; exact (hb.ag e he).1)
    unfold fzS fnShow
    rw [hnames]
    simp only
    rw [hnm, hN, hw, hs]
    have hps : (letB.take fb[j].np).flatMap (fun p => 32 :: p.data.toList) = (letL.take fb[j].np).flatMap (fun p => 32 :: p) := by
      rw [← letB_take, List.flatMap_map]
    rw [hps]
    simp
  · rw [List.getElem?_eq_none (by rw [fzOf_len (by omega)]; omega), List.getElem?_eq_none (by rw [namedF_len]; omega)]
    rfl
theorem ex_ln : ∀ {d : Nat} {e : Ex d}, exS d e → exLn d e
  | 0, _, _ => trivial
  | _ + 1, .inl _, _ => trivial
  | _ + 1, .inr (_, _), h => ⟨by have := h.2.1; omega, fun e he => ex_ln (h.2.2 e he)⟩
theorem fz_ln {ns : List ByteArray} {fb : List Fb} (hfb : ∀ b ∈ fb, FbOk fb.length b) : ∀ f ∈ fzOf ns fb, f.ps.length ≤ 1000 ∧ f.ap.2.length ≤ 1000 ∧ ∀ e ∈ f.ap.2, exLn 2 e := by
  intro f hf
  obtain ⟨j, hj⟩ := List.mem_iff_getElem?.1 hf
  unfold fzOf at hj
  rw [List.getElem?_zipWith] at hj
  obtain ⟨b, hb0⟩ : ∃ b, fb[j]? = some b := by
    cases hq : fb[j]? with
    | none => rw [hq] at hj; simp at hj
    | some b => exact ⟨b, rfl⟩
  obtain ⟨n, hn0⟩ : ∃ n, ns[j]? = some n := by
    cases hq : ns[j]? with
    | none => rw [hb0, hq] at hj; simp at hj
    | some b => exact ⟨b, rfl⟩
  rw [hb0, hn0] at hj
  have hb := hfb b (List.mem_of_getElem? hb0)
  have hj' : (⟨n, letB.take b.np, b.ap⟩ : Fz) = f := by simpa using hj
  subst hj'
  refine ⟨?_, by have := hb.ln; simp only; omega, fun e he => ex_ln (hb.ag e he).2⟩
  simp only [List.length_take]
  show min _ 3 ≤ 1000
  omega
theorem named_len {main : List UInt8} (hm : main.length ≤ 4) {fb : List Fb} (h4 : fb.length ≤ 4) : ∀ x ∈ nmL main fb.length, x.length ≤ 4 := by
  intro x hx
  cases hn : fb.length with
  | zero => rw [hn] at hx; simp [nmL] at hx
  | succ n =>
    rw [hn, nmL] at hx
    rcases List.mem_cons.1 hx with rfl | hx
    · exact hm
    · obtain ⟨i, hi, rfl⟩ := List.mem_map.1 hx
      have := List.mem_range.1 hi
      unfold fNm
      rw [decL_lt _ (by omega)]; simp
theorem plain_len {main : List UInt8} (hm : main.length ≤ 4) {fb : List Fb} (h4 : fb.length ≤ 4) (hfb : ∀ b ∈ fb, FbOk fb.length b) (ex : List (Fn 2)) (hex : ∀ f ∈ ex, f.nm.length ≤ 4) : ((namedF main fb).flatMap (fnShow (namedF main fb ++ ex))).length ≤ 110 * fb.length := by
  have hall : ∀ g ∈ namedF main fb ++ ex, g.nm.length ≤ 4 := by
    intro g hg
    rcases List.mem_append.1 hg with hg | hg
    · obtain ⟨b, _, n, hn, rfl⟩ := namedF_mem hg
      exact named_len hm h4 n hn
    · exact hex g hg
  have key : ∀ (l : List (Fn 2)), (∀ f ∈ l, (fnShow (namedF main fb ++ ex) f).length ≤ 110) → (l.flatMap (fnShow (namedF main fb ++ ex))).length ≤ 110 * l.length := by
    intro l
    induction l with
    | nil => intro _; simp
    | cons f l ih =>
      intro h
      have h1 := h f (by simp)
      have h2 := ih (fun g hg => h g (by simp [hg]))
      rw [List.flatMap_cons, List.length_append, List.length_cons]; omega
  have := key (namedF main fb) (fun f hf => by
    obtain ⟨b, hb, n, hn, rfl⟩ := namedF_mem hf
    exact fn_len (hfb b hb) (by rw [List.length_append, namedF_len]; omega) hall (named_len hm h4 n hn) rfl rfl rfl)
  rw [namedF_len] at this
  exact this
/-- The whole. -/
theorem text_ok {main : ByteArray} {fb : List Fb} (ex : List (Fn 2)) (bl : List (List (List UInt8))) (hbl : bl.length = ex.length) (hblk : ∀ b ∈ bl, ∀ p ∈ b, blkP p = true)
    (hpr : PrOk σ0 (namedF main.data.toList fb ++ ex)) (hnm : ∀ f ∈ namedF main.data.toList fb ++ ex, namP f.nm ∧ ∀ p ∈ f.pn, namP p) (i : Nat) (fm : Fn 2) (hi : (namedF main.data.toList fb ++ ex)[i]? = some fm) (hmm : fm.nm = mainT) (hmp : fm.pn = [])
    (s : ByteArray) (hsz : s.size ≤ 1000) (hs : s.data.toList = (namedF main.data.toList fb).flatMap (fnShow (namedF main.data.toList fb ++ ex)) ++ ((ex.zip bl).flatMap (fun x => fnPc (namedF main.data.toList fb ++ ex) x.1 ++ x.2)).flatten) :
    (chk s).2 = 0 ∧ codeOf (cAll (toksF s 0)).ds = ⟨(i : Int), (namedF main.data.toList fb ++ ex).map fnCode⟩ ∧ goodC ⟨(i : Int), (namedF main.data.toList fb ++ ex).map fnCode⟩ = true ∧ progL (cAll (toksF s 0)).ds = (namedF main.data.toList fb ++ ex).flatMap (fnShow (namedF main.data.toList fb ++ ex)) := by
  have ht : (toksF s 0).map txL = (namedF main.data.toList fb ++ ex).flatMap (fnTk σ0 (namedF main.data.toList fb ++ ex)) := by
    refine text_toks hpr hnm s ((namedF main.data.toList fb).map (fun _ => [[10]]) ++ bl) (by simp [hbl]) ?_ ?_
    · intro b hb
      rcases List.mem_append.1 hb with hb | hb
      · obtain ⟨_, _, rfl⟩ := List.mem_map.1 hb
        intro p hp; simp at hp; subst hp; decide
      · exact hblk b hb
    · rw [hs, List.zip_append (by simp), List.flatMap_append, List.flatten_append]
      congr 1
      have key : ∀ (l : List (Fn 2)), (∀ f ∈ l, f ∈ namedF main.data.toList fb ++ ex) → l.flatMap (fnShow (namedF main.data.toList fb ++ ex)) = ((l.zip (l.map (fun _ => [[10]]))).flatMap (fun x => fnPc (namedF main.data.toList fb ++ ex) x.1 ++ x.2)).flatten := by
        intro l
        induction l with
        | nil => intro _; rfl
        | cons f l ih =>
          intro h
          have e1 := (fn_pieces hpr hnm (h f (by simp))).2.2
          rw [List.flatMap_cons, ih (fun g hg => h g (by simp [hg])), List.map_cons, List.zip_cons_cons, List.flatMap_cons, List.flatten_append, List.flatten_append, ← e1]
          simp
      exact key _ (fun f hf => List.mem_append_left _ hf)
  obtain ⟨a, b, c⟩ := prog_ok hpr i fm hi hmm hmp s hsz ht
  exact ⟨a, b, prog_good hpr i fm hi hmp, c⟩

end Go.Proofs.YtnndoagpbcacdaaGreatDoor
namespace Go.Proofs.YtnndoagpbcacdaaGreatDoor
open Go.RowKit

/-! Grown programs by themselves, and with functions behind them. -/
theorem nm_ok {main : List UInt8} (h : namP main ∧ kdL main = 1) : ∀ n, n ≤ 4 → ∀ x ∈ nmL main n, namP x ∧ kdL x = 1 := by
  intro n hn x hx
  cases n with
  | zero => simp [nmL] at hx
  | succ n =>
    rw [nmL] at hx
    rcases List.mem_cons.1 hx with rfl | hx
    · exact h
    · obtain ⟨i, hi, rfl⟩ := List.mem_map.1 hx
      have := List.mem_range.1 hi
      unfold fNm
      rw [decL_lt _ (by omega)]
      have hi3 : i = 0 ∨ i = 1 ∨ i = 2 := by omega
      rcases hi3 with rfl | rfl | rfl
      · exact ⟨⟨102, _, rfl, by decide, by intro b hb; simp at hb; subst hb; right; decide⟩, by decide⟩
      · exact ⟨⟨102, _, rfl, by decide, by intro b hb; simp at hb; subst hb; right; decide⟩, by decide⟩
      · exact ⟨⟨102, _, rfl, by decide, by intro b hb; simp at hb; subst hb; right; decide⟩, by decide⟩
theorem main_nam : namP mainT ∧ kdL mainT = 1 := ⟨⟨109, [97, 105, 110], rfl, by decide, by decide⟩, by decide⟩
theorem nmL_four (main : List UInt8) (n : Nat) (h1 : 1 ≤ n) (h4 : n ≤ 4) : nmL main n = main :: ([[102, 49], [102, 50], [102, 51]] : List (List UInt8)).take (n - 1) := by
  have : n = 1 ∨ n = 2 ∨ n = 3 ∨ n = 4 := by omega
  have d1 : decL 1 = [49] := by rw [decL_lt _ (by omega)]; rfl
  have d2 : decL 2 = [50] := by rw [decL_lt _ (by omega)]; rfl
  have d3 : decL 3 = [51] := by rw [decL_lt _ (by omega)]; rfl
  rcases this with rfl | rfl | rfl | rfl <;> simp [nmL, fNm, List.range, List.range.loop, d1, d2, d3]
theorem names_nd (main : List UInt8) (more : List (List UInt8)) (n : Nat) (h1 : 1 ≤ n) (h4 : n ≤ 4) (h : (main :: ([[102, 49], [102, 50], [102, 51]] ++ more)).Nodup) : (nmL main n ++ more).Nodup := by
  rw [nmL_four main n h1 h4]
  refine h.sublist ?_
  rw [List.cons_append]
  exact List.Sublist.cons_cons _ (List.Sublist.append (List.take_sublist _ _) (List.Sublist.refl _))
theorem names_in (main : List UInt8) (more : List (List UInt8)) (n : Nat) (h1 : 1 ≤ n) (h4 : n ≤ 4) {x : List UInt8} (hx : x ∈ nmL main n ++ more) : x ∈ main :: ([[102, 49], [102, 50], [102, 51]] ++ more) := by
  rw [nmL_four main n h1 h4] at hx
  rcases List.mem_append.1 hx with hx | hx
  · rcases List.mem_cons.1 hx with rfl | hx
    · simp
    · exact List.mem_cons_of_mem _ (List.mem_append_left _ (List.mem_of_mem_take hx))
  · exact List.mem_cons_of_mem _ (List.mem_append_right _ hx)
theorem nz0 (x : Wd) : nzOk σ0 x := fun h => by simp [σ0] at h
/-- A program alone. -/
theorem base_ok (L : List Int) (main : ByteArray) (hm : main.data.toList = mainT) (x : ByteArray) (ns : List ByteArray) (hns : NmsB main ns) (hl : ns.length = (progF L).length) (hx : x.data.toList = (fzOf ns (progF L)).flatMap (fzS ns)) :
    x.size ≤ 440 ∧ (chk x).2 = 0 ∧ codeOf (cAll (toksF x 0)).ds = ⟨0, (namedF mainT (progF L)).map fnCode⟩ ∧ goodC ⟨0, (namedF mainT (progF L)).map fnCode⟩ = true ∧ progL (cAll (toksF x 0)).ds = x.data.toList := by
  obtain ⟨p1, p2, p3, p4⟩ := progF_ok L
  have ht := plain_text hns (progF L) hl p3 []
  rw [hm] at ht
  rw [ht] at hx
  have hlen := plain_len (main := mainT) (by decide) p2 p3 [] (fun f hf => by simp at hf)
  have hsz : x.size ≤ 440 := by rw [size_len, hx]; omega
  obtain ⟨hpr, hnm⟩ := pr_more (σ := σ0) (fun x _ => nz0 x) (main := mainT) p3 p1 p2 [] (by simp) (nm_ok main_nam _ p2)
    (names_nd mainT [] _ p1 p2 (by decide)) (fun p hp hq => (show ∀ p ∈ letL, p ∉ mainT :: ([[102, 49], [102, 50], [102, 51]] ++ ([] : List (List UInt8))) by decide) p hp (names_in mainT [] _ p1 p2 hq)) (fun f hf => by simp at hf) (fun f hf => by simp at hf)
  have hlt : 0 < (progF L).length := by omega
  have hi : (namedF mainT (progF L) ++ [])[0]? = some ⟨mainT, letL.take (progF L)[0].np, (progF L)[0].ap.1, (progF L)[0].ap.2⟩ := by rw [List.append_nil, namedF_get hlt]; rfl
  have hp0 := p4 _ (List.getElem?_eq_getElem hlt)
  have h := text_ok (main := main) (fb := progF L) [] [] rfl (by simp) (by rw [hm]; exact hpr) (by rw [hm]; exact hnm) 0 ⟨mainT, letL.take (progF L)[0].np, (progF L)[0].ap.1, (progF L)[0].ap.2⟩ (by rw [hm]; exact hi) rfl (by show letL.take _ = []; rw [hp0]; rfl) x (by omega) (by rw [hm, hx]; simp)
  rw [hm, List.append_nil] at h
  obtain ⟨a, b, c, d⟩ := h
  rw [List.append_nil] at hx
  exact ⟨hsz, a, b, c, by rw [d, hx]⟩

end Go.Proofs.YtnndoagpbcacdaaGreatDoor
namespace Go.Proofs.YtnndoagpbcacdaaGreatDoor
open Go.RowKit

/-! Unneeded. -/
def unX (n : Nat) (v : Int) : List (Fn 2) := [⟨mainT, [], (3, ((n + 1 : Nat) : Int)), [wE 2 (1, v), aE (3, 0) [wE 1 (1, 1)]]⟩, ⟨[107], [[97], [98]], (2, 0), []⟩]
def unTx (v : Nat) : List UInt8 := [109, 97, 105, 110, 32, 61, 32, 107, 32] ++ (decL v ++ [32, 40, 109, 32, 49, 41, 59, 32, 107, 32, 97, 32, 98, 32, 61, 32, 97, 59])
theorem one_nam (b : UInt8) (h : isL (n8 b) = true) : namP [b] := ⟨b, [], rfl, h, by simp⟩
theorem un_ok (L : List Int) (v : Nat) (hv : v ≤ 999999) (main : ByteArray) (hm : main.data.toList = [109]) (x : ByteArray) (ns : List ByteArray) (hns : NmsB main ns) (hl : ns.length = (progF L).length) (hx : x.data.toList = (fzOf ns (progF L)).flatMap (fzS ns) ++ unTx v) :
    x.size ≤ 1000 ∧ (chk x).2 = 0 ∧ ∃ A : List Tp, codeOf (cAll (toksF x 0)).ds = ⟨(A.length : Int), A ++ [⟨0, [[(3, ((A.length + 1 : Nat) : Int)), (1, (v : Int)), (5, 0)], [(3, 0), (1, 1)]]⟩, ⟨2, [[(2, 0)]]⟩]⟩ ∧ goodC ⟨(A.length : Int), A ++ [⟨0, [[(3, ((A.length + 1 : Nat) : Int)), (1, (v : Int)), (5, 0)], [(3, 0), (1, 1)]]⟩, ⟨2, [[(2, 0)]]⟩]⟩ = true := by
  obtain ⟨p1, p2, p3, p4⟩ := progF_ok L
  have ht := plain_text hns (progF L) hl p3 (unX (progF L).length v)
  rw [hm] at ht
  rw [ht] at hx
  have hlen := plain_len (main := [109]) (by decide) p2 p3 (unX (progF L).length v) (fun f hf => by
    simp only [unX, List.mem_cons, List.not_mem_nil, or_false] at hf
    rcases hf with rfl | rfl
    · show mainT.length ≤ 4; decide
    · show ([107] : List UInt8).length ≤ 4; decide)
  have hdl := decL_six v (by omega)
  have hsz : x.size ≤ 1000 := by rw [size_len, hx, List.length_append]; simp only [unTx, List.length_append, List.length_cons, List.length_nil]; omega
  have hnx : (unX (progF L).length v).map (·.nm) = [mainT, [107]] := rfl
  have hmain : namP [109] ∧ kdL [109] = 1 := ⟨one_nam 109 (by decide), by decide⟩
  obtain ⟨hpr, hnm⟩ := pr_more (σ := σ0) (fun x _ => nz0 x) (main := [109]) p3 p1 p2 (unX (progF L).length v) (by simp [unX]) (nm_ok hmain _ p2)
    (by rw [hnx]; exact names_nd [109] [mainT, [107]] _ p1 p2 (by decide))
    (fun p hp hq => by
      rw [hnx] at hq
      exact (show ∀ p ∈ letL, p ∉ [109] :: ([[102, 49], [102, 50], [102, 51]] ++ ([mainT, [107]] : List (List UInt8))) by decide) p hp (names_in [109] [mainT, [107]] _ p1 p2 hq))
    (fun f hf => by
      simp only [unX, List.mem_cons, List.not_mem_nil, or_false] at hf
      rw [hnx]
      rcases hf with rfl | rfl
      · refine ⟨main_nam, ⟨by simp, by simp, by simp⟩, .inr (.inr (.inl ⟨rfl, by simp only; omega, by simp [unX]⟩)), by simp, ?_, by simp [unA_c, unA_n, unE_w, unE_a]⟩
        intro e he
        simp only [List.mem_cons, List.not_mem_nil, or_false] at he
        rcases he with rfl | rfl
        · rw [ok_w]; exact .inl ⟨rfl, by simp only; omega, by simp only; omega⟩
        · rw [ok_a]
          refine ⟨.inr (.inr (.inl ⟨rfl, by simp, by simp [unX]; omega⟩)), by simp, by simp, ?_⟩
          intro e he
          simp only [List.mem_cons, List.not_mem_nil, or_false] at he
          subst he
          rw [ok_w]
          exact .inl ⟨rfl, by simp, by simp⟩
      · refine ⟨⟨one_nam 107 (by decide), by decide⟩, ⟨by simp, by decide, ?_⟩, .inr (.inl ⟨rfl, by simp, by simp⟩), by simp, by simp, by simp [unA_n]⟩
        intro p hp
        refine ⟨?_, fun hq => (show ∀ p ∈ ([[97], [98]] : List (List UInt8)), p ∉ [109] :: ([[102, 49], [102, 50], [102, 51]] ++ ([mainT, [107]] : List (List UInt8))) by decide) p hp (names_in [109] [mainT, [107]] _ p1 p2 hq)⟩
        simp only [List.mem_cons, List.not_mem_nil, or_false] at hp
        rcases hp with rfl | rfl
        · exact ⟨one_nam 97 (by decide), by decide⟩
        · exact ⟨one_nam 98 (by decide), by decide⟩)
    (fun f hf => ⟨nz0 _, fun e _ => exNz0⟩)
  have hnl : (namedF [109] (progF L)).length = (progF L).length := namedF_len _ _
  have hi : (namedF [109] (progF L) ++ unX (progF L).length v)[(progF L).length]? = some ⟨mainT, [], (3, (((progF L).length + 1 : Nat) : Int)), [wE 2 (1, (v : Int)), aE (3, 0) [wE 1 (1, 1)]]⟩ := by
    rw [List.getElem?_append_right (by omega), hnl, Nat.sub_self]; rfl
  have hnames : ∀ f : Fn 2, nmsOf (namedF [109] (progF L) ++ unX (progF L).length v) f = ⟨nmL [109] (progF L).length ++ [mainT, [107]], f.pn⟩ := fun f => by
    unfold nmsOf; rw [List.map_append, namedF_names, hnx]
  have hk : (nmL [109] (progF L).length ++ [mainT, [107]])[(progF L).length + 1]? = some [107] := by
    rw [List.getElem?_append_right (by rw [nmL_len]; omega), nmL_len, show (progF L).length + 1 - (progF L).length = 1 by omega]; rfl
  have hm0 : (nmL [109] (progF L).length ++ [mainT, [107]])[0]? = some [109] := by
    rw [nmL_four _ _ p1 p2]; rfl
  have hpc : (((unX (progF L).length v).zip [[[32]], []]).flatMap (fun x => fnPc (namedF [109] (progF L) ++ unX (progF L).length v) x.1 ++ x.2)).flatten = unTx v := by
    have d1 : decL 1 = [49] := by rw [decL_lt _ (by omega)]; rfl
    have e : (((progF L).length : Int) + 1).toNat = (progF L).length + 1 := by omega
    clear hi hpr hnm hx hlen ht
    generalize namedF [109] (progF L) ++ unX (progF L).length v = fs at *
    generalize nmL [109] (progF L).length ++ [mainT, [107]] = NL at *
    simp [unX, fnPc, hnames, pcA_c, pcA_n, pc_w, pc_a, wdT, mainT, unTx, hk, hm0, d1, e]
  have h := text_ok (main := main) (fb := progF L) (unX (progF L).length v) [[[32]], []] rfl (by intro b hb p hp; simp at hb; rcases hb with rfl | rfl <;> simp at hp; subst hp; decide) (by rw [hm]; exact hpr) (by rw [hm]; exact hnm) (progF L).length _ (by rw [hm]; exact hi) rfl rfl x hsz (by rw [hm, hx, hpc])
  rw [hm] at h
  obtain ⟨a, b, c, _⟩ := h
  refine ⟨hsz, a, (namedF [109] (progF L)).map fnCode, ?_, ?_⟩
  · rw [b, List.length_map, hnl, List.map_append]
    rfl
  · rw [List.length_map, hnl]
    rw [List.map_append] at c
    exact c

end Go.Proofs.YtnndoagpbcacdaaGreatDoor
