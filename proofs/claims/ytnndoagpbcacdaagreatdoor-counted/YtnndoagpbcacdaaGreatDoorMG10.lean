import Derived.Test.YtnndoagpbcacdaaGreatDoorMG4
namespace Go.Proofs.YtnndoagpbcacdaaGreatDoor
open Go.RowKit

/-! Programs as they are always written: pieces. -/
def σ0 : Sty := ⟨false, false⟩
def pcE (N : Nms) : (d : Nat) → Ex d → List (List UInt8)
  | 0, x => [[32], wdT N x]
  | _ + 1, .inl x => [[32], wdT N x]
  | d + 1, .inr (h, l) => [32] :: [40] :: wdT N h :: (l.flatMap (pcE N d) ++ [[41]])
def pcA (N : Nms) (d : Nat) (l : List (Ex d)) : List (List UInt8) := l.flatMap (pcE N d)
def fnPc {d : Nat} (fs : List (Fn d)) (f : Fn d) : List (List UInt8) := f.nm :: (f.pn.flatMap (fun p => [[32], p]) ++ ([32] :: [61] :: [32] :: wdT (nmsOf fs f) f.hd :: (pcA (nmsOf fs f) d f.ag ++ [[59]])))
theorem sp_sym : symP [32] := sym_of 32 (by decide) (by decide)
theorem nl_sym : symP [10] := sym_of 10 (by decide) (by decide)
theorem op_sym : symP [40] := sym_of 40 (by decide) (by decide)
theorem cl_sym : symP [41] := sym_of 41 (by decide) (by decide)
theorem eq_sym : symP [61] := sym_of 61 (by decide) (by decide)
theorem sc_sym : symP [59] := sym_of 59 (by decide) (by decide)
/-- A word is a token: a name, digits, a sign. -/
def namP (x : List UInt8) : Prop := ∃ a r, x = a :: r ∧ isL (n8 a) = true ∧ ∀ b ∈ r, isL (n8 b) = true ∨ isD (n8 b) = true
theorem nam_tok {x : List UInt8} (h : namP x) : tokP x ∧ blkP x = false := by
  obtain ⟨a, r, rfl, h1, h2⟩ := h
  have hb : isB (n8 a) = false := by simp only [isL, isB, decide_eq_true_eq] at h1 ⊢; exact decide_eq_false (by omega)
  refine ⟨⟨a, r, rfl, hb, fun b hb => ?_⟩, ?_⟩
  · unfold goesB; rw [h1]; simp; exact h2 b hb
  · simp only [isL, n8] at h1
    have e1 : a ≠ 32 := fun e => by subst e; revert h1; decide
    have e2 : a ≠ 10 := fun e => by subst e; revert h1; decide
    simp [blkP, e1, e2]
theorem dig_tok {x : List UInt8} (hne : x ≠ []) (hd : ∀ b ∈ x, 48 ≤ b.toNat ∧ b.toNat ≤ 57) : tokP x ∧ blkP x = false := by
  cases x with
  | nil => exact absurd rfl hne
  | cons a r =>
    have ha := hd a (by simp)
    have hD : ∀ b : UInt8, 48 ≤ b.toNat ∧ b.toNat ≤ 57 → isD (n8 b) = true := fun b hb => by unfold isD n8; exact decide_eq_true (by omega)
    have hL : isL (n8 a) = false := by unfold isL n8; exact decide_eq_false (by omega)
    have hB : isB (n8 a) = false := by unfold isB n8; exact decide_eq_false (by omega)
    refine ⟨⟨a, r, rfl, hB, fun b hb => ?_⟩, ?_⟩
    · unfold goesB; rw [hL, hD a ha, hD b (hd b (by simp [hb]))]; rfl
    · have e1 : a ≠ 32 := fun e => by subst e; revert ha; decide
      have e2 : a ≠ 10 := fun e => by subst e; revert ha; decide
      simp [blkP, e1, e2]
def NmN (N : Nms) : Prop := (∀ x ∈ N.fn, namP x) ∧ (∀ x ∈ N.pn, namP x)
theorem wd_piece {N : Nms} {np nf : Nat} (hN : NmN N) (hp : np = N.pn.length) (hf : nf = N.fn.length) {x : Wd} (hx : wOk np nf x) : (symP (wdT N x) ∧ blkP (wdT N x) = false) ∨ (tokP (wdT N x) ∧ blkP (wdT N x) = false) := by
  unfold wdT
  rcases hx with ⟨h, h0, h1⟩ | ⟨h, h0, h1⟩ | ⟨h, h0, h1⟩ | ⟨h, h0, h1⟩
  · rw [if_pos h]; exact .inr (dig_tok (dc_ne _) (dc_dig _))
  · rw [if_neg (by omega), if_pos h]
    have hlt : x.2.toNat < N.pn.length := by omega
    rw [List.getElem?_eq_getElem hlt]
    exact .inr (nam_tok (hN.2 _ (List.getElem_mem hlt)))
  · rw [if_neg (by omega), if_neg (by omega), if_pos h]
    have hlt : x.2.toNat < N.fn.length := by omega
    rw [List.getElem?_eq_getElem hlt]
    exact .inr (nam_tok (hN.1 _ (List.getElem_mem hlt)))
  · rw [if_neg (by omega), if_neg (by omega), if_neg (by omega)]
    have : x.2.toNat = 0 ∨ x.2.toNat = 1 ∨ x.2.toNat = 2 ∨ x.2.toNat = 3 ∨ x.2.toNat = 4 := by omega
    rcases this with e | e | e | e | e <;> rw [e] <;> exact .inl ⟨sym_of _ (by decide) (by decide), by decide⟩
theorem wd_nb {N : Nms} {np nf : Nat} (hN : NmN N) (hp : np = N.pn.length) (hf : nf = N.fn.length) {x : Wd} (hx : wOk np nf x) : blkP (wdT N x) = false := by
  rcases wd_piece hN hp hf hx with h | h <;> exact h.2
theorem alt_wd {N : Nms} {np nf : Nat} (hN : NmN N) (hp : np = N.pn.length) (hf : nf = N.fn.length) {x : Wd} (hx : wOk np nf x) {r : List (List UInt8)} (hr : alt r) (hb : begS r) : alt (wdT N x :: r) := by
  refine ⟨?_, hr⟩
  rcases wd_piece hN hp hf hx with h | h
  · exact .inl h.1
  · exact .inr ⟨h.1, h.2, hb⟩
section
variable {N : Nms} {np nf : Nat}
theorem pc_ex (hN : NmN N) (hp : np = N.pn.length) (hf : nf = N.fn.length) : ∀ (d : Nat),
    (∀ (e : Ex d), exOk np nf d e → alt (pcE N d e) ∧ begS (pcE N d e) ∧ (pcE N d e).filter (fun p => !blkP p) = tkE σ0 N d e ∧ (pcE N d e).flatten = shE N d e) ∧
    (∀ (l : List (Ex d)), (∀ e ∈ l, exOk np nf d e) → alt (pcA N d l) ∧ begS (pcA N d l) ∧ (pcA N d l).filter (fun p => !blkP p) = tkA σ0 N d l ∧ (pcA N d l).flatten = shA N d l) := by
  have b32 : blkP [32] = true := by decide
  have b40 : blkP [40] = false := by decide
  have b41 : blkP [41] = false := by decide
  have hw : ∀ x, wOk np nf x → alt [[32], wdT N x] ∧ begS [[32], wdT N x] ∧ ([[32], wdT N x] : List (List UInt8)).filter (fun p => !blkP p) = agT σ0 N x ∧ ([[32], wdT N x] : List (List UInt8)).flatten = 32 :: wdT N x := by
    intro x hx
    refine ⟨alt_sym sp_sym (alt_wd hN hp hf hx trivial (.inl rfl)), begS_sym sp_sym, ?_, by simp⟩
    have hnb := wd_nb hN hp hf hx
    have : nzT σ0 N x = wdT N x := by unfold nzT σ0; rw [if_neg (by simp)]
    simp [b32, hnb, agT, this]
    simp [σ0]
  have hl : ∀ d, (∀ (e : Ex d), exOk np nf d e → alt (pcE N d e) ∧ begS (pcE N d e) ∧ (pcE N d e).filter (fun p => !blkP p) = tkE σ0 N d e ∧ (pcE N d e).flatten = shE N d e) → (∀ (l : List (Ex d)), (∀ e ∈ l, exOk np nf d e) → alt (pcA N d l) ∧ begS (pcA N d l) ∧ (pcA N d l).filter (fun p => !blkP p) = tkA σ0 N d l ∧ (pcA N d l).flatten = shA N d l) := by
    intro d he l
    induction l with
    | nil => intro _; exact ⟨trivial, .inl rfl, rfl, rfl⟩
    | cons e l ih =>
      intro h
      obtain ⟨a1, a2, a3, a4⟩ := he e (h e (by simp))
      obtain ⟨b1, b2, b3, b4⟩ := ih (fun x hx => h x (by simp [hx]))
      have e1 : pcA N d (e :: l) = pcE N d e ++ pcA N d l := by simp [pcA]
      have e2 : tkA σ0 N d (e :: l) = tkE σ0 N d e ++ tkA σ0 N d l := by simp [tkA]
      have e3 : shA N d (e :: l) = shE N d e ++ shA N d l := by simp [shA]
      rw [e1, e2, e3]
      exact ⟨alt_app a1 b1 b2, begS_app a2 b2, by rw [List.filter_append, a3, b3], by rw [List.flatten_append, a4, b4]⟩
  intro d
  induction d with
  | zero =>
    have h0 : ∀ (e : Ex 0), exOk np nf 0 e → alt (pcE N 0 e) ∧ begS (pcE N 0 e) ∧ (pcE N 0 e).filter (fun p => !blkP p) = tkE σ0 N 0 e ∧ (pcE N 0 e).flatten = shE N 0 e := fun e he => hw e he
    exact ⟨h0, hl 0 h0⟩
  | succ d ih =>
    have h0 : ∀ (e : Ex (d + 1)), exOk np nf (d + 1) e → alt (pcE N (d + 1) e) ∧ begS (pcE N (d + 1) e) ∧ (pcE N (d + 1) e).filter (fun p => !blkP p) = tkE σ0 N (d + 1) e ∧ (pcE N (d + 1) e).flatten = shE N (d + 1) e := by
      intro e he
      cases e with
      | inl x => exact hw x he
      | inr p =>
        obtain ⟨h, l⟩ := p
        obtain ⟨g1, _, _, g4⟩ := he
        obtain ⟨b1, b2, b3, b4⟩ := ih.2 l g4
        have hnb := wd_nb hN hp hf g1
        have hnz : nzT σ0 N h = wdT N h := by unfold nzT σ0; rw [if_neg (by simp)]
        have e1 : pcE N (d + 1) (.inr (h, l)) = [32] :: [40] :: wdT N h :: (pcA N d l ++ [[41]]) := rfl
        have e2 : tkE σ0 N (d + 1) (.inr (h, l)) = [40] :: nzT σ0 N h :: (tkA σ0 N d l ++ [[41]]) := rfl
        have e3 : shE N (d + 1) (.inr (h, l)) = 32 :: 40 :: (wdT N h ++ (shA N d l ++ [41])) := rfl
        rw [e1, e2, e3, hnz]
        refine ⟨alt_sym sp_sym (alt_sym op_sym (alt_wd hN hp hf g1 (alt_app b1 (alt_sym cl_sym trivial) (begS_sym cl_sym)) (begS_app b2 (begS_sym cl_sym)))), begS_sym sp_sym, ?_, ?_⟩
        · simp [b32, b40, b41, hnb, b3]
        · simp [b4]
    exact ⟨h0, hl (d + 1) h0⟩
end
/-- A function, and what stands behind it. -/
theorem fn_pieces {d : Nat} {fs : List (Fn d)} (h : PrOk σ0 fs) (hn : ∀ f ∈ fs, namP f.nm ∧ ∀ p ∈ f.pn, namP p) {f : Fn d} (hf : f ∈ fs) : alt (fnPc fs f) ∧ (fnPc fs f).filter (fun p => !blkP p) = fnTk σ0 fs f ∧ (fnPc fs f).flatten ++ [10] = fnShow fs f := by
  have hN : NmN (nmsOf fs f) := ⟨fun x hx => by obtain ⟨g, hg, rfl⟩ := List.mem_map.1 hx; exact (hn g hg).1, (hn f hf).2⟩
  have hlf : fs.length = (nmsOf fs f).fn.length := by simp [nmsOf]
  obtain ⟨b1, b2, b3, b4⟩ := (pc_ex hN (np := f.pn.length) (nf := fs.length) rfl hlf d).2 f.ag (h.ag f hf).2.1
  have hhd := (h.hd f hf).1
  have hnb := wd_nb hN (np := f.pn.length) (nf := fs.length) rfl hlf hhd
  have hnz : nzT σ0 (nmsOf fs f) f.hd = wdT (nmsOf fs f) f.hd := by unfold nzT σ0; rw [if_neg (by simp)]
  have b32 : blkP [32] = true := by decide
  have b61 : blkP [61] = false := by decide
  have b59 : blkP [59] = false := by decide
  have hps : ∀ (ps : List (List UInt8)), (∀ p ∈ ps, namP p) → alt (ps.flatMap (fun p => [[32], p])) ∧ begS (ps.flatMap (fun p => [[32], p])) ∧ (ps.flatMap (fun p => [[32], p])).filter (fun p => !blkP p) = ps ∧ (ps.flatMap (fun p => [[32], p])).flatten = ps.flatMap (fun p => 32 :: p) := by
    intro ps
    induction ps with
    | nil => intro _; exact ⟨trivial, .inl rfl, rfl, rfl⟩
    | cons p ps ih =>
      intro hp
      obtain ⟨a1, a2, a3, a4⟩ := ih (fun q hq => hp q (by simp [hq]))
      obtain ⟨t1, t2⟩ := nam_tok (hp p (by simp))
      have e : (p :: ps).flatMap (fun p => [[32], p]) = [32] :: p :: ps.flatMap (fun p => [[32], p]) := by simp
      rw [e]
      refine ⟨alt_sym sp_sym ⟨.inr ⟨t1, t2, a2⟩, a1⟩, begS_sym sp_sym, ?_, ?_⟩
      · rw [List.filter_cons, if_neg (by simp [b32]), List.filter_cons, if_pos (by simp [t2]), a3]
      · rw [List.flatten_cons, List.flatten_cons, a4]; simp
  obtain ⟨p1, p2, p3, p4⟩ := hps f.pn (hn f hf).2
  obtain ⟨t1, t2⟩ := nam_tok (hn f hf).1
  have htail : alt ([32] :: [61] :: [32] :: wdT (nmsOf fs f) f.hd :: (pcA (nmsOf fs f) d f.ag ++ [[59]])) :=
    alt_sym sp_sym (alt_sym eq_sym (alt_sym sp_sym (alt_wd hN rfl hlf hhd (alt_app b1 (alt_sym sc_sym trivial) (begS_sym sc_sym)) (begS_app b2 (begS_sym sc_sym)))))
  refine ⟨?_, ?_, ?_⟩
  · unfold fnPc
    exact ⟨.inr ⟨t1, t2, begS_app p2 (begS_sym sp_sym)⟩, alt_app p1 htail (begS_sym sp_sym)⟩
  · unfold fnPc fnTk
    rw [hnz]
    simp [t2, b32, b61, b59, hnb, b3, p3]
  · unfold fnPc fnShow
    rw [List.flatten_cons, List.flatten_append, p4]
    simp [b4]
/-- A program's text: its functions, each with something blank behind it. -/
theorem text_toks {d : Nat} {fs : List (Fn d)} (h : PrOk σ0 fs) (hn : ∀ f ∈ fs, namP f.nm ∧ ∀ p ∈ f.pn, namP p) (s : ByteArray) (bl : List (List (List UInt8))) (hlen : bl.length = fs.length) (hbl : ∀ b ∈ bl, ∀ p ∈ b, blkP p = true)
    (hs : s.data.toList = ((fs.zip bl).flatMap (fun x => fnPc fs x.1 ++ x.2)).flatten) : (toksF s 0).map txL = fs.flatMap (fnTk σ0 fs) := by
  have key : ∀ (l : List (Fn d)) (bl : List (List (List UInt8))), bl.length = l.length → (∀ f ∈ l, f ∈ fs) → (∀ b ∈ bl, ∀ p ∈ b, blkP p = true) → alt ((l.zip bl).flatMap (fun x => fnPc fs x.1 ++ x.2)) ∧ ((l.zip bl).flatMap (fun x => fnPc fs x.1 ++ x.2)).filter (fun p => !blkP p) = l.flatMap (fnTk σ0 fs) := by
    intro l
    induction l with
    | nil => intro bl _ _ _; exact ⟨by simp [alt], by simp⟩
    | cons f l ih =>
      intro bl hl hf hb
      cases bl with
      | nil => simp at hl
      | cons b bl =>
        obtain ⟨a1, a2⟩ := ih bl (by simpa using hl) (fun g hg => hf g (by simp [hg])) (fun c hc => hb c (by simp [hc]))
        obtain ⟨c1, c2, _⟩ := fn_pieces h hn (hf f (by simp))
        have hbs : ∀ p ∈ b, symP p := fun p hp => by
          have := hb b (by simp) p hp
          simp only [blkP, Bool.or_eq_true, beq_iff_eq] at this
          rcases this with rfl | rfl
          · exact sp_sym
          · exact nl_sym
        have e : ((f :: l).zip (b :: bl)).flatMap (fun x => fnPc fs x.1 ++ x.2) = fnPc fs f ++ (b ++ (l.zip bl).flatMap (fun x => fnPc fs x.1 ++ x.2)) := by simp
        rw [e]
        refine ⟨?_, ?_⟩
        · -- the last piece of a function is a sign
          have hlast : ∀ (a r : List (List UInt8)), alt (a ++ [[59]]) → alt r → alt (a ++ [[59]] ++ r) := by
            intro a
            induction a with
            | nil => intro r _ hr; exact alt_sym sc_sym hr
            | cons p a ih =>
              intro r ha hr
              refine ⟨?_, ih r ha.2 hr⟩
              rcases ha.1 with g | ⟨g1, g2, g3⟩
              · exact .inl g
              · refine .inr ⟨g1, g2, ?_⟩
                rcases g3 with g3 | ⟨q, z, g3, g4⟩
                · simp at g3
                · rw [g3]; exact .inr ⟨q, z ++ r, rfl, g4⟩
          have ef : fnPc fs f = (f.nm :: (f.pn.flatMap (fun p => [[32], p]) ++ ([32] :: [61] :: [32] :: wdT (nmsOf fs f) f.hd :: pcA (nmsOf fs f) d f.ag))) ++ [[59]] := by simp [fnPc]
          rw [ef] at c1 ⊢
          exact hlast _ _ c1 (alt_syms hbs a1)
        · rw [List.filter_append, List.filter_append, c2, a2]
          have : b.filter (fun p => !blkP p) = [] := by
            rw [List.filter_eq_nil_iff]
            intro p hp
            simp [hb b (by simp) p hp]
          rw [this]
          simp
  obtain ⟨k1, k2⟩ := key fs bl hlen (fun _ hf => hf) hbl
  have := toks_pieces s _ [] (by simpa using hs) (alt_pcs k1)
  rw [k2] at this
  exact this

end Go.Proofs.YtnndoagpbcacdaaGreatDoor
namespace Go.Proofs.YtnndoagpbcacdaaGreatDoor
open Go.RowKit

/-! Grown programs with their names, and functions that are put behind them. -/
def namedF (main : List UInt8) (fb : List Fb) : List (Fn 2) := named (nmL main fb.length) letL fb
theorem namedF_get {main : List UInt8} {fb : List Fb} {j : Nat} (h : j < fb.length) : (namedF main fb)[j]? = some ⟨if j = 0 then main else fNm j, letL.take fb[j].np, fb[j].ap.1, fb[j].ap.2⟩ := by
  unfold namedF named
  rw [List.getElem?_zipWith, List.getElem?_eq_getElem h]
  obtain ⟨n, hn⟩ : ∃ n, fb.length = n + 1 := ⟨fb.length - 1, by omega⟩
  rw [hn, nmL]
  cases j with
  | zero => simp
  | succ j =>
    rw [List.getElem?_cons_succ, List.getElem?_map, List.getElem?_range (by omega)]
    simp
theorem nmL_len (main : List UInt8) (n : Nat) : (nmL main n).length = n := by cases n <;> simp [nmL]
theorem namedF_len (main : List UInt8) (fb : List Fb) : (namedF main fb).length = fb.length := by
  unfold namedF named; rw [List.length_zipWith, nmL_len]; simp
theorem namedF_mem {main : List UInt8} {fb : List Fb} {f : Fn 2} (h : f ∈ namedF main fb) : ∃ b ∈ fb, ∃ n ∈ nmL main fb.length, f = ⟨n, letL.take b.np, b.ap.1, b.ap.2⟩ := by
  unfold namedF named at h
  rw [List.zipWith_eq_zipWith_take_min, List.mem_iff_getElem] at h
  obtain ⟨j, hj, rfl⟩ := h
  rw [List.getElem_zipWith]
  exact ⟨_, List.mem_of_mem_take (List.getElem_mem _), _, List.mem_of_mem_take (List.getElem_mem _), rfl⟩
theorem namedF_names (main : List UInt8) (fb : List Fb) : (namedF main fb).map (·.nm) = nmL main fb.length := by
  unfold namedF named
  rw [List.map_zipWith]
  refine List.ext_getElem? (fun j => ?_)
  rw [List.getElem?_zipWith]
  by_cases hj : j < fb.length
  · rw [List.getElem?_eq_getElem hj, List.getElem?_eq_getElem (by rw [nmL_len]; exact hj)]
  · rw [List.getElem?_eq_none (by omega), List.getElem?_eq_none (by rw [nmL_len]; omega)]
theorem wOk.up {np nf nf' : Nat} {x : Wd} (h : wOk np nf x) (hn : nf ≤ nf') : wOk np nf' x := by
  unfold wOk at *
  omega
theorem exOk.up {np nf nf' : Nat} (hn : nf ≤ nf') : ∀ {d : Nat} {e : Ex d}, exOk np nf d e → exOk np nf' d e
  | 0, _, h => wOk.up h hn
  | _ + 1, .inl _, h => wOk.up (show wOk np nf _ from h) hn
  | _ + 1, .inr (_, _), h => ⟨wOk.up h.1 hn, h.2.1, h.2.2.1, fun e he => exOk.up hn (h.2.2.2 e he)⟩
theorem exNz0 : ∀ {d : Nat} {e : Ex d}, exNz σ0 d e
  | 0, _ => fun h => by simp [σ0] at h
  | _ + 1, .inl _ => fun h => by simp [σ0] at h
  | _ + 1, .inr (_, _) => ⟨fun h => by simp [σ0] at h, fun _ _ => exNz0⟩
/-- What is wanted of the functions behind. -/
structure MoreOk (nms : List (List UInt8)) (n : Nat) (f : Fn 2) : Prop where
  nm : namP f.nm ∧ kdL f.nm = 1
  pn : f.pn.length ≤ 6 ∧ f.pn.Nodup ∧ ∀ p ∈ f.pn, (namP p ∧ kdL p = 1) ∧ p ∉ nms
  hd : wOk f.pn.length n f.hd
  ag : f.ag.length ≤ 7 ∧ (∀ e ∈ f.ag, exOk f.pn.length n 2 e) ∧ unA 2 f.ag ≤ 12
theorem pr_more {σ : Sty} (hσ : ∀ x : Wd, (x.1 = 1 → x.2 < 1000) → nzOk σ x) {main : List UInt8} {fb : List Fb} (hfb : ∀ b ∈ fb, FbOk fb.length b) (h1 : 1 ≤ fb.length) (h4 : fb.length ≤ 4) (ex : List (Fn 2)) (h16 : ex.length ≤ 12)
    (hnm : ∀ x ∈ nmL main fb.length, namP x ∧ kdL x = 1) (hnd : (nmL main fb.length ++ ex.map (·.nm)).Nodup) (hlet : ∀ p ∈ letL, p ∉ nmL main fb.length ++ ex.map (·.nm)) (hex : ∀ f ∈ ex, MoreOk (nmL main fb.length ++ ex.map (·.nm)) (fb.length + ex.length) f) (hez : ∀ f ∈ ex, nzOk σ f.hd ∧ ∀ e ∈ f.ag, exNz σ 2 e) :
    PrOk σ (namedF main fb ++ ex) ∧ ∀ f ∈ namedF main fb ++ ex, namP f.nm ∧ ∀ p ∈ f.pn, namP p := by
  have hnames : (namedF main fb ++ ex).map (·.nm) = nmL main fb.length ++ ex.map (·.nm) := by rw [List.map_append, namedF_names]
  have hlen : (namedF main fb ++ ex).length = fb.length + ex.length := by rw [List.length_append, namedF_len]
  have hl3 : letL.Nodup ∧ letL.length = 3 ∧ ∀ p ∈ letL, kdL p = 1 := by decide
  have hl3n : ∀ p ∈ letL, namP p := by
    intro p hp
    simp only [letL, List.mem_cons, List.not_mem_nil, or_false] at hp
    rcases hp with rfl | rfl | rfl
    · exact ⟨120, [], rfl, by decide, by simp⟩
    · exact ⟨121, [], rfl, by decide, by simp⟩
    · exact ⟨122, [], rfl, by decide, by simp⟩
  have hexz : ∀ (d : Nat) (e : Ex d), exS d e → exNz σ d e := by
    intro d
    induction d with
    | zero => intro e h; exact hσ e h
    | succ d ih =>
      intro e h
      cases e with
      | inl x => exact hσ x h
      | inr p =>
        obtain ⟨y, l⟩ := p
        exact ⟨hσ y h.1, fun e he => ih e (h.2.2 e he)⟩
  constructor
  · refine ⟨?_, by rw [hlen]; omega, by rw [hnames]; exact hnd, ?_, ?_, ?_, ?_⟩
    · intro e
      have : (namedF main fb ++ ex).length = 0 := by rw [e]; rfl
      omega
    · intro f hf
      rcases List.mem_append.1 hf with hf | hf
      · obtain ⟨b, hb, n, hn, rfl⟩ := namedF_mem hf
        exact (hnm n hn).2
      · exact (hex f hf).nm.2
    · intro f hf
      rw [hnames]
      rcases List.mem_append.1 hf with hf | hf
      · obtain ⟨b, hb, n, hn, rfl⟩ := namedF_mem hf
        have := (hfb b hb).np
        refine ⟨by simp only [List.length_take]; omega, fun p hp => hl3.2.2 p (List.mem_of_mem_take hp), hl3.1.sublist (List.take_sublist _ _), fun p hp => hlet p (List.mem_of_mem_take hp)⟩
      · have := (hex f hf).pn
        exact ⟨this.1, fun p hp => (this.2.2 p hp).1.2, this.2.1, fun p hp => (this.2.2 p hp).2⟩
    · intro f hf
      rw [hlen]
      rcases List.mem_append.1 hf with hf | hf
      · obtain ⟨b, hb, n, hn, rfl⟩ := namedF_mem hf
        have h := hfb b hb
        have hpl : (letL.take b.np).length = b.np := by rw [List.length_take, hl3.2.1]; have := h.np; omega
        simp only [hpl]
        exact ⟨h.hd.up (by omega), hσ _ h.hs⟩
      · exact ⟨(hex f hf).hd, (hez f hf).1⟩
    · intro f hf
      rw [hlen]
      rcases List.mem_append.1 hf with hf | hf
      · obtain ⟨b, hb, n, hn, rfl⟩ := namedF_mem hf
        have h := hfb b hb
        have hpl : (letL.take b.np).length = b.np := by rw [List.length_take, hl3.2.1]; have := h.np; omega
        simp only [hpl]
        exact ⟨by have := h.ln; omega, fun e he => exOk.up (by omega) (h.ag e he).1, fun e he => hexz 2 e (h.ag e he).2, by have := h.un; omega⟩
      · have h := (hex f hf).ag
        exact ⟨h.1, h.2.1, (hez f hf).2, h.2.2⟩
  · intro f hf
    rcases List.mem_append.1 hf with hf | hf
    · obtain ⟨b, hb, n, hn, rfl⟩ := namedF_mem hf
      exact ⟨(hnm n hn).1, fun p hp => hl3n p (List.mem_of_mem_take hp)⟩
    · exact ⟨(hex f hf).nm.1, fun p hp => ((hex f hf).pn.2.2 p hp).1.1⟩
/-! How long the texts are. -/
theorem wd_len {N : Nms} {np nf : Nat} {x : Wd} (_hx : wOk np nf x) (hs : x.1 = 1 → x.2 < 1000) (hf : ∀ y ∈ N.fn, y.length ≤ 4) (hp : ∀ y ∈ N.pn, y.length ≤ 4) : (wdT N x).length ≤ 4 := by
  unfold wdT
  split
  · next h => have := decL_three x.2.toNat (by have := hs h; omega); omega
  · split
    · cases hq : N.pn[x.2.toNat]? with
      | none => simp
      | some y => exact hp y (List.mem_of_getElem? hq)
    · split
      · cases hq : N.fn[x.2.toNat]? with
        | none => simp
        | some y => exact hf y (List.mem_of_getElem? hq)
      · simp
theorem sh_len {N : Nms} {np nf : Nat} (hf : ∀ y ∈ N.fn, y.length ≤ 4) (hp : ∀ y ∈ N.pn, y.length ≤ 4) : ∀ (d : Nat), (∀ (e : Ex d), exOk np nf d e → exS d e → (shE N d e).length ≤ 5 + 22 * unE d e) ∧ (∀ (l : List (Ex d)), (∀ e ∈ l, exOk np nf d e ∧ exS d e) → (shA N d l).length ≤ 5 * l.length + 22 * unA d l) := by
  have hl : ∀ d, (∀ (e : Ex d), exOk np nf d e → exS d e → (shE N d e).length ≤ 5 + 22 * unE d e) → (∀ (l : List (Ex d)), (∀ e ∈ l, exOk np nf d e ∧ exS d e) → (shA N d l).length ≤ 5 * l.length + 22 * unA d l) := by
    intro d he l
    induction l with
    | nil => intro _; simp [shA]
    | cons e l ih =>
      intro h
      have h1 := he e (h e (by simp)).1 (h e (by simp)).2
      have h2 := ih (fun x hx => h x (by simp [hx]))
      have e1 : shA N d (e :: l) = shE N d e ++ shA N d l := by simp [shA]
      have e2 : unA d (e :: l) = unE d e + unA d l := by simp [unA]
      rw [e1, e2, List.length_append, List.length_cons]; omega
  intro d
  induction d with
  | zero =>
    have h0 : ∀ (e : Ex 0), exOk np nf 0 e → exS 0 e → (shE N 0 e).length ≤ 5 + 22 * unE 0 e := fun e h1 h2 => by
      have := wd_len (N := N) h1 h2 hf hp
      show (32 :: wdT N e).length ≤ _
      rw [List.length_cons]; omega
    exact ⟨h0, hl 0 h0⟩
  | succ d ih =>
    have h0 : ∀ (e : Ex (d + 1)), exOk np nf (d + 1) e → exS (d + 1) e → (shE N (d + 1) e).length ≤ 5 + 22 * unE (d + 1) e := by
      intro e h1 h2
      cases e with
      | inl x =>
        have := wd_len (N := N) (show wOk np nf x from h1) h2 hf hp
        show (32 :: wdT N x).length ≤ _
        rw [List.length_cons]; omega
      | inr p =>
        obtain ⟨h, l⟩ := p
        have h3 := wd_len (N := N) h1.1 h2.1 hf hp
        have h4 := ih.2 l (fun e he => ⟨h1.2.2.2 e he, h2.2.2 e he⟩)
        have h5 := h2.2.1
        have e1 : shE N (d + 1) (.inr (h, l)) = 32 :: 40 :: (wdT N h ++ (shA N d l ++ [41])) := rfl
        have e2 : unE (d + 1) (.inr (h, l)) = 1 + unA d l := rfl
        rw [e1, e2]
        simp only [List.length_cons, List.length_append, List.length_nil]
        omega
    exact ⟨h0, hl (d + 1) h0⟩
theorem fn_len {fs : List (Fn 2)} {f : Fn 2} {b : Fb} {nf : Nat} (hb : FbOk nf b) (_hnf : nf ≤ fs.length) (hf : ∀ g ∈ fs, g.nm.length ≤ 4) (hnm : f.nm.length ≤ 4) (hpn : f.pn = letL.take b.np) (hhd : f.hd = b.ap.1) (hag : f.ag = b.ap.2) : (fnShow fs f).length ≤ 110 := by
  have hpl : ∀ y ∈ f.pn, y.length ≤ 1 := by
    rw [hpn]
    intro y hy
    have : ∀ p ∈ letL, p.length ≤ 1 := by decide
    exact this y (List.mem_of_mem_take hy)
  have h1 : (f.pn.flatMap (fun p => 32 :: p)).length ≤ 6 := by
    have hnp := hb.np
    rw [hpn]
    have : b.np = 0 ∨ b.np = 1 ∨ b.np = 2 ∨ b.np = 3 := by omega
    rcases this with e | e | e | e <;> rw [e] <;> decide
  have hfn : ∀ y ∈ (nmsOf fs f).fn, y.length ≤ 4 := fun y hy => by obtain ⟨g, hg, rfl⟩ := List.mem_map.1 hy; exact hf g hg
  have hpn4 : ∀ y ∈ (nmsOf fs f).pn, y.length ≤ 4 := fun y hy => by have := hpl y hy; omega
  have h2 := wd_len (N := nmsOf fs f) hb.hd hb.hs hfn hpn4
  have h3 := (sh_len (N := nmsOf fs f) (np := b.np) (nf := nf) hfn hpn4 2).2 b.ap.2 hb.ag
  have h4 := hb.ln
  have h5 := hb.un
  unfold fnShow
  rw [hhd, hag]
  simp only [List.length_append, List.length_cons, List.length_nil]
  omega

end Go.Proofs.YtnndoagpbcacdaaGreatDoor
