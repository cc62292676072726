import Derived.Test.YtnndoagpbcacdaaDoorMG10
import Derived.Test.YtnndoagpbcacdaaDoorMG12
import Derived.Laws.BitsLemmas
namespace Go.Proofs.YtnndoagpbcacdaaDoor
open Go.RowKit

/-! Programs as they are loosely written: pieces. -/
def gapP (k : Nat) : List (List UInt8) := if k = 1 then [[10]] else if k = 2 then [[32], [10], [32]] else [[32]]
theorem gap_sym (k : Nat) : (∀ p ∈ gapP k, symP p) ∧ (gapP k).filter (fun p => !blkP p) = [] ∧ gapP k ≠ [] ∧ (gapP k).flatten.length ≤ 3 := by
  unfold gapP
  split
  · exact ⟨by intro p hp; simp at hp; subst hp; exact nl_sym, by decide, by simp, by decide⟩
  · split
    · refine ⟨?_, by decide, by simp, by decide⟩
      intro p hp
      simp at hp
      rcases hp with rfl | rfl | rfl
      · exact sp_sym
      · exact nl_sym
      · exact sp_sym
    · exact ⟨by intro p hp; simp at hp; subst hp; exact sp_sym, by decide, by simp, by decide⟩
/-- What stands behind a gap. -/
theorem alt_gap {k : Nat} {r : List (List UInt8)} (hr : alt r) : alt (gapP k ++ r) ∧ begS (gapP k ++ r) := by
  obtain ⟨h1, _, h3, _⟩ := gap_sym k
  refine ⟨alt_syms h1 hr, ?_⟩
  cases hg : gapP k with
  | nil => exact absurd hg h3
  | cons p q => exact begS_sym (h1 p (by rw [hg]; simp))
def lzE (σ : Sty) (g : Nat) (N : Nms) : (d : Nat) → Ex d → List (List UInt8)
  | 0, x => agT σ N x
  | _ + 1, .inl x => agT σ N x
  | d + 1, .inr (h, l) => [40] :: (gapP g ++ (nzT σ N h :: (l.flatMap (fun e => gapP g ++ lzE σ g N d e) ++ (gapP g ++ [[41]]))))
def lzA (σ : Sty) (g : Nat) (N : Nms) (d : Nat) (l : List (Ex d)) : List (List UInt8) := l.flatMap (fun e => gapP g ++ lzE σ g N d e)
def lzF {d : Nat} (σ : Sty) (g : Nat) (tl : Bool) (fs : List (Fn d)) (f : Fn d) : List (List UInt8) :=
  f.nm :: (f.pn.flatMap (fun p => gapP g ++ [p]) ++ ([61] :: (gapP g ++ (nzT σ (nmsOf fs f) f.hd :: (lzA σ g (nmsOf fs f) d f.ag ++ ([59] :: (if tl then gapP g else [])))))))
theorem nz_piece {σ : Sty} {N : Nms} {np nf : Nat} (hN : NmN N) (hp : np = N.pn.length) (hf : nf = N.fn.length) {x : Wd} (hx : wOk np nf x) : (symP (nzT σ N x) ∧ blkP (nzT σ N x) = false) ∨ (tokP (nzT σ N x) ∧ blkP (nzT σ N x) = false) := by
  unfold nzT
  split
  · next h =>
    have hw : wdT N x = decL x.2.toNat := by unfold wdT; rw [if_pos h.1]
    rw [hw]
    refine .inr (dig_tok (by simp) (fun b hb => ?_))
    simp only [List.mem_cons] at hb
    rcases hb with rfl | rfl | hb
    · decide
    · decide
    · exact dc_dig _ b hb
  · exact wd_piece hN hp hf hx
theorem nz_nb {σ : Sty} {N : Nms} {np nf : Nat} (hN : NmN N) (hp : np = N.pn.length) (hf : nf = N.fn.length) {x : Wd} (hx : wOk np nf x) : blkP (nzT σ N x) = false := by
  rcases nz_piece (σ := σ) hN hp hf hx with h | h <;> exact h.2
theorem alt_nz {σ : Sty} {N : Nms} {np nf : Nat} (hN : NmN N) (hp : np = N.pn.length) (hf : nf = N.fn.length) {x : Wd} (hx : wOk np nf x) {r : List (List UInt8)} (hr : alt r) (hb : begS r) : alt (nzT σ N x :: r) := by
  refine ⟨?_, hr⟩
  rcases nz_piece (σ := σ) hN hp hf hx with h | h
  · exact .inl h.1
  · exact .inr ⟨h.1, h.2, hb⟩
section
variable {σ : Sty} {g : Nat} {N : Nms} {np nf : Nat}
/-- Pieces with what stands behind them. -/
theorem lz_ex (hN : NmN N) (hp : np = N.pn.length) (hf : nf = N.fn.length) : ∀ (d : Nat),
    (∀ (e : Ex d), exOk np nf d e → (∀ r, alt r → begS r → alt (lzE σ g N d e ++ r)) ∧ (lzE σ g N d e).filter (fun p => !blkP p) = tkE σ N d e) ∧
    (∀ (l : List (Ex d)), (∀ e ∈ l, exOk np nf d e) → (∀ r, alt r → begS r → alt (lzA σ g N d l ++ r) ∧ begS (lzA σ g N d l ++ r)) ∧ (lzA σ g N d l).filter (fun p => !blkP p) = tkA σ N d l) := by
  have b40 : blkP [40] = false := by decide
  have b41 : blkP [41] = false := by decide
  have hgf : (gapP g).filter (fun p => !blkP p) = [] := (gap_sym g).2.1
  have hw : ∀ x, wOk np nf x → (∀ r, alt r → begS r → alt (agT σ N x ++ r)) ∧ (agT σ N x).filter (fun p => !blkP p) = agT σ N x := by
    intro x hx
    have hnb := nz_nb (σ := σ) hN hp hf hx
    unfold agT
    split
    · refine ⟨fun r hr hb => ?_, by simp [b40, b41, hnb]⟩
      exact alt_sym op_sym (alt_nz hN hp hf hx (alt_sym cl_sym hr) (begS_sym cl_sym))
    · exact ⟨fun r hr hb => alt_nz hN hp hf hx hr hb, by simp [hnb]⟩
  have hl : ∀ d, (∀ (e : Ex d), exOk np nf d e → (∀ r, alt r → begS r → alt (lzE σ g N d e ++ r)) ∧ (lzE σ g N d e).filter (fun p => !blkP p) = tkE σ N d e) → (∀ (l : List (Ex d)), (∀ e ∈ l, exOk np nf d e) → (∀ r, alt r → begS r → alt (lzA σ g N d l ++ r) ∧ begS (lzA σ g N d l ++ r)) ∧ (lzA σ g N d l).filter (fun p => !blkP p) = tkA σ N d l) := by
    intro d he l
    induction l with
    | nil => intro _; exact ⟨fun r hr hb => ⟨hr, hb⟩, rfl⟩
    | cons e l ih =>
      intro h
      obtain ⟨a1, a2⟩ := he e (h e (by simp))
      obtain ⟨b1, b2⟩ := ih (fun x hx => h x (by simp [hx]))
      have e1 : lzA σ g N d (e :: l) = gapP g ++ (lzE σ g N d e ++ lzA σ g N d l) := by simp [lzA]
      have e2 : tkA σ N d (e :: l) = tkE σ N d e ++ tkA σ N d l := by simp [tkA]
      rw [e1, e2]
      refine ⟨fun r hr hb => ?_, by rw [List.filter_append, List.filter_append, hgf, a2, b2]; rfl⟩
      obtain ⟨c1, c2⟩ := b1 r hr hb
      rw [List.append_assoc, List.append_assoc]
      exact alt_gap (a1 _ c1 c2)
  intro d
  induction d with
  | zero =>
    have h0 : ∀ (e : Ex 0), exOk np nf 0 e → (∀ r, alt r → begS r → alt (lzE σ g N 0 e ++ r)) ∧ (lzE σ g N 0 e).filter (fun p => !blkP p) = tkE σ N 0 e := fun e he => hw e he
    exact ⟨h0, hl 0 h0⟩
  | succ d ih =>
    have h0 : ∀ (e : Ex (d + 1)), exOk np nf (d + 1) e → (∀ r, alt r → begS r → alt (lzE σ g N (d + 1) e ++ r)) ∧ (lzE σ g N (d + 1) e).filter (fun p => !blkP p) = tkE σ N (d + 1) e := by
      intro e he
      cases e with
      | inl x => exact hw x he
      | inr p =>
        obtain ⟨h, l⟩ := p
        obtain ⟨g1, _, _, g4⟩ := he
        obtain ⟨b1, b3⟩ := ih.2 l g4
        have hnb := nz_nb (σ := σ) hN hp hf g1
        have e1 : lzE σ g N (d + 1) (.inr (h, l)) = [40] :: (gapP g ++ (nzT σ N h :: (lzA σ g N d l ++ (gapP g ++ [[41]])))) := rfl
        have e2 : tkE σ N (d + 1) (.inr (h, l)) = [40] :: nzT σ N h :: (tkA σ N d l ++ [[41]]) := rfl
        rw [e1, e2]
        refine ⟨fun r hr hb => ?_, ?_⟩
        · have c := b1 (gapP g ++ ([41] :: r)) (alt_gap (alt_sym cl_sym hr)).1 (alt_gap (k := g) (alt_sym cl_sym hr)).2
          have e3 : [40] :: (gapP g ++ (nzT σ N h :: (lzA σ g N d l ++ (gapP g ++ [[41]])))) ++ r = [40] :: (gapP g ++ (nzT σ N h :: (lzA σ g N d l ++ (gapP g ++ ([41] :: r))))) := by simp
          rw [e3]
          exact alt_sym op_sym (alt_gap (alt_nz hN hp hf g1 c.1 c.2)).1
        · simp [b40, b41, hnb, b3, hgf]
    exact ⟨h0, hl (d + 1) h0⟩
end
theorem lz_fn {d : Nat} {σ : Sty} {g : Nat} {tl : Bool} {fs : List (Fn d)} (h : PrOk σ fs) (hn : ∀ f ∈ fs, namP f.nm ∧ ∀ p ∈ f.pn, namP p) {f : Fn d} (hf : f ∈ fs) : (∀ r, alt r → alt (lzF σ g tl fs f ++ r)) ∧ (lzF σ g tl fs f).filter (fun p => !blkP p) = fnTk σ fs f := by
  have hN : NmN (nmsOf fs f) := ⟨fun x hx => by obtain ⟨g, hg, rfl⟩ := List.mem_map.1 hx; exact (hn g hg).1, (hn f hf).2⟩
  have hlf : fs.length = (nmsOf fs f).fn.length := by simp [nmsOf]
  obtain ⟨b1, b3⟩ := (lz_ex (σ := σ) (g := g) hN (np := f.pn.length) (nf := fs.length) rfl hlf d).2 f.ag (h.ag f hf).2.1
  have hhd := (h.hd f hf).1
  have hnb := nz_nb (σ := σ) hN (np := f.pn.length) (nf := fs.length) rfl hlf hhd
  have hgf : (gapP g).filter (fun p => !blkP p) = [] := (gap_sym g).2.1
  have b61 : blkP [61] = false := by decide
  have b59 : blkP [59] = false := by decide
  have hps : ∀ (ps : List (List UInt8)), (∀ p ∈ ps, namP p) → (∀ r, alt r → begS r → alt (ps.flatMap (fun p => gapP g ++ [p]) ++ r) ∧ begS (ps.flatMap (fun p => gapP g ++ [p]) ++ r)) ∧ (ps.flatMap (fun p => gapP g ++ [p])).filter (fun p => !blkP p) = ps := by
    intro ps
    induction ps with
    | nil => intro _; exact ⟨fun r hr hb => ⟨hr, hb⟩, rfl⟩
    | cons p ps ih =>
      intro hp
      obtain ⟨a1, a3⟩ := ih (fun q hq => hp q (by simp [hq]))
      obtain ⟨t1, t2⟩ := nam_tok (hp p (by simp))
      have e : (p :: ps).flatMap (fun p => gapP g ++ [p]) = gapP g ++ (p :: ps.flatMap (fun p => gapP g ++ [p])) := by simp
      rw [e]
      refine ⟨fun r hr hb => ?_, ?_⟩
      · obtain ⟨c1, c2⟩ := a1 r hr hb
        rw [List.append_assoc]
        exact alt_gap ⟨.inr ⟨t1, t2, c2⟩, c1⟩
      · rw [List.filter_append, hgf, List.filter_cons, if_pos (by simp [t2]), a3]; rfl
  obtain ⟨p1, p3⟩ := hps f.pn (hn f hf).2
  obtain ⟨t1, t2⟩ := nam_tok (hn f hf).1
  have htl : ∀ r, alt r → alt ((if tl then gapP g else []) ++ r) := fun r hr => by
    cases tl
    · exact hr
    · exact (alt_gap hr).1
  refine ⟨fun r hr => ?_, ?_⟩
  · have c := b1 ([59] :: ((if tl then gapP g else []) ++ r)) (alt_sym sc_sym (htl r hr)) (begS_sym sc_sym)
    have e : lzF σ g tl fs f ++ r = f.nm :: (f.pn.flatMap (fun p => gapP g ++ [p]) ++ ([61] :: (gapP g ++ (nzT σ (nmsOf fs f) f.hd :: (lzA σ g (nmsOf fs f) d f.ag ++ ([59] :: ((if tl then gapP g else []) ++ r))))))) := by
      unfold lzF; simp
    rw [e]
    have q := p1 ([61] :: (gapP g ++ (nzT σ (nmsOf fs f) f.hd :: (lzA σ g (nmsOf fs f) d f.ag ++ ([59] :: ((if tl then gapP g else []) ++ r)))))) (alt_sym eq_sym (alt_gap (alt_nz hN rfl hlf hhd c.1 c.2)).1) (begS_sym eq_sym)
    exact ⟨.inr ⟨t1, t2, q.2⟩, q.1⟩
  · have ht0 : (if tl then gapP g else []).filter (fun p => !blkP p) = [] := by
      cases tl
      · rfl
      · exact hgf
    unfold lzF fnTk
    simp only [List.filter_cons, List.filter_append, hgf, ht0, p3, b3, t2, b61, b59, hnb]
    simp
theorem lz_toks {d : Nat} {σ : Sty} {g : Nat} {tl : Bool} {fs : List (Fn d)} (h : PrOk σ fs) (hn : ∀ f ∈ fs, namP f.nm ∧ ∀ p ∈ f.pn, namP p) (s : ByteArray) (hs : s.data.toList = (fs.flatMap (lzF σ g tl fs)).flatten) : (toksF s 0).map txL = fs.flatMap (fnTk σ fs) := by
  have key : ∀ (l : List (Fn d)), (∀ f ∈ l, f ∈ fs) → alt (l.flatMap (lzF σ g tl fs)) ∧ (l.flatMap (lzF σ g tl fs)).filter (fun p => !blkP p) = l.flatMap (fnTk σ fs) := by
    intro l
    induction l with
    | nil => intro _; exact ⟨trivial, rfl⟩
    | cons f l ih =>
      intro hf
      obtain ⟨a1, a2⟩ := ih (fun g hg => hf g (by simp [hg]))
      obtain ⟨c1, c2⟩ := lz_fn (g := g) (tl := tl) h hn (hf f (by simp))
      rw [List.flatMap_cons, List.flatMap_cons, List.filter_append, a2, c2]
      exact ⟨c1 _ a1, rfl⟩
  obtain ⟨k1, k2⟩ := key fs (fun _ hf => hf)
  have := toks_pieces s _ [] (by simpa using hs) (alt_pcs k1)
  rw [k2] at this
  exact this

/-! How long such texts are. -/
theorem nz_len {σ : Sty} {N : Nms} {np nf : Nat} {x : Wd} (hx : wOk np nf x) (hs : x.1 = 1 → x.2 < 1000) (hf : ∀ y ∈ N.fn, y.length ≤ 4) (hp : ∀ y ∈ N.pn, y.length ≤ 4) : (nzT σ N x).length ≤ 6 := by
  have := wd_len hx hs hf hp
  unfold nzT
  split
  · simp; omega
  · omega
theorem lz_len {σ : Sty} {g : Nat} {N : Nms} {np nf : Nat} (hf : ∀ y ∈ N.fn, y.length ≤ 4) (hp : ∀ y ∈ N.pn, y.length ≤ 4) : ∀ (d : Nat), (∀ (e : Ex d), exOk np nf d e → exS d e → (lzE σ g N d e).flatten.length ≤ 8 + 39 * unE d e) ∧ (∀ (l : List (Ex d)), (∀ e ∈ l, exOk np nf d e ∧ exS d e) → (lzA σ g N d l).flatten.length ≤ 11 * l.length + 39 * unA d l) := by
  have hg := (gap_sym g).2.2.2
  have hw : ∀ x, wOk np nf x → (x.1 = 1 → x.2 < 1000) → (agT σ N x).flatten.length ≤ 8 := by
    intro x hx hs
    have := nz_len (σ := σ) hx hs hf hp
    unfold agT
    split
    · simp; omega
    · simp; omega
  have hl : ∀ d, (∀ (e : Ex d), exOk np nf d e → exS d e → (lzE σ g N d e).flatten.length ≤ 8 + 39 * unE d e) → (∀ (l : List (Ex d)), (∀ e ∈ l, exOk np nf d e ∧ exS d e) → (lzA σ g N d l).flatten.length ≤ 11 * l.length + 39 * unA d l) := by
    intro d he l
    induction l with
    | nil => intro _; simp [lzA]
    | cons e l ih =>
      intro h
      have h1 := he e (h e (by simp)).1 (h e (by simp)).2
      have h2 := ih (fun x hx => h x (by simp [hx]))
      have e1 : lzA σ g N d (e :: l) = gapP g ++ (lzE σ g N d e ++ lzA σ g N d l) := by simp [lzA]
      have e2 : unA d (e :: l) = unE d e + unA d l := by simp [unA]
      rw [e1, e2, List.flatten_append, List.flatten_append, List.length_append, List.length_append, List.length_cons]
      omega
  intro d
  induction d with
  | zero =>
    have h0 : ∀ (e : Ex 0), exOk np nf 0 e → exS 0 e → (lzE σ g N 0 e).flatten.length ≤ 8 + 39 * unE 0 e := fun e he hs => by have := hw e he hs; show (agT σ N e).flatten.length ≤ _; omega
    exact ⟨h0, hl 0 h0⟩
  | succ d ih =>
    have h0 : ∀ (e : Ex (d + 1)), exOk np nf (d + 1) e → exS (d + 1) e → (lzE σ g N (d + 1) e).flatten.length ≤ 8 + 39 * unE (d + 1) e := by
      intro e he hs
      cases e with
      | inl x => have := hw x he hs; show (agT σ N x).flatten.length ≤ _; omega
      | inr p =>
        obtain ⟨h, l⟩ := p
        obtain ⟨g1, _, _, g4⟩ := he
        obtain ⟨s1, s2, s3⟩ := hs
        have b := ih.2 l (fun e he => ⟨g4 e he, s3 e he⟩)
        have hz := nz_len (σ := σ) g1 s1 hf hp
        have e1 : (lzE σ g N (d + 1) (.inr (h, l))).flatten.length = 1 + ((gapP g).flatten.length + ((nzT σ N h).length + ((lzA σ g N d l).flatten.length + ((gapP g).flatten.length + 1)))) := by
          show (([40] :: (gapP g ++ (nzT σ N h :: (lzA σ g N d l ++ (gapP g ++ [[41]]))))).flatten).length = _
          simp; omega
        have e2 : unE (d + 1) (.inr (h, l)) = 1 + unA d l := rfl
        rw [e1, e2]
        omega
    exact ⟨h0, hl (d + 1) h0⟩

end Go.Proofs.YtnndoagpbcacdaaDoor
namespace Go.Proofs.YtnndoagpbcacdaaDoor
open Go.RowKit

/-! Package redexkeep: grow.go: gap, loosely. -/
set_option maxHeartbeats 1000000 in
theorem kGap (st : Int) (w : World) (h1 : -9223372036854775808 ≤ st) (h2 : st ≤ 9223372036854775807) :
    Calls Tryd.prog 21 #[.int .i64 st] w fun e w' => ∃ x : ByteArray, e = .returned (.string x) ∧ x.data.toList = (gapP (pickF st 3)).flatten ∧ w' = w := by
  have hlt := pickF_lt st 3 (by omega)
  have HCP : Hid _ := kPick st 3 w h1 h2 (by omega) (by omega)
  generalize pickF st 3 = k at *
  go_enter Tryd.func21, Tryd.ntmps21
  go_wp2_with fail
  refine (show Calls _ _ _ _ _ from HCP.out).mono ?_
  rintro e w2 ⟨rfl, rfl⟩
  clear HCP
  have hk : k = 0 ∨ k = 1 ∨ k = 2 := by omega
  rcases hk with rfl | rfl | rfl
  · go_wp2_with fail
    go_ret
    exact ⟨_, rfl, by decide, rfl⟩
  · go_wp2_with fail
    go_ret
    exact ⟨_, rfl, by decide, rfl⟩
  · go_wp2_with fail
    go_ret
    exact ⟨_, rfl, by decide, rfl⟩

/-- The same, for a run whose order is drawn. -/
def gapB (k : Nat) : ByteArray := if k = 1 then ⟨#[10]⟩ else if k = 2 then ⟨#[32, 10, 32]⟩ else ⟨#[32]⟩
theorem gapB_data (k : Nat) : (gapB k).data.toList = (gapP k).flatten := by
  unfold gapB gapP
  split
  · rfl
  · split <;> rfl
set_option maxHeartbeats 1000000 in
theorem kGapS (st : Int) (w : World) (h1 : -9223372036854775808 ≤ st) (h2 : st ≤ 9223372036854775807) :
    Calls Tryd.prog 21 #[.int .i64 st] w fun e w' => e = .returned (.string (gapB (pickF st 3))) ∧ w' = w := by
  have hlt := pickF_lt st 3 (by omega)
  have HCP : Hid _ := kPick st 3 w h1 h2 (by omega) (by omega)
  generalize pickF st 3 = k at *
  go_enter Tryd.func21, Tryd.ntmps21
  go_wp2_with fail
  refine (show Calls _ _ _ _ _ from HCP.out).mono ?_
  rintro e w2 ⟨rfl, rfl⟩
  clear HCP
  have hk : k = 0 ∨ k = 1 ∨ k = 2 := by omega
  rcases hk with rfl | rfl | rfl
  · go_wp2_with fail
    go_ret
    exact ⟨rfl, rfl⟩
  · go_wp2_with fail
    go_ret
    exact ⟨rfl, rfl⟩
  · go_wp2_with fail
    go_ret
    exact ⟨rfl, rfl⟩
def styF (st : Int) : Sty := ⟨decide (st / 4 % 2 = 1), decide (st / 8 % 2 = 1)⟩
def lzN (st : Int) (s : List UInt8) : List UInt8 := if (48 ≤ (s.headD 0).toNat ∧ (s.headD 0).toNat ≤ 57) ∧ st / 4 % 2 = 1 then 48 :: 48 :: s else s
def lzW (st : Int) (hd : Bool) (s : List UInt8) : List UInt8 := if hd = false ∧ st / 8 % 2 = 1 then 40 :: (lzN st s ++ [41]) else lzN st s
theorem and1 (x : Int) : bits BinOp.and IntKind.i64 x 1 = x % 2 := by
  have h1 : bits BinOp.and IntKind.i64 x 1 = IntKind.i64.wrap (((BitVec.ofInt 64 x &&& BitVec.ofInt 64 1).toNat : Nat) : Int) := rfl
  rw [h1, BitVec.toNat_and, BitVec.toNat_ofInt, show (BitVec.ofInt 64 1).toNat = 1 from rfl, Nat.and_one_is_mod, IntKind.wrap_i64]
  have h2 : (2 : Int) ^ 64 = 18446744073709551616 := by decide
  have h3 : ((2 ^ 64 : Nat) : Int) = 18446744073709551616 := by decide
  rw [h3]
  omega
theorem bit_tell (x : Int) : (bits BinOp.and IntKind.i64 x 1 == 1) = decide (x % 2 = 1) := by
  rw [and1]; rfl
theorem first_byte (s : ByteArray) (h : 0 < s.size) : s.data.toList.headD 0 = s[0] := by
  obtain ⟨d⟩ := s
  obtain ⟨l⟩ := d
  cases l with
  | nil => simp [ByteArray.size] at h
  | cons a l => rfl
set_option maxHeartbeats 2000000 in
theorem kLoosely (s : ByteArray) (st : Int) (hd : Bool) (w : World) (_h1 : -9223372036854775808 ≤ st) (_h2 : st ≤ 9223372036854775807) (hs : 0 < s.size) (hs2 : s.size ≤ 1000) :
    Calls Tryd.prog 34 #[.string s, .int .i64 st, .bool hd] w fun e w' => ∃ x : ByteArray, e = .returned (.string x) ∧ x.data.toList = lzW st hd s.data.toList ∧ Below w.heap.size w w' := by
  have HF : Hid (s.data.toList.headD 0 = s[0]) := first_byte s hs
  have HQ : Hid (lzN st s.data.toList = if (48 ≤ (s[0].toNat : Int) ∧ (s[0].toNat : Int) ≤ 57) ∧ (bits BinOp.and IntKind.i64 (st / 4) 1 == 1) = true then 48 :: 48 :: s.data.toList else s.data.toList) := by
    show _ = _
    unfold lzN
    rw [HF.out, bit_tell]
    by_cases h : (48 ≤ s[0].toNat ∧ s[0].toNat ≤ 57) ∧ st / 4 % 2 = 1
    · rw [if_pos h, if_pos ⟨by omega, by simpa using h.2⟩]
    · rw [if_neg h, if_neg (fun g => h ⟨by omega, by simpa using g.2⟩)]
  have HW : Hid (lzW st hd s.data.toList = if hd = false ∧ (bits BinOp.and IntKind.i64 (st / 8) 1 == 1) = true then 40 :: (lzN st s.data.toList ++ [41]) else lzN st s.data.toList) := by
    show _ = _
    unfold lzW
    rw [bit_tell]
    simp
  generalize lzW st hd s.data.toList = R at *
  generalize lzN st s.data.toList = R0 at *
  clear HF
  go_enter Tryd.func34, Tryd.ntmps34
  go_wp2_with fail
  all_goals (
    go_ret
    refine ⟨_, rfl, ?_, Below.refl _ _⟩
    rw [HW.out, HQ.out]
    simp_all
    all_goals (intros; omega))

end Go.Proofs.YtnndoagpbcacdaaDoor
