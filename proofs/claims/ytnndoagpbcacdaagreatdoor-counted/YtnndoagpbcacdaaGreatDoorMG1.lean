import Derived.Test.YtnndoagpbcacdaaGreatDoorP3a
namespace Go.Proofs.YtnndoagpbcacdaaGreatDoor
open Go.RowKit

/-! The tokens of a text that is written piece by piece: a blank, or a token. -/
def n8 (b : UInt8) : Int := (b.toNat : Int)
def tokP (x : List UInt8) : Prop := ∃ a r, x = a :: r ∧ isB (n8 a) = false ∧ ∀ b ∈ r, goesB (n8 a) (n8 b) = true
def stopP (x rest : List UInt8) : Prop := ∀ b, rest.head? = some b → goesB (n8 (x.headD 0)) (n8 b) = false
def blkP (x : List UInt8) : Bool := x == [32] || x == [10]
def pcsOk : List (List UInt8) → Prop
  | [] => True
  | p :: r => (blkP p = true ∨ (blkP p = false ∧ tokP p ∧ stopP p r.flatten)) ∧ pcsOk r
def txL (t : Tk) : List UInt8 := t.txt.data.toList
theorem bt_list (s : ByteArray) (i : Nat) : bt s i = n8 (s.data.toList[i]?.getD 0) := by
  unfold bt n8
  rw [Array.getElem?_toList]
theorem endF_run (s : ByteArray) (i : Nat) : ∀ (k e : Nat), e + k ≤ s.size → (∀ j, e ≤ j → j < e + k → goesB (bt s i) (bt s j) = true) → endF s i e = endF s i (e + k)
  | 0, e, _, _ => rfl
  | k + 1, e, h, hg => by
    rw [endF_go s i e (by omega) (hg e (Nat.le_refl _) (by omega)), endF_run s i k (e + 1) (by omega) (fun j h1 h2 => hg j (by omega) (by omega))]
    congr 1; omega
theorem at_app (pre l : List UInt8) (j : Nat) : (pre ++ l)[pre.length + j]? = l[j]? := by
  rw [List.getElem?_append_right (by omega)]; congr 1; omega
theorem tok_piece (s : ByteArray) (pre x rest : List UInt8) (hs : s.data.toList = pre ++ (x ++ rest)) (hx : tokP x) (hst : stopP x rest) :
    ∃ t : Tk, txL t = x ∧ toksF s pre.length = t :: toksF s (pre.length + x.length) := by
  obtain ⟨a, r, rfl, hb, hg⟩ := hx
  have hsz : s.size = pre.length + ((r.length + 1) + rest.length) := by rw [size_len, hs]; simp; omega
  have h0 : bt s pre.length = n8 a := by rw [bt_list, hs]; simp
  have hj : ∀ j, j < r.length → bt s (pre.length + (j + 1)) = n8 (r[j]?.getD 0) := fun j hj => by
    rw [bt_list, hs, at_app, List.cons_append, List.getElem?_cons_succ, List.getElem?_append_left hj]
  have hend : endF s pre.length (pre.length + 1) = pre.length + (r.length + 1) := by
    rw [endF_run s pre.length r.length (pre.length + 1) (by omega)]
    · rw [show pre.length + 1 + r.length = pre.length + (r.length + 1) by omega]
      by_cases hr : rest = []
      · subst hr
        exact endF_end s _ _ (by simp at hsz; omega)
      · obtain ⟨c, rest', rfl⟩ := List.exists_cons_of_ne_nil hr
        refine endF_stop s _ _ (by simp at hsz; omega) ?_
        rw [h0, bt_list, hs, at_app, List.cons_append, List.getElem?_cons_succ, List.getElem?_append_right (Nat.le_refl _), Nat.sub_self]
        exact hst c rfl
    · intro j h1 h2
      obtain ⟨k, rfl⟩ : ∃ k, j = pre.length + (k + 1) := ⟨j - pre.length - 1, by omega⟩
      have hk : k < r.length := by omega
      rw [h0, hj k hk, List.getElem?_eq_getElem hk]
      exact hg _ (List.getElem_mem hk)
  refine ⟨⟨pre.length, s.extract pre.length (pre.length + (r.length + 1))⟩, ?_, ?_⟩
  · show (s.extract pre.length (pre.length + (r.length + 1))).data.toList = _
    rw [ByteArray.data_extract, Array.toList_extract, List.extract_eq_take_drop, hs, List.drop_left, show pre.length + (r.length + 1) - pre.length = (a :: r).length by simp, List.take_left]
  · rw [toksF_tok s pre.length (by omega) (by rw [h0]; exact hb), hend]
    rfl
theorem blank_piece (s : ByteArray) (pre x rest : List UInt8) (hs : s.data.toList = pre ++ (x ++ rest)) (hx : blkP x = true) : toksF s pre.length = toksF s (pre.length + x.length) := by
  have hb : ∃ b, x = [b] ∧ isB (n8 b) = true ∧ isL (n8 b) = false ∧ isD (n8 b) = false := by
    simp only [blkP, Bool.or_eq_true, beq_iff_eq] at hx
    rcases hx with rfl | rfl
    · exact ⟨32, rfl, by decide, by decide, by decide⟩
    · exact ⟨10, rfl, by decide, by decide, by decide⟩
  obtain ⟨b, rfl, h1, h2, h3⟩ := hb
  have hsz : pre.length < s.size := by rw [size_len, hs]; simp
  have h0 : bt s pre.length = n8 b := by rw [bt_list, hs]; simp
  rw [toksF_blank s pre.length hsz (by rw [h0]; exact h1)]
  have hend : endF s pre.length (pre.length + 1) = pre.length + 1 := by
    by_cases hl : pre.length + 1 < s.size
    · exact endF_stop s _ _ hl (by rw [h0]; simp [goesB, h2, h3])
    · exact endF_end s _ _ hl
  rw [hend]; rfl
/-- The tokens are the pieces that are no blanks. -/
theorem toks_pieces (s : ByteArray) : ∀ (ps : List (List UInt8)) (pre : List UInt8), s.data.toList = pre ++ ps.flatten → pcsOk ps → (toksF s pre.length).map txL = ps.filter (fun p => !blkP p)
  | [], pre, hs, _ => by
    rw [toksF_end s _ (by rw [size_len, hs]; simp)]; rfl
  | p :: r, pre, hs, h => by
    rw [List.flatten_cons] at hs
    have ih := toks_pieces s r (pre ++ p) (by rw [hs, List.append_assoc]) h.2
    rw [List.length_append] at ih
    rcases h.1 with hb | ⟨hb, ht, hst⟩
    · rw [blank_piece s pre p r.flatten hs hb, ih, List.filter_cons, if_neg (by simp [hb])]
    · obtain ⟨t, e1, e2⟩ := tok_piece s pre p r.flatten hs ht hst
      rw [e2, List.map_cons, ih, e1, List.filter_cons, if_pos (by simp [hb])]
/-! Pieces: signs (blanks among them), and words with a sign behind them. -/
def symP (p : List UInt8) : Prop := ∃ b, p = [b] ∧ isL (n8 b) = false ∧ isD (n8 b) = false
def begS (b : List (List UInt8)) : Prop := b = [] ∨ ∃ q r, b = q :: r ∧ symP q
def alt : List (List UInt8) → Prop
  | [] => True
  | p :: r => (symP p ∨ (tokP p ∧ blkP p = false ∧ begS r)) ∧ alt r
theorem goes_sym {a b : Int} (h1 : isL a = false) (h2 : isD a = false) : goesB a b = false := by simp [goesB, h1, h2]
theorem sym_stops {x : List UInt8} {r : List (List UInt8)} {a : UInt8} {y : List UInt8} (hx : x = a :: y) (hr : begS r) : stopP x r.flatten := by
  intro b hb
  rcases hr with rfl | ⟨q, r', rfl, c, rfl, h1, h2⟩
  · simp at hb
  · simp at hb
    subst hb
    subst hx
    show goesB (n8 a) (n8 c) = false
    unfold goesB
    rw [h1, h2]
    simp
theorem alt_pcs : ∀ {ps : List (List UInt8)}, alt ps → pcsOk ps
  | [], _ => trivial
  | p :: r, h => by
    refine ⟨?_, alt_pcs h.2⟩
    rcases h.1 with ⟨b, rfl, h1, h2⟩ | ⟨h1, h2, h3⟩
    · cases hb : blkP [b]
      · right
        refine ⟨rfl, ⟨b, [], rfl, ?_, by simp⟩, fun c _ => goes_sym h1 h2⟩
        simp only [blkP, Bool.or_eq_false_iff, beq_eq_false_iff_ne, ne_eq, List.cons.injEq, and_true] at hb
        unfold isB n8
        refine decide_eq_false (fun e => ?_)
        rcases e with e | e
        · exact hb.1 (UInt8.toNat_inj.1 (by show b.toNat = 32; omega))
        · exact hb.2 (UInt8.toNat_inj.1 (by show b.toNat = 10; omega))
      · exact .inl rfl
    · have h1' := h1
      obtain ⟨a, y, e, _⟩ := h1'
      exact .inr ⟨h2, h1, sym_stops e h3⟩
theorem begS_app {a b : List (List UInt8)} (ha : begS a) (hb : begS b) : begS (a ++ b) := by
  rcases ha with rfl | ⟨q, r, rfl, h⟩
  · exact hb
  · exact .inr ⟨q, r ++ b, rfl, h⟩
theorem alt_app : ∀ {a b : List (List UInt8)}, alt a → alt b → begS b → alt (a ++ b)
  | [], b, _, h, _ => h
  | p :: r, b, ha, h, hb => by
    refine ⟨?_, alt_app ha.2 h hb⟩
    rcases ha.1 with g | ⟨g1, g2, g3⟩
    · exact .inl g
    · exact .inr ⟨g1, g2, begS_app g3 hb⟩
theorem alt_sym {p : List UInt8} {r : List (List UInt8)} (hp : symP p) (h : alt r) : alt (p :: r) := ⟨.inl hp, h⟩
theorem alt_syms : ∀ {a b : List (List UInt8)}, (∀ p ∈ a, symP p) → alt b → alt (a ++ b)
  | [], b, _, h => h
  | p :: r, b, ha, h => ⟨.inl (ha p (by simp)), alt_syms (fun q hq => ha q (by simp [hq])) h⟩
theorem begS_sym {p : List UInt8} {r : List (List UInt8)} (hp : symP p) : begS (p :: r) := .inr ⟨p, r, rfl, hp⟩
theorem sym_of (b : UInt8) (h1 : isL (n8 b) = false) (h2 : isD (n8 b) = false) : symP [b] := ⟨b, rfl, h1, h2⟩

end Go.Proofs.YtnndoagpbcacdaaGreatDoor
namespace Go.Proofs.YtnndoagpbcacdaaGreatDoor
open Go.RowKit

/-! Grown programs, plain: words are atoms (1 a number, 2 a parameter, 3 a function, 4 a primitive); a part is a word, or an application: its head, its arguments. -/
abbrev Wd := Int × Int
def Ex : Nat → Type
  | 0 => Wd
  | d + 1 => Wd ⊕ (Wd × List (Ex d))
/-- A style: how words are written as heads, and as arguments (in parentheses or not). -/
structure Sty where
  nz : Bool
  pz : Bool
/-- The text of a word: the functions' names, the parameters'. -/
structure Nms where
  fn : List (List UInt8)
  pn : List (List UInt8)
def wdT (N : Nms) (x : Wd) : List UInt8 := if x.1 = 1 then decL x.2.toNat else if x.1 = 2 then N.pn[x.2.toNat]?.getD [] else if x.1 = 3 then N.fn[x.2.toNat]?.getD [] else [(([43, 45, 42, 60, 63] : List UInt8)[x.2.toNat]?).getD 0]
def nzT (σ : Sty) (N : Nms) (x : Wd) : List UInt8 := if x.1 = 1 ∧ σ.nz = true then 48 :: 48 :: wdT N x else wdT N x
def agT (σ : Sty) (N : Nms) (x : Wd) : List (List UInt8) := if σ.pz then [[40], nzT σ N x, [41]] else [nzT σ N x]
/-- Tokens. -/
def tkE (σ : Sty) (N : Nms) : (d : Nat) → Ex d → List (List UInt8)
  | 0, x => agT σ N x
  | _ + 1, .inl x => agT σ N x
  | d + 1, .inr (h, l) => [40] :: nzT σ N h :: (l.flatMap (tkE σ N d) ++ [[41]])
def tkA (σ : Sty) (N : Nms) (d : Nat) (l : List (Ex d)) : List (List UInt8) := l.flatMap (tkE σ N d)
/-- Inner applications. -/
def unE : (d : Nat) → Ex d → Nat
  | 0, _ => 0
  | _ + 1, .inl _ => 0
  | d + 1, .inr (_, l) => 1 + (l.map (unE d)).sum
def unA (d : Nat) (l : List (Ex d)) : Nat := (l.map (unE d)).sum
def wOk (np nf : Nat) (x : Wd) : Prop := (x.1 = 1 ∧ 0 ≤ x.2 ∧ x.2 < 1000000) ∨ (x.1 = 2 ∧ 0 ≤ x.2 ∧ x.2 < np) ∨ (x.1 = 3 ∧ 0 ≤ x.2 ∧ x.2 < nf) ∨ (x.1 = 4 ∧ 0 ≤ x.2 ∧ x.2 < 5)
def exOk (np nf : Nat) : (d : Nat) → Ex d → Prop
  | 0, x => wOk np nf x
  | _ + 1, .inl x => wOk np nf x
  | d + 1, .inr (h, l) => wOk np nf h ∧ 1 ≤ l.length ∧ l.length ≤ 7 ∧ ∀ e ∈ l, exOk np nf d e
/-! The grammar by kinds. -/
def kdL (x : List UInt8) : Int := kindC (n8 (x.headD 0)) x.length
theorem kind_kL (t : Tk) : kindOf t.txt = kdL (txL t) := by
  unfold kindOf kdL txL
  rw [bt_list, size_len]
  congr 1
  cases t.txt.data.toList <;> rfl
def gRun : Gr → List Int → Option Gr
  | g, [] => some g
  | g, k :: r => if (gTake g k).1 = 0 then gRun (gTake g k).2 r else none
theorem gRun_app : ∀ (a b : List Int) (g : Gr), gRun g (a ++ b) = (gRun g a).bind (fun h => gRun h b)
  | [], _, _ => rfl
  | k :: a, b, g => by
    rw [List.cons_append, gRun, gRun]
    split
    · exact gRun_app a b _
    · rfl
theorem gAll_run (n : Nat) : ∀ (ts : List Tk) (g g' : Gr), gRun g (ts.map (fun t => kindOf t.txt)) = some g' → g'.fn ≠ 0 → g'.aw = 0 → (gAll n g ts).2 = 0
  | [], g, g', h, h1, h2 => by
    simp [gRun] at h
    subst h
    unfold gAll
    rw [if_neg (by intro e; rcases e with e | e; exact h1 e; exact e h2)]
  | t :: r, g, g', h, h1, h2 => by
    rw [List.map_cons, gRun] at h
    unfold gAll
    split at h
    · next e => rw [if_pos e]; exact gAll_run n r _ g' h h1 h2
    · cases h
/-- Kinds of words: 1, 2 or 3. -/
def NmOk (N : Nms) : Prop := (∀ x ∈ N.fn, kdL x = 1) ∧ (∀ x ∈ N.pn, kdL x = 1)
theorem dc_dig (n : Nat) : ∀ b ∈ decL n, 48 ≤ b.toNat ∧ b.toNat ≤ 57 := by
  induction n using Nat.strongRecOn with
  | ind n ih =>
    intro b hb
    by_cases h : n < 10
    · rw [decL_lt n h] at hb
      rw [List.mem_singleton] at hb
      subst hb
      rw [UInt8.toNat_ofNat']
      omega
    · rw [decL_ge n h] at hb
      rcases List.mem_append.1 hb with hb | hb
      · exact ih (n / 10) (by omega) b hb
      · rw [List.mem_singleton] at hb
        subst hb
        rw [UInt8.toNat_ofNat']
        omega
theorem dc_ne (n : Nat) : decL n ≠ [] := by
  by_cases h : n < 10
  · rw [decL_lt n h]; simp
  · rw [decL_ge n h]; simp
theorem decL_six (n : Nat) (h : n < 1000000) : (decL n).length ≤ 6 := by
  by_cases h1 : n < 10
  · rw [decL_lt n h1]; simp
  rw [decL_ge n h1, List.length_append]
  by_cases h2 : n / 10 < 10
  · rw [decL_lt _ h2]; simp
  rw [decL_ge _ h2, List.length_append]
  by_cases h3 : n / 10 / 10 < 10
  · rw [decL_lt _ h3]; simp
  rw [decL_ge _ h3, List.length_append]
  by_cases h4 : n / 10 / 10 / 10 < 10
  · rw [decL_lt _ h4]; simp
  rw [decL_ge _ h4, List.length_append]
  by_cases h5 : n / 10 / 10 / 10 / 10 < 10
  · rw [decL_lt _ h5]; simp
  rw [decL_ge _ h5, List.length_append, decL_lt _ (by omega)]; simp
theorem decL_three (n : Nat) (h : n < 1000) : (decL n).length ≤ 3 := by
  by_cases h1 : n < 10
  · rw [decL_lt n h1]; simp
  rw [decL_ge n h1, List.length_append]
  by_cases h2 : n / 10 < 10
  · rw [decL_lt _ h2]; simp
  rw [decL_ge _ h2, List.length_append, decL_lt _ (by omega)]; simp
theorem kL_dig {x : List UInt8} (hne : x ≠ []) (hd : ∀ b ∈ x, 48 ≤ b.toNat ∧ b.toNat ≤ 57) (hl : x.length ≤ 6) : kdL x = 2 := by
  cases x with
  | nil => exact absurd rfl hne
  | cons a r =>
    have := hd a (by simp)
    unfold kdL kindC
    have h1 : isL (n8 a) = false := by unfold isL n8; exact decide_eq_false (by omega)
    have h2 : isD (n8 a) = true := by unfold isD n8; exact decide_eq_true (by omega)
    simp only [List.headD_cons, h1, h2, Bool.false_eq_true, if_false, if_true]
    rw [if_neg (by omega)]
/-- Words are short where noughts are put ahead. -/
def nzOk (σ : Sty) (x : Wd) : Prop := σ.nz = true → x.1 = 1 → x.2 < 1000
theorem kind_wd {σ : Sty} {N : Nms} {np nf : Nat} {x : Wd} (hN : NmOk N) (hp : np = N.pn.length) (hf : nf = N.fn.length) (hx : wOk np nf x) (hz : nzOk σ x) : kdL (nzT σ N x) = (if x.1 = 1 then 2 else if x.1 = 4 then 3 else 1) := by
  unfold nzT
  rcases hx with ⟨h, h0, h1⟩ | ⟨h, h0, h1⟩ | ⟨h, h0, h1⟩ | ⟨h, h0, h1⟩
  · rw [if_pos h]
    have hw : wdT N x = decL x.2.toNat := by unfold wdT; rw [if_pos h]
    have hdg := dc_dig x.2.toNat
    by_cases hs : σ.nz = true
    · rw [if_pos ⟨h, hs⟩, hw]
      refine kL_dig (by simp) ?_ ?_
      · intro b hb
        rcases List.mem_cons.1 hb with rfl | hb
        · decide
        · rcases List.mem_cons.1 hb with rfl | hb
          · decide
          · exact hdg b hb
      · have := decL_three x.2.toNat (by have := hz hs h; omega)
        simp; omega
    · rw [if_neg (fun e => hs e.2), hw]
      exact kL_dig (dc_ne _) hdg (decL_six _ (by omega))
  · have hw : wdT N x = N.pn[x.2.toNat]?.getD [] := by unfold wdT; rw [if_neg (by omega), if_pos h]
    have hlt : x.2.toNat < N.pn.length := by omega
    rw [if_neg (by omega), if_neg (by omega), if_neg (by omega), hw, List.getElem?_eq_getElem hlt]
    exact hN.2 _ (List.getElem_mem hlt)
  · have hw : wdT N x = N.fn[x.2.toNat]?.getD [] := by unfold wdT; rw [if_neg (by omega), if_neg (by omega), if_pos h]
    have hlt : x.2.toNat < N.fn.length := by omega
    rw [if_neg (by omega), if_neg (by omega), if_neg (by omega), hw, List.getElem?_eq_getElem hlt]
    exact hN.1 _ (List.getElem_mem hlt)
  · have hw : wdT N x = [(([43, 45, 42, 60, 63] : List UInt8)[x.2.toNat]?).getD 0] := by unfold wdT; rw [if_neg (by omega), if_neg (by omega), if_neg (by omega)]
    rw [if_neg (by omega), if_neg (by omega), if_pos h, hw]
    have : x.2.toNat = 0 ∨ x.2.toNat = 1 ∨ x.2.toNat = 2 ∨ x.2.toNat = 3 ∨ x.2.toNat = 4 := by omega
    rcases this with e | e | e | e | e <;> rw [e] <;> decide
theorem simple_wd {σ : Sty} {N : Nms} {np nf : Nat} {x : Wd} (hN : NmOk N) (hp : np = N.pn.length) (hf : nf = N.fn.length) (hx : wOk np nf x) (hz : nzOk σ x) : simpleK (kdL (nzT σ N x)) = true := by
  rw [kind_wd hN hp hf hx hz]
  split
  · decide
  · split <;> decide
def exNz (σ : Sty) : (d : Nat) → Ex d → Prop
  | 0, x => nzOk σ x
  | _ + 1, .inl x => nzOk σ x
  | d + 1, .inr (h, l) => nzOk σ h ∧ ∀ e ∈ l, exNz σ d e
/-- What the grammar says to a part, and to arguments. -/
def secG (g : Gr) : Nat := if g.wi = 1 ∧ g.ar ≠ [] then 1 else 0
def cntG (g : Gr) : Gr := { g with wi := g.wi + 1, no := g.no + secG g }
theorem gCnt_ok (g : Gr) (h : g.wi < 8) (hn : g.no + secG g ≤ 12) : gCount g = (0, cntG g) := by
  unfold gCount cntG
  rw [if_neg (by omega)]
  unfold secG at hn ⊢
  by_cases hc : g.wi = 1 ∧ g.ar ≠ []
  · rw [if_pos hc] at hn
    rw [if_neg (by intro e; rcases e with e | e; omega; exact hc.2 e), if_neg (by omega), if_pos hc]
    rfl
  · have : g.wi + 1 ≠ 2 ∨ g.ar = [] := by
      by_cases h1 : g.wi = 1
      · right
        apply Classical.byContradiction
        intro e; exact hc ⟨h1, e⟩
      · left; omega
    rw [if_pos this, if_neg hc]
    simp
theorem k40 : kdL [40] = 6 := by decide
theorem k41 : kdL [41] = 7 := by decide
theorem gPart_simple (g : Gr) (k : Int) (h3 : g.aw = 3) (hk : simpleK k = true) (h : g.wi < 8) (hn : g.no + secG g ≤ 12) : gTake g k = (0, cntG g) := by
  unfold gTake
  rw [if_neg (by omega), if_neg (by omega), if_neg (by omega)]
  unfold gPart
  have : k = 1 ∨ k = 2 ∨ k = 3 := by simpa [simpleK] using hk
  rw [if_neg (by omega), if_neg (by omega), if_neg (by omega), if_pos hk]
  exact gCnt_ok g h hn
theorem gPart_open (g : Gr) (h3 : g.aw = 3) (h : g.wi < 8) (hn : g.no + secG g ≤ 12) : gTake g 6 = (0, { cntG g with ar := (cntG g).ar ++ [(cntG g).wi], aw := 2 }) := by
  unfold gTake
  rw [if_neg (by omega), if_neg (by omega), if_neg (by omega)]
  unfold gPart
  rw [if_neg (by omega), if_neg (by omega), if_pos rfl]
  unfold gBegin
  rw [gCnt_ok g h hn, if_pos rfl]
theorem gTake_head (g : Gr) (k : Int) (h2 : g.aw = 2) (hk : simpleK k = true) : gTake g k = (0, { g with wi := 1, aw := 3 }) := by
  unfold gTake
  rw [if_neg (by omega), if_neg (by omega), if_pos h2]
  unfold gHead
  rw [if_pos hk]
theorem gPart_close (g : Gr) (A : List Int) (a : Int) (h3 : g.aw = 3) (ha : g.ar = A ++ [a]) : gTake g 7 = (0, { g with wi := a, ar := A }) := by
  unfold gTake
  rw [if_neg (by omega), if_neg (by omega), if_neg (by omega)]
  unfold gPart
  rw [if_neg (by omega), if_pos rfl]
  unfold gEndInner
  rw [if_neg (by rw [ha]; simp), ha]
  simp
/-- Behind n parts with m inner applications. -/
structure GOut (g g' : Gr) (n m : Nat) : Prop where
  aw : g'.aw = 3
  fn : g'.fn = g.fn
  pa : g'.pa = g.pa
  wi : g'.wi = g.wi + n
  ar : g'.ar = g.ar
  no : g'.no = g.no + m + (if n = 0 then 0 else secG g)
theorem cntG_out (g : Gr) (h3 : g.aw = 3) : GOut g (cntG g) 1 0 := ⟨h3, rfl, rfl, rfl, rfl, by simp [cntG]⟩
theorem gRun_cons (g g' : Gr) (k : Int) (r : List Int) (h : gTake g k = (0, g')) : gRun g (k :: r) = gRun g' r := by
  rw [gRun, h, if_pos rfl]
theorem gRun_ex {σ : Sty} {N : Nms} {np nf : Nat} (hN : NmOk N) (hp : np = N.pn.length) (hf : nf = N.fn.length) : ∀ (d : Nat),
    (∀ (e : Ex d) (g : Gr), exOk np nf d e → exNz σ d e → g.aw = 3 → g.wi < 8 → g.no + secG g + unE d e ≤ 12 → ∃ g', gRun g ((tkE σ N d e).map kdL) = some g' ∧ GOut g g' 1 (unE d e)) ∧
    (∀ (l : List (Ex d)) (g : Gr), (∀ e ∈ l, exOk np nf d e) → (∀ e ∈ l, exNz σ d e) → g.aw = 3 → 1 ≤ g.wi → g.wi + l.length ≤ 8 → g.no + secG g + unA d l ≤ 12 → ∃ g', gRun g ((tkA σ N d l).map kdL) = some g' ∧ GOut g g' l.length (unA d l)) := by
  have hword : ∀ (x : Wd) (g : Gr), wOk np nf x → nzOk σ x → g.aw = 3 → g.wi < 8 → g.no + secG g ≤ 12 → ∃ g', gRun g ((agT σ N x).map kdL) = some g' ∧ GOut g g' 1 0 := by
    intro x g hx hz h3 h8 hn
    have hs := simple_wd hN hp hf hx hz
    unfold agT
    have ho := cntG_out g h3
    split
    · rw [List.map_cons, List.map_cons, List.map_cons, k40, k41]
      rw [gRun_cons g _ 6 _ (gPart_open g h3 h8 hn), gRun_cons _ _ _ _ (gTake_head { cntG g with ar := (cntG g).ar ++ [(cntG g).wi], aw := 2 } _ rfl hs)]
      rw [gRun_cons _ _ _ _ (gPart_close { cntG g with ar := (cntG g).ar ++ [(cntG g).wi], wi := 1, aw := 3 } (cntG g).ar (cntG g).wi rfl rfl)]
      exact ⟨_, rfl, rfl, ho.fn, ho.pa, ho.wi, ho.ar, ho.no⟩
    · rw [List.map_cons, gRun_cons g _ _ _ (gPart_simple g _ h3 hs h8 hn)]
      exact ⟨_, rfl, ho⟩
  have hlist : ∀ (d : Nat), (∀ (e : Ex d) (g : Gr), exOk np nf d e → exNz σ d e → g.aw = 3 → g.wi < 8 → g.no + secG g + unE d e ≤ 12 → ∃ g', gRun g ((tkE σ N d e).map kdL) = some g' ∧ GOut g g' 1 (unE d e)) →
      (∀ (l : List (Ex d)) (g : Gr), (∀ e ∈ l, exOk np nf d e) → (∀ e ∈ l, exNz σ d e) → g.aw = 3 → 1 ≤ g.wi → g.wi + l.length ≤ 8 → g.no + secG g + unA d l ≤ 12 → ∃ g', gRun g ((tkA σ N d l).map kdL) = some g' ∧ GOut g g' l.length (unA d l)) := by
    intro d ih l
    induction l with
    | nil => intro g _ _ h3 _ _ _; exact ⟨g, rfl, h3, rfl, rfl, by simp, rfl, by simp [unA]⟩
    | cons e l ihl =>
      intro g h1 h2 h3 h4 h5 h6
      have hu : unA d (e :: l) = unE d e + unA d l := by simp [unA]
      have ht : tkA σ N d (e :: l) = tkE σ N d e ++ tkA σ N d l := by simp [tkA]
      rw [hu] at h6 ⊢
      rw [List.length_cons] at h5 ⊢
      obtain ⟨g1, q1, q2⟩ := ih e g (h1 e (by simp)) (h2 e (by simp)) h3 (by omega) (by omega)
      have hwi := q2.wi
      have hno := q2.no
      rw [if_neg (by omega)] at hno
      have hs1 : secG g1 = 0 := by unfold secG; rw [if_neg (by intro e; omega)]
      obtain ⟨g2, r1, r2⟩ := ihl g1 (fun x hx => h1 x (by simp [hx])) (fun x hx => h2 x (by simp [hx])) q2.aw (by omega) (by omega) (by omega)
      refine ⟨g2, by rw [ht, List.map_append, gRun_app, q1]; exact r1, r2.aw, r2.fn.trans q2.fn, r2.pa.trans q2.pa, ?_, r2.ar.trans q2.ar, ?_⟩
      · rw [r2.wi, hwi]; omega
      · have hn2 := r2.no
        rw [hs1, ite_self] at hn2
        rw [hn2, hno, if_neg (by omega)]
        omega
  intro d
  induction d with
  | zero =>
    have h0 : ∀ (e : Ex 0) (g : Gr), exOk np nf 0 e → exNz σ 0 e → g.aw = 3 → g.wi < 8 → g.no + secG g + unE 0 e ≤ 12 → ∃ g', gRun g ((tkE σ N 0 e).map kdL) = some g' ∧ GOut g g' 1 (unE 0 e) :=
      fun e g he hz h3 h8 hn => hword e g he hz h3 h8 (by simpa [unE] using hn)
    exact ⟨h0, hlist 0 h0⟩
  | succ d ih =>
    have h0 : ∀ (e : Ex (d + 1)) (g : Gr), exOk np nf (d + 1) e → exNz σ (d + 1) e → g.aw = 3 → g.wi < 8 → g.no + secG g + unE (d + 1) e ≤ 12 → ∃ g', gRun g ((tkE σ N (d + 1) e).map kdL) = some g' ∧ GOut g g' 1 (unE (d + 1) e) := by
      intro e g he hz h3 h8 hn
      cases e with
      | inl x => exact hword x g he hz h3 h8 (by simpa [unE] using hn)
      | inr p =>
        obtain ⟨h, l⟩ := p
        obtain ⟨hh, hl1, hl2, hl⟩ := he
        obtain ⟨hz1, hz2⟩ := hz
        have hs := simple_wd hN hp hf hh hz1
        have hun : unE (d + 1) (.inr (h, l)) = 1 + unA d l := rfl
        rw [hun] at hn ⊢
        have htk : (tkE σ N (d + 1) (.inr (h, l))).map kdL = 6 :: kdL (nzT σ N h) :: ((tkA σ N d l).map kdL ++ [7]) := by
          show ([40] :: nzT σ N h :: (l.flatMap (tkE σ N d) ++ [[41]])).map kdL = _
          rw [List.map_cons, List.map_cons, List.map_append, k40]; rfl
        rw [htk, gRun_cons g _ 6 _ (gPart_open g h3 h8 (by omega)), gRun_cons _ _ _ _ (gTake_head _ _ rfl hs), gRun_app]
        have hsec : secG { cntG g with ar := (cntG g).ar ++ [(cntG g).wi], wi := 1, aw := 3 } = 1 := by unfold secG; rw [if_pos ⟨rfl, by simp⟩]
        obtain ⟨g2, r1, r2⟩ := ih.2 l { cntG g with ar := (cntG g).ar ++ [(cntG g).wi], wi := 1, aw := 3 } hl hz2 rfl (by simp) (by simp only; omega) (by
          rw [hsec]
          show (cntG g).no + _ + _ ≤ 12
          have : (cntG g).no = g.no + secG g := rfl
          omega)
        rw [r1]
        have hno := r2.no
        rw [hsec, if_neg (by omega)] at hno
        refine ⟨{ g2 with wi := (cntG g).wi, ar := (cntG g).ar }, by rw [Option.bind_some, gRun_cons _ _ _ _ (gPart_close g2 (cntG g).ar (cntG g).wi r2.aw r2.ar)]; rfl, r2.aw, r2.fn, r2.pa, rfl, rfl, ?_⟩
        show g2.no = _
        rw [hno, if_neg (by omega)]
        show g.no + secG g + _ + _ = _
        omega
    exact ⟨h0, hlist (d + 1) h0⟩

end Go.Proofs.YtnndoagpbcacdaaGreatDoor
namespace Go.Proofs.YtnndoagpbcacdaaGreatDoor
open Go.RowKit

/-! Grown programs: their trees, their code, how they are shown. -/
def partE : (d : Nat) → Ex d → Nat → Int × Int
  | 0, x, _ => x
  | _ + 1, .inl x, _ => x
  | _ + 1, .inr _, k => (5, (k : Int))
def ownL {α : Type} (f : α → Nat → Int × Int) (u : α → Nat) : List α → Nat → Ln
  | [], _ => []
  | e :: l, k => f e k :: ownL f u l (k + u e)
def rstL {α : Type} (f : α → Nat → List Ln) (u : α → Nat) : List α → Nat → List Ln
  | [], _ => []
  | e :: l, k => f e k ++ rstL f u l (k + u e)
def linesE : (d : Nat) → Ex d → Nat → List Ln
  | 0, _, _ => []
  | _ + 1, .inl _, _ => []
  | d + 1, .inr (h, l), k => (h :: ownL (partE d) (unE d) l (k + 1)) :: rstL (linesE d) (unE d) l (k + 1)
def ownA (d : Nat) (l : List (Ex d)) (k : Nat) : Ln := ownL (partE d) (unE d) l k
def restA (d : Nat) (l : List (Ex d)) (k : Nat) : List Ln := rstL (linesE d) (unE d) l k
def shE (N : Nms) : (d : Nat) → Ex d → List UInt8
  | 0, x => 32 :: wdT N x
  | _ + 1, .inl x => 32 :: wdT N x
  | d + 1, .inr (h, l) => 32 :: 40 :: (wdT N h ++ (l.flatMap (shE N d) ++ [41]))
def shA (N : Nms) (d : Nat) (l : List (Ex d)) : List UInt8 := l.flatMap (shE N d)
theorem dropZ_ne : ∀ (l : List UInt8), (∀ a r, l = a :: r → a ≠ 48 ∨ r = []) → dropZ l = l
  | [], _ => rfl
  | [a], _ => rfl
  | a :: b :: r, h => by
    rw [dropZ]
    rcases h a (b :: r) rfl with g | g
    · rw [if_neg g]
    · cases g
theorem dc_head (n : Nat) : ∀ a r, decL n = a :: r → a ≠ 48 ∨ r = [] := by
  induction n using Nat.strongRecOn with
  | ind n ih =>
    intro a r h
    by_cases h1 : n < 10
    · rw [decL_lt n h1] at h
      cases h
      exact .inr rfl
    · rw [decL_ge n h1] at h
      cases hd : decL (n / 10) with
      | nil => exact absurd hd (dc_ne _)
      | cons b q =>
        rw [hd, List.cons_append] at h
        obtain ⟨rfl, rfl⟩ := List.cons.inj h
        left
        rcases ih (n / 10) (by omega) b q hd with g | g
        · exact g
        · subst g
          by_cases h2 : n / 10 < 10
          · rw [decL_lt _ h2] at hd
            obtain ⟨rfl, _⟩ := List.cons.inj hd
            intro e
            have := congrArg UInt8.toNat e
            rw [UInt8.toNat_ofNat'] at this
            have h48 : (48 : UInt8).toNat = 48 := rfl
            omega
          · rw [decL_ge _ h2] at hd
            have := congrArg List.length hd
            have hne := dc_ne (n / 10 / 10)
            have : 0 < (decL (n / 10 / 10)).length := List.length_pos_iff.2 hne
            rw [List.length_append, List.length_singleton, List.length_singleton] at *
            omega
theorem dropZ_dec (n : Nat) : dropZ (decL n) = decL n := dropZ_ne _ (dc_head n)
theorem dropZ_two (n : Nat) : dropZ (48 :: 48 :: decL n) = decL n := by
  rw [dropZ, if_pos rfl]
  cases h : decL n with
  | nil => exact absurd h (dc_ne n)
  | cons a r => rw [dropZ, if_pos rfl, ← h, dropZ_dec]
theorem map_one {α β : Type} {f : α → β} {l : List α} {a : β} (h : l.map f = [a]) : ∃ t, l = [t] ∧ f t = a := by
  obtain ⟨t, r, rfl, h1, h2⟩ := List.map_eq_cons_iff.1 h
  have : r = [] := by simpa using h2
  exact ⟨t, by rw [this], h1⟩
theorem map_two {α β : Type} {f : α → β} {l : List α} {a b : β} {m : List β} (h : l.map f = a :: b :: m) : ∃ t u r, l = t :: u :: r ∧ f t = a ∧ f u = b ∧ r.map f = m := by
  obtain ⟨t, r, rfl, h1, h2⟩ := List.map_eq_cons_iff.1 h
  obtain ⟨u, r2, rfl, h3, h4⟩ := List.map_eq_cons_iff.1 h2
  exact ⟨t, u, r2, rfl, h1, h3, h4⟩
section
variable {σ : Sty} {N : Nms} {np nf : Nat}
theorem tkL_wd (hN : NmOk N) (hp : np = N.pn.length) (hf : nf = N.fn.length) {x : Wd} (hx : wOk np nf x) (hz : nzOk σ x) {t : Tk} (ht : txL t = nzT σ N x) : tkL t = wdT N x := by
  unfold tkL
  rw [kind_kL, ht, kind_wd hN hp hf hx hz]
  have ht' : t.txt.data.toList = nzT σ N x := ht
  rw [ht']
  by_cases h1 : x.1 = 1
  · rw [if_pos h1, if_pos rfl]
    have hw : wdT N x = decL x.2.toNat := by unfold wdT; rw [if_pos h1]
    unfold nzT
    split
    · rw [hw, dropZ_two]
    · rw [hw, dropZ_dec]
  · rw [if_neg h1]
    have : nzT σ N x = wdT N x := by unfold nzT; rw [if_neg (fun e => h1 e.1)]
    rw [this]
    by_cases h4 : x.1 = 4
    · rw [if_pos h4, if_neg (by decide)]
    · rw [if_neg h4, if_neg (by decide)]
theorem simp_wd (hN : NmOk N) (hp : np = N.pn.length) (hf : nf = N.fn.length) {x : Wd} (hx : wOk np nf x) (hz : nzOk σ x) {t : Tk} (ht : txL t = nzT σ N x) : simp3 t := by
  have := simple_wd hN hp hf hx hz
  unfold simp3
  rw [kind_kL, ht]
  simpa [simpleK] using this
/-- What tells words by their texts. -/
def Tells (σ : Sty) (N : Nms) (np nf : Nat) (f : Tk → Int × Int) : Prop := ∀ t x, wOk np nf x → nzOk σ x → txL t = nzT σ N x → f t = x
structure AtE (σ : Sty) (N : Nms) (np nf d : Nat) (l : List (Ex d)) (ts : List Tk) (a : At) : Prop where
  ok : a.ok
  tk : a.toks = ts
  un : unT a = unA d l
  own : ∀ f, Tells σ N np nf f → ∀ k, ownT f a k = ownA d l k
  rst : ∀ f, Tells σ N np nf f → ∀ k, restT f a k = restA d l k
  sho : spT a = shA N d l
  nil : a.isNil = l.isEmpty
theorem at_word (hN : NmOk N) (hp : np = N.pn.length) (hf : nf = N.fn.length) {x : Wd} (hx : wOk np nf x) (hz : nzOk σ x) {d : Nat} {l : List (Ex d)} {e : Ex d} {ts1 ts : List Tk} {a : At} (h1 : ts1.map txL = agT σ N x) (ha : AtE σ N np nf d l ts a)
    (hu : unE d e = 0) (hpt : ∀ k, partE d e k = x) (hli : ∀ k, linesE d e k = []) (hsh : shE N d e = 32 :: wdT N x) : ∃ b, AtE σ N np nf d (e :: l) (ts1 ++ ts) b := by
  unfold agT at h1
  split at h1
  · rename_i hpz
    obtain ⟨o, t, r0, rfl, e1, e2, e3'⟩ := map_two h1
    · obtain ⟨c, rfl, e3⟩ := map_one e3'
      have hs := simp_wd hN hp hf hx hz e2
      refine ⟨.par o t c .nil a, ⟨by rw [kind_kL, e1]; exact k40, hs, by rw [kind_kL, e3]; exact k41, trivial, ha.ok⟩, ?_, ?_, fun f hT k => ?_, fun f hT k => ?_, ?_, rfl⟩
      · simp [At.toks, ha.tk]
      · show (if At.nil.isNil then unT a else _) = _
        rw [if_pos (show At.nil.isNil = true from rfl), ha.un]; simp [unA, hu]
      · show (if At.nil.isNil then f t :: ownT f a k else _) = _
        rw [if_pos (show At.nil.isNil = true from rfl), hT t x hx hz e2, ha.own f hT k]
        simp [ownA, ownL, hpt, hu]
      · show (if At.nil.isNil then restT f a k else _) = _
        rw [if_pos (show At.nil.isNil = true from rfl), ha.rst f hT k]
        simp [restA, rstL, hli, hu]
      · rw [spT, tkL_wd hN hp hf hx hz e2, ha.sho]
        simp [shA, hsh]
  · obtain ⟨t, rfl, h2⟩ := map_one h1
    · have hs := simp_wd hN hp hf hx hz h2
      refine ⟨.sim t a, ⟨hs, ha.ok⟩, ?_, ?_, fun f hT k => ?_, fun f hT k => ?_, ?_, rfl⟩
      · simp [At.toks, ha.tk]
      · show unT a = _
        rw [ha.un]; simp [unA, hu]
      · show f t :: ownT f a k = _
        rw [hT t x hx hz h2, ha.own f hT k]
        simp [ownA, ownL, hpt, hu]
      · show restT f a k = _
        rw [ha.rst f hT k]
        simp [restA, rstL, hli, hu]
      · rw [spT, tkL_wd hN hp hf hx hz h2, ha.sho]
        simp [shA, hsh]
theorem at_list (hN : NmOk N) (hp : np = N.pn.length) (hf : nf = N.fn.length) : ∀ (d : Nat) (l : List (Ex d)) (ts : List Tk), (∀ e ∈ l, exOk np nf d e) → (∀ e ∈ l, exNz σ d e) → ts.map txL = tkA σ N d l → ∃ a, AtE σ N np nf d l ts a := by
  intro d
  induction d with
  | zero =>
    intro l
    induction l with
    | nil =>
      intro ts _ _ h
      have : ts = [] := by simpa [tkA] using h
      subst this
      exact ⟨.nil, trivial, rfl, rfl, fun _ _ _ => rfl, fun _ _ _ => rfl, rfl, rfl⟩
    | cons e l ihl =>
      intro ts h1 h2 h
      have ht : tkA σ N 0 (e :: l) = agT σ N e ++ tkA σ N 0 l := by simp [tkA, tkE]
      rw [ht] at h
      obtain ⟨ts1, ts2, rfl, q1, q2⟩ := List.map_eq_append_iff.1 h
      obtain ⟨a, ha⟩ := ihl ts2 (fun x hx => h1 x (by simp [hx])) (fun x hx => h2 x (by simp [hx])) q2
      exact at_word hN hp hf (h1 e (by simp)) (h2 e (by simp)) q1 ha rfl (fun _ => rfl) (fun _ => rfl) rfl
  | succ d ih =>
    intro l
    induction l with
    | nil =>
      intro ts _ _ h
      have : ts = [] := by simpa [tkA] using h
      subst this
      exact ⟨.nil, trivial, rfl, rfl, fun _ _ _ => rfl, fun _ _ _ => rfl, rfl, rfl⟩
    | cons e l ihl =>
      intro ts h1 h2 hm
      have ht : tkA σ N (d + 1) (e :: l) = tkE σ N (d + 1) e ++ tkA σ N (d + 1) l := by simp [tkA]
      rw [ht] at hm
      obtain ⟨ts1, ts2, rfl, q1, q2⟩ := List.map_eq_append_iff.1 hm
      obtain ⟨a, ha⟩ := ihl ts2 (fun x hx => h1 x (by simp [hx])) (fun x hx => h2 x (by simp [hx])) q2
      have he := h1 e (by simp)
      have hez := h2 e (by simp)
      cases e with
      | inl x => exact at_word hN hp hf he hez q1 ha rfl (fun _ => rfl) (fun _ => rfl) rfl
      | inr p =>
        obtain ⟨h, ag⟩ := p
        obtain ⟨g1, g2, g3, g4⟩ := he
        obtain ⟨z1, z2⟩ := hez
        have q1' : ts1.map txL = [40] :: nzT σ N h :: (tkA σ N d ag ++ [[41]]) := q1
        obtain ⟨o, t, ts3, rfl, e1, e2, e3⟩ := map_two q1'
        · obtain ⟨ts4, ts5, rfl, r1, r2⟩ := List.map_eq_append_iff.1 e3
          obtain ⟨c, rfl, r3⟩ := map_one r2
          · obtain ⟨b, hb⟩ := ih ag ts4 g4 z2 r1
            have hs := simp_wd hN hp hf g1 z1 e2
            have hbn : b.isNil = false := by
              rw [hb.nil]
              cases ag with
              | nil => simp at g2
              | cons _ _ => rfl
            have hbne : b ≠ .nil := by intro e; rw [e] at hbn; simp [At.isNil] at hbn
            refine ⟨.par o t c b a, ⟨by rw [kind_kL, e1]; exact k40, hs, by rw [kind_kL, r3]; exact k41, hb.ok, ha.ok⟩, ?_, ?_, fun f hT k => ?_, fun f hT k => ?_, ?_, rfl⟩
            · simp [At.toks, ha.tk, hb.tk]
            · show (if b.isNil then _ else 1 + unT b + unT a) = _
              rw [if_neg (by simp [hbn]), ha.un, hb.un]
              have : unE (d + 1) (.inr (h, ag)) = 1 + unA d ag := rfl
              show _ = ((unE (d + 1) (.inr (h, ag)) :: l.map (unE (d + 1)))).sum
              rw [this, List.sum_cons]; rfl
            · show (if b.isNil then _ else ((5 : Int), (k : Int)) :: ownT f a (k + 1 + unT b)) = _
              rw [if_neg (by simp [hbn]), ha.own f hT, hb.un]
              have : unE (d + 1) (.inr (h, ag)) = 1 + unA d ag := rfl
              simp only [ownA, ownL, partE]
              rw [this, Nat.add_assoc]
            · show (if b.isNil then _ else (f t :: ownT f b (k + 1)) :: (restT f b (k + 1) ++ restT f a (k + 1 + unT b))) = _
              rw [if_neg (by simp [hbn]), ha.rst f hT, hb.rst f hT, hb.own f hT, hb.un, hT t h g1 z1 e2]
              have : unE (d + 1) (.inr (h, ag)) = 1 + unA d ag := rfl
              simp only [restA, rstL, linesE, List.cons_append]
              rw [this, Nat.add_assoc]
              rfl
            · rw [spT_par hbne, tkL_wd hN hp hf g1 z1 e2, ha.sho, hb.sho]
              show _ = (32 :: 40 :: (wdT N h ++ (ag.flatMap (shE N d) ++ [41]))) ++ l.flatMap (shE N (d + 1))
              simp [shA]
end

end Go.Proofs.YtnndoagpbcacdaaGreatDoor
