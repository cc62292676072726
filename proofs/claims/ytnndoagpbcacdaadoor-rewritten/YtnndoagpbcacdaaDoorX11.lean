import Derived.Test.YtnndoagpbcacdaaDoorX10
namespace Go.Proofs.YtnndoagpbcacdaaDoor
open Go.RowKit

/-! Code texts with a line more: plain. -/
def cntF (F : List Tp) : Nat := (F.map fun t => t.ls.length + 1).sum
theorem funs_cnt (nf : Nat) (mn : Int) : ∀ (F : List Tp) (j : Nat) (r : ByteArray) (post : List UInt8), goodPs nf mn j F = true → (∀ t ∈ F, tpOk t) → r.data.toList = F.flatMap tpL ++ post → (funsR nf mn F.length j r).2.2 = cntF F
  | [], j, r, post, _, _, h => rfl
  | t :: F, j, r, post, hg, hok, h => by
    rw [goodPs, Bool.and_eq_true, Bool.and_eq_true] at hg
    obtain ⟨e1, e2, e3⟩ := tp_read nf ((j : Int) == mn) t r (F.flatMap tpL ++ post) hg.1 hg.2.1 (hok t (by simp)) (by rw [h]; simp)
    have i3 := funs_cnt nf mn F (j + 1) (tmplR nf ((j : Int) == mn) r).2.1 post hg.2.2 (fun x hx => hok x (by simp [hx])) e2
    rw [List.length_cons, funsR, e1]
    simp only [i3, e3, cntF, List.map_cons, List.sum_cons]
    omega
/-- Behind good code something more: it is none; the line behind the last is told. -/
theorem code_more (c : Cd) (hg : goodC c = true) (r : ByteArray) (x : List UInt8) (hx : x ≠ []) (h : r.data.toList = cdL c ++ x) : codeR r = (none, cntF c.fs + 2) := by
  obtain ⟨k1, k2, k3, k4, k5⟩ := goodC_ok hg
  rw [goodC_eq, Bool.and_eq_true] at hg
  obtain ⟨e1, e2, e3, e4⟩ := hd_read (r := r) (c := 77) (a := c.mn.toNat) (b := c.fs.length) (post := c.fs.flatMap tpL ++ x) (by omega) (by omega) (by decide) (by rw [h]; simp [cdL])
  have ea : pairA 77 r = c.mn := by rw [e2]; omega
  obtain ⟨i1, i2⟩ := funs_read c.fs.length c.mn c.fs 0 (restF r) x hg.2 k5 e4
  have i3 := funs_cnt c.fs.length c.mn c.fs 0 (restF r) x hg.2 k5 e4
  have hc : (pairOk 77 r && begins (pairA 77 r) (pairB 77 r)) = true := by rw [e1, ea, e3, hg.1]; rfl
  unfold codeR
  rw [if_pos hc, e3, ea, Int.toNat_natCast, i1, i3]
  have hz : ¬ (funsR c.fs.length c.mn c.fs.length 0 (restF r)).2.1.size = 0 := by
    rw [size_len, i2]
    intro e
    exact hx (List.length_eq_zero_iff.1 e)
  simp only [hz, if_false]
/-- How many newlines a text has. -/
def nls (l : List UInt8) : Nat := l.count 10
theorem nls_ok {l : List UInt8} (h : ∀ c ∈ l, c ≠ 10 ∧ c ≠ 32) : nls l = 0 := by
  unfold nls
  rw [List.count_eq_zero]
  exact fun hc => (h 10 hc).1 rfl
theorem nls_hd (c : UInt8) (a b : Nat) (hc : c ≠ 10) : nls (hdL c a b) = 1 := by
  have h1 := nls_ok (dig_ok (decL_dig a))
  have h2 := nls_ok (dig_ok (decL_dig b))
  unfold nls at h1 h2 ⊢
  simp [hdL, List.count_append, h1, h2, hc]
theorem nls_ln (l : Ln) : nls (lnT l) = 1 := by
  have h : ∀ l : Ln, (l.flatMap atL).count 10 = 0 := by
    intro l
    rw [List.count_eq_zero]
    intro hc
    obtain ⟨a, _, hm⟩ := List.mem_flatMap.1 hc
    simp only [atL, List.mem_cons] at hm
    rcases hm with hm | hm | hm
    · exact absurd hm (by decide)
    · exact (letK_ok a.1).1 hm.symm
    · exact (dig_ok (decL_dig _) 10 hm).1 rfl
  have h2 : ((l.flatMap atL).drop 1).count 10 = 0 := by
    rw [List.count_eq_zero]
    intro hc
    exact (List.count_eq_zero.1 (h l)) (List.mem_of_mem_drop hc)
  unfold nls lnT lnL
  rw [List.count_append, h2]
  rfl
theorem nls_lines : ∀ (L : List Ln), nls (L.flatMap lnT) = L.length
  | [] => rfl
  | l :: L => by
    have h1 := nls_ln l
    have h2 := nls_lines L
    unfold nls at h1 h2 ⊢
    rw [List.flatMap_cons, List.count_append, h1, h2, List.length_cons]; omega
theorem nls_funs : ∀ (F : List Tp), nls (F.flatMap tpL) = cntF F
  | [] => rfl
  | t :: F => by
    have h1 := nls_hd 70 t.ar.toNat (t.ls.length - 1) (by decide)
    have h2 := nls_lines t.ls
    have h3 := nls_funs F
    unfold nls at h1 h2 h3 ⊢
    rw [List.flatMap_cons, List.count_append, h3, tpL, List.count_append, h1, h2]
    simp only [cntF, List.map_cons, List.sum_cons]
    omega
theorem nls_code (c : Cd) : nls (cdL c) = cntF c.fs + 1 := by
  have h1 := nls_hd 77 c.mn.toNat c.fs.length (by decide)
  have h2 := nls_funs c.fs
  unfold nls at h1 h2 ⊢
  rw [cdL, List.count_append, h1, h2]; omega

/-! And with the last line less. -/
theorem goodLs_init {nf : Nat} {ar : Int} {nl : Nat} : ∀ {L : List Ln} {l : Ln} {j : Nat}, goodLs nf ar nl j (L ++ [l]) = true → goodLs nf ar nl j L = true
  | [], _, _, _ => rfl
  | x :: L, l, j, h => by
    rw [List.cons_append, goodLs, Bool.and_eq_true] at h
    rw [goodLs, h.1, goodLs_init h.2]; rfl
theorem wrd_nil {r : ByteArray} (h : r.data.toList = []) : wrd r 0 0 [] = none := wrd_end r 0 0 [] (by rw [size_len, h]; simp)
theorem lines_less (nf : Nat) (ar : Int) (nl : Nat) : ∀ (L : List Ln) (j : Nat) (r : ByteArray), goodLs nf ar nl j L = true → (∀ l ∈ L, lnOk l) → r.data.toList = L.flatMap lnT → (linesR nf ar nl (L.length + 1) j r).1 = none ∧ (linesR nf ar nl (L.length + 1) j r).2.2 = L.length + 1
  | [], j, r, _, _, h => by
    have hw := wrd_nil (r := r) (by rw [h]; rfl)
    have hl : atomsL r = [] := by unfold atomsL; rw [hw]
    have hb : goodL nf ar nl j [] = false := by simp [goodL]
    rw [List.length_nil, Nat.zero_add, linesR, hl, hb, Bool.and_false]
    exact ⟨rfl, rfl⟩
  | l :: L, j, r, hg, hok, h => by
    rw [goodLs, Bool.and_eq_true] at hg
    obtain ⟨e1, e2, e3⟩ := ln_read (post := L.flatMap lnT) (goodL_ne hg.1) (hok l (by simp)).2 (by rw [h]; simp)
    obtain ⟨i1, i2⟩ := lines_less nf ar nl L (j + 1) (restF r) hg.2 (fun x hx => hok x (by simp [hx])) e3
    have hc : (atomsOk r && goodL nf ar nl j (atomsL r)) = true := by rw [e1, e2, hg.1]; rfl
    rw [List.length_cons, linesR, if_pos hc, i1]
    exact ⟨rfl, by rw [i2]⟩
theorem tp_less (nf : Nat) (m : Bool) (ar : Int) (L : List Ln) (l : Ln) (r : ByteArray) (hs : stand ar (((L ++ [l]).length : Int) - 1) m = true) (hg : goodLs nf ar (L ++ [l]).length 0 (L ++ [l]) = true) (hok : tpOk ⟨ar, L ++ [l]⟩) (h : r.data.toList = hdL 70 ar.toNat L.length ++ L.flatMap lnT) : (tmplR nf m r).1 = none ∧ (tmplR nf m r).2.2 = L.length + 2 := by
  obtain ⟨k1, k2, k3, k4, k5⟩ := hok
  simp only [List.length_append, List.length_cons, List.length_nil] at k1 k2 k3 k4 hs
  obtain ⟨e1, e2, e3, e4⟩ := hd_read (r := r) (c := 70) (a := ar.toNat) (b := L.length) (post := L.flatMap lnT) (by omega) (by omega) (by decide) h
  have ea : pairA 70 r = ar := by rw [e2]; omega
  have en : (pairB 70 r).toNat + 1 = (L ++ [l]).length := by rw [e3]; simp
  have en2 : (L ++ [l]).length = L.length + 1 := by simp
  have eb : pairB 70 r = ((L.length + (0 + 1) : Nat) : Int) - 1 := by rw [e3]; omega
  obtain ⟨i1, i2⟩ := lines_less nf ar (L ++ [l]).length L 0 (restF r) (goodLs_init hg) (fun x hx => k5 x (by simp [hx])) e4
  have hc : (pairOk 70 r && stand (pairA 70 r) (pairB 70 r) m) = true := by rw [e1, ea, eb, hs]; rfl
  unfold tmplR
  rw [if_pos hc, en, ea, en2]
  rw [en2] at i1 i2
  rw [i1]
  exact ⟨rfl, by rw [i2]⟩
theorem funs_less (nf : Nat) (mn : Int) (ar : Int) (L : List Ln) (l : Ln) : ∀ (F : List Tp) (j : Nat) (r : ByteArray), goodPs nf mn j (F ++ [⟨ar, L ++ [l]⟩]) = true → (∀ t ∈ F ++ [⟨ar, L ++ [l]⟩], tpOk t) → r.data.toList = F.flatMap tpL ++ (hdL 70 ar.toNat L.length ++ L.flatMap lnT) → (funsR nf mn (F.length + 1) j r).1 = none ∧ (funsR nf mn (F.length + 1) j r).2.2 = cntF F + (L.length + 2)
  | [], j, r, hg, hok, h => by
    rw [List.nil_append, goodPs, Bool.and_eq_true, Bool.and_eq_true] at hg
    obtain ⟨e1, e2⟩ := tp_less nf ((j : Int) == mn) ar L l r hg.1 hg.2.1 (hok _ (by simp)) (by rw [h]; simp)
    rw [List.length_nil, Nat.zero_add, funsR, e1]
    exact ⟨rfl, by rw [e2]; simp [cntF]⟩
  | t :: F, j, r, hg, hok, h => by
    rw [List.cons_append, goodPs, Bool.and_eq_true, Bool.and_eq_true] at hg
    obtain ⟨e1, e2, e3⟩ := tp_read nf ((j : Int) == mn) t r (F.flatMap tpL ++ (hdL 70 ar.toNat L.length ++ L.flatMap lnT)) hg.1 hg.2.1 (hok t (by simp)) (by rw [h]; simp)
    obtain ⟨i1, i2⟩ := funs_less nf mn ar L l F (j + 1) (tmplR nf ((j : Int) == mn) r).2.1 hg.2.2 (fun x hx => hok x (by simp at hx ⊢; exact .inr hx)) e2
    rw [List.length_cons, funsR, e1]
    simp only [i1, i2, e3, cntF, List.map_cons, List.sum_cons, Option.map_none]
    exact ⟨trivial, by omega⟩
/-- Good code without its last line: it is none; the missing line is told. -/
theorem code_less (mn ar : Int) (F : List Tp) (L : List Ln) (l : Ln) (hg : goodC ⟨mn, F ++ [⟨ar, L ++ [l]⟩]⟩ = true) (r : ByteArray) (h : r.data.toList ++ lnT l = cdL ⟨mn, F ++ [⟨ar, L ++ [l]⟩]⟩) : codeR r = (none, cntF (F ++ [⟨ar, L ++ [l]⟩]) + 1) := by
  obtain ⟨k1, k2, k3, k4, k5⟩ := goodC_ok hg
  rw [goodC_eq, Bool.and_eq_true] at hg
  simp only [List.length_append, List.length_cons, List.length_nil, Nat.zero_add] at k1 k2 k3 k4 hg
  have h' : r.data.toList = hdL 77 mn.toNat (F.length + 1) ++ (F.flatMap tpL ++ (hdL 70 ar.toNat L.length ++ L.flatMap lnT)) := by
    have e : cdL ⟨mn, F ++ [⟨ar, L ++ [l]⟩]⟩ = (hdL 77 mn.toNat (F.length + 1) ++ (F.flatMap tpL ++ (hdL 70 ar.toNat L.length ++ L.flatMap lnT))) ++ lnT l := by simp [cdL, tpL]
    rw [e] at h
    exact List.append_cancel_right h
  obtain ⟨e1, e2, e3, e4⟩ := hd_read (r := r) (c := 77) (a := mn.toNat) (b := F.length + 1) (post := F.flatMap tpL ++ (hdL 70 ar.toNat L.length ++ L.flatMap lnT)) (by omega) (by omega) (by decide) h'
  have ea : pairA 77 r = mn := by rw [e2]; omega
  obtain ⟨i1, i2⟩ := funs_less (F.length + 1) mn ar L l F 0 (restF r) hg.2 k5 e4
  have hc : (pairOk 77 r && begins (pairA 77 r) (pairB 77 r)) = true := by rw [e1, ea, e3, hg.1]; rfl
  unfold codeR
  rw [if_pos hc, e3, ea, Int.toNat_natCast, i1, i2]
  simp [cntF]

end Go.Proofs.YtnndoagpbcacdaaDoor
