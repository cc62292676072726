import Derived.Test.YtnndoagpbcacdaaGreatDoorMX5
namespace Go.Proofs.YtnndoagpbcacdaaGreatDoor
open Go.RowKit

/-! Lines of words are read back: plain. -/
def joinW : List (List UInt8) → List UInt8
  | [] => []
  | [w] => w
  | w :: x :: ws => w ++ 32 :: joinW (x :: ws)
theorem ba_ext {a b : ByteArray} (h : a.data.toList = b.data.toList) : a = b := by
  cases a; cases b
  congr 1
  exact Array.toList_inj.1 h
theorem bt_of {r : ByteArray} {pre post : List UInt8} {c : UInt8} (h : r.data.toList = pre ++ c :: post) : pre.length < r.size ∧ bt r pre.length = (c.toNat : Int) := by
  have hl : pre.length < r.data.toList.length := by rw [h]; simp
  refine ⟨by rw [size_len]; exact hl, ?_⟩
  rw [bt_get r pre.length hl]
  congr 1
  have : r.data.toList[pre.length]? = some c := by rw [h]; simp
  rw [List.getElem?_eq_getElem hl] at this
  rw [Option.some.inj this]
theorem wrd_skip (r : ByteArray) (b : Nat) : ∀ (w pre post : List UInt8) (acc : List ByteArray), r.data.toList = pre ++ (w ++ post) → (∀ c ∈ w, c ≠ 10 ∧ c ≠ 32) → wrd r b pre.length acc = wrd r b (pre.length + w.length) acc
  | [], pre, post, acc, _, _ => rfl
  | c :: w, pre, post, acc, h, hg => by
    obtain ⟨h1, h2⟩ := bt_of (r := r) (pre := pre) (post := w ++ post) (c := c) (by rw [h]; simp)
    have hc := hg c (by simp)
    have n1 : bt r pre.length ≠ 10 := by
      rw [h2]; intro e
      exact hc.1 (UInt8.toNat_inj.1 (show c.toNat = 10 from by omega))
    have n2 : bt r pre.length ≠ 32 := by
      rw [h2]; intro e
      exact hc.2 (UInt8.toNat_inj.1 (show c.toNat = 32 from by omega))
    rw [wrd_go r b pre.length acc h1 n1 n2]
    have := wrd_skip r b w (pre ++ [c]) post acc (by rw [h]; simp) (fun x hx => hg x (by simp [hx]))
    rw [List.length_append, List.length_cons, List.length_nil] at this
    rw [List.length_cons, show pre.length + (w.length + 1) = pre.length + (0 + 1) + w.length by omega]
    exact this
theorem extract_mid {r : ByteArray} {pre w post : List UInt8} (h : r.data.toList = pre ++ (w ++ post)) : r.extract pre.length (pre.length + w.length) = ⟨w.toArray⟩ := by
  apply ba_ext
  rw [ByteArray.data_extract, Array.toList_extract, h, List.extract_eq_take_drop]
  simp
theorem wrd_join (r : ByteArray) : ∀ (ws : List (List UInt8)) (pre post : List UInt8) (acc : List ByteArray), ws ≠ [] → (∀ w ∈ ws, ∀ c ∈ w, c ≠ 10 ∧ c ≠ 32) → r.data.toList = pre ++ (joinW ws ++ 10 :: post) → wrd r pre.length pre.length acc = some (acc ++ ws.map (fun w => ⟨w.toArray⟩), pre.length + (joinW ws).length + 1)
  | [], _, _, _, h, _, _ => absurd rfl h
  | [w], pre, post, acc, _, hg, h => by
    rw [joinW] at h ⊢
    rw [wrd_skip r pre.length w pre (10 :: post) acc h (hg w (by simp))]
    obtain ⟨h1, h2⟩ := bt_of (r := r) (pre := pre ++ w) (post := post) (c := 10) (by rw [h]; simp)
    rw [List.length_append] at h1 h2
    rw [wrd_nl r pre.length (pre.length + w.length) acc h1 h2, extract_mid h]
    rfl
  | w :: x :: ws, pre, post, acc, _, hg, h => by
    rw [joinW] at h ⊢
    have h' : r.data.toList = pre ++ (w ++ (32 :: (joinW (x :: ws) ++ 10 :: post))) := by rw [h]; simp
    rw [wrd_skip r pre.length w pre (32 :: (joinW (x :: ws) ++ 10 :: post)) acc h' (hg w (by simp))]
    obtain ⟨h1, h2⟩ := bt_of (r := r) (pre := pre ++ w) (post := joinW (x :: ws) ++ 10 :: post) (c := 32) (by rw [h']; simp)
    rw [List.length_append] at h1 h2
    rw [wrd_sp r pre.length (pre.length + w.length) acc h1 h2, extract_mid h']
    have := wrd_join r (x :: ws) (pre ++ w ++ [32]) post (acc ++ [⟨w.toArray⟩]) (by simp) (fun y hy => hg y (by simp at hy ⊢; exact .inr hy)) (by rw [h']; simp)
    simp only [List.length_append, List.length_cons, List.length_nil] at this
    rw [show pre.length + w.length + (0 + 1) = pre.length + w.length + 1 by omega] at this
    rw [this]
    simp
    omega

end Go.Proofs.YtnndoagpbcacdaaGreatDoor
namespace Go.Proofs.YtnndoagpbcacdaaGreatDoor
open Go.RowKit

/-! Good code that is written is read back: plain. -/
theorem dig_lt (n : Nat) (h : n < 10) : (UInt8.ofNat (48 + n)).toNat = 48 + n := by
  rw [UInt8.toNat_ofNat']; omega
theorem decL_dig (n : Nat) : digL (decL n) := by
  fun_induction decL n with
  | case1 n h => intro c hc; simp only [List.mem_cons, List.not_mem_nil, or_false] at hc; subst hc; rw [dig_lt n h]; omega
  | case2 n h ih =>
    intro c hc
    rcases List.mem_append.1 hc with hc | hc
    · exact ih c hc
    · simp only [List.mem_cons, List.not_mem_nil, or_false] at hc; subst hc; rw [dig_lt (n % 10) (by omega)]; omega
theorem decL_val (n : Nat) : valL (decL n) = (n : Int) := by
  fun_induction decL n with
  | case1 n h =>
    have := dig_lt n h
    simp only [valL, List.foldl_cons, List.foldl_nil]
    rw [this]; omega
  | case2 n h ih =>
    rw [valL_snoc, ih, dig_lt (n % 10) (by omega)]
    omega
theorem decL_head (n : Nat) (h1 : 1 ≤ n) : ∃ d t, decL n = d :: t ∧ 49 ≤ d.toNat := by
  fun_induction decL n with
  | case1 n h => exact ⟨_, [], rfl, by rw [dig_lt n h]; omega⟩
  | case2 n h ih =>
    obtain ⟨d, t, e, hd⟩ := ih (by omega)
    exact ⟨d, t ++ [UInt8.ofNat (48 + n % 10)], by rw [e]; rfl, hd⟩
theorem decL_ne (n : Nat) : decL n ≠ [] := by
  rw [decL]; split <;> simp
theorem num_decL (n : Nat) (h : n ≤ 999999) : numOk ⟨(decL n).toArray⟩ = true ∧ numV ⟨(decL n).toArray⟩ = (n : Int) := by
  have hd : (⟨(decL n).toArray⟩ : ByteArray).data.toList = decL n := rfl
  have hsz : (⟨(decL n).toArray⟩ : ByteArray).size = (decL n).length := by rw [size_len]
  have h6 := decL_len6 n h
  have hp : 1 ≤ (decL n).length := List.length_pos_iff.2 (decL_ne n)
  have hok : numOk ⟨(decL n).toArray⟩ = true := by
    simp only [numOk, Bool.and_eq_true, decide_eq_true_eq, List.all_eq_true, hsz]
    refine ⟨hp, h6, ?_, decL_dig n⟩
    rw [Bool.not_eq_true', Bool.and_eq_false_iff]
    by_cases hn : n < 10
    · right; rw [decL_lt n hn]; simp
    · left
      obtain ⟨d, t, e, h49⟩ := decL_head n (by omega)
      obtain ⟨_, hb⟩ := bt_of (r := ⟨(decL n).toArray⟩) (pre := []) (post := t) (c := d) (by rw [hd, e]; rfl)
      simp only [List.length_nil] at hb
      rw [hb]
      simp; omega
  refine ⟨hok, ?_⟩
  unfold numV
  rw [hok]
  simp only [if_true]
  exact decL_val n

def atW (a : Int × Int) : List UInt8 := letK a.1 :: decL a.2.toNat
theorem lnL_join : ∀ (l : Ln), l ≠ [] → lnL l = joinW (l.map atW)
  | [], h => absurd rfl h
  | [a], _ => by simp [lnL, atL, joinW, atW]
  | a :: b :: l, _ => by
    have ih := lnL_join (b :: l) (by simp)
    unfold lnL at ih ⊢
    rw [List.flatMap_cons, List.map_cons, List.map_cons, joinW, ← List.map_cons, ← ih]
    simp [atL, atW]
theorem letK_ok (k : Int) : letK k ≠ 10 ∧ letK k ≠ 32 := by
  unfold letK
  repeat' split
  all_goals decide
theorem dig_ok {l : List UInt8} (h : digL l) : ∀ c ∈ l, c ≠ 10 ∧ c ≠ 32 := by
  intro c hc
  have := h c hc
  refine ⟨?_, ?_⟩
  · rintro rfl; simp at this
  · rintro rfl; simp at this
theorem atW_ok (a : Int × Int) : ∀ c ∈ atW a, c ≠ 10 ∧ c ≠ 32 := by
  intro c hc
  rcases List.mem_cons.1 hc with rfl | hc
  · exact letK_ok _
  · exact dig_ok (decL_dig _) c hc
theorem kL_letK (k : Int) (h1 : 1 ≤ k) (h5 : k ≤ 5) : kL ((letK k).toNat : Int) = k := by
  have : k = 1 ∨ k = 2 ∨ k = 3 ∨ k = 4 ∨ k = 5 := by omega
  rcases this with rfl | rfl | rfl | rfl | rfl <;> rfl
theorem at_read {a : Int × Int} (h : atOk a) : atK ⟨(atW a).toArray⟩ = true ∧ atV ⟨(atW a).toArray⟩ = a := by
  obtain ⟨h1, h2, h3, h4⟩ := h
  have hd : (⟨(atW a).toArray⟩ : ByteArray).data.toList = atW a := rfl
  have hsz : (⟨(atW a).toArray⟩ : ByteArray).size = (decL a.2.toNat).length + 1 := by rw [size_len]; simp [atW]
  have he : (⟨(atW a).toArray⟩ : ByteArray).extract 1 (⟨(atW a).toArray⟩ : ByteArray).size = ⟨(decL a.2.toNat).toArray⟩ := by
    have := extract_mid (r := ⟨(atW a).toArray⟩) (pre := [letK a.1]) (w := decL a.2.toNat) (post := []) (by rw [hd]; simp [atW])
    simp only [List.length_cons, List.length_nil] at this
    rw [hsz, show (decL a.2.toNat).length + 1 = 0 + 1 + (decL a.2.toNat).length by omega]
    exact this
  obtain ⟨n1, n2⟩ := num_decL a.2.toNat (by omega)
  obtain ⟨_, hb⟩ := bt_of (r := ⟨(atW a).toArray⟩) (pre := []) (post := decL a.2.toNat) (c := letK a.1) (by rw [hd]; rfl)
  simp only [List.length_nil] at hb
  refine ⟨by unfold atK; rw [he, n1, hsz]; simp, ?_⟩
  unfold atV
  rw [if_neg (by rw [hsz]; omega), he, n2, hb, kL_letK a.1 h1 h2]
  obtain ⟨x, y⟩ := a
  simp only
  congr 1
  simp only at h3
  omega

theorem rest_data {r : ByteArray} {line post : List UInt8} (h : r.data.toList = line ++ 10 :: post) : (r.extract (line.length + 1) r.size).data.toList = post := by
  have := extract_mid (r := r) (pre := line ++ [10]) (w := post) (post := []) (by rw [h]; simp)
  rw [List.length_append, List.length_cons, List.length_nil] at this
  have hs : r.size = line.length + (0 + 1) + post.length := by rw [size_len, h]; simp; omega
  rw [hs, this]
/-- A line of atoms is read back. -/
theorem ln_read {r : ByteArray} {l : Ln} {post : List UInt8} (hl : l ≠ []) (hok : ∀ a ∈ l, atOk a) (h : r.data.toList = lnT l ++ post) : atomsOk r = true ∧ atomsL r = l ∧ (restF r).data.toList = post := by
  have h2 : r.data.toList = [] ++ (joinW (l.map atW) ++ 10 :: post) := by rw [h, lnT, lnL_join l hl]; simp
  have hw := wrd_join r (l.map atW) [] post [] (by simpa using hl) (fun w hw => by obtain ⟨a, _, rfl⟩ := List.mem_map.1 hw; exact atW_ok a) h2
  simp only [List.length_nil, List.nil_append, Nat.zero_add, List.map_map] at hw
  have hall : (l.map ((fun w : List UInt8 => (⟨w.toArray⟩ : ByteArray)) ∘ atW)).all atK = true := by
    rw [List.all_eq_true]
    intro x hx
    obtain ⟨a, ha, rfl⟩ := List.mem_map.1 hx
    exact (at_read (hok a ha)).1
  refine ⟨by unfold atomsOk; rw [hw]; exact hall, ?_, ?_⟩
  · unfold atomsL
    rw [hw]
    simp only [hall, if_true, List.map_map]
    exact (List.map_congr_left (g := id) (fun a ha => (at_read (hok a ha)).2)).trans (List.map_id l)
  · unfold restF
    rw [hw]
    exact rest_data (line := joinW (l.map atW)) (by rw [h2]; rfl)

theorem hd_read {r : ByteArray} {c : UInt8} {a b : Nat} {post : List UInt8} (ha : a ≤ 999999) (hb : b ≤ 999999) (hc : c ≠ 10 ∧ c ≠ 32) (h : r.data.toList = hdL c a b ++ post) : pairOk c r = true ∧ pairA c r = (a : Int) ∧ pairB c r = (b : Int) ∧ (restF r).data.toList = post := by
  have h2 : r.data.toList = [] ++ (joinW [[c], decL a, decL b] ++ 10 :: post) := by rw [h]; simp [hdL, joinW]
  have hw := wrd_join r [[c], decL a, decL b] [] post [] (by simp) (fun w hw => by
    simp only [List.mem_cons, List.not_mem_nil, or_false] at hw
    rcases hw with rfl | rfl | rfl
    · intro x hx; simp only [List.mem_cons, List.not_mem_nil, or_false] at hx; subst hx; exact hc
    · exact dig_ok (decL_dig _)
    · exact dig_ok (decL_dig _)) h2
  simp only [List.length_nil, List.nil_append, Nat.zero_add, List.map_cons, List.map_nil] at hw
  obtain ⟨a1, a2⟩ := num_decL a ha
  obtain ⟨b1, b2⟩ := num_decL b hb
  have hcc : ((⟨[c].toArray⟩ : ByteArray).toList == [c]) = true := by rw [ByteArray.toList_eq]; simp
  refine ⟨?_, ?_, ?_, ?_⟩
  · unfold pairOk
    rw [hw]
    simp only [List.length_cons, List.length_nil, List.getElem?_cons_zero, List.getElem?_cons_succ, Option.getD_some, hcc, a1, b1]
    rfl
  · unfold pairA
    rw [hw]
    simp only [List.length_cons, List.length_nil, List.getElem?_cons_zero, List.getElem?_cons_succ, Option.getD_some, hcc, a1]
    exact a2
  · unfold pairB
    rw [hw]
    simp only [List.length_cons, List.length_nil, List.getElem?_cons_zero, List.getElem?_cons_succ, Option.getD_some, hcc, a1]
    exact b2
  · unfold restF
    rw [hw]
    exact rest_data (line := joinW [[c], decL a, decL b]) (by rw [h2]; rfl)

theorem goodL_ne {nf : Nat} {ar : Int} {nl j : Nat} {l : Ln} (h : goodL nf ar nl j l = true) : l ≠ [] := by
  simp only [goodL, Bool.and_eq_true, decide_eq_true_eq] at h
  intro e
  rw [e] at h
  simp at h
theorem lines_read (nf : Nat) (ar : Int) (nl : Nat) : ∀ (L : List Ln) (j : Nat) (r : ByteArray) (post : List UInt8), goodLs nf ar nl j L = true → (∀ l ∈ L, lnOk l) → r.data.toList = L.flatMap lnT ++ post → (linesR nf ar nl L.length j r).1 = some L ∧ (linesR nf ar nl L.length j r).2.1.data.toList = post ∧ (linesR nf ar nl L.length j r).2.2 = L.length
  | [], j, r, post, _, _, h => ⟨rfl, h, rfl⟩
  | l :: L, j, r, post, hg, hok, h => by
    rw [goodLs, Bool.and_eq_true] at hg
    obtain ⟨e1, e2, e3⟩ := ln_read (post := L.flatMap lnT ++ post) (goodL_ne hg.1) (hok l (by simp)).2 (by rw [h]; simp)
    obtain ⟨i1, i2, i3⟩ := lines_read nf ar nl L (j + 1) (restF r) post hg.2 (fun x hx => hok x (by simp [hx])) e3
    have hc : (atomsOk r && goodL nf ar nl j (atomsL r)) = true := by rw [e1, e2, hg.1]; rfl
    rw [List.length_cons, linesR, if_pos hc, i1, e2]
    exact ⟨rfl, i2, by rw [i3]⟩
theorem tp_read (nf : Nat) (m : Bool) (t : Tp) (r : ByteArray) (post : List UInt8) (hs : stand t.ar ((t.ls.length : Int) - 1) m = true) (hg : goodLs nf t.ar t.ls.length 0 t.ls = true) (hok : tpOk t) (h : r.data.toList = tpL t ++ post) : (tmplR nf m r).1 = some t ∧ (tmplR nf m r).2.1.data.toList = post ∧ (tmplR nf m r).2.2 = t.ls.length + 1 := by
  obtain ⟨k1, k2, k3, k4, k5⟩ := hok
  obtain ⟨e1, e2, e3, e4⟩ := hd_read (r := r) (c := 70) (a := t.ar.toNat) (b := t.ls.length - 1) (post := t.ls.flatMap lnT ++ post) (by omega) (by omega) (by decide) (by rw [h]; simp [tpL])
  have ea : pairA 70 r = t.ar := by rw [e2]; omega
  have eb : pairB 70 r = (t.ls.length : Int) - 1 := by rw [e3]; omega
  have en : (pairB 70 r).toNat + 1 = t.ls.length := by rw [eb]; omega
  obtain ⟨i1, i2, i3⟩ := lines_read nf t.ar t.ls.length t.ls 0 (restF r) post hg k5 e4
  have hc : (pairOk 70 r && stand (pairA 70 r) (pairB 70 r) m) = true := by rw [e1, ea, eb, hs]; rfl
  unfold tmplR
  rw [if_pos hc, en, ea, i1]
  exact ⟨rfl, i2, by rw [i3]⟩
theorem funs_read (nf : Nat) (mn : Int) : ∀ (F : List Tp) (j : Nat) (r : ByteArray) (post : List UInt8), goodPs nf mn j F = true → (∀ t ∈ F, tpOk t) → r.data.toList = F.flatMap tpL ++ post → (funsR nf mn F.length j r).1 = some F ∧ (funsR nf mn F.length j r).2.1.data.toList = post
  | [], j, r, post, _, _, h => ⟨rfl, h⟩
  | t :: F, j, r, post, hg, hok, h => by
    rw [goodPs, Bool.and_eq_true, Bool.and_eq_true] at hg
    obtain ⟨e1, e2, _⟩ := tp_read nf ((j : Int) == mn) t r (F.flatMap tpL ++ post) hg.1 hg.2.1 (hok t (by simp)) (by rw [h]; simp)
    obtain ⟨i1, i2⟩ := funs_read nf mn F (j + 1) (tmplR nf ((j : Int) == mn) r).2.1 post hg.2.2 (fun x hx => hok x (by simp [hx])) e2
    rw [List.length_cons, funsR, e1]
    simp only [i1, Option.map_some]
    exact ⟨trivial, i2⟩
/-- Good code that is written is read as the same code. -/
theorem code_read (c : Cd) (hg : goodC c = true) (r : ByteArray) (h : r.data.toList = cdL c) : (codeR r).1 = some c := by
  obtain ⟨k1, k2, k3, k4, k5⟩ := goodC_ok hg
  rw [goodC_eq, Bool.and_eq_true] at hg
  obtain ⟨e1, e2, e3, e4⟩ := hd_read (r := r) (c := 77) (a := c.mn.toNat) (b := c.fs.length) (post := c.fs.flatMap tpL) (by omega) (by omega) (by decide) h
  have ea : pairA 77 r = c.mn := by rw [e2]; omega
  obtain ⟨i1, i2⟩ := funs_read c.fs.length c.mn c.fs 0 (restF r) [] hg.2 k5 (by rw [e4]; simp)
  have hc : (pairOk 77 r && begins (pairA 77 r) (pairB 77 r)) = true := by rw [e1, ea, e3, hg.1]; rfl
  unfold codeR
  rw [if_pos hc, e3, ea, Int.toNat_natCast, i1]
  have hz : (funsR c.fs.length c.mn c.fs.length 0 (restF r)).2.1.size = 0 := by rw [size_len, i2]; rfl
  simp only [hz, if_true]

end Go.Proofs.YtnndoagpbcacdaaGreatDoor
