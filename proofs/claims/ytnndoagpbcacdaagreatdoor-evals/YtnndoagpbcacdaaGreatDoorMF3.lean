import Derived.Test.YtnndoagpbcacdaaGreatDoorMF1
import Derived.Test.YtnndoagpbcacdaaGreatDoorMM2
namespace Go.Proofs.YtnndoagpbcacdaaGreatDoor
open Go.RowKit

/-! The reference: what a part of the text stands for. -/
theorem dls_app (ps : List Tk) (E : Ln) (a b : At) : dls ps E (a.app b) = dls ps E a ++ dls ps E b := by
  induction a with
  | nil => rfl
  | sim t r ih => exact ih
  | par o h c ag r ih1 ih2 =>
    by_cases hn : ag.isNil = true
    · simp [At.app, dls, hn, ih2]
    · simp [At.app, dls, hn, ih2]
theorem ous_app (ps : List Tk) (f : Tk → Int × Int) (E : Ln) (a b : At) : ∀ k, ous f E (a.app b) k = ous f E a k ++ ous f E b (k + (dls ps E a).length) := by
  induction a with
  | nil => intro k; rfl
  | sim t r ih => intro k; simp [At.app, ous, dls, ih]
  | par o h c ag r ih1 ih2 =>
    intro k
    by_cases hn : ag.isNil = true
    · simp [At.app, ous, dls, hn, ih2]
    · simp only [At.app, ous, dls, hn, Bool.false_eq_true, if_false, ih2, List.cons_append, List.length_cons]
      rw [show k + 1 + (dls ps E r).length = k + ((dls ps E r).length + 1) by omega]
theorem dls_le (ps : List Tk) (E : Ln) (a : At) : (dls ps E a).length ≤ a.toks.length := by
  induction a with
  | nil => exact Nat.le_refl _
  | sim t r ih => simp [dls, At.toks]; omega
  | par o h c ag r ih1 ih2 =>
    by_cases hn : ag.isNil = true
    · simp [dls, hn, At.toks]; omega
    · simp [dls, hn, At.toks]; omega
theorem known_arg {ps nm : List Tk} {t : Tk} (h : (knownF ps nm t).1 = 2) : 0 ≤ (knownF ps nm t).2 ∧ (knownF ps nm t).2 < ps.length := by
  unfold knownF at h ⊢
  split at h
  · simp at h
  · split at h
    · rename_i h1 h2
      rw [if_neg h1, if_pos h2]
      obtain ⟨i, hi, he, _⟩ := whr_get h2
      simp only
      omega
    · split at h <;> simp at h
theorem er_one {w : World} {T : Nat} {ps nm : List Tk} {E : Ln} {rest : At} {suf : List Value} (h : ER w (fun k => k < T) ps nm rest suf) (hne : rest ≠ .nil) (ht : rest.toks.length ≤ 1000) :
    ∃ (one r' : At) (k n : Int) (pv : Value) (suf' : List Value), rest = one.app r' ∧ one.cnt = 1 ∧ suf = eC k n pv ++ suf' ∧ ER w (fun k => k < T) ps nm r' suf' ∧ (∃ a c p, pv = .slice a c p) ∧
      ((k ≠ 5 ∧ dls ps E one = [] ∧ (∀ K, ous (knownF ps nm) E one K = [sbA E (k, n)]) ∧ (k = 2 → 0 ≤ n ∧ n < ps.length)) ∨
        (k = 5 ∧ ∃ d, dls ps E one = [d] ∧ (∀ K, ous (knownF ps nm) E one K = [(5, (K : Int))]) ∧ PO w T nm d pv ∧ d.env = E ∧ d.val = [] ∧ d.ps = ps ∧ d.b.toks.length ≤ 1000)) := by
  cases rest with
  | nil => exact absurd rfl hne
  | sim t r =>
    obtain ⟨r', h1, h2⟩ := h
    exact ⟨.sim t .nil, r, _, _, _, r', rfl, rfl, h1, h2, ⟨_, _, _, rfl⟩, .inl ⟨knownF_ne5 ps nm t, rfl, fun _ => rfl, known_arg⟩⟩
  | par o x c ag r =>
    rcases h with ⟨h0, r', h1, h2⟩ | ⟨h0, pv, ys, r', h1, h2, h3, h4, h5⟩
    · subst h0
      exact ⟨.par o x c .nil .nil, r, _, _, _, r', rfl, rfl, h1, h2, ⟨_, _, _, rfl⟩, .inl ⟨knownF_ne5 ps nm x, rfl, fun _ => rfl, known_arg⟩⟩
    · have hn := At.isNil_ne h0
      obtain ⟨ao, cap, hpv⟩ := own_form h2
      refine ⟨.par o x c ag .nil, r, _, _, pv, r', rfl, rfl, h1, h5, ⟨_, _, _, hpv⟩, .inr ⟨rfl, ⟨ps, .sim x ag, E, [], 0⟩, ?_, fun K => ?_, ⟨_, h2, h3, ys, rfl, h4⟩, rfl, rfl, rfl, ?_⟩⟩
      · simp [dls, hn]
      · simp [ous, hn]
      · simp [At.toks] at ht ⊢; omega
theorem Fx.own {w w' : World} {T B n : Nat} {v : Value} {xs : List Value} (hf : Fx T w w') (h : w.ownsRow B 75 2 v n xs) : w'.ownsRow B 75 2 v n xs := by
  refine ⟨h.1, ?_⟩
  rcases h.2 with hn | ⟨g, cap, cur, hv, hg, hh, r⟩
  · exact .inl hn
  · exact .inr ⟨g, cap, cur, hv, hg, (hf.ab g ⟨cur, hh⟩).trans hh, r⟩
set_option maxHeartbeats 1000000 in
theorem ePartA (w : World) (T g : Nat) (k n : Int) (pv ev : Value) (E : Ln) (hp : ∃ a c p, pv = .slice a c p) (he : Rd w T ev E) (hk : k ≠ 5) (h2 : k = 2 → 0 ≤ n ∧ n < E.length) :
    Calls Tryz.prog 198 #[.pointer (some ⟨g, 0, none⟩), .agg #[.int .i64 k, .int .i64 n, pv], ev] w fun e w' => e = .returned (.agg #[.int .i64 (sbA E (k, n)).1, .int .i64 (sbA E (k, n)).2]) ∧ Below w.heap.size w w' := by
  obtain ⟨pa, pc, pp, rfl⟩ := hp
  obtain ⟨eo, ec, rfl⟩ := he.form
  obtain ⟨_, he1, he2⟩ := he.cap
  unfold maxLen at he2
  have hk5 : (k == 5) = false := by simpa using hk
  by_cases e2 : k = 2
  · subst e2
    obtain ⟨h0, h1⟩ := h2 rfl
    obtain ⟨m, rfl⟩ := Int.eq_ofNat_of_zero_le h0
    have hm : m < E.length := by omega
    obtain ⟨ab, aoff, ac', e, hablt⟩ := he.isSome (by omega)
    cases e
    obtain ⟨n0, n1⟩ := Rd.at he m hm
    have hx : sbA E (2, (m : Int)) = E[m] := by unfold sbA; rw [if_pos ⟨rfl, by simp, by simpa using h1⟩]; simp [hm]
    rw [hx]
    generalize E[m] = x at *
    clear he hx
    go_enter Tryz.func198, Tryz.ntmps198
    go_wp2_with fail
    exact bodyPost_ret (v := .agg #[.int .i64 x.1, .int .i64 x.2]) (by simp [results, Tryz.results198, go_sem]) rfl ⟨rfl, below_al2 _ _ _⟩
  · have e2' : (k == 2) = false := by simpa using e2
    have hx : sbA E (k, n) = (k, n) := by unfold sbA; rw [if_neg (fun h => e2 h.1)]
    rw [hx]
    clear he hx
    go_enter Tryz.func198, Tryz.ntmps198
    go_wp2_with fail
    exact bodyPost_ret (v := .agg #[.int .i64 k, .int .i64 n]) (by simp [results, Tryz.results198, go_sem]) rfl ⟨rfl, below_al2 _ _ _⟩
theorem cellsTwo (W : World) (b : Nat) (a0 a1 : Value) (t : TypeId) (x0 x1 : Value) (h : W.heap[b]? = some (.cells #[a0, a1] t (0, 0))) : ((W.setCell ⟨b, 0, none⟩ x0).setCell ⟨b, 1, none⟩ x1).cell? ⟨b, 0, none⟩ = some x0 ∧ ((W.setCell ⟨b, 0, none⟩ x0).setCell ⟨b, 1, none⟩ x1).cell? ⟨b, 1, none⟩ = some x1 := by
  have h2 := blk_set (i := 1) x1 (blk_set (i := 0) x0 h)
  exact ⟨by rw [cell_of_row _ b 0 _ _ _ h2]; rfl, by rw [cell_of_row _ b 1 _ _ _ h2]; rfl⟩
set_option maxHeartbeats 2000000 in
theorem ePartN (w0 w : World) (T g : Nat) (fv : Value) (nm : List Tk) (ds : List Df) (bud : Int) (D : List Dl) (stp out n : Int) (pv ev : Value) (d : Dl) (av : Value) (vs : List (Value × Value × Value)) (h : SQ w0 w T g fv nm ds bud D stp out av vs) (hf0 : Fx T w0 w) (hp0 : PO w0 T nm d pv) (he0 : Rd w0 T ev d.env) (hv : d.val = []) (hd : d.env.length = d.ps.length ∧ d.b.toks.length ≤ 1000) (hl : D.length ≤ 100000) :
    Calls Tryz.prog 198 #[.pointer (some ⟨g, 0, none⟩), .agg #[.int .i64 5, .int .i64 n, pv], ev] w fun e w' => e = .returned (.agg #[.int .i64 5, .int .i64 D.length]) ∧ Fx T w w' ∧ ∃ av' vs', SQ w0 w' T g fv nm ds bud (D ++ [d]) stp out av' vs' := by
  obtain ⟨it, hit, hi0, hi1, hi2⟩ := info_parts Tryz.infoDelay
  have hw := h.sb hf0
  have hp := hp0.keep hf0.bel
  have he := he0.keep hf0
  obtain ⟨pa, pc, pp, rfl⟩ : ∃ a c p, pv = .slice a c p := by obtain ⟨xs, h1, _⟩ := hp; obtain ⟨ao, cap, e⟩ := own_form h1; exact ⟨_, _, _, e⟩
  obtain ⟨eo, ec, rfl⟩ := he.form
  obtain ⟨ao, ac, rfl⟩ := own_form hw.ra
  obtain ⟨_, _, _, c3, _⟩ := hw.cells
  have f3 := hw.fz 3
  have hgl := hw.lt
  have hTw := hw.hT
  have HA2 : Hid (Below w.heap.size w ((w.alloc (Obj.cells #[.int .i64 5, .int .i64 n, .slice pa pc pp] 212)).alloc (Obj.cells #[.int .i64 0, .int .i64 0] 75))) := below_al2 _ _ _
  have hsz2 : ((w.alloc (Obj.cells #[.int .i64 5, .int .i64 n, .slice pa pc pp] 212)).alloc (Obj.cells #[.int .i64 0, .int .i64 0] 75)).heap.size = w.heap.size + 1 + 1 := by simp
  have HR0 : Hid (((w.alloc (Obj.cells #[.int .i64 5, .int .i64 n, .slice pa pc pp] 212)).alloc (Obj.cells #[.int .i64 0, .int .i64 0] 75)).heap[w.heap.size + 1]? = some (Obj.cells #[.int .i64 0, .int .i64 0] 75)) := by
    have := heap_alloc_new (w.alloc (Obj.cells #[.int .i64 5, .int .i64 n, .slice pa pc pp] 212)) (Obj.cells #[.int .i64 0, .int .i64 0] 75)
    rw [World.size_alloc] at this
    exact this
  have HAL : Hid (Below w.heap.size w (((w.alloc (Obj.cells #[.int .i64 5, .int .i64 n, .slice pa pc pp] 212)).alloc (Obj.cells #[.int .i64 0, .int .i64 0] 75)).alloc (Obj.cells #[.slice pa pc pp, .slice eo d.env.length ec, .slice none 0 0] 242)).drew) := Below.drew (HA2.out.alloc (by rw [hsz2]; omega) _)
  have HNB : Hid ((((w.alloc (Obj.cells #[.int .i64 5, .int .i64 n, .slice pa pc pp] 212)).alloc (Obj.cells #[.int .i64 0, .int .i64 0] 75)).alloc (Obj.cells #[.slice pa pc pp, .slice eo d.env.length ec, .slice none 0 0] 242)).drew.heap[w.heap.size + 1 + 1]? = some (Obj.cells #[.slice pa pc pp, .slice eo d.env.length ec, .slice none 0 0] 242)) := by
    have := heap_alloc_new ((w.alloc (Obj.cells #[.int .i64 5, .int .i64 n, .slice pa pc pp] 212)).alloc (Obj.cells #[.int .i64 0, .int .i64 0] 75)) (Obj.cells #[.slice pa pc pp, .slice eo d.env.length ec, .slice none 0 0] 242)
    rw [hsz2] at this
    exact this
  have HR3 : Hid ((((w.alloc (Obj.cells #[.int .i64 5, .int .i64 n, .slice pa pc pp] 212)).alloc (Obj.cells #[.int .i64 0, .int .i64 0] 75)).alloc (Obj.cells #[.slice pa pc pp, .slice eo d.env.length ec, .slice none 0 0] 242)).drew.heap[w.heap.size + 1]? = some (Obj.cells #[.int .i64 0, .int .i64 0] 75)) := (Below.heap_alloc ((w.alloc (Obj.cells #[.int .i64 5, .int .i64 n, .slice pa pc pp] 212)).alloc (Obj.cells #[.int .i64 0, .int .i64 0] 75)) (Obj.cells #[.slice pa pc pp, .slice eo d.env.length ec, .slice none 0 0] 242) (w.heap.size + 1) (by rw [hsz2]; omega)).trans HR0.out
  have HW : Hid _ := hw.old HAL.out
  have HPO : Hid _ := hp.keep (HAL.out.mono hTw)
  have HRD : Hid _ := he.old HAL.out
  have HD : Hid _ := hd
  have HW0 : Hid _ := h
  have HPO0 : Hid _ := hp0
  have HRD0 : Hid _ := he0
  have c3y : (((w.alloc (Obj.cells #[.int .i64 5, .int .i64 n, .slice pa pc pp] 212)).alloc (Obj.cells #[.int .i64 0, .int .i64 0] 75)).alloc (Obj.cells #[.slice pa pc pp, .slice eo d.env.length ec, .slice none 0 0] 242)).cell? ⟨g, 3, none⟩ = some (.slice ao D.length ac) := (SB.cells HW.out).2.2.2.1
  clear hw hp he hd h hp0 he0 hf0
  go_enter Tryz.func198, Tryz.ntmps198
  go_wp2_with fail
  go_region_law ((refine step_append_lies _ (by rfl) _ _ _ (by rfl) T 242 it _ 3 72 Tryz.underlying163 hit hi0 hi1 hi2 rfl (by omega) (.slice ao D.length ac) D.length (dcs vs) (by rfl) (by exact SB.ra HW.out) _ 1 _ [.slice pa pc pp, .slice eo d.env.length ec, .slice none 0 0] (by rfl) rfl (by exact World.news_of_block HNB.out) (by simp [Value.oneCell']) (by omega) (by unfold maxLen; omega) (by omega) (by simp; omega) _ rfl ?_; intro q cap w2 hown hgrow hat hlt2; have hblk := grown_type (SB.ra HW.out) hgrow (by decide) (SB.blk HW.out); have kb : w2.cell? ⟨g, 3, none⟩ = some (.slice ao D.length ac) := (by rw [cell_of_row _ _ 3 _ _ _ hblk]; rfl); have kf := frozen_of_row w2 g 3 _ _ hblk; have hg2 : g < w2.heap.size := (Array.getElem?_eq_some_iff.1 hblk).1; have HFW : Hid _ := SB.pushD HW.out HPO.out HRD.out hv HD.out hown hgrow; have HR2 : Hid (w2.heap[w.heap.size + 1]? = some (Obj.cells #[.int .i64 0, .int .i64 0] 75)) := grown_type (SB.ra HW.out) hgrow (by decide) HR3.out; clear hown hgrow hat hlt2 hblk))
  all_goals
    obtain ⟨hfx, hw2⟩ := HFW.out
    have hRb : (w2.setCell ⟨g, 3, none⟩ (.slice (some ⟨q, 0, none⟩) (D.length + 1) cap)).heap[w.heap.size + 1]? = some (Obj.cells #[.int .i64 0, .int .i64 0] 75) := (heap_set_ne _ (by omega)).trans HR2.out
    clear HFW HR2 kb kf hg2
    generalize (w2.setCell ⟨g, 3, none⟩ (.slice (some ⟨q, 0, none⟩) (D.length + 1) cap)) = w3 at *
    obtain ⟨_, _, _, k3, _⟩ := hw2.cells
    have hg3 := hw2.lt
    have r0 : w3.cell? ⟨w.heap.size + 1, 0, none⟩ = some (.int .i64 0) := by rw [cell_of_row _ _ 0 _ _ _ hRb]; rfl
    have r1 : w3.cell? ⟨w.heap.size + 1, 1, none⟩ = some (.int .i64 0) := by rw [cell_of_row _ _ 1 _ _ _ hRb]; rfl
    have z0 := frozen_of_row w3 (w.heap.size + 1) 0 _ _ hRb
    have z1 := frozen_of_row w3 (w.heap.size + 1) 1 _ _ hRb
    have hrl : w.heap.size + 1 < w3.heap.size := (Array.getElem?_eq_some_iff.1 hRb).1
    have HF2 : Hid (Fx T w w3) := (Fx.of HAL.out hTw).trans hfx
    have HW2 : Hid _ := hw2
    have HRB : Hid _ := hRb
    clear hfx hw2 hRb c3 f3 c3y HW HPO HRD HNB HAL HR3 HR0 HA2 hsz2
    go_wp2_with fail
    obtain ⟨q0, q1⟩ := cellsTwo w3 (w.heap.size + 1) _ _ _ (.int .i64 5) (.int .i64 (D.length : Int)) HRB.out
    have fx4 : Fx T w ((w3.setCell ⟨w.heap.size + 1, 0, none⟩ (.int .i64 5)).setCell ⟨w.heap.size + 1, 1, none⟩ (.int .i64 (D.length : Int))) := (HF2.out.set2 (by omega) (by omega)).set2 (by omega) (by omega)
    refine bodyPost_ret (v := .agg #[.int .i64 5, .int .i64 (D.length : Int)]) (by simp [results, Tryz.results198, go_sem, q0, q1]) rfl ⟨rfl, fx4, _, _, SQ.push (av3 := .slice (some ⟨q, 0, none⟩) (D.length + 1) cap) HW0.out HPO0.out HRD0.out hv HD.out ?_ ?_⟩
    · rw [heap_set_ne _ (by omega), heap_set_ne _ (by omega)]; exact SB.blk HW2.out
    · exact ownsRow_set (ownsRow_set (SB.ra HW2.out) HRB.out (by decide)) (blk_set _ HRB.out) (by decide)

end Go.Proofs.YtnndoagpbcacdaaGreatDoor
namespace Go.Proofs.YtnndoagpbcacdaaGreatDoor
open Go.RowKit

/-! The reference: the parts of an application. -/
theorem ous_len (f : Tk → Int × Int) (E : Ln) (a : At) : ∀ k, (ous f E a k).length = a.cnt := by
  induction a with
  | nil => intro k; rfl
  | sim t r ih => intro k; simp [ous, At.cnt, ih]
  | par o h c ag r ih1 ih2 =>
    intro k
    by_cases hn : ag.isNil = true
    · simp [ous, At.cnt, hn, ih2]
    · simp [ous, At.cnt, hn, ih2]
set_option maxRecDepth 100000 in
set_option maxHeartbeats 4000000 in
theorem eParts (T g : Nat) (fv : Value) (nm : List Tk) (ds : List Df) (bud stp out : Int) (ps : List Tk) (E : Ln) (b : At) (D : List Dl) (xs : List Value) (lv ev : Value) (w : World) (h : SnP w T g fv nm ds bud D stp out) (hl : w.ownsRow 0 212 3 lv b.cnt xs) (hlt : ∀ k, lv.ownBlock = some k → k < T) (her : ER w (fun k => k < T) ps nm b xs)
    (he : Rd w T ev E) (hE : E.length = ps.length) (hbt : b.toks.length ≤ 1000) (hD : D.length + (dls ps E b).length ≤ 100000) :
    Calls Tryz.prog 182 #[.pointer (some ⟨g, 0, none⟩), lv, ev] w fun e w' => ∃ v, e = .returned v ∧ Fx T w w' ∧ SnP w' T g fv nm ds bud (D ++ dls ps E b) stp out ∧ Rd w' T v (ous (knownF ps nm) E b D.length) := by
  obtain ⟨ii, hi, hz0, hz1, hz2⟩ := info_parts Tryz.infoAtom
  obtain ⟨lo, lc, rfl⟩ := own_form hl
  have hcl : b.cnt ≤ 1000 := Nat.le_trans (At.cnt_le b) (by omega)
  have hlc := own_cap hl
  have HTw : Hid (T ≤ w.heap.size) := by obtain ⟨av, vs, h⟩ := h; exact h.hT
  have HL : Hid (∀ wr, Fx T w wr → wr.ownsRow 0 212 3 (.slice lo b.cnt lc) b.cnt xs) := fun wr hf => ownsRow_below hl hf.bel hlt
  have HEV : Hid (∀ wr, Fx T w wr → Rd wr T ev E) := fun wr hf => he.keep hf
  obtain ⟨eo, ec, rfl⟩ := he.form
  have HS : Hid _ := h
  have HER : Hid _ := her
  have HLT : Hid _ := hlt
  have HLE : Hid (E.length = ps.length) := hE
  clear h hl her he hlt hE
  go_enter Tryz.func182, Tryz.ntmps182
  go_wp2_with fail
  go_loopw [7, 8] (fun y z wr => ∃ (done rest : At) (m : Nat) (pre suf : List Value), Hid (done.app rest = b) ∧ m + rest.cnt = b.cnt ∧ z = .int .i64 m ∧ Hid (m = done.cnt) ∧ Hid (xs = pre ++ suf) ∧ Hid (pre.length = m * 3) ∧ Hid (ER w (fun k => k < T) ps nm rest suf) ∧ Hid (Fx T w wr) ∧ Hid (∃ av vs, SQ w wr T g fv nm ds bud (D ++ dls ps E done) stp out av vs) ∧ (∃ yo yc, y = .slice yo m yc) ∧ Hid (wr.ownsRow w.heap.size 75 2 y m (acs (ous (knownF ps nm) E done D.length)))) (fun _ z _ => b.cnt - (intOf z).toNat)
  case atStart => exact ⟨.nil, b, 0, [], xs, rfl, by simp, rfl, rfl, rfl, rfl, HER.out, Fx.refl _ _, by rw [show dls ps E .nil = [] from rfl, List.append_nil]; obtain ⟨av, vs, h⟩ := HS.out; exact ⟨av, vs, h.sq⟩, ⟨none, 0, rfl⟩, World.ownsRow_nil _ _ _ _⟩
  case round =>
    obtain ⟨done, rest, m, pre, suf, HA, hcnt, rfl, HM, HXS, HPL, HE2, HF, HSP, ⟨yo, yc, rfl⟩, HR⟩ := hrel
    have hsz := HF.out.size
    have htw := HTw.out
    by_cases hnil : rest = .nil
    · have hm2 : m = b.cnt := by rw [hnil] at hcnt; simpa [At.cnt] using hcnt
      have HE : Hid (done = b) := by show _ = _; rw [← HA.out, hnil, At.app_nil]
      clear hcnt
      subst hm2
      go_wp2_with fail
      go_ret
      refine ⟨_, rfl, HF.out, by rw [← HE.out]; obtain ⟨av, vs, h⟩ := HSP.out; exact ⟨av, vs, h.sb HF.out⟩, ?_⟩
      have := HR.out
      rw [← HE.out, ← ous_len (knownF ps nm) E done D.length] at this ⊢
      exact Rd.own this
    · have hlt : m < b.cnt := by have := At.cnt_pos hnil; omega
      have htl : done.toks.length + rest.toks.length = b.toks.length := by rw [← HA.out, At.app_toks, List.length_append]
      obtain ⟨one, r', k, n, pv, suf', hr1, hc1, hs1, her3, hpv, hcase⟩ := er_one (E := E) HE2.out hnil (by omega)
      obtain ⟨q, cap', hq, _, hqlt⟩ := (HL.out wr HF.out).form (by omega)
      cases hq
      have hrow := HL.out wr HF.out
      have c0 : wr.cell? ⟨q, m * 3, none⟩ = some (.int .i64 k) := row_cell hrow _ _ (by rw [HXS.out, List.getElem?_append_right (by rw [HPL.out]; omega), HPL.out, Nat.sub_self, hs1]; rfl)
      have c1 : wr.cell? ⟨q, m * 3 + 1, none⟩ = some (.int .i64 n) := row_cell hrow _ _ (by rw [HXS.out, List.getElem?_append_right (by rw [HPL.out]; omega), HPL.out, show m * 3 + 1 - m * 3 = 1 by omega, hs1]; rfl)
      have c2 : wr.cell? ⟨q, m * 3 + 2, none⟩ = some pv := row_cell hrow _ _ (by rw [HXS.out, List.getElem?_append_right (by rw [HPL.out]; omega), HPL.out, show m * 3 + 2 - m * 3 = 2 by omega, hs1]; rfl)
      have hqT : q < T := HLT.out q rfl
      have HA2 : Hid ((done.app one).app r' = b) := by show _ = _; rw [At.app_assoc, ← hr1]; exact HA.out
      have HCN2 : Hid (m + 1 + r'.cnt = b.cnt) := by show _ = _; rw [hr1, At.app_cnt] at hcnt; omega
      have HM2 : Hid (m + 1 = (done.app one).cnt) := by show _ = _; rw [At.app_cnt, HM.out, hc1]
      have HX2 : Hid (xs = (pre ++ eC k n pv) ++ suf') := by show _ = _; rw [HXS.out, hs1, List.append_assoc]
      have HP2 : Hid ((pre ++ eC k n pv).length = (m + 1) * 3) := by show _ = _; rw [List.length_append, HPL.out]; simp [eC]; omega
      have HD2 : Hid (dls ps E (done.app one) = dls ps E done ++ dls ps E one) := dls_app _ _ _ _
      have HO2 : Hid (ous (knownF ps nm) E (done.app one) D.length = ous (knownF ps nm) E done D.length ++ ous (knownF ps nm) E one (D ++ dls ps E done).length) := by show _ = _; rw [ous_app ps, List.length_append]
      have hDl : (D ++ dls ps E done).length ≤ 100000 := by
        have := congrArg (fun a => (dls ps E a).length) HA.out
        simp only [dls_app, List.length_append] at this ⊢
        omega
      have HE3 : Hid (ER w (fun k => k < T) ps nm r' suf') := her3
      clear hs1 hr1 hcnt her3 hrow htl HE2 HA HXS HPL hc1 hnil
      obtain ⟨pa, pc, pp, rfl⟩ := hpv
      rcases hcase with ⟨hk5, hd0, ho1, hk2⟩ | ⟨rfl, d, hd1, ho1, hpo, hde, hdv, hdp, hdb⟩
      · rw [hd0, List.append_nil] at HD2
        rw [ho1] at HO2
        have HC : Hid _ := ePartA wr T g k n (.slice pa pc pp) (.slice eo E.length ec) E ⟨_, _, _, rfl⟩ (HEV.out wr HF.out) hk5 (fun h => by have := hk2 h; have := HLE.out; omega)
        clear hk2 hk5 ho1 hd0
        generalize sbA E (k, n) = x at *
        obtain ⟨x1, x2⟩ := x
        simp only at HC
        go_wp2_with fail
        refine (show Calls _ _ _ _ _ from HC.out).mono ?_
        rintro e w1 ⟨rfl, hb1⟩
        clear HC
        have hw1s := hb1.size
        have HQ1 : Hid (∃ av vs, SQ w w1 T g fv nm ds bud (D ++ dls ps E (done.app one)) stp out av vs) := by rw [HD2.out]; obtain ⟨av, vs, h⟩ := HSP.out; exact ⟨av, vs, h.old hb1⟩
        have HF1 : Hid (Fx T w w1) := HF.out.trans (Fx.of hb1 (by omega))
        have HR1 : Hid (w1.ownsRow w.heap.size 75 2 (.slice yo m yc) m (acs (ous (knownF ps nm) E done D.length))) := ownsRow_old HR.out hb1
        clear hb1
        have HNB : Hid (((w1.alloc (Obj.cells #[.int .i64 x1, .int .i64 x2] 75)).alloc (Obj.cells #[.int .i64 x1, .int .i64 x2] 75)).heap[w1.heap.size + 1]? = some (Obj.cells #[.int .i64 x1, .int .i64 x2] 75)) := by
          have := heap_alloc_new (w1.alloc (Obj.cells #[.int .i64 x1, .int .i64 x2] 75)) (Obj.cells #[.int .i64 x1, .int .i64 x2] 75)
          rw [World.size_alloc] at this
          exact this
        have HAL : Hid (Below w1.heap.size w1 ((w1.alloc (Obj.cells #[.int .i64 x1, .int .i64 x2] 75)).alloc (Obj.cells #[.int .i64 x1, .int .i64 x2] 75))) := below_al2 _ _ _
        have HS2 : Hid (acs (ous (knownF ps nm) E (done.app one) D.length) = acs (ous (knownF ps nm) E done D.length) ++ [.int .i64 x1, .int .i64 x2]) := by show _ = _; rw [HO2.out, acs_snoc]
        have HRW : Hid _ := ownsRow_old HR1.out HAL.out
        generalize acs (ous (knownF ps nm) E done D.length) = AC at *
        go_wp2_with (at_builtin; go_must (refine wpList_append_lies _ rfl _ _ _ rfl w.heap.size 75 ii _ 2 16 Tryz.underlying76 hi hz0 hz1 hz2 rfl (by omega) (.slice yo m yc) m AC rfl ?hownA _ 1 _ [.int .i64 x1, .int .i64 x2] rfl rfl ?hnewsA ?h1A (by omega) ?h63A ?hbytesA ?hbaseA _ rfl ?_))
        case hownA => exact HRW.out
        try case hnewsA => exact World.news_of_block HNB.out
        case h1A => simp [Value.oneCell']
        case h63A => unfold maxLen; omega
        case hbytesA => omega
        case hbaseA => first | omega | (simp; omega)
        intro g2 cap2 w2 hown2 hgrow2 hat2 hlt2
        have HF2 : Hid (Fx T w w2) := Fx.grow2 (HF1.out.trans (Fx.of HAL.out (by omega))) hgrow2 (fun k hk => (World.ownsRow.lt HRW.out k hk).1) htw
        have HQ2 : Hid (∃ av vs, SQ w w2 T g fv nm ds bud (D ++ dls ps E (done.app one)) stp out av vs) := by obtain ⟨av, vs, h⟩ := HQ1.out; exact ⟨av, vs, (h.old HAL.out).grow HRW.out hgrow2⟩
        have HR2 : Hid (w2.ownsRow w.heap.size 75 2 (.slice (some ⟨g2, 0, none⟩) (m + 1) cap2) (m + 1) (acs (ous (knownF ps nm) E (done.app one) D.length))) := by rw [HS2.out]; exact hown2
        clear hown2 hgrow2 hat2 hlt2
        go_wp2_with fail
        go_roundw
        case rel => exact ⟨done.app one, r', m + 1, _, suf', HA2, HCN2.out, by go_num, HM2, HX2, HP2, HE3, HF2, HQ2, ⟨_, _, rfl⟩, HR2⟩
        case measure => simp [intOf]; omega
      · obtain ⟨av0, vs0, hq0⟩ := HSP.out
        have HC : Hid _ := ePartN w wr T g fv nm ds bud (D ++ dls ps E done) stp out n (.slice pa pc pp) (.slice eo E.length ec) d av0 vs0 hq0 HF.out hpo (by rw [hde]; exact HEV.out w (Fx.refl _ _)) hdv ⟨by rw [hde, hdp]; exact HLE.out, hdb⟩ hDl
        rw [hd1] at HD2
        rw [ho1] at HO2
        rw [List.append_assoc, ← HD2.out] at HC
        clear hq0 ho1 hd1 hpo
        generalize hx2 : ((D ++ dls ps E done).length : Int) = x2 at *
        generalize hx1 : (5 : Int) = x1 at *
        go_wp2_with fail
        refine (show Calls _ _ _ _ _ from HC.out).mono ?_
        rintro e w1 ⟨rfl, hf1, hq1⟩
        clear HC
        have hw1s := hf1.size
        have HQ1 : Hid (∃ av vs, SQ w w1 T g fv nm ds bud (D ++ dls ps E (done.app one)) stp out av vs) := hq1
        have HF1 : Hid (Fx T w w1) := HF.out.trans hf1
        have HR1 : Hid (w1.ownsRow w.heap.size 75 2 (.slice yo m yc) m (acs (ous (knownF ps nm) E done D.length))) := hf1.own HR.out
        clear hf1 hq1
        have HNB : Hid (((w1.alloc (Obj.cells #[.int .i64 x1, .int .i64 x2] 75)).alloc (Obj.cells #[.int .i64 x1, .int .i64 x2] 75)).heap[w1.heap.size + 1]? = some (Obj.cells #[.int .i64 x1, .int .i64 x2] 75)) := by
          have := heap_alloc_new (w1.alloc (Obj.cells #[.int .i64 x1, .int .i64 x2] 75)) (Obj.cells #[.int .i64 x1, .int .i64 x2] 75)
          rw [World.size_alloc] at this
          exact this
        have HAL : Hid (Below w1.heap.size w1 ((w1.alloc (Obj.cells #[.int .i64 x1, .int .i64 x2] 75)).alloc (Obj.cells #[.int .i64 x1, .int .i64 x2] 75))) := below_al2 _ _ _
        have HS2 : Hid (acs (ous (knownF ps nm) E (done.app one) D.length) = acs (ous (knownF ps nm) E done D.length) ++ [.int .i64 x1, .int .i64 x2]) := by show _ = _; rw [HO2.out, acs_snoc]
        have HRW : Hid _ := ownsRow_old HR1.out HAL.out
        generalize acs (ous (knownF ps nm) E done D.length) = AC at *
        go_wp2_with (at_builtin; go_must (refine wpList_append_lies _ rfl _ _ _ rfl w.heap.size 75 ii _ 2 16 Tryz.underlying76 hi hz0 hz1 hz2 rfl (by omega) (.slice yo m yc) m AC rfl ?hownB _ 1 _ [.int .i64 x1, .int .i64 x2] rfl rfl ?hnewsB ?h1B (by omega) ?h63B ?hbytesB ?hbaseB _ rfl ?_))
        case hownB => exact HRW.out
        try case hnewsB => exact World.news_of_block HNB.out
        case h1B => simp [Value.oneCell']
        case h63B => unfold maxLen; omega
        case hbytesB => omega
        case hbaseB => first | omega | (simp; omega)
        intro g2 cap2 w2 hown2 hgrow2 hat2 hlt2
        have HF2 : Hid (Fx T w w2) := Fx.grow2 (HF1.out.trans (Fx.of HAL.out (by omega))) hgrow2 (fun k hk => (World.ownsRow.lt HRW.out k hk).1) htw
        have HQ2 : Hid (∃ av vs, SQ w w2 T g fv nm ds bud (D ++ dls ps E (done.app one)) stp out av vs) := by obtain ⟨av, vs, h⟩ := HQ1.out; exact ⟨av, vs, (h.old HAL.out).grow HRW.out hgrow2⟩
        have HR2 : Hid (w2.ownsRow w.heap.size 75 2 (.slice (some ⟨g2, 0, none⟩) (m + 1) cap2) (m + 1) (acs (ous (knownF ps nm) E (done.app one) D.length))) := by rw [HS2.out]; exact hown2
        clear hown2 hgrow2 hat2 hlt2
        go_wp2_with fail
        go_roundw
        case rel => exact ⟨done.app one, r', m + 1, _, suf', HA2, HCN2.out, by go_num, HM2, HX2, HP2, HE3, HF2, HQ2, ⟨_, _, rfl⟩, HR2⟩
        case measure => simp [intOf]; omega

end Go.Proofs.YtnndoagpbcacdaaGreatDoor
