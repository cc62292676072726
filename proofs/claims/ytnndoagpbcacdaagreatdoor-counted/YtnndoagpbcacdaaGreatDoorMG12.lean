import Derived.Test.YtnndoagpbcacdaaGreatDoorMG6
namespace Go.Proofs.YtnndoagpbcacdaaGreatDoor
open Go.RowKit

/-! Package redexkeep: grow.go: bare. -/
theorem XLs.at {α : Type} {f : α → Value → Value → Prop} : ∀ {l : List α} {xs : List Value} {j : Nat} {e : α}, XLs f l xs → l[j]? = some e → ∃ a b, xs[j * 2]? = some a ∧ xs[j * 2 + 1]? = some b ∧ f e a b
  | [], _, j, e, _, h => by simp at h
  | _ :: _, _, 0, e, ⟨a, b, r, rfl, h1, _⟩, h => by simp at h; subst h; exact ⟨a, b, rfl, rfl, h1⟩
  | _ :: _, _, j + 1, e, ⟨a, b, r, rfl, _, h2⟩, h => by
    obtain ⟨a', b', h3, h4, h5⟩ := XLs.at h2 (by simpa using h)
    rw [show (j + 1) * 2 = j * 2 + 1 + 1 by omega]
    exact ⟨a', b', by simpa using h3, by simpa using h4, h5⟩
/-- What an element is written as, behind its blank. -/
def shP (N : Nms) : (d : Nat) → Ex d → List UInt8
  | 0, x => wdT N x
  | _ + 1, .inl x => wdT N x
  | d + 1, .inr (h, l) => 40 :: (wdT N h ++ (l.flatMap (shE N d) ++ [41]))
theorem shE_shP (N : Nms) : ∀ (d : Nat) (e : Ex d), shE N d e = 32 :: shP N d e
  | 0, _ => rfl
  | _ + 1, .inl _ => rfl
  | _ + 1, .inr (_, _) => rfl
theorem shA_take (N : Nms) (d : Nat) (l : List (Ex d)) (j : Nat) (e : Ex d) (h : l[j]? = some e) : shA N d (l.take (j + 1)) = shA N d (l.take j) ++ 32 :: shP N d e := by
  obtain ⟨hj, rfl⟩ := List.getElem?_eq_some_iff.1 h
  unfold shA
  rw [List.take_succ_eq_append_getElem hj, List.flatMap_append]
  simp [shE_shP]
theorem shA_le (N : Nms) (d : Nat) (l : List (Ex d)) (j : Nat) (e : Ex d) (h : l[j]? = some e) : (shA N d (l.take j)).length + (shP N d e).length + 1 ≤ (shA N d l).length := by
  have h1 := congrArg List.length (shA_take N d l j e h)
  have h2 : (shA N d (l.take (j + 1))).length ≤ (shA N d l).length := by
    have : shA N d l = shA N d (l.take (j + 1)) ++ shA N d (l.drop (j + 1)) := by
      unfold shA; rw [← List.flatMap_append, List.take_append_drop]
    rw [this, List.length_append]; omega
  simp at h1
  omega
theorem data_app (a b : ByteArray) : (a ++ b).data.toList = a.data.toList ++ b.data.toList := by simp [ByteArray.data_append]
/-- No application has more than a thousand parts. -/
def exLn : (d : Nat) → Ex d → Prop
  | 0, _ => True
  | _ + 1, .inl _ => True
  | d + 1, .inr (_, l) => l.length ≤ 1000 ∧ ∀ e ∈ l, exLn d e
def BareC (N : Nms) (S : Nat → Prop) (d : Nat) : Prop := ∀ (p : Ap d) (v : Value) (w : World), XA N w S d p v → p.2.length ≤ 1000 → (∀ e ∈ p.2, exLn d e) → (wdT N p.1 ++ shA N d p.2).length ≤ 100000 →
  Calls Tryz.prog 29 #[v] w fun e w' => ∃ x : ByteArray, e = .returned (.string x) ∧ x.data.toList = wdT N p.1 ++ shA N d p.2 ∧ Below w.heap.size w w'

/-- An element, as it is read: a word, or an application. -/
theorem xe_cases {N : Nms} {w : World} {S : Nat → Prop} {d : Nat} {e : Ex d} {a b : Value} (h : XE N w S d e a b) (hl : exLn d e) :
    (∃ s : ByteArray, a = .string s ∧ s.data.toList = shP N d e ∧ b = .slice none 0 0) ∨ (∃ d' p, d = d' + 1 ∧ a = .string ByteArray.empty ∧ XA N w S d' p b ∧ shP N d e = 40 :: (wdT N p.1 ++ (shA N d' p.2 ++ [41])) ∧ p.2.length ≤ 1000 ∧ ∀ e ∈ p.2, exLn d' e) := by
  cases d with
  | zero => exact .inl h
  | succ d =>
    cases e with
    | inl x => exact .inl h
    | inr p => obtain ⟨y, l⟩ := p; exact .inr ⟨d, (y, l), rfl, h.1, h.2, rfl, hl.1, hl.2⟩

set_option maxRecDepth 100000 in
set_option maxHeartbeats 4000000 in
theorem kBare_step (N : Nms) (S : Nat → Prop) (d : Nat) (hrec : ∀ d', d = d' + 1 → BareC N S d') : BareC N S d := by
  intro p v w hx hl hel hsz
  obtain ⟨h, l⟩ := p
  obtain ⟨hs, xs, h1, h2, h3, h4⟩ := hx
  simp only at h1 h2 h4 hl hel hsz
  obtain ⟨q, cap, rfl, _, hq⟩ := h2.form (by omega)
  have HRow : Hid (∀ w', Below w.heap.size w w' → w'.ownsRow 0 99 2 (.slice (some ⟨q, 0, none⟩) (l.length + 1) cap) (l.length + 1) (.string hs :: .slice none 0 0 :: xs)) := fun w' hb => ownsRow_old h2 hb
  have HXL : Hid (∀ w', Below w.heap.size w w' → XLs (XE N w' S d) l xs) := fun w' hb => h4.map (XE.keep (fun k hk hlt => ⟨hk, hb.block k hlt⟩) d)
  have HH : Hid (hs.data.toList = wdT N h) := h1
  have hhl : hs.size ≤ 100000 := by rw [size_len, h1]; rw [List.length_append] at hsz; omega
  have HSZ : Hid ((wdT N h ++ shA N d l).length ≤ 100000) := hsz
  clear h1 h2 h3 h4 hsz
  go_enter Tryz.func29, Tryz.ntmps29
  go_wp2_with fail
  go_loopw [3, 4] (fun y z wr => ∃ (i : Nat) (x : ByteArray), i ≤ l.length + 1 ∧ y = .string x ∧ z = .int .i64 i ∧ x.size ≤ 100000 ∧ w.heap.size ≤ wr.heap.size ∧ Hid (Below w.heap.size w wr) ∧ Hid (x.data.toList = if i = 0 then [] else wdT N h ++ shA N d (l.take (i - 1)))) (fun _ z _ => l.length + 1 - (intOf z).toNat)
  case atStart => exact ⟨0, _, by omega, rfl, rfl, by show 0 ≤ _; omega, Nat.le_refl _, Below.refl _ _, rfl⟩
  case round =>
    obtain ⟨i, x, hi, rfl, rfl, hxs, hww, HB, HE⟩ := hrel
    have hrow := HRow.out wr HB.out
    have hqr : q < wr.heap.size := by omega
    by_cases hil : i < l.length + 1
    · by_cases hi0 : i = 0
      · subst hi0
        have k0 := row_cell hrow 0 (.string hs) rfl
        have k1 := row_cell hrow 1 (.slice none 0 0) rfl
        have hx0 : Hid (x.data.toList = []) := HE.out
        have hxz : x.size = 0 := by rw [size_len, hx0.out]; rfl
        clear hrow HRow
        go_wp2_with fail
        go_roundw
        case rel =>
          refine ⟨1, x ++ hs, by omega, rfl, by go_num, by rw [ByteArray.size_append]; omega, hww, HB.out, ?_⟩
          show _ = _
          rw [data_app, hx0.out, HH.out]
          simp [shA]
        case measure => simp [intOf]
      · obtain ⟨j, rfl⟩ : ∃ j, i = j + 1 := ⟨i - 1, by omega⟩
        have hj : j < l.length := by omega
        have hget : l[j]? = some l[j] := List.getElem?_eq_getElem hj
        obtain ⟨a, b, ga, gb, hxe⟩ := (HXL.out wr HB.out).at hget
        have ka := row_cell hrow ((j + 1) * 2) a (by rw [show (j + 1) * 2 = j * 2 + 1 + 1 by omega]; simpa using ga)
        have kb := row_cell hrow ((j + 1) * 2 + 1) b (by rw [show (j + 1) * 2 + 1 = (j * 2 + 1) + 1 + 1 by omega]; simpa using gb)
        have hxl : Hid (x.data.toList = wdT N h ++ shA N d (l.take j)) := by have := HE.out; show _ = _; simpa using this
        have HLE : Hid (x.size + (shP N d l[j]).length + 1 ≤ 100000) := by
          have h5 := shA_le N d l j _ hget
          have h6 := HSZ.out
          show _ ≤ _
          rw [size_len, hxl.out, List.length_append]
          rw [List.length_append] at h6
          omega
        have HNX : Hid (wdT N h ++ shA N d (l.take (j + 1)) = wdT N h ++ shA N d (l.take j) ++ 32 :: shP N d l[j]) := by
          show _ = _
          rw [shA_take N d l j _ hget, List.append_assoc]
        have hdp : decide ((0 : Int) < (j : Int) + 1) = true := decide_eq_true (by omega)
        have hxs2 : x.size + 1 ≤ 100000 := by have := HLE.out; omega
        rcases xe_cases hxe (hel _ (List.getElem_mem hj)) with ⟨s2, rfl, hs2, rfl⟩ | ⟨d', p', hd', rfl, hxa, hsp, hp1, hp2⟩
        · have hs2l : x.size + s2.size + 1 ≤ 100000 := by have := HLE.out; rw [← hs2] at this; rw [size_len s2]; exact this
          have HS2 : Hid (s2.data.toList = shP N d l[j]) := hs2
          clear hrow HRow hxe hs2 ga gb
          go_wp2_with fail
          go_roundw
          case rel =>
            refine ⟨j + 1 + 1, _, by omega, rfl, by go_num, ?_, hww, HB.out, ?_⟩
            · simp only [ByteArray.size_append]
              show x.size + 1 + s2.size ≤ _
              omega
            · show _ = _
              rw [if_neg (by omega), show j + 1 + 1 - 1 = j + 1 by omega, HNX.out, data_app, data_app, hxl.out, HS2.out]
              simp
          case measure => simp [intOf]; omega
        · have hvr := hxa
          obtain ⟨_, _, _, hvr, _, _⟩ := hvr
          obtain ⟨vo, vc, rfl⟩ := own_form hvr
          have HSP : Hid (shP N d l[j] = 40 :: (wdT N p'.1 ++ (shA N d' p'.2 ++ [41]))) := hsp
          have hpl : (wdT N p'.1 ++ shA N d' p'.2).length + x.size + 3 ≤ 100000 := by
            have := HLE.out
            rw [hsp] at this
            simp at this ⊢
            omega
          have HCB : Hid (∀ w', Below wr.heap.size wr w' → Calls Tryz.prog 29 #[.slice vo (p'.2.length + 1) vc] w' fun e w'' => ∃ x : ByteArray, e = .returned (.string x) ∧ x.data.toList = wdT N p'.1 ++ shA N d' p'.2 ∧ Below w'.heap.size w' w'') := fun w' hb => hrec d' hd' p' _ w' (XA.keep (fun k hk hlt => ⟨hk, hb.block k hlt⟩) hxa) hp1 hp2 (by omega)
          generalize hpn : p'.2.length = pn at *
          generalize htx : wdT N p'.1 ++ shA N d' p'.2 = tx at *
          have HTX : Hid (wdT N p'.1 ++ (shA N d' p'.2 ++ [41]) = tx ++ [41]) := by show _ = _; rw [← htx, List.append_assoc]
          have hp0 : ¬ (pn : Int) + 1 = 0 := by omega
          have hp0b : ((pn : Int) + 1 == 0) = false := by simpa using hp0
          clear hrow HRow hxe ga gb hsp hxa hvr hp1 hp2 hpn htx
          go_wp2_with fail
          refine (show Calls _ _ _ _ _ from HCB.out _ (Below.refl _ _)).mono ?_
          rintro e w2 ⟨x2, rfl, hx2, hb2⟩
          clear HCB
          have hx2l : x2.size + x.size + 3 ≤ 100000 := by rw [size_len x2, hx2]; exact hpl
          have HX2 : Hid (x2.data.toList = tx) := hx2
          have HB2 : Hid (Below w.heap.size w w2) := HB.out.trans (hb2.mono hww)
          have hs2 := HB2.out.size
          clear hx2 hb2 ka kb
          go_wp2_with fail
          go_roundw
          case rel =>
            refine ⟨j + 1 + 1, _, by omega, rfl, by go_num, ?_, hs2, HB2.out, ?_⟩
            · simp only [ByteArray.size_append]
              show x.size + 1 + 1 + x2.size + 1 ≤ _
              omega
            · show _ = _
              rw [if_neg (by omega), show j + 1 + 1 - 1 = j + 1 by omega, HNX.out, HSP.out, HTX.out, data_app, data_app, data_app, data_app, hxl.out, HX2.out]
              simp
          case measure => simp [intOf]; omega
    · have hie : i = l.length + 1 := by omega
      have hd0 : decide ((i : Int) < ((l.length : Int) + 1)) = false := decide_eq_false (by omega)
      have hd1 : ¬ (i : Int) < (l.length : Int) + 1 := by omega
      have HF : Hid (x.data.toList = wdT N h ++ shA N d l) := by
        have := HE.out
        rw [if_neg (by omega), hie, Nat.add_sub_cancel, List.take_length] at this
        exact this
      clear hie
      go_wp2_with fail
      go_ret
      exact ⟨_, rfl, HF.out, HB.out⟩

theorem kBare (N : Nms) (S : Nat → Prop) : ∀ d, BareC N S d
  | 0 => kBare_step N S 0 (fun d' e => by omega)
  | d + 1 => kBare_step N S (d + 1) (fun d' e => by
      have : d' = d := by omega
      subst this
      exact kBare N S d')

end Go.Proofs.YtnndoagpbcacdaaGreatDoor
namespace Go.Proofs.YtnndoagpbcacdaaGreatDoor
open Go.RowKit

/-! Grown functions in memory; package redexkeep: grow.go: plain. -/
structure Fz where
  nm : ByteArray
  ps : List ByteArray
  ap : Ap 2
def FV (w : World) (S : Nat → Prop) (ns : List ByteArray) (f : Fz) (a b c : Value) : Prop :=
  a = .string f.nm ∧ w.ownsRow 0 9 1 b f.ps.length (sgs f.ps) ∧ (∀ k, b.ownBlock = some k → S k) ∧ XA (nmsB ns f.ps) w S 2 f.ap c
def FVs (w : World) (S : Nat → Prop) (ns : List ByteArray) : List Fz → List Value → Prop
  | [], xs => xs = []
  | f :: l, xs => ∃ a b c r, xs = a :: b :: c :: r ∧ FV w S ns f a b c ∧ FVs w S ns l r
def FRow (w : World) (S : Nat → Prop) (ns : List ByteArray) (l : List Fz) (v : Value) : Prop :=
  ∃ xs, w.ownsRow 0 66 3 v l.length xs ∧ (∀ k, v.ownBlock = some k → S k) ∧ FVs w S ns l xs
theorem row_keep {w w' : World} {S : Nat → Prop} {base n size : Nat} {e : TypeId} {v : Value} {xs : List Value} (h : w.ownsRow base e size v n xs) (hv : ∀ k, v.ownBlock = some k → S k) (hS : ∀ k, S k → k < w.heap.size → w'.heap[k]? = w.heap[k]?) : w'.ownsRow base e size v n xs := by
  refine ⟨h.1, ?_⟩
  rcases h.2 with hn | ⟨q, cap, cur, rfl, hg, hh, z⟩
  · exact .inl hn
  · exact .inr ⟨q, cap, cur, rfl, hg, (hS q (hv q rfl) (Array.getElem?_eq_some_iff.1 hh).1).trans hh, z⟩
theorem FV.keep {w w' : World} {S S' : Nat → Prop} {ns : List ByteArray} {f : Fz} {a b c : Value} (hS : ∀ k, S k → k < w.heap.size → S' k ∧ w'.heap[k]? = w.heap[k]?) (h : FV w S ns f a b c) : FV w' S' ns f a b c :=
  ⟨h.1, row_keep h.2.1 h.2.2.1 (fun k hk hl => (hS k hk hl).2), fun k hk => (hS k (h.2.2.1 k hk) (h.2.1.lt k hk).2).1, XA.keep hS h.2.2.2⟩
theorem FVs.keep {w w' : World} {S S' : Nat → Prop} {ns : List ByteArray} (hS : ∀ k, S k → k < w.heap.size → S' k ∧ w'.heap[k]? = w.heap[k]?) : ∀ {l : List Fz} {xs : List Value}, FVs w S ns l xs → FVs w' S' ns l xs
  | [], _, h => h
  | _ :: _, _, ⟨a, b, c, r, e, h1, h2⟩ => ⟨a, b, c, r, e, h1.keep hS, FVs.keep hS h2⟩
theorem FVs.snoc {w : World} {S : Nat → Prop} {ns : List ByteArray} {f : Fz} {a b c : Value} (hf : FV w S ns f a b c) : ∀ {l : List Fz} {xs : List Value}, FVs w S ns l xs → FVs w S ns (l ++ [f]) (xs ++ [a, b, c])
  | [], _, hx => by rw [show _ = [] from hx]; exact ⟨a, b, c, [], rfl, hf, rfl⟩
  | _ :: _, _, ⟨a', b', c', r, rfl, h1, h2⟩ => ⟨a', b', c', r ++ [a, b, c], rfl, h1, h2.snoc hf⟩
theorem FVs.at {w : World} {S : Nat → Prop} {ns : List ByteArray} : ∀ {l : List Fz} {xs : List Value} {j : Nat} {f : Fz}, FVs w S ns l xs → l[j]? = some f → ∃ a b c, xs[j * 3]? = some a ∧ xs[j * 3 + 1]? = some b ∧ xs[j * 3 + 2]? = some c ∧ FV w S ns f a b c
  | [], _, j, _, _, h => by simp at h
  | _ :: _, _, 0, _, ⟨a, b, c, r, rfl, h1, _⟩, h => by simp at h; subst h; exact ⟨a, b, c, rfl, rfl, rfl, h1⟩
  | _ :: _, _, j + 1, _, ⟨a, b, c, r, rfl, _, h2⟩, h => by
    obtain ⟨a', b', c', h3, h4, h5, h6⟩ := FVs.at h2 (by simpa using h)
    rw [show (j + 1) * 3 = j * 3 + 1 + 1 + 1 by omega]
    exact ⟨a', b', c', by simpa using h3, by simpa using h4, by simpa using h5, h6⟩
theorem FRow.old {w w' : World} {S : Nat → Prop} {ns : List ByteArray} {l : List Fz} {v : Value} (h : FRow w S ns l v) (hb : Below w.heap.size w w') : FRow w' S ns l v := by
  obtain ⟨xs, h1, h2, h3⟩ := h
  exact ⟨xs, ownsRow_old h1 hb, h2, h3.keep (fun k hk hl => ⟨hk, hb.block k hl⟩)⟩
def fzS (ns : List ByteArray) (f : Fz) : List UInt8 := f.nm.data.toList ++ (f.ps.flatMap (fun p => 32 :: p.data.toList) ++ ([32, 61, 32] ++ (wdT (nmsB ns f.ps) f.ap.1 ++ shA (nmsB ns f.ps) 2 f.ap.2 ++ [59, 10])))
theorem fzS_take (ns : List ByteArray) (l : List Fz) (j : Nat) (f : Fz) (h : l[j]? = some f) : (l.take (j + 1)).flatMap (fzS ns) = (l.take j).flatMap (fzS ns) ++ fzS ns f := by
  obtain ⟨hj, rfl⟩ := List.getElem?_eq_some_iff.1 h
  rw [List.take_succ_eq_append_getElem hj, List.flatMap_append]; simp
theorem fzS_le (ns : List ByteArray) (l : List Fz) (j : Nat) (f : Fz) (h : l[j]? = some f) : ((l.take j).flatMap (fzS ns)).length + (fzS ns f).length ≤ (l.flatMap (fzS ns)).length := by
  have h1 := congrArg List.length (fzS_take ns l j f h)
  have h2 : l.flatMap (fzS ns) = (l.take (j + 1)).flatMap (fzS ns) ++ (l.drop (j + 1)).flatMap (fzS ns) := by rw [← List.flatMap_append, List.take_append_drop]
  have h3 := congrArg List.length h2
  rw [List.length_append] at h1 h3
  omega
theorem ps_take (ps : List ByteArray) (j : Nat) (h : j < ps.length) : (ps.take (j + 1)).flatMap (fun p => 32 :: p.data.toList) = (ps.take j).flatMap (fun p => 32 :: p.data.toList) ++ 32 :: ps[j].data.toList := by
  rw [List.take_succ_eq_append_getElem h, List.flatMap_append]; simp
theorem ps_le (ps : List ByteArray) (j : Nat) (h : j < ps.length) : ((ps.take j).flatMap (fun p => 32 :: p.data.toList)).length + ps[j].size + 1 ≤ (ps.flatMap (fun p => 32 :: p.data.toList)).length := by
  have h1 := congrArg List.length (ps_take ps j h)
  have h2 : ps.flatMap (fun p => 32 :: p.data.toList) = (ps.take (j + 1)).flatMap (fun p => 32 :: p.data.toList) ++ (ps.drop (j + 1)).flatMap (fun p => 32 :: p.data.toList) := by rw [← List.flatMap_append, List.take_append_drop]
  have h3 := congrArg List.length h2
  rw [List.length_append] at h1 h3
  rw [size_len]
  simp only [List.length_cons] at h1
  omega

set_option maxRecDepth 100000 in
set_option maxHeartbeats 4000000 in
theorem kPlain (S : Nat → Prop) (ns : List ByteArray) (l : List Fz) (v : Value) (w : World) (h : FRow w S ns l v) (hl : l.length ≤ 1000) (hln : ∀ f ∈ l, f.ps.length ≤ 1000 ∧ f.ap.2.length ≤ 1000 ∧ ∀ e ∈ f.ap.2, exLn 2 e) (hsz : (l.flatMap (fzS ns)).length ≤ 100000) :
    Calls Tryz.prog 21 #[v] w fun e w' => ∃ x : ByteArray, e = .returned (.string x) ∧ x.data.toList = l.flatMap (fzS ns) ∧ Below w.heap.size w w' := by
  have HFR : Hid (∀ w', Below w.heap.size w w' → FRow w' S ns l v) := fun w' hb => h.old hb
  obtain ⟨xs, h1, _, _⟩ := h
  obtain ⟨vo, vc, rfl⟩ := own_form h1
  have HSZ : Hid ((l.flatMap (fzS ns)).length ≤ 100000) := hsz
  clear h1 hsz
  go_enter Tryz.func21, Tryz.ntmps21
  go_wp2_with fail
  go_loopw [3, 4] (fun y z wr => ∃ (i : Nat) (x : ByteArray), i ≤ l.length ∧ y = .string x ∧ z = .int .i64 i ∧ x.size ≤ 100000 ∧ w.heap.size ≤ wr.heap.size ∧ Hid (Below w.heap.size w wr) ∧ Hid (x.data.toList = (l.take i).flatMap (fzS ns))) (fun _ z _ => l.length - (intOf z).toNat)
  case atStart => exact ⟨0, _, by omega, rfl, rfl, by show 0 ≤ _; omega, Nat.le_refl _, Below.refl _ _, by simp [Hid]⟩
  case round =>
    obtain ⟨i, x, hi, rfl, rfl, hxs, hww, HB, HE⟩ := hrel
    obtain ⟨wo, hwo⟩ : ∃ wo, wo = wr := ⟨wr, rfl⟩
    subst hwo
    by_cases hil : i < l.length
    · have hget : l[i]? = some l[i] := List.getElem?_eq_getElem hil
      obtain ⟨xs, hrow, hS, hF⟩ := HFR.out wo HB.out
      obtain ⟨q, cap, hqe, _, hqr⟩ := hrow.form (by omega)
      cases hqe
      obtain ⟨a, b, c, ga, gb, gc, hfv⟩ := hF.at hget
      obtain ⟨rfl, hps, _, hxa⟩ := hfv
      have ka := row_cell hrow (i * 3) _ ga
      have kb := row_cell hrow (i * 3 + 1) _ gb
      have kc := row_cell hrow (i * 3 + 2) _ gc
      have hlf := hln _ (List.getElem_mem hil)
      have HXI : Hid (x.data.toList = (l.take i).flatMap (fzS ns)) := HE.out
      have HLE : Hid (x.size + (fzS ns l[i]).length ≤ 100000) := by
        show _ ≤ _
        rw [size_len, HXI.out]
        have := fzS_le ns l i _ hget
        have := HSZ.out
        omega
      have HNX : Hid ((l.take (i + 1)).flatMap (fzS ns) = (l.take i).flatMap (fzS ns) ++ fzS ns l[i]) := fzS_take ns l i _ hget
      generalize l[i] = f at *
      have HFZ : Hid (fzS ns f = f.nm.data.toList ++ (f.ps.flatMap (fun p => 32 :: p.data.toList) ++ ([32, 61, 32] ++ (wdT (nmsB ns f.ps) f.ap.1 ++ shA (nmsB ns f.ps) 2 f.ap.2 ++ [59, 10])))) := rfl
      have HL2 : Hid (x.size + f.nm.size + (f.ps.flatMap (fun p => 32 :: p.data.toList)).length + 3 + (wdT (nmsB ns f.ps) f.ap.1 ++ shA (nmsB ns f.ps) 2 f.ap.2).length + 2 ≤ 100000) := by
        have := HLE.out
        rw [HFZ.out] at this
        show _ ≤ _
        rw [size_len f.nm]
        simp only [List.length_append, List.length_cons, List.length_nil] at this ⊢
        omega
      have hl2 : x.size + f.nm.size ≤ 100000 := by have := HL2.out; omega
      have HCB : Hid (∀ w', Below wo.heap.size wo w' → Calls Tryz.prog 29 #[c] w' fun e w'' => ∃ x : ByteArray, e = .returned (.string x) ∧ x.data.toList = wdT (nmsB ns f.ps) f.ap.1 ++ shA (nmsB ns f.ps) 2 f.ap.2 ∧ Below w'.heap.size w' w'') := fun w' hb => kBare _ S 2 f.ap c w' (XA.keep (fun k hk hlt => ⟨hk, hb.block k hlt⟩) hxa) hlf.2.1 hlf.2.2 (by have := HL2.out; omega)
      have hvr := hxa
      obtain ⟨_, _, _, hvr, _, _⟩ := hvr
      obtain ⟨co, cc, rfl⟩ := own_form hvr
      obtain ⟨po, pc, rfl⟩ := own_form hps
      have HPS : Hid (∀ w', Below wo.heap.size wo w' → w'.ownsRow 0 9 1 (.slice po f.ps.length pc) f.ps.length (sgs f.ps)) := fun w' hb => ownsRow_old hps hb
      have hpl : f.ps.length ≤ 1000 := hlf.1
      have HKB : Hid _ := kb
      have HKC : Hid _ := kc
      clear hrow hF ga gb gc hvr hxa HLE hps hlf
      go_wp2_with fail
      clear ka kb kc
      go_loopw [3, 5] (fun y z w2 => ∃ (j : Nat) (x2 : ByteArray), j ≤ f.ps.length ∧ y = .string x2 ∧ z = .int .i64 j ∧ x2.size ≤ 100000 ∧ q < w2.heap.size ∧ wo.heap.size ≤ w2.heap.size ∧ Hid (Below wo.heap.size wo w2) ∧ Hid (x2.data.toList = x.data.toList ++ (f.nm.data.toList ++ (f.ps.take j).flatMap (fun p => 32 :: p.data.toList)))) (fun _ z _ => f.ps.length - (intOf z).toNat)
      case atStart => exact ⟨0, _, by omega, rfl, rfl, by rw [ByteArray.size_append]; exact hl2, hqr, Nat.le_refl _, Below.refl _ _, by show _ = _; rw [data_app]; simp⟩
      case round =>
        obtain ⟨j, x2, hj, rfl, rfl, hx2s, hq2, hw2, HB2, HE2⟩ := hrel
        have kb := (HB2.out.cell (p := ⟨q, i * 3 + 1, none⟩) hqr).trans HKB.out
        have kc := (HB2.out.cell (p := ⟨q, i * 3 + 2, none⟩) hqr).trans HKC.out
        by_cases hjl : j < f.ps.length
        · obtain ⟨pq, pcap, hpe, _, hpq⟩ := (HPS.out wr HB2.out).form (by omega)
          cases hpe
          have kp := row_cell (HPS.out wr HB2.out) j _ (sgs_at f.ps j hjl)
          have hx3 : x2.size + 1 + f.ps[j].size ≤ 100000 := by
            have h5 := ps_le f.ps j hjl
            have h6 := HL2.out
            rw [size_len x2, HE2.out]
            rw [size_len x, size_len f.nm] at h6
            simp only [List.length_append]
            omega
          have HP : Hid ((f.ps.take (j + 1)).flatMap (fun p => 32 :: p.data.toList) = (f.ps.take j).flatMap (fun p => 32 :: p.data.toList) ++ 32 :: f.ps[j].data.toList) := ps_take f.ps j hjl
          generalize f.ps[j] = pj at *
          go_wp2_with fail
          go_roundw
          case rel =>
            refine ⟨j + 1, _, hjl, rfl, by go_num, ?_, hq2, hw2, HB2.out, ?_⟩
            · simp only [ByteArray.size_append]
              show x2.size + 1 + pj.size ≤ _
              omega
            · show _ = _
              rw [HP.out, data_app, data_app, HE2.out]
              simp
          case measure => simp [intOf]; omega
        · have hje : j = f.ps.length := by omega
          have hd0 : decide ((j : Int) < (f.ps.length : Int)) = false := decide_eq_false (by omega)
          have hd1 : ¬ (j : Int) < (f.ps.length : Int) := by omega
          have HF2 : Hid (x2.data.toList = x.data.toList ++ (f.nm.data.toList ++ f.ps.flatMap (fun p => 32 :: p.data.toList))) := by
            have := HE2.out
            rw [hje, List.take_length] at this
            exact this
          have hx4 : x2.size + 3 + (wdT (nmsB ns f.ps) f.ap.1 ++ shA (nmsB ns f.ps) 2 f.ap.2).length + 2 ≤ 100000 := by
            have h6 := HL2.out
            rw [size_len x2, HF2.out]
            rw [size_len x, size_len f.nm] at h6
            simp only [List.length_append] at h6 ⊢
            omega
          clear hje
          go_wp2_with fail
          refine (show Calls _ _ _ _ _ from HCB.out wr HB2.out).mono ?_
          rintro e w3 ⟨x3, rfl, hx3, hb3⟩
          clear HCB
          have hx5 : x2.size + 3 + x3.size + 2 ≤ 100000 := by rw [size_len x3, hx3]; exact hx4
          have HX3 : Hid _ := hx3
          have HB3 : Hid (Below w.heap.size w w3) := (HB.out.trans (HB2.out.mono hww)).trans (hb3.mono (by omega))
          have hs3 := HB3.out.size
          clear hx3 hb3 kb kc hx4
          go_wp2_with fail
          go_roundw
          case rel =>
            refine ⟨i + 1, _, hil, rfl, by go_num, ?_, hs3, HB3.out, ?_⟩
            · simp only [ByteArray.size_append]
              show x2.size + 3 + x3.size + 2 ≤ _
              omega
            · show _ = _
              rw [HNX.out, HFZ.out, data_app, data_app, data_app, HF2.out, HXI.out, HX3.out]
              simp
          case measure => simp [intOf]; omega
    · have hie : i = l.length := by omega
      have hd0 : decide ((i : Int) < (l.length : Int)) = false := decide_eq_false (by omega)
      have hd1 : ¬ (i : Int) < (l.length : Int) := by omega
      have HF : Hid (x.data.toList = l.flatMap (fzS ns)) := by
        have := HE.out
        rw [hie, List.take_length] at this
        exact this
      clear hie
      go_wp2_with fail
      go_ret
      exact ⟨_, rfl, HF.out, HB.out⟩

end Go.Proofs.YtnndoagpbcacdaaGreatDoor
