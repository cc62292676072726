import Derived.Test.YtnndoagpbcacdaaDoorMH1
namespace Go.Proofs.YtnndoagpbcacdaaDoor
open Go.RowKit

/-! Package redexkeep: grow.go: wide. -/
theorem wd_first {N : Nms} {np nf : Nat} (hN : NmN N) (hp : np = N.pn.length) (hf : nf = N.fn.length) {x : Wd} (hx : wOk np nf x) : ∃ a r, wdT N x = a :: r ∧ ((48 ≤ a.toNat ∧ a.toNat ≤ 57) ↔ x.1 = 1) := by
  have hnam : ∀ y, namP y → ∃ a r, y = a :: r ∧ ¬ (48 ≤ a.toNat ∧ a.toNat ≤ 57) := by
    rintro y ⟨a, r, rfl, h, _⟩
    refine ⟨a, r, rfl, fun hd => ?_⟩
    have h' : _ := h
    unfold isL n8 at h'
    have := of_decide_eq_true h'
    omega
  unfold wdT
  rcases hx with ⟨h, h0, h1⟩ | ⟨h, h0, h1⟩ | ⟨h, h0, h1⟩ | ⟨h, h0, h1⟩
  · rw [if_pos h]
    have hd := dc_dig x.2.toNat
    cases hq : decL x.2.toNat with
    | nil => exact absurd hq (dc_ne _)
    | cons a r => exact ⟨a, r, rfl, fun _ => h, fun _ => hd a (by rw [hq]; simp)⟩
  · rw [if_neg (by omega), if_pos h]
    have hlt : x.2.toNat < N.pn.length := by omega
    rw [List.getElem?_eq_getElem hlt]
    obtain ⟨a, r, e, hn⟩ := hnam _ (hN.2 _ (List.getElem_mem hlt))
    exact ⟨a, r, e, fun hd => absurd hd hn, fun hd => by omega⟩
  · rw [if_neg (by omega), if_neg (by omega), if_pos h]
    have hlt : x.2.toNat < N.fn.length := by omega
    rw [List.getElem?_eq_getElem hlt]
    obtain ⟨a, r, e, hn⟩ := hnam _ (hN.1 _ (List.getElem_mem hlt))
    exact ⟨a, r, e, fun hd => absurd hd hn, fun hd => by omega⟩
  · rw [if_neg (by omega), if_neg (by omega), if_neg (by omega)]
    have : x.2.toNat = 0 ∨ x.2.toNat = 1 ∨ x.2.toNat = 2 ∨ x.2.toNat = 3 ∨ x.2.toNat = 4 := by omega
    rcases this with e | e | e | e | e <;> rw [e] <;> exact ⟨_, _, rfl, fun hd => absurd hd (by decide), fun hd => by omega⟩
theorem lzW_word {N : Nms} {np nf : Nat} (hN : NmN N) (hp : np = N.pn.length) (hf : nf = N.fn.length) {x : Wd} (hx : wOk np nf x) (st : Int) (hd : Bool) : lzW st hd (wdT N x) = if hd then nzT (styF st) N x else (agT (styF st) N x).flatten := by
  obtain ⟨a, r, e, hi⟩ := wd_first hN hp hf hx
  have h0 : lzN st (wdT N x) = nzT (styF st) N x := by
    unfold lzN nzT styF
    rw [e]
    by_cases h : x.1 = 1 ∧ st / 4 % 2 = 1
    · rw [if_pos ⟨by simpa using hi.2 h.1, h.2⟩, if_pos ⟨h.1, by simpa using h.2⟩]
    · rw [if_neg (fun g => h ⟨hi.1 (by simpa using g.1), g.2⟩), if_neg (fun g => h ⟨g.1, by simpa using g.2⟩)]
  unfold lzW agT
  rw [h0]
  cases hd
  · by_cases h : st / 8 % 2 = 1
    · rw [if_pos ⟨rfl, h⟩, if_neg (by simp), if_pos (by simpa [styF] using h)]; simp
    · rw [if_neg (fun g => h g.2), if_neg (by simp), if_neg (by simpa [styF] using h)]; simp
  · rw [if_neg (by simp), if_pos rfl]
def lzT (st : Int) (N : Nms) (d : Nat) (p : Ap d) : List UInt8 := nzT (styF st) N p.1 ++ (lzA (styF st) (pickF st 3) N d p.2).flatten
theorem lzA_take (st : Int) (N : Nms) (d : Nat) (l : List (Ex d)) (j : Nat) (e : Ex d) (h : l[j]? = some e) : (lzA (styF st) (pickF st 3) N d (l.take (j + 1))).flatten = (lzA (styF st) (pickF st 3) N d (l.take j)).flatten ++ ((gapP (pickF st 3)).flatten ++ (lzE (styF st) (pickF st 3) N d e).flatten) := by
  obtain ⟨hj, rfl⟩ := List.getElem?_eq_some_iff.1 h
  unfold lzA
  rw [List.take_succ_eq_append_getElem hj, List.flatMap_append, List.flatten_append]
  simp
theorem lzA_le (st : Int) (N : Nms) (d : Nat) (l : List (Ex d)) (j : Nat) (e : Ex d) (h : l[j]? = some e) : (lzA (styF st) (pickF st 3) N d (l.take j)).flatten.length + (gapP (pickF st 3)).flatten.length + (lzE (styF st) (pickF st 3) N d e).flatten.length ≤ (lzA (styF st) (pickF st 3) N d l).flatten.length := by
  have h1 := congrArg List.length (lzA_take st N d l j e h)
  have h2 : (lzA (styF st) (pickF st 3) N d (l.take (j + 1))).flatten.length ≤ (lzA (styF st) (pickF st 3) N d l).flatten.length := by
    have : lzA (styF st) (pickF st 3) N d l = lzA (styF st) (pickF st 3) N d (l.take (j + 1)) ++ lzA (styF st) (pickF st 3) N d (l.drop (j + 1)) := by
      unfold lzA; rw [← List.flatMap_append, List.take_append_drop]
    rw [this, List.flatten_append, List.length_append]; omega
  simp only [List.length_append] at h1
  omega
def WideC (st : Int) (N : Nms) (np nf : Nat) (S : Nat → Prop) (d : Nat) : Prop := ∀ (p : Ap d) (v : Value) (w : World), XA N w S d p v → p.2.length ≤ 1000 → (∀ e ∈ p.2, exLn d e) → wOk np nf p.1 → (∀ e ∈ p.2, exOk np nf d e) → (lzT st N d p).length ≤ 1000 →
  Calls Tryd.prog 22 #[v, .int .i64 st] w fun e w' => ∃ x : ByteArray, e = .returned (.string x) ∧ x.data.toList = lzT st N d p ∧ Below w.heap.size w w'
theorem xz_cases {st : Int} {N : Nms} {np nf : Nat} {w : World} {S : Nat → Prop} {d : Nat} {e : Ex d} {a b : Value} (h : XE N w S d e a b) (hl : exLn d e) (ho : exOk np nf d e) :
    (∃ (s : ByteArray) (x : Wd), a = .string s ∧ s.data.toList = wdT N x ∧ wOk np nf x ∧ b = .slice none 0 0 ∧ lzE (styF st) (pickF st 3) N d e = agT (styF st) N x) ∨ (∃ d' p, d = d' + 1 ∧ a = .string ByteArray.empty ∧ XA N w S d' p b ∧ (lzE (styF st) (pickF st 3) N d e).flatten = 40 :: ((gapP (pickF st 3)).flatten ++ (lzT st N d' p ++ ((gapP (pickF st 3)).flatten ++ [41]))) ∧ p.2.length ≤ 1000 ∧ (∀ e ∈ p.2, exLn d' e) ∧ wOk np nf p.1 ∧ ∀ e ∈ p.2, exOk np nf d' e) := by
  cases d with
  | zero => obtain ⟨s, h1, h2, h3⟩ := h; exact .inl ⟨s, e, h1, h2, ho, h3, rfl⟩
  | succ d =>
    cases e with
    | inl x => obtain ⟨s, h1, h2, h3⟩ := h; exact .inl ⟨s, x, h1, h2, ho, h3, rfl⟩
    | inr p =>
      obtain ⟨y, l⟩ := p
      refine .inr ⟨d, (y, l), rfl, h.1, h.2, ?_, hl.1, hl.2, ho.1, ho.2.2.2⟩
      show (([40] :: (gapP (pickF st 3) ++ (nzT (styF st) N y :: (lzA (styF st) (pickF st 3) N d l ++ (gapP (pickF st 3) ++ [[41]]))))).flatten) = _
      unfold lzT
      simp

set_option maxRecDepth 100000 in
set_option maxHeartbeats 8000000 in
theorem kWide_step (st : Int) (hs1 : -9223372036854775808 ≤ st) (hs2 : st ≤ 9223372036854775807) (N : Nms) (np nf : Nat) (hN : NmN N) (hp : np = N.pn.length) (hf : nf = N.fn.length) (S : Nat → Prop) (d : Nat) (hrec : ∀ d', d = d' + 1 → WideC st N np nf S d') : WideC st N np nf S d := by
  intro p v w hx hl hel hwo hok hsz
  obtain ⟨h, l⟩ := p
  obtain ⟨hs, xs, h1, h2, h3, h4⟩ := hx
  simp only at h1 h2 h4 hl hel hwo hok
  obtain ⟨q, cap, rfl, _, hq⟩ := h2.form (by omega)
  have HRow : Hid (∀ w', Below w.heap.size w w' → w'.ownsRow 0 71 2 (.slice (some ⟨q, 0, none⟩) (l.length + 1) cap) (l.length + 1) (.string hs :: .slice none 0 0 :: xs)) := fun w' hb => ownsRow_old h2 hb
  have HXL : Hid (∀ w', Below w.heap.size w w' → XLs (XE N w' S d) l xs) := fun w' hb => h4.map (XE.keep (fun k hk hlt => ⟨hk, hb.block k hlt⟩) d)
  have hTe : lzT st N d (h, l) = nzT (styF st) N h ++ (lzA (styF st) (pickF st 3) N d l).flatten := rfl
  have hwn : (wdT N h).length ≤ (nzT (styF st) N h).length := by
    unfold nzT
    split
    · simp; omega
    · omega
  have hh0 : 0 < hs.size := by
    obtain ⟨a, r, e, _⟩ := wd_first hN hp hf hwo
    rw [size_len, h1, e]; simp
  have hhl : hs.size ≤ 1000 := by rw [size_len, h1]; rw [hTe, List.length_append] at hsz; omega
  have HSZ : Hid ((nzT (styF st) N h).length + (lzA (styF st) (pickF st 3) N d l).flatten.length ≤ 1000) := by show _ ≤ _; rw [hTe, List.length_append] at hsz; exact hsz
  have HCH : Hid (∀ w', Calls Tryd.prog 34 #[.string hs, .int .i64 st, .bool true] w' fun e w'' => ∃ x : ByteArray, e = .returned (.string x) ∧ x.data.toList = nzT (styF st) N h ∧ Below w'.heap.size w' w'') := fun w' => by
    refine (kLoosely hs st true w' hs1 hs2 hh0 hhl).mono ?_
    rintro e w'' ⟨x, rfl, hx, hb⟩
    exact ⟨x, rfl, by rw [hx, h1, lzW_word hN hp hf hwo st true, if_pos rfl], hb⟩
  have HCG : Hid (∀ w', Calls Tryd.prog 21 #[.int .i64 st] w' fun e w'' => ∃ x : ByteArray, e = .returned (.string x) ∧ x.data.toList = (gapP (pickF st 3)).flatten ∧ w'' = w') := fun w' => kGap st w' hs1 hs2
  have HFE : Hid (lzT st N d (h, l) = nzT (styF st) N h ++ (lzA (styF st) (pickF st 3) N d l).flatten) := hTe
  clear h1 h2 h3 h4 hsz hwn hTe
  go_enter Tryd.func22, Tryd.ntmps22
  go_wp2_with fail
  go_loopw [5, 6] (fun y z wr => ∃ (i : Nat) (x : ByteArray), i ≤ l.length + 1 ∧ y = .string x ∧ z = .int .i64 i ∧ x.size ≤ 1000 ∧ w.heap.size ≤ wr.heap.size ∧ Hid (Below w.heap.size w wr) ∧ Hid (x.data.toList = if i = 0 then [] else nzT (styF st) N h ++ (lzA (styF st) (pickF st 3) N d (l.take (i - 1))).flatten)) (fun _ z _ => l.length + 1 - (intOf z).toNat)
  case atStart => exact ⟨0, _, by omega, rfl, rfl, by show 0 ≤ _; omega, Nat.le_refl _, Below.refl _ _, rfl⟩
  case round =>
    obtain ⟨i, x, hi, rfl, rfl, hxs, hww, HB, HE⟩ := hrel
    have hrow := HRow.out wr HB.out
    have hqr : q < wr.heap.size := by omega
    by_cases hil : i < l.length + 1
    · by_cases hi0 : i = 0
      · subst hi0
        have k0 := row_cell hrow 0 (.string hs) rfl
        have k1 := row_cell hrow 1 (.slice none 0 0) rfl
        have hx0 : Hid (x.data.toList = []) := HE.out
        have hxz : x.size = 0 := by rw [size_len, hx0.out]; rfl
        clear hrow HRow
        go_wp2_with fail
        refine (show Calls _ _ _ _ _ from HCH.out _).mono ?_
        rintro e w2 ⟨x2, rfl, hx2, hb2⟩
        have HX2 : Hid _ := hx2
        have hx2l : x2.size ≤ 1000 := by rw [size_len, hx2]; have := HSZ.out; omega
        have HB2 : Hid (Below w.heap.size w w2) := HB.out.trans (hb2.mono hww)
        have hw2 := HB2.out.size
        clear hx2 hb2 k0 k1
        go_wp2_with fail
        go_roundw
        case rel =>
          refine ⟨1, x ++ x2, by omega, rfl, by go_num, by rw [ByteArray.size_append]; omega, hw2, HB2.out, ?_⟩
          show _ = _
          rw [data_app, hx0.out, HX2.out]
          simp [lzA]
        case measure => simp [intOf]
      · obtain ⟨j, rfl⟩ : ∃ j, i = j + 1 := ⟨i - 1, by omega⟩
        have hj : j < l.length := by omega
        have hget : l[j]? = some l[j] := List.getElem?_eq_getElem hj
        obtain ⟨a, b, ga, gb, hxe⟩ := (HXL.out wr HB.out).at hget
        have ka := row_cell hrow ((j + 1) * 2) a (by rw [show (j + 1) * 2 = j * 2 + 1 + 1 by omega]; simpa using ga)
        have kb := row_cell hrow ((j + 1) * 2 + 1) b (by rw [show (j + 1) * 2 + 1 = (j * 2 + 1) + 1 + 1 by omega]; simpa using gb)
        have hxl : Hid (x.data.toList = nzT (styF st) N h ++ (lzA (styF st) (pickF st 3) N d (l.take j)).flatten) := by have := HE.out; show _ = _; simpa using this
        have HLE : Hid (x.size + (gapP (pickF st 3)).flatten.length + (lzE (styF st) (pickF st 3) N d l[j]).flatten.length ≤ 1000) := by
          have h5 := lzA_le st N d l j _ hget
          have h6 := HSZ.out
          show _ ≤ _
          rw [size_len, hxl.out, List.length_append]
          omega
        have HNX : Hid (nzT (styF st) N h ++ (lzA (styF st) (pickF st 3) N d (l.take (j + 1))).flatten = nzT (styF st) N h ++ (lzA (styF st) (pickF st 3) N d (l.take j)).flatten ++ ((gapP (pickF st 3)).flatten ++ (lzE (styF st) (pickF st 3) N d l[j]).flatten)) := by
          show _ = _
          rw [lzA_take st N d l j _ hget, List.append_assoc]
        have hdp : decide ((0 : Int) < (j : Int) + 1) = true := decide_eq_true (by omega)
        have hj0 : ((j : Int) + 1 == 0) = false := by simp; omega
        have hj1 : ¬ ((j : Int) + 1 = 0) := by omega
        have hgl : (gapP (pickF st 3)).flatten.length ≤ 3 := (gap_sym _).2.2.2
        rcases xz_cases (st := st) hxe (hel _ (List.getElem_mem hj)) (hok _ (List.getElem_mem hj)) with ⟨s2, y, rfl, hs2e, hwy, rfl, hly⟩ | ⟨d', p', hd', rfl, hxa, hsp, hp1, hp2, hp3, hp4⟩
        · have hs20 : 0 < s2.size := by
            obtain ⟨a, r, e, _⟩ := wd_first hN hp hf hwy
            rw [size_len, hs2e, e]; simp
          have hwl : s2.size ≤ (lzW st false s2.data.toList).length := by
            rw [size_len]
            unfold lzW lzN
            repeat' split
            all_goals (simp; try omega)
          have hlw : lzW st false s2.data.toList = (agT (styF st) N y).flatten := by rw [hs2e, lzW_word hN hp hf hwy st false, if_neg (by simp)]
          have hs2l : s2.size ≤ 1000 := by have := HLE.out; rw [hly, ← hlw] at this; omega
          have HCW : Hid (∀ w', Calls Tryd.prog 34 #[.string s2, .int .i64 st, .bool false] w' fun e w'' => ∃ x : ByteArray, e = .returned (.string x) ∧ x.data.toList = (lzE (styF st) (pickF st 3) N d l[j]).flatten ∧ Below w'.heap.size w' w'') := fun w' => by
            refine (kLoosely s2 st false w' hs1 hs2 hs20 hs2l).mono ?_
            rintro e w'' ⟨x, rfl, hx, hb⟩
            exact ⟨x, rfl, by rw [hx, hlw, hly], hb⟩
          clear hrow HRow hxe hs2e ga gb hwl hlw hly hwy HXL HE
          generalize (lzE (styF st) (pickF st 3) N d l[j]).flatten = tx at *
          go_wp2_with fail
          refine (show Calls _ _ _ _ _ from HCG.out _).mono ?_
          rintro e w1 ⟨xg, rfl, hxg, rfl⟩
          have HXG : Hid _ := hxg
          have hxgl : xg.size = (gapP (pickF st 3)).flatten.length := by rw [size_len, hxg]
          have hle1 : x.size + xg.size + tx.length ≤ 1000 := by have := HLE.out; omega
          clear hxg hxgl
          go_wp2_with fail
          refine (show Calls _ _ _ _ _ from HCW.out _).mono ?_
          rintro e w2 ⟨x2, rfl, hx2, hb2⟩
          have HX2 : Hid _ := hx2
          have hx2l : x.size + xg.size + x2.size ≤ 1000 := by rw [size_len x2, hx2]; exact hle1
          have HB2 : Hid (Below w.heap.size w w2) := HB.out.trans (hb2.mono hww)
          have hw2 := HB2.out.size
          clear hx2 hb2 ka kb
          go_wp2_with fail
          go_roundw
          case rel =>
            refine ⟨j + 1 + 1, _, by omega, rfl, by go_num, ?_, hw2, HB2.out, ?_⟩
            · simp only [ByteArray.size_append]
              omega
            · show _ = _
              rw [if_neg (by omega), show j + 1 + 1 - 1 = j + 1 by omega, HNX.out, data_app, data_app, hxl.out, HX2.out, HXG.out]
              simp
          case measure => simp [intOf]; omega
        · have hvr := hxa
          obtain ⟨_, _, _, hvr, _, _⟩ := hvr
          obtain ⟨vo, vc, rfl⟩ := own_form hvr
          have HSP : Hid ((lzE (styF st) (pickF st 3) N d l[j]).flatten = 40 :: ((gapP (pickF st 3)).flatten ++ (lzT st N d' p' ++ ((gapP (pickF st 3)).flatten ++ [41])))) := hsp
          have hpl : (lzT st N d' p').length + x.size + 3 * (gapP (pickF st 3)).flatten.length + 2 ≤ 1000 := by
            have := HLE.out
            rw [hsp] at this
            simp only [List.length_append, List.length_cons, List.length_nil] at this
            omega
          have HCB : Hid (∀ w', Below wr.heap.size wr w' → Calls Tryd.prog 22 #[.slice vo (p'.2.length + 1) vc, .int .i64 st] w' fun e w'' => ∃ x : ByteArray, e = .returned (.string x) ∧ x.data.toList = lzT st N d' p' ∧ Below w'.heap.size w' w'') := fun w' hb => hrec d' hd' p' _ w' (XA.keep (fun k hk hlt => ⟨hk, hb.block k hlt⟩) hxa) hp1 hp2 hp3 hp4 (by omega)
          generalize hpn : p'.2.length = pn at *
          generalize htx : lzT st N d' p' = tx at *
          have hp0 : ¬ (pn : Int) + 1 = 0 := by omega
          have hp0b : ((pn : Int) + 1 == 0) = false := by simpa using hp0
          clear hrow HRow hxe ga gb hsp hxa hvr hp1 hp2 hp3 hp4 hpn htx HXL HE
          go_wp2_with fail
          refine (show Calls _ _ _ _ _ from HCG.out _).mono ?_
          rintro e w1 ⟨xg, rfl, hxg, rfl⟩
          have HXG : Hid _ := hxg
          have hxgl : xg.size = (gapP (pickF st 3)).flatten.length := by rw [size_len, hxg]
          have hle1 : tx.length + x.size + 3 * xg.size + 2 ≤ 1000 := by omega
          have HXGL : Hid (xg.size = (gapP (pickF st 3)).flatten.length) := hxgl
          clear hxg hxgl
          go_wp2_with fail
          refine (show Calls _ _ _ _ _ from HCB.out _ (Below.refl _ _)).mono ?_
          rintro e w2 ⟨x2, rfl, hx2, hb2⟩
          clear HCB
          have hx2l : x2.size + x.size + 3 * xg.size + 2 ≤ 1000 := by rw [size_len x2, hx2]; exact hle1
          have HX2 : Hid (x2.data.toList = tx) := hx2
          have HB2 : Hid (Below w.heap.size w w2) := HB.out.trans (hb2.mono hww)
          have hs2 := HB2.out.size
          have ha1 : x.size + xg.size + 1 ≤ 1000 := by omega
          have HXX : Hid ((x ++ xg).data.toList = x.data.toList ++ xg.data.toList) := data_app x xg
          have hxx : (x ++ xg).size = x.size + xg.size := ByteArray.size_append
          generalize x ++ xg = xx at *
          have ha6 : xx.size + 1 ≤ 1000 := by omega
          have ha7 : xx.size + x2.size + 2 * xg.size + 2 ≤ 1000 := by omega
          clear hxx
          clear hx2 hb2 ka kb
          go_wp2_with fail
          refine (show Calls _ _ _ _ _ from HCG.out _).mono ?_
          rintro e w3 ⟨xh, rfl, hxh, rfl⟩
          have HXH : Hid _ := hxh
          have hxhl : xh.size = xg.size := by rw [size_len, hxh, HXGL.out]
          have ha2 : xx.size + 1 + xh.size ≤ 1000 := by omega
          have ha3 : xx.size + 1 + xh.size + x2.size ≤ 1000 := by omega
          have ha8 : xx.size + 1 + xh.size + x2.size + xg.size + 1 ≤ 1000 := by omega
          clear hxh hxhl
          go_wp2_with fail
          refine (show Calls _ _ _ _ _ from HCG.out _).mono ?_
          rintro e w4 ⟨xi, rfl, hxi, rfl⟩
          have HXI : Hid _ := hxi
          have hxil : xi.size = xg.size := by rw [size_len, hxi, HXGL.out]
          have ha4 : xx.size + 1 + xh.size + x2.size + xi.size ≤ 1000 := by omega
          have ha5 : xx.size + 1 + xh.size + x2.size + xi.size + 1 ≤ 1000 := by omega
          clear hxi hxil
          go_wp2_with fail
          go_roundw
          case rel =>
            refine ⟨j + 1 + 1, _, by omega, rfl, by go_num, ?_, hs2, HB2.out, ?_⟩
            · simp only [ByteArray.size_append]
              exact ha5
            · show _ = _
              rw [if_neg (by omega), show j + 1 + 1 - 1 = j + 1 by omega, HNX.out, HSP.out]
              simp only [data_app]
              rw [HXX.out, hxl.out, HX2.out, HXG.out, HXH.out, HXI.out]
              simp
          case measure => simp [intOf]; omega
    · have hie : i = l.length + 1 := by omega
      have hd0 : decide ((i : Int) < ((l.length : Int) + 1)) = false := decide_eq_false (by omega)
      have hd1 : ¬ (i : Int) < (l.length : Int) + 1 := by omega
      have HF : Hid (x.data.toList = lzT st N d (h, l)) := by
        have := HE.out
        rw [if_neg (by omega), hie, Nat.add_sub_cancel, List.take_length] at this
        show _ = _
        rw [HFE.out]
        exact this
      clear hie
      go_wp2_with fail
      go_ret
      exact ⟨_, rfl, HF.out, HB.out⟩

theorem kWide (st : Int) (hs1 : -9223372036854775808 ≤ st) (hs2 : st ≤ 9223372036854775807) (N : Nms) (np nf : Nat) (hN : NmN N) (hp : np = N.pn.length) (hf : nf = N.fn.length) (S : Nat → Prop) : ∀ d, WideC st N np nf S d
  | 0 => kWide_step st hs1 hs2 N np nf hN hp hf S 0 (fun d' e => by omega)
  | d + 1 => kWide_step st hs1 hs2 N np nf hN hp hf S (d + 1) (fun d' e => by
      have : d' = d := by omega
      subst this
      exact kWide st hs1 hs2 N np nf hN hp hf S d')

end Go.Proofs.YtnndoagpbcacdaaDoor
