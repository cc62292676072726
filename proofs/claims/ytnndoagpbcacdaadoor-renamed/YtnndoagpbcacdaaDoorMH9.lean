import Derived.Test.YtnndoagpbcacdaaDoorMG15
import Derived.Test.YtnndoagpbcacdaaDoorMH7
import Derived.Test.YtnndoagpbcacdaaDoorG9
namespace Go.Proofs.YtnndoagpbcacdaaDoor
open Go.RowKit

/-! Parts by hand: a word, an application. -/
def wE : (d : Nat) → Wd → Ex d
  | 0, x => x
  | _ + 1, x => .inl x
def aE {d : Nat} (h : Wd) (l : List (Ex d)) : Ex (d + 1) := .inr (h, l)
section
variable {d k np nf : Nat} {x h : Wd} {l : List (Ex d)} {N : Nms}
theorem unE_w : unE d (wE d x) = 0 := by cases d <;> rfl
theorem unE_a : unE (d + 1) (aE h l) = 1 + unA d l := rfl
theorem ok_w : exOk np nf d (wE d x) = wOk np nf x := by cases d <;> rfl
theorem ok_a : exOk np nf (d + 1) (aE h l) = (wOk np nf h ∧ 1 ≤ l.length ∧ l.length ≤ 7 ∧ ∀ e ∈ l, exOk np nf d e) := rfl
theorem pc_w : pcE N d (wE d x) = [[32], wdT N x] := by cases d <;> rfl
theorem pc_a : pcE N (d + 1) (aE h l) = [32] :: [40] :: wdT N h :: (pcA N d l ++ [[41]]) := rfl
theorem part_w : partE d (wE d x) k = x := by cases d <;> rfl
theorem part_a : partE (d + 1) (aE h l) k = (5, (k : Int)) := rfl
theorem lines_w : linesE d (wE d x) k = [] := by cases d <;> rfl
theorem lines_a : linesE (d + 1) (aE h l) k = (h :: ownA d l (k + 1)) :: restA d l (k + 1) := rfl
theorem unA_n : unA d [] = 0 := rfl
theorem unA_c (e : Ex d) : unA d (e :: l) = unE d e + unA d l := by simp [unA]
theorem pcA_n : pcA N d [] = [] := rfl
theorem pcA_c (e : Ex d) : pcA N d (e :: l) = pcE N d e ++ pcA N d l := by simp [pcA]
theorem ownA_n : ownA d [] k = [] := rfl
theorem ownA_c (e : Ex d) : ownA d (e :: l) k = partE d e k :: ownA d l (k + unE d e) := rfl
theorem restA_n : restA d [] k = [] := rfl
theorem restA_c (e : Ex d) : restA d (e :: l) k = linesE d e k ++ restA d l (k + unE d e) := rfl
end

end Go.Proofs.YtnndoagpbcacdaaDoor
namespace Go.Proofs.YtnndoagpbcacdaaDoor
open Go.RowKit

/-! Package redexkeep: grow.go: others. -/
structure RnOk (N N' : Nms) (ps : List ByteArray) (np nf : Nat) : Prop where
  rn : ∀ (x : Wd) (s : ByteArray), wOk np nf x → s.data.toList = wdT N x → 0 < s.size ∧ s.size ≤ 1000 ∧ rnF ps s = wdT N' x
def OthC (N N' : Nms) (ps : List ByteArray) (np nf : Nat) (S : Nat → Prop) (d : Nat) : Prop := ∀ (p : Ap d) (v pv : Value) (w : World), XA N w S d p v → p.2.length ≤ 1000 → (∀ e ∈ p.2, exLn d e) → wOk np nf p.1 → (∀ e ∈ p.2, exOk np nf d e) → w.ownsRow 0 9 1 pv ps.length (sgs ps) →
  Calls Tryd.prog 27 #[v, pv] w fun e w' => ∃ v', e = .returned v' ∧ Below w.heap.size w w' ∧ XA N' w' (fun q => w.heap.size ≤ q ∧ q < w'.heap.size) d p v'
theorem xe_w {N : Nms} {w : World} {S : Nat → Prop} {x : Wd} {a b : Value} : ∀ {d : Nat}, XW N x a b → XE N w S d (wE d x) a b
  | 0, h => h
  | _ + 1, h => h
theorem exLn_w {x : Wd} : ∀ {d : Nat}, exLn d (wE d x)
  | 0 => trivial
  | _ + 1 => trivial
/-- An element: a word, or an application. -/
theorem xo_cases {N : Nms} {np nf : Nat} {w : World} {S : Nat → Prop} {d : Nat} {e : Ex d} {a b : Value} (h : XE N w S d e a b) (hl : exLn d e) (ho : exOk np nf d e) :
    (∃ (s : ByteArray) (x : Wd), a = .string s ∧ s.data.toList = wdT N x ∧ wOk np nf x ∧ b = .slice none 0 0 ∧ e = wE d x) ∨ (∃ d', ∃ (_hd : d = d' + 1) (p : Ap d'), a = .string ByteArray.empty ∧ XA N w S d' p b ∧ p.2.length ≤ 1000 ∧ (∀ e ∈ p.2, exLn d' e) ∧ wOk np nf p.1 ∧ (∀ e ∈ p.2, exOk np nf d' e) ∧ ∀ (N' : Nms) (w' : World) (S' : Nat → Prop) (v' : Value), XA N' w' S' d' p v' → XE N' w' S' d e (.string ByteArray.empty) v') := by
  cases d with
  | zero => obtain ⟨s, h1, h2, h3⟩ := h; exact .inl ⟨s, e, h1, h2, ho, h3, rfl⟩
  | succ d =>
    cases e with
    | inl x => obtain ⟨s, h1, h2, h3⟩ := h; exact .inl ⟨s, x, h1, h2, ho, h3, rfl⟩
    | inr p =>
      obtain ⟨y, l⟩ := p
      exact .inr ⟨d, rfl, (y, l), h.1, h.2, hl.1, hl.2, ho.1, ho.2.2.2, fun N' w' S' v' hx => ⟨rfl, hx⟩⟩

set_option maxRecDepth 100000 in
set_option maxHeartbeats 8000000 in
theorem kOthers_step (N N' : Nms) (ps : List ByteArray) (np nf : Nat) (hrn : RnOk N N' ps np nf) (hpl : ps.length ≤ 1000) (S : Nat → Prop) (d : Nat) (hrec : ∀ d', d = d' + 1 → OthC N N' ps np nf S d') : OthC N N' ps np nf S d := by
  intro p v pv w hx hl hel hwo hok hpr
  obtain ⟨h, l⟩ := p
  obtain ⟨hs, xs, h1, h2, h3, h4⟩ := hx
  simp only at h1 h2 h4 hl hel hwo hok
  obtain ⟨ii, hi, hz0, hz1, hz2⟩ := info_parts Tryd.infoEx
  obtain ⟨q, cap, rfl, _, hq⟩ := h2.form (by omega)
  obtain ⟨po, pc, rfl⟩ := own_form hpr
  -- all elements, the head first
  obtain ⟨L, hL⟩ : ∃ L : List (Ex d), L = wE d h :: l := ⟨_, rfl⟩
  have hLl : L.length = l.length + 1 := by rw [hL]; rfl
  have hel' : ∀ e ∈ L, exLn d e := fun e he => by
    rw [hL] at he
    rcases List.mem_cons.1 he with rfl | he
    · exact exLn_w
    · exact hel e he
  have hok' : ∀ e ∈ L, exOk np nf d e := fun e he => by
    rw [hL] at he
    rcases List.mem_cons.1 he with rfl | he
    · rw [ok_w]; exact hwo
    · exact hok e he
  have HRow : Hid (∀ w', Below w.heap.size w w' → w'.ownsRow 0 71 2 (.slice (some ⟨q, 0, none⟩) (l.length + 1) cap) (l.length + 1) (.string hs :: .slice none 0 0 :: xs)) := fun w' hb => ownsRow_old h2 hb
  have HPR : Hid (∀ w', Below w.heap.size w w' → w'.ownsRow 0 9 1 (.slice po ps.length pc) ps.length (sgs ps)) := fun w' hb => ownsRow_old hpr hb
  have HXL : Hid (∀ w', Below w.heap.size w w' → XLs (XE N w' S d) L (.string hs :: .slice none 0 0 :: xs)) := fun w' hb => by
    rw [hL]
    exact ⟨_, _, _, rfl, xe_w ⟨hs, rfl, h1, rfl⟩, h4.map (XE.keep (fun k hk hlt => ⟨hk, hb.block k hlt⟩) d)⟩
  have HEND : Hid (∀ (w' : World) (v' : Value) (ys : List Value), Below w.heap.size w w' → w'.ownsRow w.heap.size 71 2 v' L.length ys → XLs (XE N' w' (SX w.heap.size w' v') d) L ys → XA N' w' (fun q => w.heap.size ≤ q ∧ q < w'.heap.size) d (h, l) v') := fun w' v' ys hb hr hxl => by
    rw [hL] at hxl
    obtain ⟨a, b, r, rfl, hw, ht⟩ := hxl
    have hw' : XW N' h a b := by
      cases d with
      | zero => exact hw
      | succ d => exact hw
    obtain ⟨s, rfl, hs1, rfl⟩ := hw'
    rw [hLl] at hr
    exact ⟨s, r, hs1, ownsRow_base hr (Nat.zero_le _), fun q hq => hr.lt q hq, ht.map (XE.keep (fun q hq _ => ⟨⟨hq.1, hq.2.1⟩, rfl⟩) d)⟩
  have hL1 : L.length ≤ 1001 := by omega
  have hLI : ((L.length : Nat) : Int) = (l.length : Int) + 1 := by omega
  clear h1 h2 h3 h4 hL hpr hel hok
  go_enter Tryd.func27, Tryd.ntmps27
  go_wp2_with fail
  go_loopw [5, 6] (fun y z wr => ∃ (i : Nat) (ao : Option Addr) (ac : Nat) (ys : List Value), i ≤ L.length ∧ y = .slice ao i ac ∧ z = .int .i64 i ∧ w.heap.size ≤ wr.heap.size ∧ Hid (Below w.heap.size w wr) ∧ Hid (wr.ownsRow w.heap.size 71 2 (.slice ao i ac) i ys) ∧ Hid (XLs (XE N' wr (SX w.heap.size wr (.slice ao i ac)) d) (L.take i) ys)) (fun _ z _ => L.length - (intOf z).toNat)
  case atStart => exact ⟨0, none, 0, [], Nat.zero_le _, rfl, rfl, Nat.le_refl _, Below.refl _ _, ⟨rfl, .inl ⟨rfl, rfl⟩⟩, by simp [Hid, XLs]⟩
  case round =>
    obtain ⟨i, ao, ac, ys, hiL, rfl, rfl, hww, HB, HR, HX⟩ := hrel
    have hqr : q < wr.heap.size := by omega
    by_cases hil : i < L.length
    · have hget : L[i]? = some L[i] := List.getElem?_eq_getElem hil
      have hrow := HRow.out wr HB.out
      obtain ⟨a, b, ga, gb, hxe⟩ := (HXL.out wr HB.out).at hget
      have ka := row_cell hrow (i * 2) a ga
      have kb := row_cell hrow (i * 2 + 1) b gb
      have HTK : Hid (L.take (i + 1) = L.take i ++ [L[i]]) := List.take_succ_eq_append_getElem hil
      have hdi : decide ((i : Int) < (l.length : Int) + 1) = true := decide_eq_true (by omega)
      rcases xo_cases hxe (hel' _ (List.getElem_mem hil)) (hok' _ (List.getElem_mem hil)) with ⟨s2, x, rfl, hs2, hwx, rfl, hex⟩ | ⟨d', hd', p', rfl, hxa, hp1, hp2, hp3, hp4, hmk⟩
      · obtain ⟨r1, r2, r3⟩ := hrn.rn x s2 hwx hs2
        have HCR : Hid (Calls Tryd.prog 26 #[.string s2, .slice po ps.length pc] wr fun e w'' => ∃ x3 : ByteArray, e = .returned (.string x3) ∧ x3.data.toList = wdT N' x ∧ Below wr.heap.size wr w'') := by
          refine (kRenamed s2 ps _ wr hpl r1 r2 (HPR.out wr HB.out)).mono ?_
          rintro e w'' ⟨x3, rfl, hx3, hb3⟩
          exact ⟨x3, rfl, by rw [hx3, r3], hb3⟩
        have HEX : Hid (L[i] = wE d x) := hex
        generalize L[i] = ei at *
        clear hrow hxe hs2 ga gb r1 r2 r3 hex hget
        go_wp2_with fail
        refine (show Calls _ _ _ _ _ from HCR.out).mono ?_
        rintro e w4 ⟨x4, rfl, hx4, hb4⟩
        clear HCR
        have hs4 := hb4.size
        have HX4W : Hid (x4.data.toList = wdT N' x) := hx4
        have HB4 : Hid (Below w.heap.size w w4) := HB.out.trans (hb4.mono hww)
        have HR4 : Hid (w4.ownsRow w.heap.size 71 2 (.slice ao i ac) i ys) := ownsRow_old HR.out hb4
        have HX4 : Hid (XLs (XE N' w4 (SX w.heap.size w4 (.slice ao i ac)) d) (L.take i) ys) := xls_old hb4 HX.out
        clear hb4 hx4 HB HR HX ka kb
        go_wp2_with (at_builtin; go_must (refine wpList_append_lies _ rfl _ _ _ rfl w.heap.size 71 ii _ 2 40 Tryd.underlying50 hi hz0 hz1 hz2 rfl (by omega) (.slice ao i ac) i ys rfl ?hownW1 _ 1 _ [.string x4, .slice none 0 0] rfl rfl ?hnewsW1 ?h1W1 (by omega) ?h63W1 ?hbytesW1 ?hbaseW1 _ rfl ?_))
        case hownW1 => exact World.ownsRow.alloc HR4.out _
        try case hnewsW1 => exact World.news_of_block (heap_alloc_new w4 _)
        case h1W1 => simp [Value.oneCell']
        case h63W1 => unfold maxLen; omega
        case hbytesW1 => omega
        case hbaseW1 => first | omega | (simp; omega)
        intro g5 cap5 w5 hown5 hgrow5 hat5 hlt5
        have hal4 := bel_al w4 (Obj.cells #[.string x4, .slice none 0 0] 71)
        have HX5 : Hid (XLs (XE N' w5 (SX w.heap.size w5 (.slice (some ⟨g5, 0, none⟩) (i + 1) cap5)) d) (L.take i) ys) := xls_grown hal4 (HR4.out.alloc _) hgrow5 (by rw [World.size_alloc]; exact hat5) HX4.out
        have HO5 : Hid _ := hown5
        have HB5 : Hid (Below w.heap.size w w5) := (HB4.out.trans (hal4.mono (by omega))).grown hgrow5 (by simp; omega) (fun k hk => (HR4.out.lt k hk).1)
        have hs5 := HB5.out.size
        clear hown5 hgrow5 hat5 hal4
        go_wp2_with fail
        go_roundw
        case rel =>
          refine ⟨i + 1, some ⟨g5, 0, none⟩, cap5, _, hil, rfl, by go_num, hs5, HB5.out, HO5.out, ?_⟩
          show XLs _ _ _
          rw [HTK.out, HEX.out]
          exact HX5.out.snoc (xe_w ⟨x4, rfl, HX4W.out, rfl⟩)
        case measure => simp [intOf]; omega
      · have hvr := hxa
        obtain ⟨_, _, _, hvr, _, _⟩ := hvr
        obtain ⟨vo, vc, rfl⟩ := own_form hvr
        have HCO : Hid _ := hrec d' hd' p' _ _ wr hxa hp1 hp2 hp3 hp4 (HPR.out wr HB.out)
        have HMK : Hid _ := hmk
        generalize hpn : p'.2.length = pn at *
        have hp0 : ¬ (pn : Int) + 1 = 0 := by omega
        have hp0b : ((pn : Int) + 1 == 0) = false := by simpa using hp0
        generalize L[i] = ei at *
        clear hrow hxe ga gb hget hxa hvr hp1 hp2 hp3 hp4 hmk hpn
        go_wp2_with fail
        refine (show Calls _ _ _ _ _ from HCO.out).mono ?_
        rintro e w4 ⟨v4, rfl, hb4, hxa4⟩
        clear HCO
        have hv4 := hxa4
        obtain ⟨_, _, _, hv4, _, _⟩ := hv4
        obtain ⟨uo, uc, rfl⟩ := own_form hv4
        generalize p'.2.length + 1 = un at *
        have hs4 := hb4.size
        have HB4 : Hid (Below w.heap.size w w4) := HB.out.trans (hb4.mono hww)
        have HR4 : Hid (w4.ownsRow w.heap.size 71 2 (.slice ao i ac) i ys) := ownsRow_old HR.out hb4
        have HX4 : Hid (XLs (XE N' w4 (SX w.heap.size w4 (.slice ao i ac)) d) (L.take i) ys) := xls_old hb4 HX.out
        have HXB : Hid (XE N' w4 (SX w.heap.size w4 (.slice ao i ac)) d ei (.string ByteArray.empty) (.slice uo un uc)) := HMK.out _ _ _ _ (XA.keep (fun k hk _ => ⟨⟨by have := hk.1; omega, hk.2, fun e => by have := (HR.out.lt k e).2; have := hk.1; omega⟩, rfl⟩) hxa4)
        clear hb4 hv4 hxa4 HB HR HX ka kb HMK
        go_wp2_with (at_builtin; go_must (refine wpList_append_lies _ rfl _ _ _ rfl w.heap.size 71 ii _ 2 40 Tryd.underlying50 hi hz0 hz1 hz2 rfl (by omega) (.slice ao i ac) i ys rfl ?hownA _ 1 _ [.string ByteArray.empty, .slice uo un uc] rfl rfl ?hnewsA ?h1A (by omega) ?h63A ?hbytesA ?hbaseA _ rfl ?_))
        case hownA => exact World.ownsRow.alloc HR4.out _
        try case hnewsA => exact World.news_of_block (heap_alloc_new w4 _)
        case h1A => simp [Value.oneCell']
        case h63A => unfold maxLen; omega
        case hbytesA => omega
        case hbaseA => first | omega | (simp; omega)
        intro g5 cap5 w5 hown5 hgrow5 hat5 hlt5
        have hal4 := bel_al w4 (Obj.cells #[.string ByteArray.empty, .slice uo un uc] 71)
        have HX5 : Hid (XLs (XE N' w5 (SX w.heap.size w5 (.slice (some ⟨g5, 0, none⟩) (i + 1) cap5)) d) (L.take i) ys) := xls_grown hal4 (HR4.out.alloc _) hgrow5 (by rw [World.size_alloc]; exact hat5) HX4.out
        have HXC : Hid (XE N' w5 (SX w.heap.size w5 (.slice (some ⟨g5, 0, none⟩) (i + 1) cap5)) d ei (.string ByteArray.empty) (.slice uo un uc)) := by
          have h0 : XLs (XE N' w4 (SX w.heap.size w4 (.slice ao i ac)) d) [ei] [.string ByteArray.empty, .slice uo un uc] := ⟨_, _, [], rfl, HXB.out, rfl⟩
          obtain ⟨a, b, r, e, h1, _⟩ := xls_grown (q := g5) (cap := cap5) (m := i + 1) hal4 (HR4.out.alloc _) hgrow5 (by rw [World.size_alloc]; exact hat5) h0
          simp only [List.cons.injEq] at e
          obtain ⟨rfl, rfl, _⟩ := e
          exact h1
        have HO5 : Hid _ := hown5
        have HB5 : Hid (Below w.heap.size w w5) := (HB4.out.trans (hal4.mono (by omega))).grown hgrow5 (by simp; omega) (fun k hk => (HR4.out.lt k hk).1)
        have hs5 := HB5.out.size
        clear hown5 hgrow5 hat5 hal4
        go_wp2_with fail
        go_roundw
        case rel =>
          refine ⟨i + 1, some ⟨g5, 0, none⟩, cap5, _, hil, rfl, by go_num, hs5, HB5.out, HO5.out, ?_⟩
          show XLs _ _ _
          rw [HTK.out]
          exact HX5.out.snoc HXC.out
        case measure => simp [intOf]; omega
    · have hie : i = L.length := by omega
      have hd0 : decide ((i : Int) < ((l.length : Int) + 1)) = false := decide_eq_false (by omega)
      have hd1 : ¬ (i : Int) < (l.length : Int) + 1 := by omega
      have HF : Hid (XA N' wr (fun q => w.heap.size ≤ q ∧ q < wr.heap.size) d (h, l) (.slice ao i ac)) := by
        have h1 := HR.out
        have h2 := HX.out
        rw [hie, List.take_length] at h2
        rw [hie] at h1 ⊢
        exact HEND.out wr _ ys HB.out h1 h2
      clear hie
      go_wp2_with fail
      go_ret
      exact ⟨_, rfl, HB.out, HF.out⟩

theorem kOthers (N N' : Nms) (ps : List ByteArray) (np nf : Nat) (hrn : RnOk N N' ps np nf) (hpl : ps.length ≤ 1000) (S : Nat → Prop) : ∀ d, OthC N N' ps np nf S d
  | 0 => kOthers_step N N' ps np nf hrn hpl S 0 (fun d' e => by omega)
  | d + 1 => kOthers_step N N' ps np nf hrn hpl S (d + 1) (fun d' e => by
      have : d' = d := by omega
      subst this
      exact kOthers N N' ps np nf hrn hpl S d')

end Go.Proofs.YtnndoagpbcacdaaDoor
namespace Go.Proofs.YtnndoagpbcacdaaDoor
open Go.RowKit

/-! Other names: what renamed makes of a grown program's words. -/
def qB : List ByteArray := [⟨#[113, 48]⟩, ⟨#[113, 49]⟩, ⟨#[113, 50]⟩]
def rnB (s : ByteArray) : ByteArray := ⟨(rnF [] s).toArray⟩
theorem rnB_data (s : ByteArray) : (rnB s).data.toList = rnF [] s := by simp [rnB]
theorem rn_nil (s : ByteArray) : rnF [] s = if s.data.toList.headD 0 = 102 then 103 :: s.data.toList.tail else s.data.toList := rn_none rfl
theorem has_no {s : ByteArray} {np : Nat} (h : s.data.toList.headD 0 ≠ 120 ∧ s.data.toList.headD 0 ≠ 121 ∧ s.data.toList.headD 0 ≠ 122) : hasB (letB.take np) s = false := by
  unfold hasB
  rw [List.any_eq_false]
  intro t ht e
  have ht' := List.mem_of_mem_take ht
  rw [ByteArray.toList_eq, ByteArray.toList_eq] at e
  have e' := beq_iff_eq.1 e
  rw [← e'] at h
  simp only [letB, List.mem_cons, List.not_mem_nil, or_false] at ht'
  rcases ht' with rfl | rfl | rfl
  · exact h.1 rfl
  · exact h.2.1 rfl
  · exact h.2.2 rfl
theorem rn_plain {s : ByteArray} {np : Nat} (h : s.data.toList.headD 0 ≠ 120 ∧ s.data.toList.headD 0 ≠ 121 ∧ s.data.toList.headD 0 ≠ 122) : rnF (letB.take np) s = rnF [] s := by
  rw [rn_none (has_no h), rn_nil]
theorem rn_let (np i : Nat) (hn : np ≤ 3) (h : i < np) (s : ByteArray) (hs : s.data.toList = (letL[i]?).getD []) : rnF (letB.take np) s = ((qB[i]?).getD ByteArray.empty).data.toList := by
  have hi : i = 0 ∨ i = 1 ∨ i = 2 := by omega
  have hnp : np = 1 ∨ np = 2 ∨ np = 3 := by omega
  have d0 : decL 0 = [48] := by rw [decL_lt _ (by omega)]; rfl
  have d1 : decL 1 = [49] := by rw [decL_lt _ (by omega)]; rfl
  have d2 : decL 2 = [50] := by rw [decL_lt _ (by omega)]; rfl
  have key : ∀ (k : Nat) (hk : k < (letB.take np).length), s = (letB.take np)[k] → hasB ((letB.take np).take k) s = false → rnF (letB.take np) s = 113 :: decL k := fun k hk e h0 => rn_hit k hk h0 (by rw [← e]; exact beq_self_eq_true _)
  rcases hi with rfl | rfl | rfl
  · have e : s = ⟨#[120]⟩ := ba_ext hs
    subst e
    rcases hnp with rfl | rfl | rfl <;> (rw [key 0 (by decide) rfl (by decide), d0]; rfl)
  · have e : s = ⟨#[121]⟩ := ba_ext hs
    subst e
    rcases hnp with rfl | rfl | rfl
    · omega
    · rw [key 1 (by decide) rfl (by decide +kernel), d1]; rfl
    · rw [key 1 (by decide) rfl (by decide +kernel), d1]; rfl
  · have e : s = ⟨#[122]⟩ := ba_ext hs
    subst e
    rcases hnp with rfl | rfl | rfl
    · omega
    · omega
    · rw [key 2 (by decide) rfl (by decide +kernel), d2]; rfl
theorem name_head {main : ByteArray} (hm : main.data.toList = mainT) {ns : List ByteArray} (h : NmsB main ns) {j : Nat} {x : ByteArray} (hx : ns[j]? = some x) (hj : j < 4) : (x.data.toList.headD 0 = 109 ∨ x.data.toList.headD 0 = 102) ∧ 0 < x.size ∧ x.size ≤ 1000 := by
  have := h j x hx
  cases j with
  | zero =>
    have e : x = main := this
    subst e
    refine ⟨.inl (by rw [hm]; rfl), ?_, ?_⟩ <;> (rw [size_len, hm]; decide)
  | succ j =>
    have e : x.data.toList = fNm (j + 1) := this
    refine ⟨.inr (by rw [e]; rfl), ?_, ?_⟩
    · rw [size_len, e]; simp [fNm]
    · rw [size_len, e]; unfold fNm; rw [decL_lt _ (by omega)]; simp
theorem rn_ok {main : ByteArray} (hm : main.data.toList = mainT) {ns : List ByteArray} (h : NmsB main ns) (h4 : ns.length ≤ 4) (np : Nat) (hn : np ≤ 3) : RnOk (nmsB ns (letB.take np)) (nmsB (ns.map rnB) (qB.take np)) (letB.take np) np ns.length := by
  have hlt : ∀ i, i < np → ((letB.take np).map (fun s => s.data.toList))[i]?.getD [] = (letL[i]?).getD [] := fun i hi => by
    rw [letB_take, List.getElem?_take, if_pos hi]
  refine ⟨fun x s hx hs => ?_⟩
  unfold wdT at hs ⊢
  rcases hx with ⟨h1, h2, h3⟩ | ⟨h1, h2, h3⟩ | ⟨h1, h2, h3⟩ | ⟨h1, h2, h3⟩
  · rw [if_pos h1] at hs ⊢
    have hd := dc_dig x.2.toNat
    cases hq : decL x.2.toNat with
    | nil => exact absurd hq (dc_ne _)
    | cons a r =>
      have ha := hd a (by rw [hq]; simp)
      have h6 := decL_six x.2.toNat (by omega)
      rw [hq] at hs h6
      have hh : s.data.toList.headD 0 = a := by rw [hs]; rfl
      have hne : ∀ b : UInt8, 57 < b.toNat → a ≠ b := fun b hb e => by subst e; omega
      have g := rn_plain (np := np) (s := s) (by rw [hh]; exact ⟨hne _ (by decide), hne _ (by decide), hne _ (by decide)⟩)
      refine ⟨by rw [size_len, hs]; simp, by rw [size_len, hs]; omega, ?_⟩
      rw [g, rn_nil, hh, if_neg (hne _ (by decide)), hs]
  · rw [if_neg (by omega), if_pos h1] at hs ⊢
    have hi : x.2.toNat < np := by omega
    have hs' : s.data.toList = (letL[x.2.toNat]?).getD [] := by rw [hs]; exact hlt _ hi
    have hr := rn_let np x.2.toNat hn hi s hs'
    have h3' : x.2.toNat = 0 ∨ x.2.toNat = 1 ∨ x.2.toNat = 2 := by omega
    refine ⟨?_, ?_, ?_⟩
    · rw [size_len, hs']; rcases h3' with e | e | e <;> (rw [e]; decide)
    · rw [size_len, hs']; rcases h3' with e | e | e <;> (rw [e]; decide)
    · rw [hr]
      show _ = ((qB.take np).map (fun s => s.data.toList))[x.2.toNat]?.getD []
      rw [List.getElem?_map, List.getElem?_take, if_pos hi]
      rcases h3' with e | e | e <;> (rw [e]; rfl)
  · rw [if_neg (by omega), if_neg (by omega), if_pos h1] at hs ⊢
    have hj : x.2.toNat < ns.length := by omega
    have hs' : s = ns[x.2.toNat] := ba_ext (by
      rw [hs]
      show (ns.map (fun s => s.data.toList))[x.2.toNat]?.getD [] = _
      rw [List.getElem?_map, List.getElem?_eq_getElem hj]; rfl)
    have hnh := name_head hm h (List.getElem?_eq_getElem hj) (by omega)
    rw [← hs'] at hnh
    refine ⟨hnh.2.1, hnh.2.2, ?_⟩
    rw [rn_plain (by rcases hnh.1 with e | e <;> (rw [e]; decide))]
    show _ = ((ns.map rnB).map (fun s => s.data.toList))[x.2.toNat]?.getD []
    rw [List.map_map, List.getElem?_map, List.getElem?_eq_getElem hj]
    simp only [Option.map_some, Option.getD_some, Function.comp]
    rw [rnB_data, ← hs']
  · rw [if_neg (by omega), if_neg (by omega), if_neg (by omega)] at hs ⊢
    have : x.2.toNat = 0 ∨ x.2.toNat = 1 ∨ x.2.toNat = 2 ∨ x.2.toNat = 3 ∨ x.2.toNat = 4 := by omega
    rcases this with e | e | e | e | e <;> (
      rw [e] at hs ⊢
      refine ⟨by rw [size_len, hs]; decide, by rw [size_len, hs]; decide, ?_⟩
      rw [rn_plain (by rw [hs]; decide), rn_nil, hs]
      rfl)

end Go.Proofs.YtnndoagpbcacdaaDoor
