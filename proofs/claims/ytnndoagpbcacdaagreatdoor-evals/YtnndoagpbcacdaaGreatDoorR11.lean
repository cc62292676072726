import Derived.Test.YtnndoagpbcacdaaGreatDoorMR10
import Derived.Deep.DeepCutAuto
namespace Go.Proofs.YtnndoagpbcacdaaGreatDoor
open Go.RowKit

def At.app : At → At → At
  | .nil, b => b
  | .sim t r, b => .sim t (r.app b)
  | .par o h c ag r, b => .par o h c ag (r.app b)
def At.cnt : At → Nat
  | .nil => 0
  | .sim _ r => r.cnt + 1
  | .par _ _ _ _ r => r.cnt + 1
theorem At.app_toks (a b : At) : (a.app b).toks = a.toks ++ b.toks := by
  induction a with
  | nil => rfl
  | sim t r ih => simp [At.app, At.toks, ih]
  | par o h c ag r ih1 ih2 => simp [At.app, At.toks, ih2]
theorem At.app_cnt (a b : At) : (a.app b).cnt = a.cnt + b.cnt := by
  induction a with
  | nil => simp [At.app, At.cnt]
  | sim t r ih => simp [At.app, At.cnt, ih]; omega
  | par o h c ag r ih1 ih2 => simp [At.app, At.cnt, ih2]; omega
theorem At.app_assoc (a b c : At) : (a.app b).app c = a.app (b.app c) := by
  induction a with
  | nil => rfl
  | sim t r ih => simp [At.app, ih]
  | par o h x ag r ih1 ih2 => simp [At.app, ih2]
theorem At.app_nil (a : At) : a.app .nil = a := by
  induction a with
  | nil => rfl
  | sim t r ih => simp [At.app, ih]
  | par o h x ag r ih1 ih2 => simp [At.app, ih2]
theorem At.app_ok {a b : At} (h : (a.app b).ok) : a.ok ∧ b.ok := by
  induction a with
  | nil => exact ⟨trivial, h⟩
  | sim t r ih => exact ⟨⟨h.1, (ih h.2).1⟩, (ih h.2).2⟩
  | par o x c ag r ih1 ih2 => exact ⟨⟨h.1, h.2.1, h.2.2.1, h.2.2.2.1, (ih2 h.2.2.2.2).1⟩, (ih2 h.2.2.2.2).2⟩

theorem At.cnt_le (a : At) : a.cnt ≤ a.toks.length := by
  induction a with
  | nil => exact Nat.le_refl _
  | sim t r ih => simp [At.cnt, At.toks]; omega
  | par o h c ag r ih1 ih2 => simp [At.cnt, At.toks]; omega

theorem At.cnt_pos {a : At} (h : a ≠ .nil) : 1 ≤ a.cnt := by
  cases a with
  | nil => exact absurd rfl h
  | sim t r => simp [At.cnt]
  | par o x c ag r => simp [At.cnt]

def eC (k n : Int) (pv : Value) : List Value := [.int .i64 k, .int .i64 n, pv]
/-- Expressions in memory; S: where their rows may lie. -/
def ER (w : World) (S : Nat → Prop) (ps names : List Tk) : At → List Value → Prop
  | .nil, xs => xs = []
  | .sim t r, xs => ∃ r', xs = eC (knownF ps names t).1 (knownF ps names t).2 (.slice none 0 0) ++ r' ∧ ER w S ps names r r'
  | .par _ h _ ag r, xs =>
    (ag = .nil ∧ ∃ r', xs = eC (knownF ps names h).1 (knownF ps names h).2 (.slice none 0 0) ++ r' ∧ ER w S ps names r r') ∨
    (ag ≠ .nil ∧ ∃ pv ys r', xs = eC 5 0 pv ++ r' ∧ w.ownsRow 0 212 3 pv (ag.cnt + 1) (eC (knownF ps names h).1 (knownF ps names h).2 (.slice none 0 0) ++ ys) ∧ (∀ k, pv.ownBlock = some k → S k) ∧ ER w S ps names ag ys ∧ ER w S ps names r r')

theorem ER.keep {w w' : World} {S S' : Nat → Prop} {ps names : List Tk} (hb : ∀ k, S k → w'.heap[k]? = w.heap[k]?) (hS : ∀ k, S k → S' k) : ∀ {a : At} {xs : List Value}, ER w S ps names a xs → ER w' S' ps names a xs
  | .nil, _, h => h
  | .sim t r, _, ⟨r', h1, h2⟩ => ⟨r', h1, ER.keep hb hS h2⟩
  | .par o h c ag r, _, .inl ⟨h0, r', h1, h2⟩ => .inl ⟨h0, r', h1, ER.keep hb hS h2⟩
  | .par o h c ag r, _, .inr ⟨h0, pv, ys, r', h1, h2, h3, h4, h5⟩ => .inr ⟨h0, pv, ys, r', h1, by
      refine ⟨h2.1, ?_⟩
      rcases h2.2 with hn | ⟨g, cap, cur, rfl, hg, hh, q⟩
      · exact .inl hn
      · exact .inr ⟨g, cap, cur, rfl, hg, by rw [hb g (h3 g rfl)]; exact hh, q⟩, fun k hk => hS k (h3 k hk), ER.keep hb hS h4, ER.keep hb hS h5⟩
theorem ER.app {w : World} {S : Nat → Prop} {ps names : List Tk} {b : At} {ys : List Value} (hb : ER w S ps names b ys) : ∀ {a : At} {xs : List Value}, ER w S ps names a xs → ER w S ps names (a.app b) (xs ++ ys)
  | .nil, _, h => by rw [show _ = ([] : List Value) from h]; exact hb
  | .sim t r, _, ⟨r', h1, h2⟩ => ⟨r' ++ ys, by rw [h1, List.append_assoc], ER.app hb h2⟩
  | .par o h c ag r, _, .inl ⟨h0, r', h1, h2⟩ => .inl ⟨h0, r' ++ ys, by rw [h1, List.append_assoc], ER.app hb h2⟩
  | .par o h c ag r, _, .inr ⟨h0, pv, zs, r', h1, h2, h3, h4, h5⟩ => .inr ⟨h0, pv, zs, r' ++ ys, by rw [h1, List.append_assoc], h2, h3, h4, ER.app hb h5⟩
theorem ER.len {w : World} {S : Nat → Prop} {ps names : List Tk} : ∀ {a : At} {xs : List Value}, ER w S ps names a xs → xs.length = a.cnt * 3
  | .nil, _, h => by rw [show _ = ([] : List Value) from h]; rfl
  | .sim t r, _, ⟨r', h1, h2⟩ => by rw [h1, List.length_append, ER.len h2]; simp [eC, At.cnt]; omega
  | .par o h c ag r, _, .inl ⟨h0, r', h1, h2⟩ => by rw [h1, List.length_append, ER.len h2]; simp [eC, At.cnt]; omega
  | .par o h c ag r, _, .inr ⟨h0, pv, zs, r', h1, h2, h3, h4, h5⟩ => by rw [h1, List.length_append, ER.len h5]; simp [eC, At.cnt]; omega

theorem Tryz.infoExpr : (Tryz.prog.info? 212).map (fun i => (i.zero, i.size, i.bytes)) = some (some (.agg #[.int .i64 0, .int .i64 0, .slice none 0 0]), 3, 40) := by kernel_rfl

/-- What 'parts' reads. -/
structure PR (w : World) (q cap : Nat) (ts : List Tk) (s : ByteArray) (pv fv : Value) (ps names : List Tk) : Prop where
  trow : w.ownsRow 0 201 2 (.slice (some ⟨q, 0, none⟩) (ts.length + 1) cap) (ts.length + 1) (rcs (ts ++ [endTk s]))
  prow : w.ownsRow 0 201 2 pv ps.length (rcs ps)
  frow : w.ownsRow 0 201 2 fv names.length (rcs names)
theorem PR.old {w w' : World} {q cap : Nat} {ts : List Tk} {s : ByteArray} {pv fv : Value} {ps names : List Tk} (h : PR w q cap ts s pv fv ps names) (hb : Below w.heap.size w w') : PR w' q cap ts s pv fv ps names :=
  ⟨ownsRow_old h.trow hb, ownsRow_old h.prow hb, ownsRow_old h.frow hb⟩

theorem eC_one (k n : Int) (pv : Value) (h : pv.oneCell' = true) : ∀ u ∈ eC k n pv, u.oneCell' = true := by
  intro u hu
  simp only [eC, List.mem_cons, List.not_mem_nil, or_false] at hu
  rcases hu with rfl | rfl | rfl <;> first | rfl | exact h

/-- An append to the row of expressions: what was there stands. -/
theorem er_kept {wr wc w2 : World} {B : Nat} {ps names : List Tk} {done : At} {xs : List Value} {v : Value} {o : Obj} {g cap m H : Nat}
    (her : ER wr (fun k => B ≤ k ∧ k < wr.heap.size ∧ v.ownBlock ≠ some k) ps names done xs) (hbc : Below wr.heap.size wr wc) (hgrow : (wc.alloc o).grownBy w2 v.ownBlock) (hat : v.ownBlock = some g ∨ g = H) (hH : (wc.alloc o).heap.size = H) :
    ER w2 (fun k => B ≤ k ∧ k < w2.heap.size ∧ (Value.slice (some ⟨g, 0, none⟩) m cap).ownBlock ≠ some k) ps names done xs := by
  have hs1 := hbc.size
  have hs2 := hgrow.size
  simp at hs2
  refine ER.keep (fun k hk => ?_) (fun k hk => ?_) her
  · rw [hgrow.block k (by simp; omega) (fun e => hk.2.2 e.symm), Below.heap_alloc wc o k (by omega), hbc.block k hk.2.1]
  · refine ⟨hk.1, by omega, ?_⟩
    simp only [Value.ownBlock, ne_eq, Option.some.injEq]
    intro e
    subst e
    rcases hat with hat | hat
    · exact hk.2.2 hat
    · simp at hH; omega
theorem er_snoc {wr wc w2 : World} {B : Nat} {ps names : List Tk} {done : At} {xs : List Value} {v : Value} {o : Obj} {g cap m H : Nat} {t : Tk}
    (her : ER wr (fun k => B ≤ k ∧ k < wr.heap.size ∧ v.ownBlock ≠ some k) ps names done xs) (hbc : Below wr.heap.size wr wc) (hgrow : (wc.alloc o).grownBy w2 v.ownBlock) (hat : v.ownBlock = some g ∨ g = H) (hH : (wc.alloc o).heap.size = H) :
    ER w2 (fun k => B ≤ k ∧ k < w2.heap.size ∧ (Value.slice (some ⟨g, 0, none⟩) (m + 1) cap).ownBlock ≠ some k) ps names (done.app (.sim t .nil)) (xs ++ eC (knownF ps names t).1 (knownF ps names t).2 (.slice none 0 0)) :=
  ER.app (b := .sim t .nil) ⟨[], by simp, rfl⟩ (er_kept her hbc hgrow hat hH)

set_option maxRecDepth 100000 in
set_option maxHeartbeats 4000000 in
theorem rParts (s : ByteArray) (ts ps names : List Tk) (q cap : Nat) (po fo : Option Addr) (pcap fcap : Nat) (d : Tk) (fa ta : Int) (hl : ts.length ≤ 1000) (hlp : ps.length ≤ 1000000) (hln : names.length ≤ 1000000) (hwt : ∀ t ∈ ts, WT t.txt) (n : Nat) :
    ∀ (a : At) (i : Nat) (c : Tk) (r : List Tk) (w : World), a.toks.length ≤ n → a.ok → (∀ t ∈ a.toks, simp3 t → (knownF ps names t).1 = 1 → t.txt.size ≤ 6 ∧ digL t.txt.data.toList) → ts.drop i = a.toks ++ c :: r → (kindOf c.txt = 7 ∨ kindOf c.txt = 5) → PR w q cap ts s (.slice po ps.length pcap) (.slice fo names.length fcap) ps names →
    Calls Tryz.prog 132 #[.slice (some ⟨q, 0, none⟩) (ts.length + 1) cap, .int .i64 i, .agg #[.string d.txt, .int .i64 d.pos, .slice po ps.length pcap, .int .i64 fa, .int .i64 ta], .slice fo names.length fcap] w
      fun e w' => ∃ v xs, e = .returned (.tuple #[v, .int .i64 ((i + a.toks.length : Nat) : Int)]) ∧ Below w.heap.size w w' ∧ w'.ownsRow w.heap.size 212 3 v a.cnt xs ∧ ER w' (fun k => w.heap.size ≤ k ∧ k < w'.heap.size ∧ v.ownBlock ≠ some k) ps names a xs := by
  induction n with
  | zero =>
    intro a i c r w han hok hnum hdrop hc hpr
    have ha : a = .nil := by
      cases a with
      | nil => rfl
      | sim t r => simp [At.toks] at han
      | par o x c ag r => simp [At.toks] at han
    subst ha
    have hget : ts[i]? = some c := by
      have h1 := congrArg (fun l => l[0]?) hdrop
      simpa [At.toks] using h1
    obtain ⟨hlt, he⟩ := List.getElem?_eq_some_iff.1 hget
    have hw := hwt c (by rw [← he]; exact List.getElem_mem hlt)
    have ⟨z0, z1⟩ := rcs_get (ts ++ [endTk s]) i c (by rw [List.getElem?_append_left hlt]; exact hget)
    have x0 := row_cell hpr.trow _ _ z0
    have hqlt : q < w.heap.size := (hpr.trow.lt q rfl).2
    have hJ1 : (i : Int) < (ts.length : Int) + 1 := by omega
    clear z0 z1 hget he
    go_enter Tryz.func132, Tryz.ntmps132
    go_wp2_with fail
    go_loop [1, 10] (fun x v => x = .int .i64 i ∧ v = .slice none 0 0) (fun _ _ => 0)
    case atStart => exact ⟨rfl, rfl⟩
    case round =>
      obtain ⟨rfl, rfl⟩ := hrel
      rcases hc with hc7 | hc5
      · have n7 : (c.txt.toList == [41]) = true := by rw [txt_close hw, hc7]; rfl
        clear hc7
        go_wp2_with fail
        go_ret2
        exact ⟨_, rfl, (Below.refl _ _).alloc (Nat.le_refl _) _, [], World.ownsRow_nil _ _ _ _, rfl⟩
      · have n7 : (c.txt.toList == [41]) = false := by rw [txt_close hw, hc5]; rfl
        have n5 : (c.txt.toList == [59]) = true := by rw [txt_semi hw, hc5]; rfl
        clear hc5
        go_wp2_with fail
        go_ret2
        exact ⟨_, rfl, (Below.refl _ _).alloc (Nat.le_refl _) _, [], World.ownsRow_nil _ _ _ _, rfl⟩
  | succ n ih =>
    intro a i c r w han hok hnum hdrop hc hpr
    have HIH : Hid _ := ih
    have HNUM : Hid _ := hnum
    clear ih hnum
    go_enter Tryz.func132, Tryz.ntmps132
    go_wp2_with fail
    go_loopw [1, 10] (fun x v wr => ∃ (done rest : At) (J : Nat) (xs : List Value), Hid (done.app rest = a) ∧ Hid (J = i + done.toks.length) ∧ x = .int .i64 J ∧ Hid (ts.drop J = rest.toks ++ c :: r) ∧ Below w.heap.size w wr ∧ wr.heap[w.heap.size]? = some (.cells #[.string d.txt, .int .i64 d.pos, .slice po ps.length pcap, .int .i64 fa, .int .i64 ta] 208 (0, 0)) ∧ wr.ownsRow (w.heap.size + 1) 212 3 v done.cnt xs ∧ ER wr (fun k => w.heap.size ≤ k ∧ k < wr.heap.size ∧ v.ownBlock ≠ some k) ps names done xs) (fun x _ _ => 2000 - (intOf x).toNat)
    case atStart => exact ⟨.nil, a, i, [], rfl, rfl, rfl, hdrop, (Below.refl _ _).alloc (Nat.le_refl _) _, heap_alloc_new w _, World.ownsRow_nil _ _ _ _, rfl⟩
    case round =>
      obtain ⟨done, rest, J, xs, HA, HJ, rfl, HD, hb, hbox, hrow, her⟩ := hrel
      have hprr := hpr.old hb
      have hbsz := hb.size
      have hwlt : w.heap.size < wr.heap.size := (Array.getElem?_eq_some_iff.1 hbox).1
      have b0 := cell_of_row wr w.heap.size 0 _ _ _ hbox
      have b1 := cell_of_row wr w.heap.size 1 _ _ _ hbox
      have b2 := cell_of_row wr w.heap.size 2 _ _ _ hbox
      have b3 := cell_of_row wr w.heap.size 3 _ _ _ hbox
      have b4 := cell_of_row wr w.heap.size 4 _ _ _ hbox
      simp only [List.getElem?_toArray, List.getElem?_cons_succ, List.getElem?_cons_zero] at b0 b1 b2 b3 b4
      have hget : ∀ t, (rest.toks ++ c :: r)[0]? = some t → (ts ++ [endTk s])[J]? = some t ∧ J < ts.length ∧ t ∈ ts := by
        intro t ht
        rw [← HD.out, List.getElem?_drop, Nat.add_zero] at ht
        obtain ⟨hlt, he⟩ := List.getElem?_eq_some_iff.1 ht
        exact ⟨by rw [List.getElem?_append_left hlt]; exact ht, hlt, by rw [← he]; exact List.getElem_mem hlt⟩
      have hrok : rest.ok := (At.app_ok (a := done) (b := rest) (by rw [HA.out]; exact hok)).2
      have hJi : (0 : Int) ≤ (J : Int) := by omega
      have hqlt : q < wr.heap.size := (hprr.trow.lt q rfl).2
      cases rest with
      | nil =>
        obtain ⟨y0, y1, y2⟩ := hget c rfl
        have hw := hwt c y2
        have ⟨z0, z1⟩ := rcs_get _ _ _ y0
        have x0 := row_cell hprr.trow _ _ z0
        have hJ1 : (J : Int) < (ts.length : Int) + 1 := by omega
        have hda : done = a := by have := HA.out; rw [At.app_nil] at this; exact this
        have HE : Hid (J = i + a.toks.length) := by rw [← hda]; exact HJ
        have hrow2 : wr.ownsRow (w.heap.size + 1) 212 3 u10 a.cnt xs := by rw [← hda]; exact hrow
        have her2 : ER wr (fun k => w.heap.size ≤ k ∧ k < wr.heap.size ∧ u10.ownBlock ≠ some k) ps names a xs := by rw [← hda]; exact her
        clear z0 z1 y0 hget hda HA HJ hrow her
        rcases hc with hc7 | hc5
        · have n7 : (c.txt.toList == [41]) = true := by rw [txt_close hw, hc7]; rfl
          clear hc7
          go_wp2_with fail
          go_ret2
          exact ⟨_, xs, by rw [← HE.out]; rfl, hb, ownsRow_base hrow2 (Nat.le_succ _), her2⟩
        · have n7 : (c.txt.toList == [41]) = false := by rw [txt_close hw, hc5]; rfl
          have n5 : (c.txt.toList == [59]) = true := by rw [txt_semi hw, hc5]; rfl
          clear hc5
          go_wp2_with fail
          go_ret2
          exact ⟨_, xs, by rw [← HE.out]; rfl, hb, ownsRow_base hrow2 (Nat.le_succ _), her2⟩
      | sim t r2 =>
        obtain ⟨y0, y1, y2⟩ := hget t rfl
        have hw := hwt t y2
        have ⟨z0, z1⟩ := rcs_get _ _ _ y0
        have x0 := row_cell hprr.trow _ _ z0
        have x1 := row_cell hprr.trow _ _ z1
        have hks : simp3 t := hrok.1
        have n7 : (t.txt.toList == [41]) = false := by rw [txt_close hw]; unfold simp3 at hks; simp; omega
        have n5 : (t.txt.toList == [59]) = false := by rw [txt_semi hw]; unfold simp3 at hks; simp; omega
        have n6 : (t.txt.toList == [40]) = false := by rw [txt_open hw]; unfold simp3 at hks; simp; omega
        have hJ1 : (J : Int) < (ts.length : Int) + 1 := by omega
        have hnt := HNUM.out t (by rw [← HA.out, At.app_toks]; simp [At.toks]) hks
        have HNT : Hid _ := hnt
        clear z0 z1 y0 hget hnt
        go_wp2_with fail
        go_cut [11] (fun x wc => ∃ bx, x = .pointer (some ⟨bx, 0, none⟩) ∧ wc.heap[bx]? = some (.cells #[.int .i64 (knownF ps names t).1, .int .i64 (knownF ps names t).2, .slice none 0 0] 212 (0, 0)) ∧ Below wr.heap.size wr wc)
        case first =>
          go_region_with (go_at_call 173; go_must (refine (rKnown t d ps names _ _ fa ta _ hlp hln ?_ ?_ HNT.out).mono ?_); exact (by first | exact World.ownsRow.drew hprr.prow | exact World.ownsRow.drew (hprr.prow.alloc _)); exact (by first | exact World.ownsRow.drew hprr.frow | exact World.ownsRow.drew (hprr.frow.alloc _)); rintro e w1 ⟨rfl, hb1⟩; try (have hzz := box_later hb1; have v0 := cell_of_row w1 wr.heap.size 0 _ _ _ hzz; have v1 := cell_of_row w1 wr.heap.size 1 _ _ _ hzz; have v2 := cell_of_row w1 wr.heap.size 2 _ _ _ hzz; have vf := fun j => frozen_of_row w1 wr.heap.size j _ _ hzz; simp only [List.getElem?_toArray, List.getElem?_cons_succ, List.getElem?_cons_zero] at v0 v1 v2))
          all_goals
            go_wp2_with fail
            go_meet
            case rel => first | exact ⟨_, rfl, heap_alloc_new w1 _, (show Below wr.heap.size wr w1 from (Below.drew (Below.refl wr.heap.size wr)).trans (hb1.mono (Nat.le_refl _))).alloc hb1.size _⟩ | exact ⟨_, rfl, blk_set _ (blk_set _ (blk_set _ hzz)), ((((Below.drew ((Below.refl wr.heap.size wr).alloc (Nat.le_refl _) _)).trans (hb1.mono (by simp [heap_drew]))).setCell (Nat.le_refl _) _).setCell (Nat.le_refl _) _).setCell (Nat.le_refl _) _⟩
        case rest =>
          obtain ⟨bx, hx, hxc, hbc⟩ := hcut
          rw [hx]
          clear hx
          have g0 := cell_of_row wc bx 0 _ _ _ hxc
          have g1 := cell_of_row wc bx 1 _ _ _ hxc
          have g2 := cell_of_row wc bx 2 _ _ _ hxc
          simp only [List.getElem?_toArray, List.getElem?_cons_succ, List.getElem?_cons_zero] at g0 g1 g2
          obtain ⟨ie, hie, hz0, hz1, hz2⟩ := info_parts Tryz.infoExpr
          have hrow2 := ownsRow_old hrow hbc
          have hbs2 := hbc.size
          have hdl : done.cnt ≤ 1000 := by have h1 := At.cnt_le done; have := HJ.out; omega
          go_wp2_with (at_builtin; go_must (refine wpList_append_lies _ rfl _ _ _ rfl (w.heap.size + 1) 212 ie _ 3 40 Tryz.underlying147 hie hz0 hz1 hz2 rfl (by omega) u10 done.cnt xs rfl ?hown _ 1 _ (eC (knownF ps names t).1 (knownF ps names t).2 (.slice none 0 0)) rfl rfl ?hnews ?h1 (by omega) ?h63 ?hbytes ?hbase _ rfl ?_))
          case hown => exact hrow2.alloc _
          case hnews => first | exact fun _ _ h => h | exact World.news_of_block (heap_alloc_new wc _)
          case h1 => exact eC_one _ _ _ rfl
          case h63 => unfold maxLen; omega
          case hbytes => omega
          case hbase => first | omega | (simp; omega)
          intro g cap1 w2 hown2 hgrow hat hlt2
          have hnext := er_snoc (t := t) (m := done.cnt) (cap := cap1) her hbc hgrow hat (by simp)
          have hb2 : Below w.heap.size w w2 := (hb.trans ((hbc.mono hbsz).alloc (by omega) _)).grown hgrow (by simp; omega) (fun k hk => by have := (hrow2.lt k hk).1; omega)
          have hbox2 : w2.heap[w.heap.size]? = _ := (hgrow.block w.heap.size (by simp; omega) (fun e => by have := (hrow2.lt _ e.symm).1; omega)).trans ((Below.heap_alloc wc _ _ (by omega)).trans ((hbc.block _ hwlt).trans hbox))
          clear hie hz0 hz1 hz2 g0 g1 g2 b0 b1 b2 b3 b4 x0 x1
          go_wp2_with fail
          go_roundw
          case rel =>
            exact ⟨done.app (.sim t .nil), r2, J + 1, _, by show _ = _; rw [At.app_assoc]; exact HA.out, by have := HJ.out; show _ = _; rw [At.app_toks]; simp [At.toks]; omega, by go_num, by show _ = _; rw [← List.drop_drop, HD.out]; rfl, hb2, hbox2, by rw [At.app_cnt]; exact hown2, hnext⟩
          case measure => simp [intOf]; omega
      | par o h c2 ag r2 =>
        obtain ⟨y0, y1, y2⟩ := hget o rfl
        have hw := hwt o y2
        have ⟨z0, z1⟩ := rcs_get _ _ _ y0
        have x0 := row_cell hprr.trow _ _ z0
        have hJ1 : (J : Int) < (ts.length : Int) + 1 := by omega
        obtain ⟨ko, kh, kc, hago, hr2o⟩ := hrok
        have n7 : (o.txt.toList == [41]) = false := by rw [txt_close hw, ko]; rfl
        have n5 : (o.txt.toList == [59]) = false := by rw [txt_semi hw, ko]; rfl
        have n6 : (o.txt.toList == [40]) = true := by rw [txt_open hw, ko]; rfl
        have hdrop2 : ts.drop (J + 1) = (At.sim h ag).toks ++ c2 :: (r2.toks ++ c :: r) := by
          rw [← List.drop_drop, HD.out]; simp [At.toks]
        have hsz : (At.sim h ag).toks.length ≤ n := by
          have h1 := congrArg (fun x => (At.toks x).length) HA.out
          simp only [At.app_toks, At.toks, List.length_append, List.length_cons] at h1 ⊢
          omega
        have hJ2 : J + 1 + (ag.toks.length + 1) < ts.length := by
          have h1 := congrArg List.length hdrop2
          simp [At.toks] at h1
          omega
        have hdl : done.cnt ≤ 1000 := by have h1 := At.cnt_le done; have := HJ.out; omega
        have hagl : ag.cnt ≤ 1000 := by have h1 := At.cnt_le ag; omega
        have HC := HIH.out (.sim h ag) (J + 1) c2 (r2.toks ++ c :: r) wr hsz ⟨kh, hago⟩ (fun t ht => HNUM.out t (by rw [← HA.out, At.app_toks]; simp only [At.toks, List.mem_append, List.mem_cons] at ht ⊢; rcases ht with ht | ht <;> simp [ht])) hdrop2 (.inl kc) hprr
        clear z0 z1 y0 hget HIH hdrop2
        go_wp2_with fail
        have ec : ((J + 1 : Nat) : Int) = (J : Int) + 1 := by omega
        rw [← ec]
        refine (show Calls _ _ _ _ _ from HC).mono ?_
        clear HC
        rintro e w1 ⟨v1, ys, rfl, hb1, hown1, her1⟩
        obtain ⟨ie, hie, hz0, hz1, hz2⟩ := info_parts Tryz.infoExpr
        have hrow2 := ownsRow_old hrow hb1
        have hbs2 := hb1.size
        obtain ⟨vo, vcap, rfl⟩ := own_form hown1
        have hJ3 : ((J + 1 + (At.sim h ag).toks.length : Nat) : Int) ≤ 1000 := by simp [At.toks]; omega
        have hJ4 : (0 : Int) ≤ ((J + 1 + (At.sim h ag).toks.length : Nat) : Int) := by omega
        generalize hJE : J + 1 + (At.sim h ag).toks.length = JE at *
        have HJE : Hid (J + 1 + (ag.toks.length + 1) = JE) := by rw [← hJE]; simp [Hid, At.toks]
        clear hJE ec
        have HAP : Hid ((done.app (.par o h c2 ag .nil)).app r2 = a) := by show _ = _; rw [At.app_assoc]; exact HA.out
        have HJN : Hid (JE + 1 = i + (done.app (.par o h c2 ag .nil)).toks.length) := by have h1 := HJ.out; have h2 := HJE.out; show _ = _; rw [At.app_toks]; simp [At.toks]; omega
        have HDN : Hid (ts.drop (JE + 1) = r2.toks ++ c :: r) := by
          show _ = _
          rw [← HJE.out, show J + 1 + (ag.toks.length + 1) + 1 = J + (ag.toks.length + 3) by omega, ← List.drop_drop, HD.out]
          simp [At.toks]
        have hbw1 : Below w.heap.size w w1 := hb.trans (hb1.mono hbsz)
        have hbox1 := (hb1.block w.heap.size hwlt).trans hbox
        clear HA HJ HD x0 b0 b1 b2 b3 b4 hprr hpr
        by_cases hag : ag = .nil
        · subst hag
          obtain ⟨r', hys, hr'⟩ := her1
          rw [show r' = [] from hr', List.append_nil] at hys
          obtain ⟨qv, cv, hqv, _, _⟩ := hown1.form (by simp [At.cnt])
          cases hqv
          subst hys
          have e0 := row_cell hown1 0 _ rfl
          have e1 := row_cell hown1 1 _ rfl
          have e2 := row_cell hown1 2 _ rfl
          have hlen1 : ((At.sim h At.nil).cnt : Int) = 1 := by simp [At.cnt]
          have hlenN : (At.sim h At.nil).cnt = 1 := rfl
          rw [hlenN]
          clear hlen1 hlenN
          go_wp2_with (at_builtin; go_must (refine wpList_append_lies _ rfl _ _ _ rfl (w.heap.size + 1) 212 ie _ 3 40 Tryz.underlying147 hie hz0 hz1 hz2 rfl (by omega) u10 done.cnt xs rfl ?hownN _ 1 _ (eC (knownF ps names h).1 (knownF ps names h).2 (.slice none 0 0)) rfl rfl ?hnewsN ?h1N (by omega) ?h63N ?hbytesN ?hbaseN _ rfl ?_))
          case hownN => exact hrow2.alloc _
          case hnewsN => first | exact fun _ _ h => h | exact World.news_of_block (heap_alloc_new w1 _)
          case h1N => exact eC_one _ _ _ rfl
          case h63N => unfold maxLen; omega
          case hbytesN => omega
          case hbaseN => first | omega | (simp; omega)
          intro g cap1 w2 hown2 hgrow hat hlt2
          have hnext : ER w2 (fun k => w.heap.size ≤ k ∧ k < w2.heap.size ∧ (Value.slice (some ⟨g, 0, none⟩) (done.cnt + 1) cap1).ownBlock ≠ some k) ps names (done.app (.par o h c2 .nil .nil)) (xs ++ eC (knownF ps names h).1 (knownF ps names h).2 (.slice none 0 0)) := ER.app (b := .par o h c2 .nil .nil) (.inl ⟨rfl, [], by simp, rfl⟩) (er_kept her hb1 hgrow hat (by simp))
          clear e0 e1 e2
          have hb2 : Below w.heap.size w w2 := (hbw1.alloc (by omega) _).grown hgrow (by simp; omega) (fun k hk => by have := (hrow2.lt k hk).1; omega)
          have hbox2 : w2.heap[w.heap.size]? = _ := (hgrow.block w.heap.size (by simp; omega) (fun e => by have := (hrow2.lt _ e.symm).1; omega)).trans ((Below.heap_alloc w1 _ _ (by omega)).trans hbox1)
          clear hie hz0 hz1 hz2
          go_wp2_with fail
          go_roundw
          case rel => exact ⟨done.app (.par o h c2 .nil .nil), r2, JE + 1, _, HAP, HJN, by go_num, HDN, hb2, hbox2, by rw [At.app_cnt]; exact hown2, hnext⟩
          case measure => have := HJE.out; simp [intOf]; omega
        · obtain ⟨r', hys, hr'⟩ := her1
          have hcn : 1 ≤ ag.cnt := At.cnt_pos hag
          have hlen1 : (((At.sim h ag).cnt : Int) == 1) = false := by rw [beq_eq_false_iff_ne]; simp [At.cnt]; omega
          go_wp2_with (at_builtin; go_must (refine wpList_append_lies _ rfl _ _ _ rfl (w.heap.size + 1) 212 ie _ 3 40 Tryz.underlying147 hie hz0 hz1 hz2 rfl (by omega) u10 done.cnt xs rfl ?hownM _ 1 _ (eC 5 0 (.slice vo (At.sim h ag).cnt vcap)) rfl rfl ?hnewsM ?h1M (by omega) ?h63M ?hbytesM ?hbaseM _ rfl ?_))
          case hownM => exact hrow2.alloc _
          case hnewsM => first | exact fun _ _ h => h | exact World.news_of_block (heap_alloc_new w1 _)
          case h1M => exact eC_one _ _ _ rfl
          case h63M => unfold maxLen; omega
          case hbytesM => omega
          case hbaseM => first | omega | (simp; omega)
          intro g cap1 w2 hown2 hgrow hat hlt2
          have hnext : ER w2 (fun k => w.heap.size ≤ k ∧ k < w2.heap.size ∧ (Value.slice (some ⟨g, 0, none⟩) (done.cnt + 1) cap1).ownBlock ≠ some k) ps names (done.app (.par o h c2 ag .nil)) (xs ++ eC 5 0 (.slice vo (At.sim h ag).cnt vcap)) := by
            refine ER.app (b := .par o h c2 ag .nil) (.inr ⟨hag, .slice vo (At.sim h ag).cnt vcap, r', [], by simp, ?_, ?_, ?_, rfl⟩) (er_kept her hb1 hgrow hat (by simp))
            · have h1 := (hown1.alloc (Obj.cells #[.int .i64 5, .int .i64 0, .slice vo (At.sim h ag).cnt vcap] 212)).kept hgrow (by
                cases hq : (Value.slice vo (At.sim h ag).cnt vcap).ownBlock with
                | none => exact .inl rfl
                | some k =>
                  right
                  intro e
                  have := (hown1.lt k hq).1
                  have := (hrow.lt k e.symm).2
                  omega)
              rw [hys] at h1
              exact ownsRow_base h1 (Nat.zero_le _)
            · intro k hk
              have h1 := hown1.lt k hk
              have h2 := hgrow.size
              simp at h2
              refine ⟨by omega, by omega, ?_⟩
              simp only [Value.ownBlock, ne_eq, Option.some.injEq]
              intro e
              rcases hat with hat | hat
              · have := (hrow.lt g hat).2; omega
              · omega
            · refine ER.keep (fun k hk => ?_) (fun k hk => ?_) hr'
              · rw [hgrow.block k (by simp; omega) (fun e => by have := (hrow.lt k e.symm).2; omega), Below.heap_alloc w1 _ k (by omega)]
              · have h2 := hgrow.size
                simp at h2
                refine ⟨by omega, by omega, ?_⟩
                simp only [Value.ownBlock, ne_eq, Option.some.injEq]
                intro e
                rcases hat with hat | hat
                · have := (hrow.lt g hat).2; omega
                · omega
          have hb2 : Below w.heap.size w w2 := (hbw1.alloc (by omega) _).grown hgrow (by simp; omega) (fun k hk => by have := (hrow2.lt k hk).1; omega)
          have hbox2 : w2.heap[w.heap.size]? = _ := (hgrow.block w.heap.size (by simp; omega) (fun e => by have := (hrow2.lt _ e.symm).1; omega)).trans ((Below.heap_alloc w1 _ _ (by omega)).trans hbox1)
          clear hie hz0 hz1 hz2
          go_wp2_with fail
          go_roundw
          case rel => exact ⟨done.app (.par o h c2 ag .nil), r2, JE + 1, _, HAP, HJN, by go_num, HDN, hb2, hbox2, by rw [At.app_cnt]; exact hown2, hnext⟩
          case measure => have := HJE.out; simp [intOf]; omega

end Go.Proofs.YtnndoagpbcacdaaGreatDoor
