import Derived.Test.YtnndoagpbcacdaaGreatDoorR11
import Derived.Test.YtnndoagpbcacdaaGreatDoorMR10
import Derived.Test.YtnndoagpbcacdaaGreatDoorMS2
namespace Go.Proofs.YtnndoagpbcacdaaGreatDoor
open Go.RowKit

def strs (ps : List Tk) : List Value := ps.map fun p => .string p.txt
/-- A function of the reference in memory. -/
structure FOk (w : World) (T : Nat) (names : List Tk) (d : Df) (psv bv : Value) : Prop where
  prow : w.ownsRow 0 9 1 psv d.ps.length (strs d.ps)
  plt : ∀ k, psv.ownBlock = some k → k < T
  body : ∃ h a xs, d.body = h :: At.toks a ∧ simp3 h ∧ a.ok ∧ w.ownsRow 0 212 3 bv (a.cnt + 1) xs ∧ ER w (fun k => k < T) d.ps names (.sim h a) xs
  blt : ∀ k, bv.ownBlock = some k → k < T
def fcells (d : Df) (psv bv : Value) : List Value := [.string d.name.txt, psv, bv]
def FList (w : World) (T : Nat) (names : List Tk) : List Df → List Value → Prop
  | [], xs => xs = []
  | d :: ds, xs => ∃ psv bv r, xs = fcells d psv bv ++ r ∧ FOk w T names d psv bv ∧ FList w T names ds r
theorem FOk.keep {w w' : World} {T : Nat} {names : List Tk} {d : Df} {psv bv : Value} (h : FOk w T names d psv bv) (hb : Below T w w') : FOk w' T names d psv bv := by
  obtain ⟨hh, a, xs, h1, h2, h3, h4, h5⟩ := h.body
  exact ⟨ownsRow_below h.prow hb h.plt, h.plt, ⟨hh, a, xs, h1, h2, h3, ownsRow_below h4 hb h.blt, ER.keep (fun k hk => hb.block k hk) (fun _ h => h) h5⟩, h.blt⟩
theorem FOk.up {w : World} {T T' : Nat} {names : List Tk} {d : Df} {psv bv : Value} (hT : T ≤ T') (h : FOk w T names d psv bv) : FOk w T' names d psv bv := by
  obtain ⟨hh, a, xs, h1, h2, h3, h4, h5⟩ := h.body
  exact ⟨h.prow, fun k hk => Nat.lt_of_lt_of_le (h.plt k hk) hT, ⟨hh, a, xs, h1, h2, h3, h4, ER.keep (fun _ _ => rfl) (fun k hk => Nat.lt_of_lt_of_le hk hT) h5⟩, fun k hk => Nat.lt_of_lt_of_le (h.blt k hk) hT⟩
theorem ER.type {w w' : World} {base size n : Nat} {t : TypeId} {v : Value} {xs0 : List Value} {S : Nat → Prop} {ps names : List Tk} (hr : w.ownsRow base t size v n xs0) (hg : w.grownBy w' v.ownBlock) (ht : 212 ≠ t) : ∀ {a : At} {xs : List Value}, ER w S ps names a xs → ER w' S ps names a xs
  | .nil, _, h => h
  | .sim _ _, _, ⟨r', h1, h2⟩ => ⟨r', h1, ER.type hr hg ht h2⟩
  | .par _ _ _ _ _, _, .inl ⟨h0, r', h1, h2⟩ => .inl ⟨h0, r', h1, ER.type hr hg ht h2⟩
  | .par _ _ _ _ _, _, .inr ⟨h0, pv, ys, r', h1, h2, h3, h4, h5⟩ => .inr ⟨h0, pv, ys, r', h1, own_grown_type hr hg ht h2, h3, ER.type hr hg ht h4, ER.type hr hg ht h5⟩
theorem FOk.type {w w' : World} {base size n T : Nat} {names : List Tk} {v : Value} {xs0 : List Value} {d : Df} {psv bv : Value} (hr : w.ownsRow base 149 size v n xs0) (hg : w.grownBy w' v.ownBlock) (h : FOk w T names d psv bv) : FOk w' T names d psv bv := by
  obtain ⟨hh, a, xs, h1, h2, h3, h4, h5⟩ := h.body
  exact ⟨own_grown_type hr hg (by decide) h.prow, h.plt, ⟨hh, a, xs, h1, h2, h3, own_grown_type hr hg (by decide) h4, ER.type hr hg (by decide) h5⟩, h.blt⟩
theorem FList.keep {w w' : World} {T : Nat} {names : List Tk} (hb : Below T w w') : ∀ {ds : List Df} {xs : List Value}, FList w T names ds xs → FList w' T names ds xs
  | [], _, h => h
  | _ :: _, _, ⟨a, b, r, h1, h2, h3⟩ => ⟨a, b, r, h1, h2.keep hb, FList.keep hb h3⟩
theorem FList.up {w : World} {T T' : Nat} {names : List Tk} (hT : T ≤ T') : ∀ {ds : List Df} {xs : List Value}, FList w T names ds xs → FList w T' names ds xs
  | [], _, h => h
  | _ :: _, _, ⟨a, b, r, h1, h2, h3⟩ => ⟨a, b, r, h1, h2.up hT, FList.up hT h3⟩
theorem FList.type {w w' : World} {base size n T : Nat} {names : List Tk} {v : Value} {xs0 : List Value} (hr : w.ownsRow base 149 size v n xs0) (hg : w.grownBy w' v.ownBlock) : ∀ {ds : List Df} {xs : List Value}, FList w T names ds xs → FList w' T names ds xs
  | [], _, h => h
  | _ :: _, _, ⟨a, b, r, h1, h2, h3⟩ => ⟨a, b, r, h1, h2.type hr hg, FList.type hr hg h3⟩
theorem FList.snoc {w : World} {T : Nat} {names : List Tk} {d : Df} {psv bv : Value} (hd : FOk w T names d psv bv) : ∀ {ds : List Df} {xs : List Value}, FList w T names ds xs → FList w T names (ds ++ [d]) (xs ++ fcells d psv bv)
  | [], _, h => by rw [show _ = ([] : List Value) from h]; exact ⟨psv, bv, [], by simp, hd, rfl⟩
  | _ :: _, _, ⟨p, b, r, h1, h2, h3⟩ => ⟨p, b, r ++ fcells d psv bv, by rw [h1]; simp, h2, FList.snoc hd h3⟩
theorem fcells_one (d : Df) (psv bv : Value) (h1 : psv.oneCell' = true) (h2 : bv.oneCell' = true) : ∀ u ∈ fcells d psv bv, u.oneCell' = true := by
  intro u hu
  simp only [fcells, List.mem_cons, List.not_mem_nil, or_false] at hu
  rcases hu with rfl | rfl | rfl <;> first | rfl | assumption

theorem Tryz.infoFun : (Tryz.prog.info? 149).map (fun i => (i.zero, i.size, i.bytes)) = some (some (.agg #[.string ByteArray.empty, .slice none 0 0, .slice none 0 0]), 3, 64) := by kernel_rfl

/-- What is known of the definitions of a program. -/
structure Prog (ts : List Tk) (ds : List Df) : Prop where
  shq : Shq ts ds
  wt : ∀ t ∈ ts, WT t.txt
  lt : ts.length ≤ 1000
  num : ∀ d ∈ ds, ∀ t ∈ ts, simp3 t → t ∈ d.body → (knownF d.ps (ds.map (·.name)) t).1 = 1 → t.txt.size ≤ 6 ∧ digL t.txt.data.toList

end Go.Proofs.YtnndoagpbcacdaaGreatDoor
namespace Go.Proofs.YtnndoagpbcacdaaGreatDoor
open Go.RowKit

theorem strs_snoc (ps : List Tk) (k : Nat) (h : k < ps.length) : strs (ps.take (k + 1)) = strs (ps.take k) ++ [.string ps[k].txt] := by
  unfold strs; rw [List.take_succ_eq_append_getElem h, List.map_append]; rfl
theorem Shq.at {ts : List Tk} {ds : List Df} (h : Shq ts ds) : ∀ d ∈ ds, ∃ hd a, d.body = hd :: At.toks a ∧ simp3 hd ∧ a.ok := by
  induction h with
  | nil => intro d hd; simp at hd
  | cons n ps e h a m r ds hn hp he hh ha hm hr ih =>
    intro d hd
    rcases List.mem_cons.1 hd with rfl | hd
    · exact ⟨h, a, rfl, hh, ha⟩
    · exact ih d hd

set_option maxRecDepth 100000 in
set_option maxHeartbeats 4000000 in
theorem rProgram (s : ByteArray) (ds : List Df) (w : World) (hs2 : s.size ≤ 1000) (hp : Prog (toksF s 0) ds) :
    Calls Tryz.prog 86 #[.string s] w fun e w' => ∃ v m, e = .returned (.tuple #[v, .int .i64 m]) ∧ Below w.heap.size w w' ∧ m = fnd ds mainB ∧ ∃ xs, w'.ownsRow 0 149 3 v ds.length xs ∧ FList w' w'.heap.size (ds.map (·.name)) ds xs := by
  have hci := cAll_inv (toksF s 0)
  have hce := cAll_shp hp.shq.shp
  have htl := hp.lt
  have hdl : ds.length ≤ 1000 := by rw [← hce]; exact Nat.le_trans hci.i1 htl
  have hdp : ∀ d ∈ ds, d.ps.length ≤ 1000 := fun d hd => Nat.le_trans (hci.i4 d (by rw [hce]; exact hd)).1 htl
  clear hce
  go_enter Tryz.func86, Tryz.ntmps86
  go_wp2_with fail
  refine (rTokens s _ hs2).mono ?_
  rintro e w1 ⟨v1, rfl, ho1, hb1⟩
  have ho1' := ownsRow_base ho1 (Nat.zero_le _)
  clear ho1
  generalize hts : toksF s 0 = ts at *
  clear hts hci
  go_wp2_with fail
  refine (rDefs s v1 ts ds _ htl hp.wt hp.shq.shp ho1').mono ?_
  rintro e w2 ⟨lv, rfl, hb2, zs, hr2, hd2⟩
  have ho2 := ownsRow_old ho1' hb2
  have hb2' := hb1.trans (hb2.mono hb1.size)
  clear hb1 hb2 ho1'
  go_wp2_with fail
  refine (rHeads lv ts ds zs _ _ (by omega) hr2 hd2 (Nat.le_refl _)).mono ?_
  rintro e w3 ⟨fv, rfl, hb3, hf3⟩
  have ho3 := ownsRow_old ho2 hb3
  have hr3 := ownsRow_old hr2 hb3
  have hd3 := hd2.keep hb3
  have hT3 := hb3.size
  have hf3' := ownsRow_base hf3 (Nat.zero_le _)
  have hb3' := hb2'.trans (hb3.mono hb2'.size)
  clear hb3 hb2' ho2 hr2 hd2 hf3
  have hd3' := hd3.up hT3
  clear hd3 hT3
  obtain ⟨q, cap, rfl, _, _⟩ := ho3.form (by omega)
  obtain ⟨lo, lcap, rfl⟩ := own_form hr3
  obtain ⟨fo, fcap, rfl⟩ := own_form hf3'
  go_wp2_with fail
  go_loopw [7, 8] (fun v x wr => ∃ (k : Nat) (xs : List Value), k ≤ ds.length ∧ x = .int .i64 k ∧ Below w3.heap.size w3 wr ∧ wr.ownsRow w3.heap.size 149 3 v k xs ∧ FList wr wr.heap.size (ds.map (·.name)) (ds.take k) xs) (fun _ x _ => ds.length - (intOf x).toNat)
  case atStart => exact ⟨0, [], Nat.zero_le _, rfl, Below.refl _ _, World.ownsRow_nil _ _ _ _, by simp [FList]⟩
  case round =>
    obtain ⟨k, xs, hk, rfl, hb, hrow, hfl⟩ := hrel
    have hbsz := hb.size
    by_cases hlt : k < ds.length
    · obtain ⟨qd, cd, hqd, _, _⟩ := hr3.form (by omega)
      cases hqd
      have hdm := List.getElem_mem hlt
      have hlp := hdp ds[k] hdm
      obtain ⟨hd0, a0, hbody, hsh, hao⟩ := hp.shq.at ds[k] hdm
      have hr4 := ownsRow_old hr3 hb
      obtain ⟨pv, a, b, t0, t1, t2, t3, t4, hok⟩ := (hd3'.keep hb).at k hlt
      have d0 := row_cell hr4 _ _ t0
      have d1 := row_cell hr4 _ _ t1
      have d2 := row_cell hr4 _ _ t2
      have d3 := row_cell hr4 _ _ t3
      have d4 := row_cell hr4 _ _ t4
      obtain ⟨po, pcap, rfl⟩ := own_form hok.row
      obtain ⟨cc, rr, hdrop, hcc⟩ := hok.semi
      have hbts : ∀ t ∈ ds[k].body, t ∈ ts := by
        intro t ht
        have : t ∈ ts.drop a := by rw [hdrop]; simp [ht]
        exact List.mem_of_mem_drop this
      have hnum : ∀ t ∈ ds[k].body, simp3 t → (knownF ds[k].ps (ds.map (·.name)) t).1 = 1 → t.txt.size ≤ 6 ∧ digL t.txt.data.toList := fun t h1 h2 h3 => hp.num ds[k] hdm t (hbts t h1) h2 h1 h3
      have hbl : ds[k].body.length ≤ 1000 := by have := hok.to; have := hok.le; omega
      have HBL : Hid _ := hbl
      have HNUM : Hid _ := hnum
      have HDROP : Hid _ := hdrop
      have HBODY : Hid _ := hbody
      have hpr4 := hok.row
      have hal : a ≤ 1000 := by have := hok.to; have := hok.le; omega
      clear t0 t1 t2 t3 t4 hr4 hnum hdrop hbody hok hbts hbl
      obtain ⟨wo, rfl⟩ : ∃ wo : World, wo = wr := ⟨_, rfl⟩
      have hdm2 : (ds.map (·.name)).length ≤ 1000000 := by simp; omega
      have HNL : Hid _ := hdm2
      clear hdm2
      go_wp2_with fail
      go_loopw [11] (fun x wx => ∃ (j : Nat) (psv : Value), j ≤ ds[k].ps.length ∧ x = .int .i64 j ∧ Below wo.heap.size wo wx ∧ wx.heap[wo.heap.size]? = some (.cells #[.string ds[k].name.txt, .int .i64 ds[k].name.pos, .slice po ds[k].ps.length pcap, .int .i64 a, .int .i64 b] 208 (0, 0)) ∧ wx.heap[wo.heap.size + 1]? = some (.cells #[.string ds[k].name.txt, psv, .slice none 0 0] 149 (0, 0)) ∧ wx.ownsRow (wo.heap.size + 2) 9 1 psv j (strs (ds[k].ps.take j))) (fun x _ => ds[k].ps.length - (intOf x).toNat)
      case atStart =>
        refine ⟨0, .slice none 0 0, Nat.zero_le _, rfl, ((Below.refl _ _).alloc (Nat.le_refl _) _).alloc (by simp) _, (Below.heap_alloc _ _ _ (by simp)).trans (heap_alloc_new wo _), ?_, World.ownsRow_nil _ _ _ _⟩
        have := heap_alloc_new (wo.alloc (.cells #[.string ds[k].name.txt, .int .i64 ds[k].name.pos, .slice po ds[k].ps.length pcap, .int .i64 a, .int .i64 b] 208)) (.cells #[.string ds[k].name.txt, .slice none 0 0, .slice none 0 0] 149)
        simpa using this
      case round =>
        obtain ⟨j, psv, hj, rfl, hbx, hbD, hbF, hprow⟩ := hrel
        have hwlt : wo.heap.size + 1 < wr.heap.size := (Array.getElem?_eq_some_iff.1 hbF).1
        have D0 := cell_of_row wr wo.heap.size 0 _ _ _ hbD
        have D1 := cell_of_row wr wo.heap.size 1 _ _ _ hbD
        have D2 := cell_of_row wr wo.heap.size 2 _ _ _ hbD
        have D3 := cell_of_row wr wo.heap.size 3 _ _ _ hbD
        have D4 := cell_of_row wr wo.heap.size 4 _ _ _ hbD
        have F0 := cell_of_row wr (wo.heap.size + 1) 0 _ _ _ hbF
        have F1 := cell_of_row wr (wo.heap.size + 1) 1 _ _ _ hbF
        have F2 := cell_of_row wr (wo.heap.size + 1) 2 _ _ _ hbF
        have fz := fun j => frozen_of_row wr (wo.heap.size + 1) j _ _ hbF
        simp only [List.getElem?_toArray, List.getElem?_cons_succ, List.getElem?_cons_zero] at D0 D1 D2 D3 D4 F0 F1 F2
        by_cases hjl : j < ds[k].ps.length
        · obtain ⟨i, hi, hz0, hz1, hz2⟩ := info_parts Tryz.infoStr
          obtain ⟨qp, cp, hqp, _, _⟩ := hpr4.form (by omega)
          cases hqp
          have hvr := ownsRow_old hpr4 hbx
          have ⟨t0, t1⟩ := rcs_at ds[k].ps j hjl
          have x0 := row_cell hvr _ _ t0
          have x1 := row_cell hvr _ _ t1
          clear t0 t1 hvr
          go_wp2_with fail
          go_region_law ((refine step_append_lies _ (by rfl) _ _ _ (by rfl) (wo.heap.size + 2) 9 i _ 1 16 Tryz.underlying37 hi hz0 hz1 hz2 rfl (by omega) psv j (strs (ds[k].ps.take j)) (by rfl) (by exact hprow.alloc _) _ 1 _ [.string ds[k].ps[j].txt] (by rfl) rfl (by exact World.news_of_block (heap_alloc_new wr _)) (by intro u hu; simp only [List.mem_singleton] at hu; rw [hu]; rfl) (by omega) (by unfold maxLen; omega) (by omega) (by simp; omega) _ rfl ?_; intro g cap1 w2 hown2 hgrow hat hlt2; have hbF2 := grown_type (World.ownsRow.drew (hprow.alloc _)) hgrow (by decide) ((Below.heap_alloc wr _ (wo.heap.size + 1) hwlt).trans hbF); have hbD2 := grown_type (World.ownsRow.drew (hprow.alloc _)) hgrow (by decide) ((Below.heap_alloc wr _ wo.heap.size (by omega)).trans hbD); have z2 := cell_of_row w2 (wo.heap.size + 1) 1 _ _ _ hbF2; have zz := frozen_of_row w2 (wo.heap.size + 1) 1 _ _ hbF2; simp only [List.getElem?_toArray, List.getElem?_cons_succ, List.getElem?_cons_zero] at z2))
          all_goals
            have hb2 : Below wo.heap.size wo w2 := (Below.drew (hbx.alloc (by omega) _)).grown hgrow (by simp [heap_drew]; omega) (fun k hk => by have := (hprow.lt k hk).1; omega)
            go_wp2_with fail
            go_roundw
            case rel =>
              refine ⟨j + 1, _, by omega, by go_num, hb2.setCell (Nat.le_succ _) _, (heap_set_ne _ (by omega)).trans hbD2, blk_set _ hbF2, ?_⟩
              rw [strs_snoc _ _ hjl]
              exact ownsRow_set hown2 hbF2 (by decide)
            case measure => simp [intOf]; omega
        · have hj3 : j = ds[k].ps.length := by omega
          subst hj3
          rw [List.take_length] at hprow
          go_wp2_with fail
          have hpr5 : PR wr q cap ts s (.slice po ds[k].ps.length pcap) (.slice fo (ds.map (·.name)).length fcap) ds[k].ps (ds.map (·.name)) := by
            have hb6 := hb.trans (hbx.mono hbsz)
            refine ⟨ownsRow_old ho3 hb6, ownsRow_old hpr4 hbx, ?_⟩
            have := ownsRow_old hf3' hb6
            simpa using this
          have HC := rParts s ts ds[k].ps (ds.map (·.name)) q cap po fo pcap fcap ds[k].name a b htl (by omega) HNL.out hp.wt 1000 (.sim hd0 a0) a cc rr wr (by rw [show (At.sim hd0 a0).toks = ds[k].body from HBODY.out.symm]; exact HBL.out) ⟨hsh, hao⟩ (by rw [show (At.sim hd0 a0).toks = ds[k].body from HBODY.out.symm]; exact HNUM.out) (by rw [show (At.sim hd0 a0).toks = ds[k].body from HBODY.out.symm]; exact HDROP.out) (.inr hcc) hpr5
          simp only [List.length_map] at HC
          refine (show Calls _ _ _ _ _ from HC).mono ?_
          clear HC
          rintro e w4 ⟨bv, ys, rfl, hb4, hbrow, her⟩
          have hs4 := hb4.size
          obtain ⟨bo, bcap, rfl⟩ := own_form hbrow
          have hbF4 := (hb4.block (wo.heap.size + 1) hwlt).trans hbF
          have G0 := cell_of_row w4 (wo.heap.size + 1) 0 _ _ _ hbF4
          have G1 := cell_of_row w4 (wo.heap.size + 1) 1 _ _ _ hbF4
          have G2 := cell_of_row w4 (wo.heap.size + 1) 2 _ _ _ hbF4
          have gz := fun j => frozen_of_row w4 (wo.heap.size + 1) j _ _ hbF4
          simp only [List.getElem?_toArray, List.getElem?_cons_succ, List.getElem?_cons_zero] at G0 G1 G2
          clear D0 D1 D2 D3 D4 F0 F1 F2 fz
          obtain ⟨i, hi, hz0, hz1, hz2⟩ := info_parts Tryz.infoFun
          have hb5 : Below wo.heap.size wo (w4.setCell ⟨wo.heap.size + 1, 2, none⟩ (.slice bo (At.sim hd0 a0).cnt bcap)) := (hbx.trans (hb4.mono hbx.size)).setCell (Nat.le_succ _) _
          have hr5 := ownsRow_old hrow hb5
          have hsz5 : (w4.setCell ⟨wo.heap.size + 1, 2, none⟩ (.slice bo (At.sim hd0 a0).cnt bcap)).heap.size = w4.heap.size := by simp [World.setCell]
          have hbl5 := hb5.size
          have hfo : FOk (w4.setCell ⟨wo.heap.size + 1, 2, none⟩ (.slice bo (At.sim hd0 a0).cnt bcap)) w4.heap.size (ds.map (·.name)) ds[k] psv (.slice bo (At.sim hd0 a0).cnt bcap) := by
            refine ⟨ownsRow_set (ownsRow_base (ownsRow_old hprow hb4) (Nat.zero_le _)) hbF4 (by decide), fun k hk => by have := (hprow.lt k hk).2; omega, ⟨hd0, a0, ys, HBODY.out, hsh, hao, ownsRow_set (ownsRow_base hbrow (Nat.zero_le _)) hbF4 (by decide), ER.keep (fun k hk => heap_set_ne _ (by omega)) (fun k hk => hk.2.1) her⟩, fun k hk => (hbrow.lt k hk).2⟩
          have hfn : FList (w4.setCell ⟨wo.heap.size + 1, 2, none⟩ (.slice bo (At.sim hd0 a0).cnt bcap)) w4.heap.size (ds.map (·.name)) (ds.take (k + 1)) (xs ++ fcells ds[k] psv (.slice bo (At.sim hd0 a0).cnt bcap)) := by
            rw [List.take_succ_eq_append_getElem hlt]
            exact FList.snoc hfo ((hfl.keep hb5).up (by omega))
          have ho1 := own_one hprow
          have HO1 : Hid (psv.oneCell' = true) := ho1
          have HS5 : Hid _ := hsz5
          have HB5 : Hid _ := hb5
          have HFN : Hid _ := hfn
          clear ho1 hfo hfn hsz5 hb5
          go_wp2_with (at_builtin; go_must (refine wpList_append_lies _ rfl _ _ _ rfl w3.heap.size 149 i _ 3 64 Tryz.underlying144 hi hz0 hz1 hz2 rfl (by omega) u7 k xs rfl ?hown _ 1 _ (fcells ds[k] psv (.slice bo (At.sim hd0 a0).cnt bcap)) rfl rfl ?hnews ?h1 (by omega) ?h63 ?hbytes ?hbase _ rfl ?_))
          case hown => exact hr5.alloc _
          case hnews => exact World.news_of_block (by have := heap_alloc_new (w4.setCell ⟨wo.heap.size + 1, 2, none⟩ (.slice bo (At.sim hd0 a0).cnt bcap)) (.cells #[.string ds[k].name.txt, psv, .slice bo (At.sim hd0 a0).cnt bcap] 149); rw [HS5.out] at this; exact this)
          case h1 => exact fcells_one _ _ _ HO1.out rfl
          case h63 => unfold maxLen; omega
          case hbytes => omega
          case hbase => first | omega | (simp; omega)
          intro g cap1 w2 hown2 hgrow hat hlt2
          have hsz5 := HS5.out
          have hb5 := HB5.out
          have hfn := HFN.out
          clear HS5 HB5 HFN
          generalize (w4.setCell ⟨wo.heap.size + 1, 2, none⟩ (.slice bo (At.sim hd0 a0).cnt bcap)) = W5 at *
          generalize (Obj.cells #[.string ds[k].name.txt, psv, .slice bo (At.sim hd0 a0).cnt bcap] 149) = O at hgrow
          have hb6 : Below w3.heap.size w3 w2 := ((hb.trans (hb5.mono hbsz)).alloc (by omega) _).grown hgrow (by simp; omega) (fun k hk => (hr5.lt k hk).1)
          have hfl2 : FList w2 w2.heap.size (ds.map (·.name)) (ds.take (k + 1)) (xs ++ fcells ds[k] psv (.slice bo (At.sim hd0 a0).cnt bcap)) := by
            have h1 := hfn.keep ((Below.refl w4.heap.size W5).alloc (by omega) O)
            have h2 := hgrow.size
            simp at h2
            exact (h1.type (hr5.alloc O) hgrow).up (by omega)
          clear hi hz0 hz1 hz2 hfn hb5
          go_wp2_with fail
          go_roundw
          case rel => exact ⟨k + 1, _, by omega, by go_num, hb6, hown2, hfl2⟩
          case measure => simp [intOf]; omega
    · have hk2 : k = ds.length := by omega
      subst hk2
      rw [List.take_length] at hfl
      go_wp2_with fail
      have HW := rWhere (.slice fo ds.length fcap) (ds.map (·.name)) ds.length ⟨#[109, 97, 105, 110]⟩ wr (by simp; omega) (by simp) (by have := ownsRow_old hf3' hb; rw [List.length_map]; exact this)
      have hw : whr ((ds.map (·.name)).take ds.length) ⟨#[109, 97, 105, 110]⟩ = fnd ds mainB := by rw [List.take_of_length_le (by simp)]; rfl
      rw [hw] at HW
      obtain ⟨mm, hmm⟩ : ∃ mm, mm = fnd ds mainB := ⟨_, rfl⟩
      rw [← hmm] at HW
      have HMM : Hid (mm = fnd ds mainB) := hmm
      clear hmm hw
      refine (show Calls _ _ _ _ _ from HW).mono ?_
      clear HW
      rintro e w1 ⟨rfl, rfl⟩
      go_wp2_with fail
      go_ret2
      exact ⟨_, _, rfl, hb3'.trans (hb.mono hb3'.size), HMM.out, xs, ownsRow_base hrow (Nat.zero_le _), hfl⟩

end Go.Proofs.YtnndoagpbcacdaaGreatDoor
namespace Go.Proofs.YtnndoagpbcacdaaGreatDoor
open Go.RowKit

/-! An atom as it is written. -/
def wL (ps names : List Tk) (t : Tk) : List UInt8 := if (knownF ps names t).1 = 1 then dropZ t.txt.data.toList else t.txt.data.toList

theorem ba_toList_inj {a b : ByteArray} (h : a.toList = b.toList) : a = b := by
  rw [ByteArray.toList_eq, ByteArray.toList_eq] at h
  cases a; cases b
  congr
  exact Array.toList_inj.1 h

theorem whr_get {ts : List Tk} {s : ByteArray} (h : 0 ≤ whr ts s) : ∃ (i : Nat) (hi : i < ts.length), whr ts s = i ∧ ts[i].txt = s := by
  unfold whr at h ⊢
  cases hf : ts.findIdx? (fun t => t.txt.toList == s.toList) with
  | none => rw [hf] at h; simp at h
  | some i =>
    obtain ⟨hi, h1, _⟩ := List.findIdx?_eq_some_iff_getElem.1 hf
    exact ⟨i, hi, rfl, ba_toList_inj (by simpa using h1)⟩

theorem prim_get {t : ByteArray} (h : 0 ≤ primL t.toList) : ∃ c : UInt8, t.toList = [c] ∧ ((primL t.toList = 0 ∧ c = 43) ∨ (primL t.toList = 1 ∧ c = 45) ∨ (primL t.toList = 2 ∧ c = 42) ∨ (primL t.toList = 3 ∧ c = 60) ∨ (primL t.toList = 4 ∧ c = 63)) := by
  generalize t.toList = l at *
  unfold primL at h ⊢
  repeat' split at h
  all_goals simp_all

theorem FList.at {w : World} {T : Nat} {names : List Tk} : ∀ {ds : List Df} {xs : List Value}, FList w T names ds xs → ∀ (i : Nat) (h : i < ds.length), ∃ psv bv, xs[i * 3]? = some (.string (ds[i]'h).name.txt) ∧ xs[i * 3 + 1]? = some psv ∧ xs[i * 3 + 2]? = some bv ∧ FOk w T names (ds[i]'h) psv bv
  | [], _, _, i, h => by simp at h
  | d :: ds, _, ⟨pv, bv, r, rfl, h2, h3⟩, 0, _ => ⟨pv, bv, rfl, rfl, rfl, h2⟩
  | d :: ds, _, ⟨pv, bv, r, rfl, h2, h3⟩, i + 1, h => by
    obtain ⟨p, b, e0, e1, e2, e5⟩ := FList.at h3 i (by simpa using h)
    refine ⟨p, b, ?_, ?_, ?_, e5⟩
    · rw [show (i + 1) * 3 = i * 3 + 1 + 1 + 1 by omega]; exact e0
    · rw [show (i + 1) * 3 + 1 = (i * 3 + 1) + 1 + 1 + 1 by omega]; exact e1
    · rw [show (i + 1) * 3 + 2 = (i * 3 + 2) + 1 + 1 + 1 by omega]; exact e2

set_option maxRecDepth 100000 in
set_option maxHeartbeats 4000000 in
theorem rWord (t : Tk) (nm : ByteArray) (ps names : List Tk) (ds : List Df) (psv bv allv : Value) (xs : List Value) (T : Nat) (w : World) (hlp : ps.length ≤ 1000) (hld : ds.length ≤ 1000) (hnm : names = ds.map (·.name)) (hw : WT t.txt)
    (hnum : (knownF ps names t).1 = 1 → t.txt.size ≤ 6 ∧ digL t.txt.data.toList) (hp : w.ownsRow 0 9 1 psv ps.length (strs ps)) (ha : w.ownsRow 0 149 3 allv ds.length xs) (hf : FList w T names ds xs) :
    Calls Tryz.prog 133 #[.agg #[.int .i64 (knownF ps names t).1, .int .i64 (knownF ps names t).2, .slice none 0 0], .agg #[.string nm, psv, bv], allv] w fun e w' => ∃ x : ByteArray, e = .returned (.string x) ∧ x.data.toList = wL ps names t ∧ x.size ≤ 1000 ∧ Below w.heap.size w w' := by
  obtain ⟨po, pcap, rfl⟩ := own_form hp
  obtain ⟨ao, acap, rfl⟩ := own_form ha
  have hws := hw.2.1
  by_cases p0 : 0 ≤ primL t.txt.toList
  · have HK : Hid (knownF ps names t = (4, primL t.txt.toList)) := by show _ = _; unfold knownF; rw [if_pos p0]
    have HL : Hid (wL ps names t = t.txt.data.toList) := by show _ = _; unfold wL; rw [HK.out]; rfl
    rw [HK.out, HL.out]
    obtain ⟨c, hc, hcs⟩ := prim_get p0
    have HT : Hid (t.txt = ⟨#[c]⟩) := ba_toList_inj (by rw [hc, ByteArray.toList_eq])
    clear hnum hc
    go_enter Tryz.func133, Tryz.ntmps133
    rcases hcs with ⟨h1, rfl⟩ | ⟨h1, rfl⟩ | ⟨h1, rfl⟩ | ⟨h1, rfl⟩ | ⟨h1, rfl⟩
    all_goals
      rw [h1]
      go_wp2_with fail
      go_ret
      refine ⟨_, rfl, ?_, ?_, (((Below.refl _ _).alloc (Nat.le_refl _) _).alloc (by simp) _)⟩
      · rw [HT.out]; rfl
      · decide
  · by_cases p1 : 0 ≤ whr ps t.txt
    · have HK : Hid (knownF ps names t = (2, whr ps t.txt)) := by show _ = _; unfold knownF; rw [if_neg p0, if_pos p1]
      have HL : Hid (wL ps names t = t.txt.data.toList) := by show _ = _; unfold wL; rw [HK.out]; rfl
      rw [HK.out, HL.out]
      obtain ⟨i, hi, hwi, hti⟩ := whr_get p1
      rw [hwi]
      obtain ⟨q, cp, hq, _, _⟩ := hp.form (by omega)
      cases hq
      have x0 := row_cell hp i (.string t.txt) (by rw [← hti]; unfold strs; rw [List.getElem?_map, List.getElem?_eq_getElem hi]; rfl)
      clear hnum p0 p1 hwi hti HK HL
      go_enter Tryz.func133, Tryz.ntmps133
      go_wp2_with fail
      go_ret
      exact ⟨_, rfl, rfl, hws, (((Below.refl _ _).alloc (Nat.le_refl _) _).alloc (by simp) _)⟩
    · by_cases p2 : 0 ≤ whr names t.txt
      · have HK : Hid (knownF ps names t = (3, whr names t.txt)) := by show _ = _; unfold knownF; rw [if_neg p0, if_neg p1, if_pos p2]
        have HL : Hid (wL ps names t = t.txt.data.toList) := by show _ = _; unfold wL; rw [HK.out]; rfl
        rw [HK.out, HL.out]
        obtain ⟨i, hi, hwi, hti⟩ := whr_get p2
        rw [hwi]
        have hi2 : i < ds.length := by rw [hnm] at hi; simpa using hi
        have hti2 : ds[i].name.txt = t.txt := by rw [← hti]; simp [hnm]
        obtain ⟨q, cp, hq, _, _⟩ := ha.form (by omega)
        cases hq
        obtain ⟨_, _, e0, _⟩ := hf.at i hi2
        rw [hti2] at e0
        have x0 := row_cell ha _ _ e0
        clear hnum p0 p1 p2 hwi hti hti2 hi e0 HK HL hnm hf
        go_enter Tryz.func133, Tryz.ntmps133
        go_wp2_with fail
        go_ret
        exact ⟨_, rfl, rfl, hws, (((Below.refl _ _).alloc (Nat.le_refl _) _).alloc (by simp) _)⟩
      · have HK : Hid (knownF ps names t = (1, valL t.txt.data.toList)) := by show _ = _; unfold knownF; rw [if_neg p0, if_neg p1, if_neg p2]
        have HL : Hid (wL ps names t = dropZ t.txt.data.toList) := by show _ = _; unfold wL; rw [HK.out]; rfl
        obtain ⟨hs6, hdg⟩ := hnum (by rw [HK.out])
        rw [HK.out, HL.out]
        have hv := valL_le _ hdg
        have hv6 : valL t.txt.data.toList < 1000000 := by
          have h1 := hv.2
          have h2 : t.txt.data.toList.length ≤ 6 := by rw [← size_len]; exact hs6
          have h3 : (10 : Int) ^ t.txt.data.toList.length ≤ 10 ^ 6 := by exact_mod_cast Nat.pow_le_pow_right (by decide) h2
          have h4 : (10 : Int) ^ 6 = 1000000 := by decide
          omega
        obtain ⟨m, hm⟩ := Int.eq_ofNat_of_zero_le hv.1
        have hd : decL m = dropZ t.txt.data.toList := by
          have := dec_val _ hdg (fun e => by have h := hw.1; rw [size_len, e] at h; simp at h)
          rw [hm] at this
          exact this
        have HD : Hid _ := hd
        have hds : (dropZ t.txt.data.toList).length ≤ 6 := Nat.le_trans (dropZ_le _) (by rw [← size_len]; exact hs6)
        rw [hm] at hv6 ⊢
        clear hnum p0 p1 p2 HK HL hv hd hm
        go_enter Tryz.func133, Tryz.ntmps133
        go_wp2_with fail
        refine (rDecimal m m _ (Nat.le_refl _) (by omega)).mono ?_
        rintro e w1 ⟨x, rfl, hx, hb1⟩
        have hxs : x.size ≤ 1000 := by rw [size_len, hx, HD.out]; omega
        have HX : Hid _ := hx
        clear hx
        go_wp2_with fail
        go_ret
        exact ⟨x, rfl, by rw [HX.out, HD.out], hxs, (((Below.refl _ _).alloc (Nat.le_refl _) _).alloc (by simp) _).trans (hb1.mono (by simp; omega))⟩

end Go.Proofs.YtnndoagpbcacdaaGreatDoor
