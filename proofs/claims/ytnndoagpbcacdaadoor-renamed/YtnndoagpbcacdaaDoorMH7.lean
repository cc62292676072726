import Derived.Test.YtnndoagpbcacdaaDoorMH4
namespace Go.Proofs.YtnndoagpbcacdaaDoor
open Go.RowKit

/-! Programs with any names. -/
section
variable {nms lts : List (List UInt8)} {fb : List Fb}
theorem nmd_len (hl : nms.length = fb.length) : (named nms lts fb).length = fb.length := by
  unfold named; rw [List.length_zipWith, hl]; simp
theorem nmd_get (hl : nms.length = fb.length) {j : Nat} (h : j < fb.length) : (named nms lts fb)[j]? = some ⟨nms[j]'(by omega), lts.take fb[j].np, fb[j].ap.1, fb[j].ap.2⟩ := by
  unfold named
  rw [List.getElem?_zipWith, List.getElem?_eq_getElem h, List.getElem?_eq_getElem (by omega)]
theorem nmd_mem {f : Fn 2} (h : f ∈ named nms lts fb) : ∃ b ∈ fb, ∃ n ∈ nms, f = ⟨n, lts.take b.np, b.ap.1, b.ap.2⟩ := by
  unfold named at h
  rw [List.zipWith_eq_zipWith_take_min, List.mem_iff_getElem] at h
  obtain ⟨j, hj, rfl⟩ := h
  rw [List.getElem_zipWith]
  exact ⟨_, List.mem_of_mem_take (List.getElem_mem _), _, List.mem_of_mem_take (List.getElem_mem _), rfl⟩
theorem nmd_names (hl : nms.length = fb.length) : (named nms lts fb).map (·.nm) = nms := by
  refine List.ext_getElem? (fun j => ?_)
  rw [List.getElem?_map]
  by_cases hj : j < fb.length
  · rw [nmd_get hl hj, List.getElem?_eq_getElem (by omega)]; rfl
  · rw [List.getElem?_eq_none (by rw [nmd_len hl]; omega), List.getElem?_eq_none (by omega)]; rfl
structure NmG (nms lts : List (List UInt8)) (fb : List Fb) : Prop where
  hl : nms.length = fb.length
  h1 : 1 ≤ fb.length
  h4 : fb.length ≤ 4
  hfb : ∀ b ∈ fb, FbOk fb.length b
  hn : ∀ x ∈ nms, namP x ∧ kdL x = 1
  nd : nms.Nodup
  l3 : lts.length = 3
  ld : lts.Nodup
  lp : ∀ p ∈ lts, (namP p ∧ kdL p = 1) ∧ p ∉ nms
  ln : ∀ x ∈ nms, x.length ≤ 4
  lq : ∀ p ∈ lts, p.length ≤ 4
theorem gen_prog (h : NmG nms lts fb) : PrOk σ0 (named nms lts fb) ∧ ∀ f ∈ named nms lts fb, namP f.nm ∧ ∀ p ∈ f.pn, namP p := by
  have hlen := nmd_len (lts := lts) h.hl
  have hnames := nmd_names (lts := lts) h.hl
  have h1 := h.h1
  have h4 := h.h4
  constructor
  · refine ⟨?_, by rw [hlen]; omega, by rw [hnames]; exact h.nd, ?_, ?_, ?_, ?_⟩
    · intro e
      have : (named nms lts fb).length = 0 := by rw [e]; rfl
      omega
    · intro f hf
      obtain ⟨b, hb, n, hn, rfl⟩ := nmd_mem hf
      exact (h.hn n hn).2
    · intro f hf
      rw [hnames]
      obtain ⟨b, hb, n, hn, rfl⟩ := nmd_mem hf
      have := (h.hfb b hb).np
      exact ⟨by simp only [List.length_take]; omega, fun p hp => (h.lp p (List.mem_of_mem_take hp)).1.2, h.ld.sublist (List.take_sublist _ _), fun p hp => (h.lp p (List.mem_of_mem_take hp)).2⟩
    · intro f hf
      rw [hlen]
      obtain ⟨b, hb, n, hn, rfl⟩ := nmd_mem hf
      have hb' := h.hfb b hb
      have hpl : (lts.take b.np).length = b.np := by rw [List.length_take, h.l3]; have := hb'.np; omega
      simp only [hpl]
      exact ⟨hb'.hd, nz0 _⟩
    · intro f hf
      rw [hlen]
      obtain ⟨b, hb, n, hn, rfl⟩ := nmd_mem hf
      have hb' := h.hfb b hb
      have hpl : (lts.take b.np).length = b.np := by rw [List.length_take, h.l3]; have := hb'.np; omega
      simp only [hpl]
      exact ⟨by have := hb'.ln; omega, fun e he => (hb'.ag e he).1, fun e he => exNz0, by have := hb'.un; omega⟩
  · intro f hf
    obtain ⟨b, hb, n, hn, rfl⟩ := nmd_mem hf
    exact ⟨(h.hn n hn).1, fun p hp => (h.lp p (List.mem_of_mem_take hp)).1.1⟩
theorem gen_code (h : NmG nms lts fb) (main : List UInt8) : (named nms lts fb).map fnCode = (namedF main fb).map fnCode := by
  refine List.ext_getElem? (fun j => ?_)
  rw [List.getElem?_map, List.getElem?_map]
  by_cases hj : j < fb.length
  · rw [nmd_get h.hl hj, namedF_get hj]
    have hb := (h.hfb fb[j] (List.getElem_mem hj)).np
    have e1 : (lts.take fb[j].np).length = fb[j].np := by rw [List.length_take, h.l3]; omega
    have e2 : (letL.take fb[j].np).length = fb[j].np := by rw [List.length_take]; show min _ 3 = _; omega
    simp only [Option.map_some, fnCode, e1, e2]
  · rw [List.getElem?_eq_none (by rw [nmd_len h.hl]; omega), List.getElem?_eq_none (by rw [namedF_len]; omega)]
theorem gen_len (h : NmG nms lts fb) : ((named nms lts fb).flatMap (fnShow (named nms lts fb))).length ≤ 1000 := by
  have one : ∀ f ∈ named nms lts fb, (fnShow (named nms lts fb) f).length ≤ 200 := by
    intro f hf
    obtain ⟨b, hb, n, hn, rfl⟩ := nmd_mem hf
    have ho := h.hfb b hb
    have hN : nmsOf (named nms lts fb) (⟨n, lts.take b.np, b.ap.1, b.ap.2⟩ : Fn 2) = ⟨nms, lts.take b.np⟩ := by unfold nmsOf; rw [nmd_names h.hl]
    have hp4 : ∀ y ∈ lts.take b.np, y.length ≤ 4 := fun y hy => h.lq y (List.mem_of_mem_take hy)
    have h1 := wd_len (N := ⟨nms, lts.take b.np⟩) ho.hd ho.hs h.ln hp4
    have h2 := (sh_len (N := ⟨nms, lts.take b.np⟩) (np := b.np) (nf := fb.length) h.ln hp4 2).2 b.ap.2 (fun e he => ho.ag e he)
    have h3 := ho.ln
    have h5 := ho.un
    have h6 := h.ln n hn
    have hps : ∀ ps : List (List UInt8), (∀ p ∈ ps, p.length ≤ 4) → (ps.flatMap (fun p => 32 :: p)).length ≤ 5 * ps.length := by
      intro ps
      induction ps with
      | nil => intro _; simp
      | cons p ps ih =>
        intro h
        have a := ih (fun q hq => h q (by simp [hq]))
        have b := h p (by simp)
        rw [List.flatMap_cons, List.length_append, List.length_cons, List.length_cons]
        omega
    have h7 := hps (lts.take b.np) hp4
    have h8 : (lts.take b.np).length ≤ 3 := by rw [List.length_take, h.l3]; omega
    unfold fnShow
    rw [hN]
    simp only [List.length_append, List.length_cons, List.length_nil]
    omega
  have key : ∀ l : List (Fn 2), (∀ f ∈ l, f ∈ named nms lts fb) → (l.flatMap (fnShow (named nms lts fb))).length ≤ 200 * l.length := by
    intro l
    induction l with
    | nil => intro _; simp
    | cons f l ih =>
      intro h
      have a := ih (fun g hg => h g (by simp [hg]))
      have b := one f (h f (by simp))
      rw [List.flatMap_cons, List.length_append, List.length_cons]
      omega
  have := key _ (fun _ h => h)
  have hl := nmd_len (lts := lts) h.hl
  have := h.h4
  omega
/-- Such a text is a program, with the code of all that are so named. -/
theorem gen_ok (h : NmG nms lts fb) (hm : nms[0]? = some mainT) (h0 : ∀ b, fb[0]? = some b → b.np = 0) (x : ByteArray) (hx : x.data.toList = (named nms lts fb).flatMap (fnShow (named nms lts fb))) :
    x.size ≤ 1000 ∧ (chk x).2 = 0 ∧ codeOf (cAll (toksF x 0)).ds = ⟨0, (namedF mainT fb).map fnCode⟩ := by
  have hsz : x.size ≤ 1000 := by rw [size_len, hx]; exact gen_len h
  obtain ⟨hpr, hnm⟩ := gen_prog h
  have hlt : 0 < fb.length := h.h1
  have hi := nmd_get (lts := lts) h.hl hlt
  have hp0 := h0 _ (List.getElem?_eq_getElem hlt)
  have hm0 : nms[0]'(by have := h.hl; omega) = mainT := by
    rw [List.getElem?_eq_getElem (by have := h.hl; omega)] at hm
    exact Option.some.inj hm
  have htk : (toksF x 0).map txL = (named nms lts fb).flatMap (fnTk σ0 (named nms lts fb)) := by
    refine text_toks hpr hnm x ((named nms lts fb).map (fun _ => [[10]])) (by simp) ?_ ?_
    · intro b hb
      obtain ⟨_, _, rfl⟩ := List.mem_map.1 hb
      intro p hp; simp at hp; subst hp; decide
    · rw [hx]
      have key : ∀ (l : List (Fn 2)), (∀ f ∈ l, f ∈ named nms lts fb) → l.flatMap (fnShow (named nms lts fb)) = ((l.zip (l.map (fun _ => [[10]]))).flatMap (fun x => fnPc (named nms lts fb) x.1 ++ x.2)).flatten := by
        intro l
        induction l with
        | nil => intro _; rfl
        | cons f l ih =>
          intro h
          have e1 := (fn_pieces hpr hnm (h f (by simp))).2.2
          rw [List.flatMap_cons, ih (fun g hg => h g (by simp [hg])), List.map_cons, List.zip_cons_cons, List.flatMap_cons, List.flatten_append, List.flatten_append, ← e1]
          simp
      exact key _ (fun _ hf => hf)
  obtain ⟨a, b, c⟩ := prog_ok hpr 0 _ hi hm0 (by show lts.take _ = []; rw [hp0]; rfl) x hsz htk
  exact ⟨hsz, a, by rw [b, gen_code h mainT]; rfl⟩
end
/-- What plain gives of functions with such names. -/
def gzOf (ns pB : List ByteArray) (fb : List Fb) : List Fz := fb.zipWith (fun f n => ⟨n, pB.take f.np, f.ap⟩) ns
theorem gen_text {ns pB : List ByteArray} (fb : List Fb) (hl : ns.length = fb.length) :
    (gzOf ns pB fb).flatMap (fzS ns) = (named (ns.map (fun s => s.data.toList)) (pB.map (fun s => s.data.toList)) fb).flatMap (fnShow (named (ns.map (fun s => s.data.toList)) (pB.map (fun s => s.data.toList)) fb)) := by
  have hl' : (ns.map (fun s => s.data.toList)).length = fb.length := by rw [List.length_map, hl]
  have hnames : ∀ f : Fn 2, nmsOf (named (ns.map (fun s => s.data.toList)) (pB.map (fun s => s.data.toList)) fb) f = ⟨ns.map (fun s => s.data.toList), f.pn⟩ := fun f => by
    unfold nmsOf; rw [nmd_names hl']
  rw [List.flatMap_def, List.flatMap_def]
  congr 1
  refine List.ext_getElem? (fun j => ?_)
  rw [List.getElem?_map, List.getElem?_map]
  by_cases hj : j < fb.length
  · rw [nmd_get hl' hj]
    have hz : (gzOf ns pB fb)[j]? = some ⟨ns[j]'(by omega), pB.take fb[j].np, fb[j].ap⟩ := by
      unfold gzOf
      rw [List.getElem?_zipWith, List.getElem?_eq_getElem hj, List.getElem?_eq_getElem (by omega)]
    rw [hz]
    simp only [Option.map_some]
    congr 1
    unfold fzS fnShow
    rw [hnames]
    have hN : nmsB ns (pB.take fb[j].np) = ⟨ns.map (fun s => s.data.toList), (pB.map (fun s => s.data.toList)).take fb[j].np⟩ := by
      unfold nmsB; rw [List.map_take]
    have hps : (pB.take fb[j].np).flatMap (fun p => 32 :: p.data.toList) = ((pB.map (fun s => s.data.toList)).take fb[j].np).flatMap (fun p => 32 :: p) := by
      rw [← List.map_take, List.flatMap_map]
    simp only
    rw [hN, hps]
    simp
  · rw [List.getElem?_eq_none (by unfold gzOf; rw [List.length_zipWith]; omega), List.getElem?_eq_none (by rw [nmd_len hl']; omega)]
    rfl

end Go.Proofs.YtnndoagpbcacdaaDoor
namespace Go.Proofs.YtnndoagpbcacdaaDoor
open Go.RowKit

/-! Package redexkeep: grow.go: renamed. -/
def hasB (ps : List ByteArray) (s : ByteArray) : Bool := ps.any (fun t => t.toList == s.toList)
def rnF (ps : List ByteArray) (s : ByteArray) : List UInt8 := match ps.findIdx? (fun t => t.toList == s.toList) with
  | some i => 113 :: decL i
  | none => if s.data.toList.headD 0 = 102 then 103 :: s.data.toList.tail else s.data.toList
theorem rn_hit {ps : List ByteArray} {s : ByteArray} (k : Nat) (h : k < ps.length) (h0 : hasB (ps.take k) s = false) (he : (ps[k].toList == s.toList) = true) : rnF ps s = 113 :: decL k := by
  have : ps.findIdx? (fun t => t.toList == s.toList) = some k := by
    rw [List.findIdx?_eq_some_iff_getElem]
    refine ⟨h, he, fun j hj => ?_⟩
    unfold hasB at h0
    rw [List.any_eq_false] at h0
    exact h0 _ (List.mem_take_iff_getElem.2 ⟨j, by omega, rfl⟩)
  unfold rnF; rw [this]
theorem rn_none {ps : List ByteArray} {s : ByteArray} (h0 : hasB ps s = false) : rnF ps s = if s.data.toList.headD 0 = 102 then 103 :: s.data.toList.tail else s.data.toList := by
  have : ps.findIdx? (fun t => t.toList == s.toList) = none := by
    rw [List.findIdx?_eq_none_iff]
    unfold hasB at h0
    rw [List.any_eq_false] at h0
    exact fun x hx => by simpa using h0 x hx
  unfold rnF; rw [this]
theorem tail_ext (s : ByteArray) : (s.extract 1 s.size).data.toList = s.data.toList.tail := by
  rw [ByteArray.data_extract]
  have : s.size = s.data.size := rfl
  rw [this, Array.toList_extract]
  simp [List.extract_eq_take_drop]
  rw [List.take_of_length_le]
  rw [List.length_tail]
  show s.data.size - 1 ≤ _
  exact Nat.le_refl _

set_option maxHeartbeats 2000000 in
theorem kRenamed (s : ByteArray) (ps : List ByteArray) (v : Value) (w : World) (hl : ps.length ≤ 1000) (hs : 0 < s.size) (hs2 : s.size ≤ 1000) (hv : w.ownsRow 0 9 1 v ps.length (sgs ps)) :
    Calls Tryd.prog 26 #[.string s, v] w fun e w' => ∃ x : ByteArray, e = .returned (.string x) ∧ x.data.toList = rnF ps s ∧ Below w.heap.size w w' := by
  obtain ⟨ao, cap, rfl⟩ := own_form hv
  have HFB : Hid (s.data.toList.headD 0 = s[0]) := first_byte s hs
  go_enter Tryd.func26, Tryd.ntmps26
  go_wp2_with fail
  go_loopw [5] (fun a wr => ∃ (k : Nat), k ≤ ps.length ∧ a = .int .i64 k ∧ w.heap.size ≤ wr.heap.size ∧ Hid (hasB (ps.take k) s = false) ∧ Hid (Below w.heap.size w wr)) (fun a _ => ps.length - (intOf a).toNat)
  case atStart => exact ⟨0, Nat.zero_le _, rfl, Nat.le_refl _, by simp [Hid, hasB], Below.refl _ _⟩
  case round =>
    obtain ⟨k, hk, rfl, hww, HH, HB⟩ := hrel
    by_cases hlt : k < ps.length
    · obtain ⟨q, cap', hq, _, hqlt⟩ := hv.form (by omega)
      cases hq
      have d0 := row_cell (ownsRow_old hv HB.out) k _ (sgs_at ps k hlt)
      cases he : (ps[k].toList == s.toList)
      · have HN : Hid (hasB (ps.take (k + 1)) s = false) := by
          show hasB _ _ = _
          unfold hasB
          rw [any_take_succ _ _ _ hlt]
          simp only [he, Bool.or_false]
          exact HH.out
        generalize ps[k] = pk at *
        go_wp2_with fail
        go_roundw
        case rel => exact ⟨k + 1, by omega, by go_num, hww, HN.out, HB.out⟩
        case measure => simp [intOf]; omega
      · have HR : Hid (rnF ps s = 113 :: decL k) := rn_hit k hlt HH.out he
        have HCD : Hid (∀ w', Calls Tryd.prog 18 #[.int .i64 (k : Int)] w' fun e w'' => ∃ x : ByteArray, e = .returned (.string x) ∧ x.data.toList = decL k ∧ Below w'.heap.size w' w'') := fun w' => kDecimal k w' (by omega)
        generalize ps[k] = pk at *
        go_wp2_with fail
        refine (show Calls _ _ _ _ _ from HCD.out _).mono ?_
        rintro e w2 ⟨x2, rfl, hx2, hb2⟩
        have HX2 : Hid _ := hx2
        have hx2l : x2.size ≤ 6 := by rw [size_len, hx2]; exact decL_six k (by omega)
        have HB2 : Hid (Below w.heap.size w w2) := HB.out.trans (hb2.mono hww)
        clear hx2 hb2
        go_wp2_with fail
        go_ret
        exact ⟨_, rfl, by rw [data_app, HX2.out, HR.out]; rfl, HB2.out⟩
    · have HR : Hid (rnF ps s = if s.data.toList.headD 0 = 102 then 103 :: s.data.toList.tail else s.data.toList) := by
        have := HH.out
        rw [List.take_of_length_le (by omega)] at this
        exact rn_none this
      by_cases hf : s[0] = 102
      · have h1 : ((s[0].toNat : Int) == 102) = true := by rw [hf]; rfl
        have h2 : (s[0].toNat : Int) = 102 := by rw [hf]; rfl
        have HT : Hid ((s.extract 1 s.size).data.toList = s.data.toList.tail) := tail_ext s
        have hsz : (s.extract 1 s.size).size ≤ 1000 := by rw [ByteArray.size_extract]; omega
        have HR2 : Hid (rnF ps s = 103 :: s.data.toList.tail) := by rw [HR.out, HFB.out, if_pos hf]; rfl
        go_wp2_with fail
        go_ret
        exact ⟨_, rfl, by rw [data_app, HT.out, HR2.out]; rfl, HB.out⟩
      · have hf' : ¬ (s[0].toNat : Int) = 102 := fun g => hf (by
          have : s[0].toNat = 102 := by omega
          exact UInt8.toNat_inj.1 this)
        have h1 : ((s[0].toNat : Int) == 102) = false := by simpa using hf'
        have HR2 : Hid (rnF ps s = s.data.toList) := by rw [HR.out, HFB.out, if_neg hf]; rfl
        go_wp2_with fail
        go_ret
        exact ⟨_, rfl, HR2.out.symm, HB.out⟩

end Go.Proofs.YtnndoagpbcacdaaDoor
