import Derived.Test.YtnndoagpbcacdaaDoorX3
import Derived.Test.YtnndoagpbcacdaaDoorE0
namespace Go.Proofs.YtnndoagpbcacdaaDoor
open Go.RowKit

/-! Package codetext: read.go: lines. -/
def restF (r : ByteArray) : ByteArray := match wrd r 0 0 [] with
  | none => r
  | some (_, k) => r.extract k r.size
def pairOk (c : UInt8) (r : ByteArray) : Bool := match wrd r 0 0 [] with
  | none => false
  | some (ws, _) => decide (ws.length = 3) && (((ws[0]?.getD default).toList == [c]) && (numOk (ws[1]?.getD default) && numOk (ws[2]?.getD default)))
def pairA (c : UInt8) (r : ByteArray) : Int := match wrd r 0 0 [] with
  | none => 0
  | some (ws, _) => if decide (ws.length = 3) && (((ws[0]?.getD default).toList == [c]) && numOk (ws[1]?.getD default)) then numV (ws[1]?.getD default) else 0
def pairB (c : UInt8) (r : ByteArray) : Int := match wrd r 0 0 [] with
  | none => 0
  | some (ws, _) => if decide (ws.length = 3) && (((ws[0]?.getD default).toList == [c]) && numOk (ws[1]?.getD default)) then numV (ws[2]?.getD default) else 0
def atomsOk (r : ByteArray) : Bool := match wrd r 0 0 [] with
  | none => true
  | some (ws, _) => ws.all atK
def atomsL (r : ByteArray) : Ln := match wrd r 0 0 [] with
  | none => []
  | some (ws, _) => if ws.all atK then ws.map atV else []
theorem restF_size (r : ByteArray) : (restF r).size ≤ r.size := by
  unfold restF
  split
  · exact Nat.le_refl _
  · rw [ByteArray.size_extract]; omega

set_option maxRecDepth 100000 in
set_option maxHeartbeats 4000000 in
theorem pReadPair (c : UInt8) (b : Nat) (r : ByteArray) (ln : Int) (w : World) (h : RdBlk w b r ln) (hr : r.size ≤ 30000) (hl0 : 0 ≤ ln) (hl1 : ln ≤ 100000) :
    Calls Tryd.prog 55 #[.pointer (some ⟨b, 0, none⟩), .string ⟨#[c]⟩] w fun e w' => e = .returned (.tuple #[.int .i64 (pairA c r), .int .i64 (pairB c r), .bool (pairOk c r)]) ∧ But b w w' ∧ RdBlk w' b (restF r) (ln + 1) := by
  have HC : Hid _ := pReadWords b r ln w h hr hl0 hl1
  generalize hA : pairA c r = PA
  generalize hB : pairB c r = PB
  generalize hO : pairOk c r = PO
  generalize hF : restF r = RF
  have HV : Hid (pairA c r = PA ∧ pairB c r = PB ∧ pairOk c r = PO ∧ restF r = RF) := ⟨hA, hB, hO, hF⟩
  clear hA hB hO hF
  unfold pairA pairB pairOk restF at HV
  cases hw : wrd r 0 0 [] with
  | none =>
    rw [hw] at HC HV
    have HV2 : Hid (PA = 0 ∧ PB = 0 ∧ PO = false ∧ RF = r) := ⟨HV.out.1.symm, HV.out.2.1.symm, HV.out.2.2.1.symm, HV.out.2.2.2.symm⟩
    clear HV hw
    go_enter Tryd.func55, Tryd.ntmps55
    go_wp2_with fail
    refine (show Calls _ _ _ _ _ from HC.out).mono ?_
    rintro e w1 ⟨v, rfl, hbut, hx⟩
    rcases hx with ⟨_, rfl, hrd⟩ | ⟨ws, k, he, _⟩
    · go_wp2_with fail
      go_ret3
      exact ⟨by rw [HV2.out.1, HV2.out.2.1, HV2.out.2.2.1]; rfl, hbut, by rw [HV2.out.2.2.2]; exact hrd⟩
    · cases he
  | some p =>
    obtain ⟨ws, k⟩ := p
    rw [hw] at HC HV
    simp only at HV
    clear hw
    go_enter Tryd.func55, Tryd.ntmps55
    go_wp2_with fail
    refine (show Calls _ _ _ _ _ from HC.out).mono ?_
    rintro e w1 ⟨v, rfl, hbut, hx⟩
    rcases hx with ⟨he, _⟩ | ⟨ws', k', he, hrow, hrd, hk, hwl, hws⟩
    · cases he
    cases he
    clear HC
    rw [HV.out.2.2.2] at hrd
    obtain ⟨ao, cap, rfl⟩ := own_form hrow
    by_cases h3 : ws.length = 3
    · match ws, h3 with
      | [s0, s1, s2], _ =>
        obtain ⟨q, cap', hq, _, hqlt⟩ := hrow.form (by simp)
        cases hq
        have c0 : w1.cell? ⟨q, 0, none⟩ = some (.string s0) := row_cell hrow 0 _ rfl
        have c1 : w1.cell? ⟨q, 1, none⟩ = some (.string s1) := row_cell hrow 1 _ rfl
        have c2 : w1.cell? ⟨q, 2, none⟩ = some (.string s2) := row_cell hrow 2 _ rfl
        have HN1 : Hid _ := fun w => pReadNumber s1 w
        have HN2 : Hid _ := fun w => pReadNumber s2 w
        have HV3 : Hid ((if ((s0.toList == [c]) && numOk s1) then numV s1 else 0) = PA ∧ (if ((s0.toList == [c]) && numOk s1) then numV s2 else 0) = PB ∧ ((s0.toList == [c]) && (numOk s1 && numOk s2)) = PO) := by
          have h := HV.out
          simp only [List.length_cons, List.length_nil, List.getElem?_cons_zero, List.getElem?_cons_succ, Option.getD_some, Nat.reduceAdd, decide_true, Bool.true_and] at h
          exact ⟨h.1, h.2.1, h.2.2.1⟩
        clear HV
        simp only [List.length_cons, List.length_nil] at hrow
        clear hws hwl
        cases hc : (s0.toList == [c])
        · have hcn : (s0.toList != [c]) = true := by simpa using hc
          have HV4 : Hid (PA = 0 ∧ PB = 0 ∧ PO = false) := by rw [hc] at HV3; exact ⟨HV3.out.1.symm, HV3.out.2.1.symm, HV3.out.2.2.symm⟩
          go_wp2_with fail
          go_ret3
          exact ⟨by rw [HV4.out.1, HV4.out.2.1, HV4.out.2.2]; rfl, hbut, hrd⟩
        · have hcn : (s0.toList != [c]) = false := by simpa using hc
          cases h1 : numOk s1
          · have HV4 : Hid (PA = 0 ∧ PB = 0 ∧ PO = false) := by rw [hc, h1] at HV3; exact ⟨HV3.out.1.symm, HV3.out.2.1.symm, HV3.out.2.2.symm⟩
            rw [h1] at HN1
            go_wp2_with fail
            refine (show Calls _ _ _ _ _ from HN1.out _).mono ?_
            rintro e w2 ⟨rfl, rfl⟩
            go_wp2_with fail
            go_ret3
            exact ⟨by rw [HV4.out.1, HV4.out.2.1, HV4.out.2.2]; rfl, hbut, hrd⟩
          · have HV4 : Hid (PA = numV s1 ∧ PB = numV s2 ∧ PO = numOk s2) := by rw [hc, h1] at HV3; exact ⟨HV3.out.1.symm, HV3.out.2.1.symm, HV3.out.2.2.symm⟩
            rw [h1] at HN1
            generalize numV s1 = n1 at *
            generalize numV s2 = n2 at *
            generalize numOk s2 = o2 at *
            go_wp2_with fail
            refine (show Calls _ _ _ _ _ from HN1.out _).mono ?_
            rintro e w2 ⟨rfl, rfl⟩
            go_wp2_with fail
            refine (show Calls _ _ _ _ _ from HN2.out _).mono ?_
            rintro e w2 ⟨rfl, rfl⟩
            go_wp2_with fail
            go_ret3
            exact ⟨by rw [HV4.out.1, HV4.out.2.1, HV4.out.2.2]; rfl, hbut, hrd⟩
    · have h3' : ((ws.length : Int) != 3) = true := by simp; omega
      have h3n : ¬ (ws.length : Int) = 3 := by omega
      have HV4 : Hid (PA = 0 ∧ PB = 0 ∧ PO = false) := by
        have h := HV.out
        rw [decide_eq_false h3] at h
        exact ⟨h.1.symm, h.2.1.symm, h.2.2.1.symm⟩
      clear HV
      go_wp2_with fail
      go_ret3
      exact ⟨by rw [HV4.out.1, HV4.out.2.1, HV4.out.2.2]; rfl, hbut, hrd⟩

theorem all_take_snoc {α : Type} (f : α → Bool) (l : List α) (k : Nat) (h : k < l.length) (h1 : (l.take k).all f = true) (h2 : f l[k] = true) : (l.take (k + 1)).all f = true := by
  rw [List.take_succ_eq_append_getElem h, List.all_append, h1]; simp [h2]

set_option maxRecDepth 100000 in
set_option maxHeartbeats 4000000 in
theorem pReadAtoms (b : Nat) (r : ByteArray) (ln : Int) (w : World) (h : RdBlk w b r ln) (hr : r.size ≤ 30000) (hl0 : 0 ≤ ln) (hl1 : ln ≤ 100000) :
    Calls Tryd.prog 73 #[.pointer (some ⟨b, 0, none⟩)] w fun e w' => ∃ v, e = .returned (.tuple #[v, .bool (atomsOk r)]) ∧ But b w w' ∧ RdBlk w' b (restF r) (ln + 1) ∧ w'.ownsRow w.heap.size 60 2 v (atomsL r).length (acs (atomsL r)) := by
  have HC : Hid _ := pReadWords b r ln w h hr hl0 hl1
  obtain ⟨i, hi, hz0, hz1, hz2⟩ := info_parts Tryd.infoAtom
  have hblt : b < w.heap.size := (Array.getElem?_eq_some_iff.1 h).1
  generalize hA : atomsL r = PA
  generalize hO : atomsOk r = PO
  generalize hF : restF r = RF
  have HV : Hid (atomsL r = PA ∧ atomsOk r = PO ∧ restF r = RF) := ⟨hA, hO, hF⟩
  clear hA hO hF
  unfold atomsL atomsOk restF at HV
  cases hw : wrd r 0 0 [] with
  | none =>
    rw [hw] at HC HV
    have HV2 : Hid (PA = [] ∧ PO = true ∧ RF = r) := ⟨HV.out.1.symm, HV.out.2.1.symm, HV.out.2.2.symm⟩
    clear HV hw
    go_enter Tryd.func73, Tryd.ntmps73
    go_wp2_with fail
    refine (show Calls _ _ _ _ _ from HC.out).mono ?_
    rintro e w1 ⟨v, rfl, hbut, hx⟩
    rcases hx with ⟨_, rfl, hrd⟩ | ⟨ws, k, he, _⟩
    · clear HC
      go_wp2_with fail
      go_loopw [5, 14] (fun x y wr => x = .slice none 0 0 ∧ y = .int .i64 0 ∧ wr = w1) (fun _ _ _ => 0)
      case atStart => exact ⟨rfl, rfl, rfl⟩
      case round =>
        obtain ⟨rfl, rfl, rfl⟩ := hrel
        go_wp2_with fail
        go_ret2
        exact ⟨_, by rw [HV2.out.2.1]; rfl, hbut, by rw [HV2.out.2.2]; exact hrd, by rw [HV2.out.1]; exact World.ownsRow_nil _ _ _ _⟩
    · cases he
  | some p =>
    obtain ⟨ws, k⟩ := p
    rw [hw] at HC HV
    simp only at HV
    clear hw
    go_enter Tryd.func73, Tryd.ntmps73
    go_wp2_with fail
    refine (show Calls _ _ _ _ _ from HC.out).mono ?_
    rintro e w1 ⟨v, rfl, hbut, hx⟩
    rcases hx with ⟨he, _⟩ | ⟨ws', k', he, hrow, hrd, hk, hwl, hws⟩
    · cases he
    cases he
    clear HC
    rw [HV.out.2.2] at hrd
    have HWS : Hid _ := hws
    clear hws
    obtain ⟨ao, cap, rfl⟩ := own_form hrow
    have hsz1 := hbut.size
    go_wp2_with fail
    go_loopw [5, 14] (fun x y wr => ∃ j : Nat, j ≤ ws.length ∧ y = .int .i64 j ∧ Hid ((ws.take j).all atK = true) ∧ wr.ownsRow w1.heap.size 60 2 x j (acs ((ws.take j).map atV)) ∧ Below w1.heap.size w1 wr) (fun _ y _ => ws.length - (intOf y).toNat)
    case atStart => exact ⟨0, Nat.zero_le _, rfl, by simp [Hid], World.ownsRow_nil _ _ _ _, Below.refl _ _⟩
    case round =>
      obtain ⟨j, hj, rfl, HAK, hor, hb⟩ := hrel
      have hbsz := hb.size
      obtain ⟨xo, xcap, hx⟩ := own_form hor
      subst hx
      by_cases hlt : j < ws.length
      · have hrw := ownsRow_old hrow hb
        obtain ⟨q, cap', hq, _, hqlt⟩ := hrw.form (by omega)
        cases hq
        have c0 : wr.cell? ⟨q, j, none⟩ = some (.string ws[j]) := row_cell hrw j _ (by unfold sts; rw [List.getElem?_map, List.getElem?_eq_getElem hlt]; rfl)
        have HC : Hid _ := pReadAtom ws[j] wr (by have := HWS.out ws[j] (List.getElem_mem hlt); omega)
        have HMS : Hid _ := map_snoc atV ws j hlt
        have HMK : Hid (atK ws[j] = true → (ws.take (j + 1)).all atK = true) := all_take_snoc atK ws j hlt HAK.out
        have HMB : Hid (atK ws[j] = false → PA = [] ∧ PO = false) := fun hf => by
          have : ws.all atK = false := by rw [List.all_eq_false]; exact ⟨ws[j], List.getElem_mem hlt, by rw [hf]; simp⟩
          have hv := HV.out
          rw [this] at hv
          exact ⟨hv.1.symm, hv.2.1.symm⟩
        have hjj : ((ws.take j).map atV).length = j := by simp; omega
        generalize hav : atV ws[j] = av at *
        generalize hak : atK ws[j] = ak at *
        clear hav hak
        obtain ⟨a1, a2⟩ := av
        simp only at HC
        cases ak
        · have HB2 : Hid (PA = [] ∧ PO = false) := HMB.out rfl
          go_wp2_with fail
          refine (show Calls _ _ _ _ _ from HC.out).mono ?_
          rintro e w2 ⟨rfl, hb2⟩
          go_wp2_with fail
          go_ret2
          refine ⟨_, by rw [HB2.out.2]; rfl, hbut.trans (But.of ((hb.trans (hb2.mono hbsz)).alloc (by have := hb2.size; omega) _) (by omega)), ?_, by rw [HB2.out.1]; exact World.ownsRow_nil _ _ _ _⟩
          exact (Below.heap_alloc w2 _ b (by have := hb2.size; omega)).trans ((hb2.block b (by omega)).trans ((hb.block b (by omega)).trans hrd))
        · have HAK2 : Hid _ := HMK.out rfl
          go_wp2_with fail
          refine (show Calls _ _ _ _ _ from HC.out).mono ?_
          rintro e w2 ⟨rfl, hb2⟩
          have hor2 := ownsRow_old hor hb2
          have hs2 := hb2.size
          go_wp2_with (at_builtin; go_must (refine wpList_append_lies _ rfl _ _ _ rfl w1.heap.size 60 i _ 2 16 Tryd.underlying61 hi hz0 hz1 hz2 rfl (by omega) (.slice xo j xcap) j (acs ((ws.take j).map atV)) rfl ?hown _ 1 _ [.int .i64 a1, .int .i64 a2] rfl rfl ?hnews ?h1 (by omega) ?h63 ?hbytes ?hbase _ rfl ?_))
          case hown => exact (hor2.alloc _).alloc _
          case hnews => exact World.news_of_block (by have := heap_alloc_new (w2.alloc (Obj.cells #[.int .i64 a1, .int .i64 a2] 60)) (Obj.cells #[.int .i64 a1, .int .i64 a2] 60); simpa using this)
          case h1 => simp [Value.oneCell']
          case h63 => unfold maxLen; omega
          case hbytes => omega
          case hbase => simp; omega
          intro g cap2 w3 hown3 hgrow hat hlt3
          have hb3 : Below w1.heap.size w1 w3 := (((hb.trans (hb2.mono hbsz)).alloc (by omega) _).alloc (by simp; omega) _).grown hgrow (by simp; omega) (fun k hk => (hor2.lt k hk).1)
          clear hgrow hat
          go_wp2_with fail
          go_roundw
          case rel => exact ⟨j + 1, hlt, by go_num, HAK2, by rw [HMS.out, acs_snoc, List.map_take]; exact hown3, hb3⟩
          case measure => simp [intOf]; omega
      · have hj2 : j = ws.length := by omega
        subst hj2
        rw [List.take_length] at hor HAK
        have HB2 : Hid (PA = ws.map atV ∧ PO = true) := by
          have hv := HV.out
          rw [HAK.out] at hv
          exact ⟨hv.1.symm, hv.2.1.symm⟩
        go_wp2_with fail
        go_ret2
        exact ⟨_, by rw [HB2.out.2]; rfl, hbut.trans (But.of hb (by omega)), (hb.block b (by omega)).trans hrd, by rw [HB2.out.1, List.length_map]; exact ownsRow_base hor hsz1⟩

end Go.Proofs.YtnndoagpbcacdaaDoor
