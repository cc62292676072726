import Derived.Test.YtnndoagpbcacdaaDoorY2
import Derived.Test.YtnndoagpbcacdaaDoorY4
import Derived.Test.YtnndoagpbcacdaaDoorX12
import Derived.Test.YtnndoagpbcacdaaDoorX13
namespace Go.Proofs.YtnndoagpbcacdaaDoor
open Go.RowKit

theorem FunsRd.up {w : World} {T T' : Nat} {v : Value} {F : List Tp} (h : FunsRd w T v F) (hT : T ≤ T') : FunsRd w T' v F := by
  obtain ⟨a, cap, h1, h2, h3, h4⟩ := h
  refine ⟨a, cap, h1, h2, h3, ?_⟩
  rcases h4 with h4 | ⟨b, off, rfl, hbl, hc⟩
  · exact .inl h4
  · refine .inr ⟨b, off, rfl, by omega, fun j hj => ?_⟩
    obtain ⟨lv, e1, e2, e3⟩ := hc j hj
    refine ⟨lv, e1, e2, ?_⟩
    obtain ⟨a, cap, g1, g2, g3, g4⟩ := e3
    refine ⟨a, cap, g1, g2, g3, ?_⟩
    rcases g4 with g4 | ⟨b, off, rfl, gbl, gc⟩
    · exact .inl g4
    · refine .inr ⟨b, off, rfl, by omega, fun j hj => ?_⟩
      obtain ⟨lv, k1, k2⟩ := gc j hj
      exact ⟨lv, k1, k2.up hT⟩

/-- What Read says of a text that is good code, of it and a line more, of it and its last line less. -/
theorem rd_all (c : Cd) (hg : goodC c = true) (x : ByteArray) (hx : x.data.toList = cdL c) (hs : x.size ≤ 20000) :
    rdC x = some c ∧ rdL x = 0 ∧ rdE x = 0 ∧ rdE (x ++ ⟨#[110, 49, 10]⟩) = 7 ∧ rdL (x ++ ⟨#[110, 49, 10]⟩) = (cntN x x.size : Int) + 1 ∧ rdE (x.extract 0 (lstF x x.size)) = 7 ∧ rdL (x.extract 0 (lstF x x.size)) = (cntN x x.size : Int) := by
  have h1 := code_read c hg x hx
  have h2 := code_more c hg (x ++ ⟨#[110, 49, 10]⟩) [110, 49, 10] (by simp) (by rw [toL_append, hx])
  have h3 := code_cut c hg x hx
  have hn : cntN x x.size = cntF c.fs + 1 := by rw [cntN_all, hx, nls_code]
  have s1 : ¬ 30000 < x.size := by omega
  have s2 : ¬ 30000 < (x ++ ⟨#[110, 49, 10]⟩ : ByteArray).size := by
    rw [ByteArray.size_append]
    have : (⟨#[110, 49, 10]⟩ : ByteArray).size = 3 := rfl
    omega
  have s3 : ¬ 30000 < (x.extract 0 (lstF x x.size)).size := by rw [ByteArray.size_extract]; omega
  refine ⟨by rw [rdC, if_neg s1, h1], by rw [rdL, if_neg s1, h1]; rfl, by rw [rdE, if_neg s1, h1]; rfl, by rw [rdE, if_neg s2, h2]; rfl, ?_, by rw [rdE, if_neg s3, h3]; rfl, ?_⟩
  · rw [rdL, if_neg s2, h2, hn]
    simp only [Option.isSome_none, Bool.false_eq_true, if_false]
    omega
  · rw [rdL, if_neg s3, h3, hn]
    rfl
theorem ends_ten (c : Cd) (x : ByteArray) (hx : x.data.toList = cdL c) : ∃ k, x.size = k + 1 ∧ bt x k = 10 := by
  have he : endsN (cdL c) := by
    unfold cdL
    exact endsN.flat tpL endsN_tp (endsN_hd _ _ _) c.fs
  obtain ⟨k, hk⟩ := he
  have hl : x.size = k.length + 1 := by rw [size_len, hx, hk]; simp
  refine ⟨k.length, hl, ?_⟩
  rw [bt_ten x k.length (by rw [← size_len]; omega)]
  simp [hx, hk]

set_option maxRecDepth 100000 in
set_option maxHeartbeats 8000000 in
theorem kRewritten (mn : Int) (fs : List Tp) (fv : Value) (w : World) (hf : FunsRd w w.heap.size fv fs) (hr : CdIn mn fs) (ht : Tab w) :
    Calls Tryd.prog 5 #[.agg #[.int .i64 mn, fv]] w fun e w' => e = .returned (.bool true) ∧ Below w.heap.size w w' := by
  have HC0 : Hid _ := kBentC mn fs fv (w.alloc (Obj.cells #[.int .i64 mn, fv] 36)) ((hf.keep ((Below.refl _ _).alloc (Nat.le_refl _) _)).up (by simp)) hr
  obtain ⟨o, cap, rfl, _, _, _⟩ := hf
  have HT : Hid (∀ w' : World, Below w.heap.size w w' → Tab w') := fun w' h => ht.below h
  clear ht hr
  go_enter Tryd.func5, Tryd.ntmps5
  go_wp2_with fail
  refine (show Calls _ _ _ _ _ from HC0.out).mono ?_
  rintro e w1 ⟨c, u, rfl, hu, hb1, hg⟩
  clear HC0
  have hbw1 : Below w.heap.size w w1 := ((Below.refl _ _).alloc (Nat.le_refl _) _).trans (hb1.mono (by simp))
  obtain ⟨uo, ucap, rfl⟩ : ∃ a cp, u = .slice a c.fs.length cp := by obtain ⟨ys, h1, _⟩ := hu; exact own_form h1
  have hE : wrE c = 0 := by rw [wrE, if_pos hg]
  have hL : wrL c = cdL c := by rw [wrL, if_pos hg]
  have HC1 : Hid _ := xWrite c uo c.fs.length ucap w1.heap.size (w1.alloc (Obj.cells #[.int .i64 c.mn, .slice uo c.fs.length ucap] 36)) (by simp) (hu.rd.keep ((Below.refl _ _).alloc (Nat.le_refl _) _)) (HT.out _ (hbw1.alloc hbw1.size _))
  rw [hE, hL] at HC1
  have HU : Hid (FunsRd w1 w1.heap.size (.slice uo c.fs.length ucap) c.fs) := hu.rd
  have HG : Hid _ := hg
  clear hE hL hu hg hb1
  go_wp2_with fail
  refine (show Calls _ _ _ _ _ from HC1.out).mono ?_
  rintro e w2 ⟨x, rfl, hx, hxs, hb2⟩
  clear HC1
  have hGB := box_later' hb2
  have hb2w : Below w1.heap.size w1 w2 := ((Below.refl _ _).alloc (Nat.le_refl _) _).trans (hb2.mono (by simp))
  have hGl : w1.heap.size < w2.heap.size := (Array.getElem?_eq_some_iff.1 hGB).1
  have HA : Hid _ := rd_all c HG.out x hx hxs
  obtain ⟨k, hk, hkt⟩ := ends_ten c x hx
  clear hx hb2
  have HC2 : Hid _ := xRead x w2 (by unfold maxLen; omega)
  rw [HA.out.2.1, HA.out.2.2.1] at HC2
  go_wp2_with fail
  refine (show Calls _ _ _ _ _ from HC2.out).mono ?_
  rintro e w3 ⟨m3, fo, fl, fc, rfl, hb3, _, hso⟩
  clear HC2
  obtain ⟨hm3, hfo, _⟩ := hso c HA.out.1
  clear hso
  subst hm3
  have hb3w : Below w1.heap.size w1 w3 := hb2w.trans (hb3.mono (by omega))
  have hGB3 := (hb3.block _ hGl).trans hGB
  have hGl3 : w1.heap.size < w3.heap.size := (Array.getElem?_eq_some_iff.1 hGB3).1
  obtain ⟨g0, g1, _, _⟩ := two_cells hGB3
  have HC3 : Hid _ := kSame c.mn c.fs (.slice fo fl fc) (.slice uo c.fs.length ucap) (w3.alloc (Obj.cells #[.int .i64 c.mn, .slice fo fl fc] 36)) ((hfo.rd.keep ((Below.refl _ _).alloc (Nat.le_refl _) _)).up (by simp)) (((FunsRd.keep HU.out hb3w).keep ((Below.refl _ _).alloc (by omega) _)).up (by simp; omega))
  clear hGB hGB3
  go_wp2_with fail
  refine (show Calls _ _ _ _ _ from HC3.out).mono ?_
  rintro e w4 ⟨rfl, hb4⟩
  clear HC3 g0 g1
  have hb4w : Below w.heap.size w w4 := (hbw1.trans (hb3w.mono hbw1.size)).trans (((Below.refl _ _).alloc (by have := hbw1.size; omega) _).trans (hb4.mono (by have := hbw1.size; simp; omega)))
  have HK : Hid (x.size = k + 1) := hk
  have hk1 : ((x.size : Int) - 1) = (k : Int) := by omega
  have hxl : k < x.size := by omega
  have hbk := bt_eq x k hxl
  have hkt2 : (bt x k != 10) = false := by simp [hkt]
  have hxe : (x.toList == []) = false := by
    rw [beq_eq_false_iff_ne]
    intro e
    rw [ByteArray.toList_eq] at e
    have := size_len x
    rw [e] at this
    have h2 : x.size = 0 := this
    omega
  clear hk
  have hb4s := hb4w.size
  go_wp2_with fail
  clear hkt2 hxe hbk hxl hk1 hkt HK
  go_loopw [10, 11, 12] (fun a b c wr => ∃ i : Nat, i ≤ x.size ∧ a = .int .i64 (cntN x i) ∧ b = .int .i64 (lstF x i) ∧ c = .int .i64 i ∧ wr = w4) (fun _ _ c _ => x.size - (intOf c).toNat)
  case atStart => exact ⟨0, Nat.zero_le _, rfl, rfl, rfl, rfl⟩
  case round =>
    obtain ⟨i, hi, rfl, rfl, rfl, rfl⟩ := hrel
    have hcn := cntN_le x i
    have hln := lstF_le x i
    by_cases hlt : i < x.size
    · have hbk := bt_eq x i hlt
      by_cases hq : bt x i = 10
      · have q1 : (bt x i == 10) = true := by simp [hq]
        have HS1 : Hid (cntN x (i + 1) = cntN x i + 1) := by show _ = _; rw [cntN, if_pos hq]
        by_cases hl2 : i + 1 < x.size
        · have HS2 : Hid (lstF x (i + 1) = i + 1) := by show _ = _; rw [lstF, if_pos ⟨hq, hl2⟩]
          have hl3 : (i : Int) + 1 < (x.size : Int) := by omega
          clear hq
          go_wp2_with fail
          go_roundw
          case rel => exact ⟨i + 1, hlt, congrArg (Value.int .i64) (by rw [HS1.out]; omega), congrArg (Value.int .i64) (by rw [HS2.out]; omega), by go_num, trivial⟩
          case measure => simp [intOf]; omega
        · have HS2 : Hid (lstF x (i + 1) = lstF x i) := by show _ = _; rw [lstF, if_neg (fun h => hl2 h.2)]
          have hl3 : ¬ (i : Int) + 1 < (x.size : Int) := by omega
          have hl4 : decide ((i : Int) + 1 < (x.size : Int)) = false := by simp; omega
          clear hq
          go_wp2_with fail
          go_roundw
          case rel => exact ⟨i + 1, hlt, congrArg (Value.int .i64) (by rw [HS1.out]; omega), congrArg (Value.int .i64) (by rw [HS2.out]), by go_num, trivial⟩
          case measure => simp [intOf]; omega
      · have q1 : (bt x i == 10) = false := by simp [hq]
        have HS1 : Hid (cntN x (i + 1) = cntN x i) := by show _ = _; rw [cntN, if_neg hq, Nat.add_zero]
        have HS2 : Hid (lstF x (i + 1) = lstF x i) := by show _ = _; rw [lstF, if_neg (fun h => hq h.1)]
        go_wp2_with fail
        go_roundw
        case rel => exact ⟨i + 1, hlt, congrArg (Value.int .i64) (by rw [HS1.out]), congrArg (Value.int .i64) (by rw [HS2.out]), by go_num, trivial⟩
        case measure => simp [intOf]; omega
    · have hi2 : i = x.size := by omega
      subst hi2
      have hE7 := HA.out.2.2.2.1
      have hL7 := HA.out.2.2.2.2.1
      have hE8 := HA.out.2.2.2.2.2.1
      have hL8 := HA.out.2.2.2.2.2.2
      have HC5 : Hid _ := xRead (x ++ ⟨#[110, 49, 10]⟩) wr (by rw [ByteArray.size_append]; have : (⟨#[110, 49, 10]⟩ : ByteArray).size = 3 := rfl; unfold maxLen; omega)
      have HC6 : Hid _ := fun w => xRead (x.extract 0 (lstF x x.size)) w (by rw [ByteArray.size_extract]; unfold maxLen; omega)
      rw [hE7, hL7] at HC5
      rw [hE8, hL8] at HC6
      clear hE7 hL7 hE8 hL8 HA
      generalize cntN x x.size = N at *
      generalize lstF x x.size = P at *
      have n1 : (((N : Int) + 1) == ((N : Int) + 1)) = true := by simp
      have n2 : ((N : Int) == (N : Int)) = true := by simp
      go_wp2_with fail
      refine (show Calls _ _ _ _ _ from HC5.out).mono ?_
      rintro e w5 ⟨m5, fo5, fl5, fc5, rfl, hb5, _, _⟩
      clear HC5
      have hb5w : Below w.heap.size w w5 := hb4w.trans (hb5.mono hb4s)
      have hb5s := hb5w.size
      go_wp2_with fail
      refine (show Calls _ _ _ _ _ from HC6.out _).mono ?_
      rintro e w6 ⟨m6, fo6, fl6, fc6, rfl, hb6, _, _⟩
      clear HC6
      have hb6w : Below w.heap.size w w6 := (hb5w.alloc hb5s _).trans (hb6.mono (by simp; omega))
      have hb6s := hb6w.size
      go_wp2_with fail
      go_ret
      exact ⟨rfl, hb6w.alloc hb6s _⟩

end Go.Proofs.YtnndoagpbcacdaaDoor
