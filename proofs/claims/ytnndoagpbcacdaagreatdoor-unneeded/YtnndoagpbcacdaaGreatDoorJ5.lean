import Derived.Test.YtnndoagpbcacdaaGreatDoorMI9
namespace Go.Proofs.YtnndoagpbcacdaaGreatDoor
open Go.RowKit

/-! Unneeded, walked. -/
set_option maxRecDepth 100000 in
set_option maxHeartbeats 4000000 in
theorem kUnneeded (lv : Value) (L : List Int) (n : Int) (w : World) (hri : IntsRd w w.heap.size lv L) (hin : ∀ c ∈ L, -9223372036854775808 ≤ c ∧ c ≤ 9223372036854775807) (hn1 : -9223372036854775808 ≤ n) (hn2 : n ≤ 9223372036854775807) (ht : Tab w) :
    Calls Tryz.prog 11 #[lv, .int .i64 n] w fun e w' => e = .returned (.bool true) ∧ Below w.heap.size w w' := by
  have hbi := bentF_in n 0 999999 (by omega)
  have HCB : Hid (∀ w', Calls Tryz.prog 13 #[.int .i64 n, .int .i64 0, .int .i64 999999] w' fun e w'' => e = .returned (.int .i64 (bentF n 0 999999)) ∧ w'' = w') := fun w' => kBent n 0 999999 w' hn1 hn2 (by omega) (by omega) (by omega)
  have HCP : Hid _ := kProgram lv L ⟨#[109]⟩ w hri hin
  have HT : Hid (∀ w', Below w.heap.size w w' → Tab w') := fun w' hb => ht.below hb
  generalize bentF n 0 999999 = vv at *
  obtain ⟨v, rfl⟩ := Int.eq_ofNat_of_zero_le hbi.1
  have hv : v ≤ 999999 := by omega
  obtain ⟨va, vc, rfl, _, _, _⟩ := hri
  clear ht hbi
  go_enter Tryz.func11, Tryz.ntmps11
  go_wp2_with fail
  refine (show Calls _ _ _ _ _ from HCP.out).mono ?_
  rintro e w1 ⟨pv, rfl, hb1, ns, hns, hnl, hfr⟩
  clear HCP
  have hfr0 := hfr
  obtain ⟨_, hrow, _, _⟩ := hfr0
  obtain ⟨po, pc, rfl⟩ := own_form hrow
  clear hrow
  obtain ⟨p1, p2, p3, p4⟩ := progF_ok L
  have hfl : (fzOf ns (progF L)).length = (progF L).length := fzOf_len (by omega)
  have HTX : Hid ((fzOf ns (progF L)).flatMap (fzS ns) = (namedF [109] (progF L)).flatMap (fnShow (namedF [109] (progF L) ++ []))) := plain_text hns (progF L) hnl p3 []
  have htl : ((fzOf ns (progF L)).flatMap (fzS ns)).length ≤ 440 := by
    rw [HTX.out]
    have := plain_len (main := [109]) (by decide) p2 p3 [] (fun f hf => by simp at hf)
    omega
  have HCL : Hid (∀ w', Below w1.heap.size w1 w' → Calls Tryz.prog 21 #[.slice po (fzOf ns (progF L)).length pc] w' fun e w'' => ∃ x : ByteArray, e = .returned (.string x) ∧ x.data.toList = (fzOf ns (progF L)).flatMap (fzS ns) ∧ Below w'.heap.size w' w'') := fun w' hb => kPlain _ ns _ _ w' (hfr.old hb) (by omega) (fz_ln p3) (by omega)
  have HNS : Hid (NmsB ⟨#[109]⟩ ns) := hns
  have HNL : Hid (ns.length = (progF L).length) := hnl
  have HB1 : Hid (Below w.heap.size w w1) := hb1
  have hs1 := hb1.size
  generalize hgl : (fzOf ns (progF L)).length = gl at *
  have HTL : Hid (((fzOf ns (progF L)).flatMap (fzS ns)).length ≤ 440) := htl
  clear hgl hb1 hfr hns hnl p1 p2 p3 p4 hfl htl
  go_wp2_with fail
  refine (show Calls _ _ _ _ _ from HCB.out _).mono ?_
  rintro e w2 ⟨rfl, rfl⟩
  clear HCB
  have HCD : Hid (∀ w', Calls Tryz.prog 15 #[.int .i64 (v : Int)] w' fun e w'' => ∃ x : ByteArray, e = .returned (.string x) ∧ x.data.toList = decL v ∧ Below w'.heap.size w' w'') := fun w' => kDecimal v w' (by omega)
  go_wp2_with fail
  refine (show Calls _ _ _ _ _ from HCL.out _ (Below.refl _ _)).mono ?_
  rintro e w3 ⟨x1, rfl, hx1, hb3⟩
  clear HCL
  have HX1 : Hid _ := hx1
  have hx1l : x1.size ≤ 440 := by rw [size_len, hx1]; exact HTL.out
  have HB3 : Hid (Below w.heap.size w w3) := HB1.out.trans (hb3.mono hs1)
  clear hx1 hb3
  go_wp2_with fail
  refine (show Calls _ _ _ _ _ from HCD.out _).mono ?_
  rintro e w4 ⟨x2, rfl, hx2, hb4⟩
  clear HCD
  have hx2l : x2.size ≤ 6 := by rw [size_len, hx2]; exact decL_six v (by omega)
  have HB4 : Hid (Below w.heap.size w w4) := HB3.out.trans (hb4.mono HB3.out.size)
  obtain ⟨S, hS⟩ : ∃ S : ByteArray, S = x1 ++ ⟨#[109, 97, 105, 110, 32, 61, 32, 107, 32]⟩ ++ x2 ++ ⟨#[32, 40, 109, 32, 49, 41, 59, 32, 107, 32, 97, 32, 98, 32, 61, 32, 97, 59]⟩ := ⟨_, rfl⟩
  have hSd : S.data.toList = (fzOf ns (progF L)).flatMap (fzS ns) ++ unTx v := by
    rw [hS, data_app, data_app, data_app, HX1.out, hx2]
    simp [unTx]
  obtain ⟨hsz, hck, A, hcd, hgd⟩ := un_ok L v hv ⟨#[109]⟩ rfl S ns HNS.out HNL.out hSd
  have HC5 : Hid _ := xEvalI S 2 _ w4 (by unfold maxLen; omega) (HT.out w4 HB4.out) hck hcd hgd (by omega) (by omega)
  obtain ⟨u1, u2, u3⟩ := un_run A v
  simp only at HC5
  rw [u1, u2, u3, hS] at HC5
  have hs4 := HB4.out.size
  clear hx2 hb4 hS hSd hsz hck hcd hgd u1 u2 u3 HX1
  go_wp2_with fail
  refine (show Calls _ _ _ _ _ from HC5.out).mono ?_
  rintro e w5 ⟨rfl, hb5⟩
  clear HC5
  have HB5 : Hid (Below w.heap.size w w5) := HB4.out.trans (hb5.mono hs4)
  have hs5 := HB5.out.size
  have he : ((v : Int) == (v : Int)) = true := by simp
  clear hb5
  go_wp2_with fail
  go_ret
  first
    | exact ⟨rfl, HB5.out.alloc hs5 _⟩
    | exact ⟨rfl, (HB5.out.alloc hs5 _).alloc (by simp; omega) _⟩

end Go.Proofs.YtnndoagpbcacdaaGreatDoor
