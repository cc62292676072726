import Derived.Test.YtnndoagpbcacdaaGreatDoorMR6
import Derived.Test.YtnndoagpbcacdaaGreatDoorMB1
import Derived.Test.YtnndoagpbcacdaaGreatDoorMB0
namespace Go.Proofs.YtnndoagpbcacdaaGreatDoor
open Go.RowKit

set_option maxHeartbeats 1000000 in
theorem rValue (s : ByteArray) (w : World) (hs : s.size ≤ 6) (hd : digL s.data.toList) :
    Calls Tryz.prog 195 #[.string s] w fun e w' => e = .returned (.int .i64 (valL s.data.toList)) ∧ w' = w := by
  have HSL : Hid (s.size = s.data.toList.length) := size_len s
  go_enter Tryz.func195, Tryz.ntmps195
  go_wp2_with fail
  go_loop [3, 4] (fun a b => ∃ k : Nat, k ≤ s.size ∧ b = .int .i64 k ∧ a = .int .i64 (valL (s.data.toList.take k))) (fun _ b => s.size - (intOf b).toNat)
  case atStart => exact ⟨0, Nat.zero_le _, rfl, rfl⟩
  case round =>
    obtain ⟨k, hk, rfl, rfl⟩ := hrel
    by_cases hlt : k < s.size
    · have hkl : k < s.data.toList.length := by rw [← HSL.out]; exact hlt
      have hbk := bt_eq s k hlt
      have hbg := bt_get s k hkl
      have hdk := hd _ (List.getElem_mem hkl)
      have hb1 : 48 ≤ bt s k := by rw [hbg]; omega
      have hb2 : bt s k ≤ 57 := by rw [hbg]; omega
      have hv := valL_le (s.data.toList.take k) (fun c hc => hd c (List.mem_of_mem_take hc))
      have hv0 := hv.1
      have hv1 : valL (s.data.toList.take k) ≤ 99999 := by
        have h1 := hv.2
        have h2 : (s.data.toList.take k).length ≤ 5 := by rw [List.length_take]; omega
        have h3 : (10 : Int) ^ (s.data.toList.take k).length ≤ 10 ^ 5 := by exact_mod_cast Nat.pow_le_pow_right (by decide) h2
        have h4 : (10 : Int) ^ 5 = 100000 := by decide
        omega
      have HN : Hid (valL (s.data.toList.take (k + 1)) = 10 * valL (s.data.toList.take k) + bt s k - 48) := by
        show _ = _
        rw [List.take_succ_eq_append_getElem hkl, valL_snoc, hbg]; omega
      clear hv hbg hdk
      go_wp2_with fail
      go_round
      case rel => exact ⟨k + 1, hlt, by go_num, by rw [HN.out]⟩
      case measure => simp [intOf]; omega
    · have hk2 : k = s.size := by omega
      have HE : Hid (s.data.toList.take k = s.data.toList) := List.take_of_length_le (by rw [← HSL.out]; omega)
      rw [HE.out]
      go_wp2_with fail
      go_ret
      exact ⟨rfl, rfl⟩

/-- What an atom is: its kind and its number. -/
def knownF (ps names : List Tk) (t : Tk) : Int × Int :=
  if 0 ≤ primL t.txt.toList then (4, primL t.txt.toList) else if 0 ≤ whr ps t.txt then (2, whr ps t.txt) else if 0 ≤ whr names t.txt then (3, whr names t.txt) else (1, valL t.txt.data.toList)

set_option maxHeartbeats 4000000 in
theorem rKnown (t d : Tk) (ps names : List Tk) (pv fv : Value) (fa ta : Int) (w : World) (hlp : ps.length ≤ 1000000) (hln : names.length ≤ 1000000) (hp : w.ownsRow 0 201 2 pv ps.length (rcs ps)) (hf : w.ownsRow 0 201 2 fv names.length (rcs names))
    (hnum : (knownF ps names t).1 = 1 → t.txt.size ≤ 6 ∧ digL t.txt.data.toList) :
    Calls Tryz.prog 173 #[.agg #[.string t.txt, .int .i64 t.pos], .agg #[.string d.txt, .int .i64 d.pos, pv, .int .i64 fa, .int .i64 ta], fv] w fun e w' => e = .returned (.agg #[.int .i64 (knownF ps names t).1, .int .i64 (knownF ps names t).2, .slice none 0 0]) ∧ Below w.heap.size w w' := by
  obtain ⟨po, pcap, rfl⟩ := own_form hp
  obtain ⟨fo, fcap, rfl⟩ := own_form hf
  by_cases p0 : 0 ≤ primL t.txt.toList
  · have HK : Hid (knownF ps names t = (4, primL t.txt.toList)) := by show _ = _; unfold knownF; rw [if_pos p0]
    rw [HK.out]
    clear hnum
    go_enter Tryz.func173, Tryz.ntmps173
    go_wp2_with fail
    refine (rPrimitive _ _).mono ?_
    rintro e w1 ⟨rfl, rfl⟩
    go_wp2_with fail
    refine (rWhere _ ps ps.length _ _ hlp (Nat.le_refl _) (((hp.alloc _).alloc _).alloc _)).mono ?_
    rintro e w1 ⟨rfl, rfl⟩
    rw [List.take_length]
    go_wp2_with fail
    refine (rWhere _ names names.length _ _ hln (Nat.le_refl _) (((hf.alloc _).alloc _).alloc _)).mono ?_
    rintro e w1 ⟨rfl, rfl⟩
    rw [List.take_length]
    go_wp2_with fail
    exact bodyPost_ret (v := .agg #[.int .i64 4, .int .i64 (primL t.txt.toList), .slice none 0 0]) (by simp [results, Tryz.results173, go_sem]) rfl ⟨rfl, (((Below.refl _ _).alloc (Nat.le_refl _) _).alloc (by simp) _).alloc (by simp; omega) _⟩
  · by_cases p1 : 0 ≤ whr ps t.txt
    · have HK : Hid (knownF ps names t = (2, whr ps t.txt)) := by show _ = _; unfold knownF; rw [if_neg p0, if_pos p1]
      rw [HK.out]
      clear hnum
      go_enter Tryz.func173, Tryz.ntmps173
      go_wp2_with fail
      refine (rPrimitive _ _).mono ?_
      rintro e w1 ⟨rfl, rfl⟩
      go_wp2_with fail
      refine (rWhere _ ps ps.length _ _ hlp (Nat.le_refl _) (((hp.alloc _).alloc _).alloc _)).mono ?_
      rintro e w1 ⟨rfl, rfl⟩
      rw [List.take_length]
      go_wp2_with fail
      refine (rWhere _ names names.length _ _ hln (Nat.le_refl _) (((hf.alloc _).alloc _).alloc _)).mono ?_
      rintro e w1 ⟨rfl, rfl⟩
      rw [List.take_length]
      go_wp2_with fail
      exact bodyPost_ret (v := .agg #[.int .i64 2, .int .i64 (whr ps t.txt), .slice none 0 0]) (by simp [results, Tryz.results173, go_sem]) rfl ⟨rfl, (((Below.refl _ _).alloc (Nat.le_refl _) _).alloc (by simp) _).alloc (by simp; omega) _⟩
    · by_cases p2 : 0 ≤ whr names t.txt
      · have HK : Hid (knownF ps names t = (3, whr names t.txt)) := by show _ = _; unfold knownF; rw [if_neg p0, if_neg p1, if_pos p2]
        rw [HK.out]
        clear hnum
        go_enter Tryz.func173, Tryz.ntmps173
        go_wp2_with fail
        refine (rPrimitive _ _).mono ?_
        rintro e w1 ⟨rfl, rfl⟩
        go_wp2_with fail
        refine (rWhere _ ps ps.length _ _ hlp (Nat.le_refl _) (((hp.alloc _).alloc _).alloc _)).mono ?_
        rintro e w1 ⟨rfl, rfl⟩
        rw [List.take_length]
        go_wp2_with fail
        refine (rWhere _ names names.length _ _ hln (Nat.le_refl _) (((hf.alloc _).alloc _).alloc _)).mono ?_
        rintro e w1 ⟨rfl, rfl⟩
        rw [List.take_length]
        go_wp2_with fail
        exact bodyPost_ret (v := .agg #[.int .i64 3, .int .i64 (whr names t.txt), .slice none 0 0]) (by simp [results, Tryz.results173, go_sem]) rfl ⟨rfl, (((Below.refl _ _).alloc (Nat.le_refl _) _).alloc (by simp) _).alloc (by simp; omega) _⟩
      · have HK : Hid (knownF ps names t = (1, valL t.txt.data.toList)) := by show _ = _; unfold knownF; rw [if_neg p0, if_neg p1, if_neg p2]
        obtain ⟨hs6, hdg⟩ := hnum (by rw [HK.out])
        rw [HK.out]
        go_enter Tryz.func173, Tryz.ntmps173
        go_wp2_with fail
        refine (rPrimitive _ _).mono ?_
        rintro e w1 ⟨rfl, rfl⟩
        go_wp2_with fail
        refine (rWhere _ ps ps.length _ _ hlp (Nat.le_refl _) (((hp.alloc _).alloc _).alloc _)).mono ?_
        rintro e w1 ⟨rfl, rfl⟩
        rw [List.take_length]
        go_wp2_with fail
        refine (rWhere _ names names.length _ _ hln (Nat.le_refl _) (((hf.alloc _).alloc _).alloc _)).mono ?_
        rintro e w1 ⟨rfl, rfl⟩
        rw [List.take_length]
        go_wp2_with fail
        refine (rValue _ _ hs6 hdg).mono ?_
        rintro e w1 ⟨rfl, rfl⟩
        go_wp2_with fail
        exact bodyPost_ret (v := .agg #[.int .i64 1, .int .i64 (valL t.txt.data.toList), .slice none 0 0]) (by simp [results, Tryz.results173, go_sem]) rfl ⟨rfl, (((Below.refl _ _).alloc (Nat.le_refl _) _).alloc (by simp) _).alloc (by simp; omega) _⟩

end Go.Proofs.YtnndoagpbcacdaaGreatDoor
namespace Go.Proofs.YtnndoagpbcacdaaGreatDoor
open Go.RowKit

set_option maxRecDepth 100000 in
set_option maxHeartbeats 1000000 in
theorem rDecimal (f : Nat) : ∀ (n : Nat) (w : World), n ≤ f → n ≤ 1000000 →
    Calls Tryz.prog 92 #[.int .i64 n] w fun e w' => ∃ x : ByteArray, e = .returned (.string x) ∧ x.data.toList = decL n ∧ Below w.heap.size w w' := by
  induction f with
  | zero =>
    intro n w hn hm
    have hn0 : n = 0 := by omega
    subst hn0
    have kc := conv_byte
    go_enter Tryz.func92, Tryz.ntmps92
    go_wp2_with fail
    go_ret
    exact ⟨_, rfl, by rw [decL_lt 0 (by decide)]; rfl, (Below.refl _ _).alloc (Nat.le_refl _) _⟩
  | succ f ih =>
    intro n w hn hm
    have kc := conv_byte
    have HIH : Hid _ := ih
    clear ih
    by_cases h10 : n < 10
    · have HD : Hid (decL n = [UInt8.ofNat (48 + n)]) := decL_lt n h10
      go_enter Tryz.func92, Tryz.ntmps92
      go_wp2_with fail
      go_ret
      refine ⟨_, rfl, ?_, (Below.refl _ _).alloc (Nat.le_refl _) _⟩
      rw [HD.out]
      show [UInt8.ofNat (48 + (n : Int) % 10).toNat] = _
      rw [show (48 + (n : Int) % 10).toNat = 48 + n by omega]
    · have HD : Hid (decL n = decL (n / 10) ++ [UInt8.ofNat (48 + n % 10)]) := decL_ge n h10
      go_enter Tryz.func92, Tryz.ntmps92
      go_wp2_with fail
      have ed : (n : Int) / 10 = ((n / 10 : Nat) : Int) := by omega
      rw [ed]
      have HC := HIH.out (n / 10) (w.alloc (Obj.cells #[.int .u8 (48 + (n : Int) % 10)] 5)) (by omega) (by omega)
      refine (show Calls _ _ _ _ _ from HC).mono ?_
      clear HC HIH ed
      rintro e w1 ⟨x, rfl, hx, hb1⟩
      have hxs : x.size ≤ 1000000 := by rw [size_len, hx]; have := decL_len (n / 10); omega
      have hb2 : Below w.heap.size w w1 := ((Below.refl _ _).alloc (Nat.le_refl _) _).trans (hb1.mono (by simp))
      have HX : Hid _ := hx
      have hss : (strOfNums [48 + (n : Int) % 10]).size = 1 := rfl
      clear hx hb1
      go_wp2_with fail
      go_ret
      refine ⟨_, rfl, ?_, hb2⟩
      rw [show ∀ a b : ByteArray, (a ++ b).data.toList = a.data.toList ++ b.data.toList from fun a b => by simp [ByteArray.data_append], HX.out, HD.out]
      show _ ++ [UInt8.ofNat (48 + (n : Int) % 10).toNat] = _
      rw [show (48 + (n : Int) % 10).toNat = 48 + n % 10 by omega]

/-! A number's digits without needless noughts are its value's. -/
theorem dec_snoc (v : Nat) (c : UInt8) (h : 48 ≤ c.toNat ∧ c.toNat ≤ 57) (hv : 0 < v) : decL (10 * v + (c.toNat - 48)) = decL v ++ [c] := by
  rw [decL_ge _ (by omega), show (10 * v + (c.toNat - 48)) / 10 = v by omega, show (10 * v + (c.toNat - 48)) % 10 = c.toNat - 48 by omega, show 48 + (c.toNat - 48) = c.toNat by omega]
  simp
theorem fold_nat (l : List UInt8) : ∀ acc : Nat, digL l → l.foldl (fun n c => 10 * n + ((c.toNat : Int) - 48)) (acc : Int) = ((l.foldl (fun n c => 10 * n + (c.toNat - 48)) acc : Nat) : Int) := by
  induction l with
  | nil => intro acc _; rfl
  | cons c r ih =>
    intro acc h
    have hc := h c (by simp)
    rw [List.foldl_cons, List.foldl_cons, ← ih _ (fun x hx => h x (by simp [hx]))]
    congr 1
    omega
theorem dec_fold (l : List UInt8) : ∀ v : Nat, digL l → 0 < v → decL (l.foldl (fun n c => 10 * n + (c.toNat - 48)) v) = decL v ++ l := by
  induction l with
  | nil => intro v _ _; simp
  | cons c r ih =>
    intro v h hv
    have hc := h c (by simp)
    rw [List.foldl_cons, ih _ (fun x hx => h x (by simp [hx])) (by omega), dec_snoc v c hc hv]
    simp
theorem dec_val (l : List UInt8) (h : digL l) (h0 : l ≠ []) : decL (valL l).toNat = dropZ l := by
  have hv : valL l = ((l.foldl (fun n c => 10 * n + (c.toNat - 48)) 0 : Nat) : Int) := fold_nat l 0 h
  rw [hv, Int.toNat_natCast]
  clear hv
  induction l with
  | nil => exact absurd rfl h0
  | cons c r ih =>
    have hc := h c (by simp)
    have hr : digL r := fun x hx => h x (by simp [hx])
    rw [List.foldl_cons]
    cases r with
    | nil =>
      simp only [List.foldl_nil, dropZ]
      rw [decL_lt _ (by omega), show 48 + (10 * 0 + (c.toNat - 48)) = c.toNat by omega]
      simp
    | cons d r =>
      rw [dropZ]
      by_cases h48 : c = 48
      · rw [if_pos h48]
        have : 10 * 0 + (c.toNat - 48) = 0 := by rw [h48]; rfl
        rw [this]
        exact ih hr (by simp)
      · rw [if_neg h48]
        have hpos : 0 < 10 * 0 + (c.toNat - 48) := by
          have : c.toNat ≠ 48 := fun e => h48 (UInt8.toNat_inj.1 (by rw [e]; rfl))
          omega
        rw [dec_fold _ _ hr hpos, decL_lt _ (by omega), show 48 + (10 * 0 + (c.toNat - 48)) = c.toNat by omega]
        simp

end Go.Proofs.YtnndoagpbcacdaaGreatDoor
