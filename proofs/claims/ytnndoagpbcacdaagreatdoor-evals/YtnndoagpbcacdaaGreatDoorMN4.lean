import Derived.Test.YtnndoagpbcacdaaGreatDoorMN2
import Derived.Laws.AppendOwnNone
namespace Go.Proofs.YtnndoagpbcacdaaGreatDoor
open Go.RowKit

/-! The reference's run: joined. -/
set_option maxRecDepth 100000 in
set_option maxHeartbeats 1000000 in
theorem rJoined (va vb : Value) (la lb : Ln) (T : Nat) (w : World) (ha : Rd w T va la) (hb : Rd w T vb lb) (hl : la.length + lb.length ≤ 30000000) :
    Calls Tryz.prog 143 #[va, vb] w fun e w' => ∃ v, e = .returned v ∧ Below w.heap.size w w' ∧ w'.ownsRow w.heap.size 75 2 v (la ++ lb).length (acs (la ++ lb)) := by
  obtain ⟨i, hi, hz0, hz1, hz2⟩ := info_parts Tryz.infoAtom
  obtain ⟨aa, ca, rfl⟩ := ha.form
  obtain ⟨ab, cb, rfl⟩ := hb.form
  have HA : Hid _ := ha
  have HB : Hid _ := hb
  cases aa with
  | none =>
    obtain ⟨rfl, hn0, rfl⟩ := ha.isNone
    cases ab with
    | none =>
      obtain ⟨rfl, hm0, rfl⟩ := hb.isNone
      go_enter Tryz.func143, Tryz.ntmps143
      go_wp2_with (at_builtin; go_must (refine wpList_append_own_none rfl _ _ _ rfl w.heap.size 75 i 2 Tryz.underlying76 hi (.slice none 0 0) 0 [] rfl (World.ownsRow_nil _ _ _ _) rfl ?_))
      go_ret
      exact ⟨_, rfl, Below.refl _ _, World.ownsRow_nil _ _ _ _⟩
    | some ad =>
      go_enter Tryz.func143, Tryz.ntmps143
      go_wp2_with (at_builtin; go_must (first | refine wpList_append_own_none rfl _ _ _ rfl w.heap.size 75 i 2 Tryz.underlying76 hi (.slice none 0 0) 0 [] rfl (World.ownsRow_nil _ _ _ _) rfl ?_ | refine wpList_append_own_at _ rfl _ _ _ rfl w.heap.size 75 i _ 2 16 Tryz.underlying76 hi hz0 hz1 hz2 rfl (by omega) (.slice none 0 0) 0 [] rfl (World.ownsRow_nil _ _ _ _) _ _ _ (acs lb) rfl ?hl2 ?hnews2 ?h12 ?h632 ?hbytes2 ?hbase2 ?_))
      case hl2 => exact acs_length lb
      case hnews2 => exact Rd.news HB.out
      case h12 => exact acs_one lb
      case h632 => unfold maxLen; simp at hl; omega
      case hbytes2 => simp at hl; omega
      case hbase2 => exact Nat.le_refl _
      intro v1 w1 hown1 hgr1 _ _
      obtain ⟨o1, c1, rfl⟩ := own_form hown1
      have hb1 : Below w.heap.size w w1 := (Below.refl _ w).grown hgr1 (Nat.le_refl _) (fun k hk => by cases hk)
      go_wp2_with fail
      go_ret
      refine ⟨_, rfl, hb1, ?_⟩
      exact hown1
  | some ad =>
    go_enter Tryz.func143, Tryz.ntmps143
    go_wp2_with (at_builtin; go_must (refine wpList_append_own_at _ rfl _ _ _ rfl w.heap.size 75 i _ 2 16 Tryz.underlying76 hi hz0 hz1 hz2 rfl (by omega) (.slice none 0 0) 0 [] rfl (World.ownsRow_nil _ _ _ _) _ _ _ (acs la) rfl ?hl3 ?hnews3 ?h13 ?h633 ?hbytes3 ?hbase3 ?_))
    case hl3 => exact acs_length la
    case hnews3 => exact Rd.news HA.out
    case h13 => exact acs_one la
    case h633 => unfold maxLen; omega
    case hbytes3 => omega
    case hbase3 => exact Nat.le_refl _
    intro v1 w1 hown1 hgr1 _ _
    have hb1 : Below w.heap.size w w1 := (Below.refl _ w).grown hgr1 (Nat.le_refl _) (fun k hk => by cases hk)
    have hown1' : w1.ownsRow w.heap.size 75 2 v1 la.length (acs la) := by simpa using hown1
    have HO : Hid _ := hown1'
    obtain ⟨o1, c1, rfl⟩ := own_form hown1'
    have HBB : Hid (Rd w1 T (.slice ab lb.length cb) lb) := hb.old hb1
    have hs1 := hb1.size
    clear hown1 hown1'
    cases ab with
    | none =>
      obtain ⟨rfl, hm0, rfl⟩ := hb.isNone
      go_wp2_with (at_builtin; go_must (refine wpList_append_own_none rfl _ _ _ rfl w.heap.size 75 i 2 Tryz.underlying76 hi (.slice o1 la.length c1) la.length (acs la) rfl HO.out rfl ?_))
      go_ret
      refine ⟨_, rfl, hb1, ?_⟩
      rw [List.append_nil]
      exact HO.out
    | some ad2 =>
      go_wp2_with (at_builtin; go_must (refine wpList_append_own_at _ rfl _ _ _ rfl w.heap.size 75 i _ 2 16 Tryz.underlying76 hi hz0 hz1 hz2 rfl (by omega) (.slice o1 la.length c1) la.length (acs la) rfl HO.out _ _ _ (acs lb) rfl ?hl4 ?hnews4 ?h14 ?h634 ?hbytes4 ?hbase4 ?_))
      case hl4 => exact acs_length lb
      case hnews4 => exact Rd.news HBB.out
      case h14 => exact acs_one lb
      case h634 => unfold maxLen; omega
      case hbytes4 => omega
      case hbase4 => exact hs1
      intro v2 w2 hown2 hgr2 _ _
      have hb2 : Below w.heap.size w w2 := hb1.grown hgr2 hs1 (fun k hk => (World.ownsRow.lt HO.out k hk).1)
      obtain ⟨o2, c2, rfl⟩ := own_form hown2
      go_wp2_with fail
      go_ret
      refine ⟨_, rfl, hb2, ?_⟩
      rw [List.length_append, show acs (la ++ lb) = acs la ++ acs lb by simp [acs]]
      exact hown2

end Go.Proofs.YtnndoagpbcacdaaGreatDoor
namespace Go.Proofs.YtnndoagpbcacdaaGreatDoor
open Go.RowKit

/-! The reference's run: wants, Sum, count. -/
theorem rWants (p : Int) (w : World) (h0 : 0 ≤ p) (h4 : p ≤ 4) : Calls Tryz.prog 140 #[.int .i64 p] w fun e w' => e = .returned (.int .i64 (wantM p)) ∧ w' = w := by
  have HW : Hid (wantM p = if 2 < p then 4 else 2) := by
    show _ = _
    unfold wantM
    by_cases h : 2 < p
    · rw [if_pos h, if_pos (by omega)]
    · rw [if_neg h, if_neg (by omega)]
  rw [HW.out]
  by_cases h : 2 < p
  · have hd : decide (2 < p) = true := by simpa using h
    rw [if_pos h]
    go_enter Tryz.func140, Tryz.ntmps140
    go_wp2_with fail
    go_ret
    exact ⟨rfl, rfl⟩
  · have hd : decide (2 < p) = false := by simpa using h
    rw [if_neg h]
    go_enter Tryz.func140, Tryz.ntmps140
    go_wp2_with fail
    go_ret
    exact ⟨rfl, rfl⟩
theorem rSum (p x y : Int) (w : World) (hx : -1000000000 ≤ x ∧ x ≤ 1000000000) (hy : -1000000000 ≤ y ∧ y ≤ 1000000000) : Calls Tryz.prog 181 #[.int .i64 p, .int .i64 x, .int .i64 y] w fun e w' => e = .returned (.int .i64 (calcV p x y)) ∧ w' = w := by
  have hm : -1000000000000000000 ≤ x * y ∧ x * y ≤ 1000000000000000000 := by
    have h : (x * y).natAbs ≤ 1000000000 * 1000000000 := by
      rw [Int.natAbs_mul]
      exact Nat.mul_le_mul (by omega) (by omega)
    omega
  by_cases h0 : p = 0
  · subst h0
    go_enter Tryz.func181, Tryz.ntmps181
    go_wp2_with fail
    go_ret
    exact ⟨rfl, rfl⟩
  · by_cases h1 : p = 1
    · subst h1
      go_enter Tryz.func181, Tryz.ntmps181
      go_wp2_with fail
      go_ret
      exact ⟨rfl, rfl⟩
    · have HV : Hid (calcV p x y = x * y) := by show _ = _; unfold calcV; rw [if_neg h0, if_neg h1]
      have e0 : (p == 0) = false := by simpa using h0
      have e1 : (p == 1) = false := by simpa using h1
      rw [HV.out]
      go_enter Tryz.func181, Tryz.ntmps181
      go_wp2_with fail
      go_ret
      exact ⟨rfl, rfl⟩
def bls (l : List Bool) : List Value := l.map Value.bool
theorem cT_snoc (l : List Bool) (k : Nat) (h : k < l.length) : cT (l.take (k + 1)) = cT (l.take k) + (if l[k] then 1 else 0) := by
  rw [List.take_succ_eq_append_getElem h]
  have app : ∀ a b : List Bool, cT (a ++ b) = cT a + cT b := by
    intro a
    induction a with
    | nil => intro b; simp [cT]
    | cons x a ih => intro b; rw [List.cons_append, cT, cT, ih]; omega
  rw [app]; simp [cT]
set_option maxHeartbeats 1000000 in
theorem rCount (b n cap : Nat) (S : List Bool) (w : World) (hn : n = S.length) (hr : w.ownsRow 0 4 1 (.slice (some ⟨b, 0, none⟩) n cap) n (bls S)) (hl : S.length ≤ 10000000) :
    Calls Tryz.prog 197 #[.slice (some ⟨b, 0, none⟩) n cap] w fun e w' => e = .returned (.int .i64 (cT S : Nat)) ∧ w' = w := by
  subst hn
  have hcap := own_cap hr
  go_enter Tryz.func197, Tryz.ntmps197
  go_wp2_with fail
  go_loopw [3, 4] (fun y z wr => ∃ k : Nat, k ≤ S.length ∧ z = .int .i64 k ∧ y = .int .i64 (cT (S.take k) : Nat) ∧ wr = w) (fun _ z _ => S.length - (intOf z).toNat)
  case atStart => exact ⟨0, by omega, rfl, rfl, rfl⟩
  case round =>
    obtain ⟨k, hk, rfl, rfl, rfl⟩ := hrel
    have hct : cT (S.take k) ≤ k := Nat.le_trans (cT_le _) (by rw [List.length_take]; omega)
    by_cases hkl : k < S.length
    · have hc : wr.cell? ⟨b, k, none⟩ = some (.bool S[k]) := row_cell hr k _ (by simp [bls, hkl])
      have HS : Hid (cT (S.take (k + 1)) = cT (S.take k) + (if S[k] then 1 else 0)) := cT_snoc S k hkl
      generalize cT (S.take k) = m at *
      cases hb : S[k]
      · rw [hb] at hc HS
        go_wp2_with fail
        go_roundw
        case rel => exact ⟨k + 1, by omega, by go_num, by rw [HS.out]; rfl, trivial⟩
        case measure => simp [intOf]; omega
      · rw [hb] at hc HS
        go_wp2_with fail
        go_roundw
        case rel => exact ⟨k + 1, by omega, by go_num, by rw [HS.out]; go_num, trivial⟩
        case measure => simp [intOf]; omega
    · have hk2 : k = S.length := by omega
      have HS : Hid (cT (S.take k) = cT S) := by rw [hk2, List.take_length]; exact rfl
      have HK : Hid (k = S.length) := hk2
      have hkd : decide ((k : Int) < (S.length : Int)) = false := decide_eq_false (by omega)
      clear hk2
      generalize cT (S.take k) = m at *
      go_wp2_with fail
      go_ret
      exact ⟨by rw [HS.out]; rfl, rfl⟩

theorem bls_set (S : List Bool) (k : Nat) : (bls S).set k (.bool true) = bls (S.set k true) := by unfold bls; rw [List.map_set]
theorem mrk_take (l : Ln) (S : List Bool) (k : Nat) (h : k < l.length) : mrk (l.take (k + 1)) S = (if l[k].1 = 5 then (mrk (l.take k) S).set l[k].2.toNat true else mrk (l.take k) S) := by
  rw [List.take_succ_eq_append_getElem h, mrk_app]; rfl
theorem bls_at (S : List Bool) (k : Nat) (h : k < S.length) : (bls S)[k]? = some (.bool S[k]) := by simp [bls, h]
set_option maxRecDepth 100000 in
set_option maxHeartbeats 1000000 in
theorem rReach (lv : Value) (l : Ln) (b n cap B T : Nat) (S : List Bool) (w : World) (hl : Rd w T lv l) (hn : n = S.length) (hr : w.ownsRow B 4 1 (.slice (some ⟨b, 0, none⟩) n cap) n (bls S)) (hv : ∀ a ∈ l, a.1 = 5 → 0 ≤ a.2 ∧ a.2 < S.length) (hT : T ≤ b) (hll : l.length ≤ 10000000) :
    Calls Tryz.prog 196 #[lv, .slice (some ⟨b, 0, none⟩) n cap] w fun e w' => e = .returned (.tuple #[]) ∧ But b w w' ∧ w'.ownsRow B 4 1 (.slice (some ⟨b, 0, none⟩) n cap) n (bls (mrk l S)) := by
  subst hn
  have hcap := own_cap hr
  obtain ⟨cs, hbb⟩ := rowB hr
  have hbl := (Array.getElem?_eq_some_iff.1 hbb).1
  have HL : Hid (Rd w T lv l) := hl
  obtain ⟨a, lcap, rfl⟩ := hl.form
  have HN : Hid (∀ lb off, a = some ⟨lb, off, none⟩ → 0 < l.length → lb ≠ b) := by
    intro lb off e h0 e2
    subst e2
    subst e
    obtain ⟨a', cap', h1, _, _, _, h4⟩ := hl
    cases h1
    rcases h4 with h4 | ⟨b', off', e', _, hb, _⟩
    · omega
    cases e'
    rcases hb with hb | ⟨ds, hb⟩
    · omega
    · rw [hbb] at hb; simp at hb
  clear hl
  go_enter Tryz.func196, Tryz.ntmps196
  go_wp2_with fail
  go_loopw [4] (fun z wr => ∃ k : Nat, k ≤ l.length ∧ z = .int .i64 k ∧ w.heap.size ≤ wr.heap.size ∧ Hid (But b w wr) ∧ Hid (wr.ownsRow B 4 1 (.slice (some ⟨b, 0, none⟩) S.length cap) S.length (bls (mrk (l.take k) S)))) (fun z _ => l.length - (intOf z).toNat)
  case atStart => exact ⟨0, by omega, rfl, Nat.le_refl _, But.refl _ _, hr⟩
  case round =>
    obtain ⟨k, hk, rfl, hsz, HB, HR⟩ := hrel
    clear hr hbb
    by_cases hkl : k < l.length
    · obtain ⟨lb, off, c2, e, hlb⟩ := HL.out.isSome (by omega)
      cases e
      have hne := HN.out lb off rfl (by omega)
      have hc := Rd.at HL.out k hkl
      have hsame := HB.out.oth lb hlb hne
      rw [← cell_same hsame, ← cell_same hsame] at hc
      obtain ⟨c0, c1⟩ := hc
      have hlw : lb < wr.heap.size := by omega
      have hbw : b < wr.heap.size := by omega
      have HM : Hid _ := mrk_take l S k hkl
      have HML : Hid _ := mrk_len (l.take k) S
      have hvk := hv l[k] (List.getElem_mem hkl)
      generalize l[k] = at_ at *
      obtain ⟨ka, na⟩ := at_
      simp only at c0 c1 hvk HM
      by_cases h5 : ka = 5
      · subst h5
        obtain ⟨hv0, hv1⟩ := hvk rfl
        obtain ⟨m, rfl⟩ := Int.eq_ofNat_of_zero_le hv0
        have hm : m < S.length := by omega
        have d0 : wr.cell? ⟨b, m, none⟩ = some (.bool ((mrk (l.take k) S)[m]'(by rw [HML.out]; exact hm))) := row_cell HR.out m _ (bls_at _ _ (by rw [HML.out]; exact hm))
        have f0 := rowF HR.out m
        have HR2 : Hid _ := ownsRow_store (j := m) (.bool true) HR.out
        rw [bls_set] at HR2
        rw [if_pos rfl, Int.toNat_natCast] at HM
        generalize mrk (l.take k) S = M at *
        go_wp2_with fail
        go_roundw
        case rel => exact ⟨k + 1, by omega, by go_num, by simp [World.setCell]; omega, HB.out.set, by rw [HM.out]; exact HR2.out⟩
        case measure => simp [intOf]; omega
      · have h5' : (ka == 5) = false := by simpa using h5
        rw [if_neg h5] at HM
        generalize mrk (l.take k) S = M at *
        go_wp2_with fail
        go_roundw
        case rel => exact ⟨k + 1, by omega, by go_num, hsz, HB.out, by rw [HM.out]; exact HR.out⟩
        case measure => simp [intOf]; omega
    · have HK : Hid (l.take k = l) := List.take_of_length_le (by omega)
      have hkd : decide ((k : Int) < (l.length : Int)) = false := decide_eq_false (by omega)
      go_wp2_with fail
      refine bodyPost_end (v := .tuple #[]) (by simp [results, Tryz.results196, go_sem]) rfl ⟨rfl, HB.out, ?_⟩
      have := HR.out
      rw [HK.out] at this
      exact this

end Go.Proofs.YtnndoagpbcacdaaGreatDoor
