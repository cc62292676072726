import Derived.Test.YtnndoagpbcacdaaGreatDoorR7
namespace Go.Proofs.YtnndoagpbcacdaaGreatDoor
open Go.RowKit

set_option maxHeartbeats 400000 in
theorem rWhere (v : Value) (ts : List Tk) (m : Nat) (n : ByteArray) (w : World) (hl : ts.length ≤ 1000000) (hm : m ≤ ts.length) (hv : w.ownsRow 0 201 2 v ts.length (rcs ts)) :
    Calls Tryz.prog 131 #[v, .int .i64 m, .string n] w fun e w' => e = .returned (.int .i64 (whr (ts.take m) n)) ∧ w' = w := by
  obtain ⟨ao, cap, rfl⟩ := own_form hv
  go_enter Tryz.func131, Tryz.ntmps131
  go_wp2_with fail
  go_loop [7] (fun a => ∃ (k : Nat), k ≤ m ∧ a = .int .i64 k ∧ Hid (∀ j (h : j < ts.length), j < k → (ts[j].txt.toList == n.toList) = false)) (fun a => m - (intOf a).toNat)
  case atStart => exact ⟨0, Nat.zero_le _, rfl, fun j _ h => by omega⟩
  case round =>
    obtain ⟨k, hk, rfl, HH⟩ := hrel
    by_cases hlt : k < m
    · have hlt2 : k < ts.length := by omega
      obtain ⟨q, cap', hq, _, hqlt⟩ := hv.form (by omega)
      cases hq
      have ⟨t0, t1⟩ := rcs_at ts k hlt2
      have d0 := row_cell hv _ _ t0
      clear t0 t1
      cases he : (ts[k].txt.toList == n.toList)
      · have HH2 : Hid (∀ j (h : j < ts.length), j < k + 1 → (ts[j].txt.toList == n.toList) = false) := by
          intro j h hj
          by_cases hjk : j = k
          · subst hjk; exact he
          · exact HH.out j h (by omega)
        clear HH
        go_wp2_with fail
        go_round
        case rel => exact ⟨k + 1, by omega, by go_num, HH2⟩
        case measure => simp [intOf]; omega
      · have HE : Hid (whr (ts.take m) n = (k : Int)) := by
          have : (ts.take m).findIdx? (fun t => t.txt.toList == n.toList) = some k := by
            rw [List.findIdx?_eq_some_iff_getElem]
            refine ⟨by simp; omega, by rw [List.getElem_take]; exact he, ?_⟩
            intro j hj
            rw [List.getElem_take]
            have := HH.out j (by omega) hj
            simp [this]
          show whr _ _ = _
          unfold whr; rw [this]
        go_wp2_with fail
        go_ret
        exact ⟨ret_int HE.out.symm, rfl⟩
    · have HE : Hid (whr (ts.take m) n = -1) := by
        have : (ts.take m).findIdx? (fun t => t.txt.toList == n.toList) = none := by
          rw [List.findIdx?_eq_none_iff]
          intro x hx
          obtain ⟨j, hj, rfl⟩ := List.mem_iff_getElem.1 hx
          rw [List.getElem_take]
          simp only [List.length_take] at hj
          exact HH.out j (by omega) (by omega)
        show whr _ _ = _
        unfold whr; rw [this]
      go_wp2_with fail
      go_ret
      exact ⟨ret_int HE.out.symm, rfl⟩

theorem RDList.at {w : World} {T : Nat} {ts : List Tk} : ∀ {ds : List Df} {xs : List Value}, RDList w T ts ds xs → ∀ (i : Nat) (h : i < ds.length), ∃ pv a b, xs[i * 5]? = some (.string (ds[i]'h).name.txt) ∧ xs[i * 5 + 1]? = some (.int .i64 (ds[i]'h).name.pos) ∧ xs[i * 5 + 2]? = some pv ∧ xs[i * 5 + 3]? = some (.int .i64 (a : Nat)) ∧ xs[i * 5 + 4]? = some (.int .i64 (b : Nat)) ∧ RDOk w T ts (ds[i]'h) pv a b
  | [], _, _, i, h => by simp at h
  | d :: ds, _, ⟨pv, a, b, r, rfl, h2, h3⟩, 0, _ => ⟨pv, a, b, rfl, rfl, rfl, rfl, rfl, h2⟩
  | d :: ds, _, ⟨pv, a, b, r, rfl, h2, h3⟩, i + 1, h => by
    obtain ⟨p, a', b', e0, e1, e2, e3, e4, e5⟩ := RDList.at h3 i (by simpa using h)
    refine ⟨p, a', b', ?_, ?_, ?_, ?_, ?_, e5⟩
    · rw [show (i + 1) * 5 = i * 5 + 1 + 1 + 1 + 1 + 1 by omega]; exact e0
    · rw [show (i + 1) * 5 + 1 = (i * 5 + 1) + 1 + 1 + 1 + 1 + 1 by omega]; exact e1
    · rw [show (i + 1) * 5 + 2 = (i * 5 + 2) + 1 + 1 + 1 + 1 + 1 by omega]; exact e2
    · rw [show (i + 1) * 5 + 3 = (i * 5 + 3) + 1 + 1 + 1 + 1 + 1 by omega]; exact e3
    · rw [show (i + 1) * 5 + 4 = (i * 5 + 4) + 1 + 1 + 1 + 1 + 1 by omega]; exact e4

set_option maxHeartbeats 1000000 in
theorem rHeads (v : Value) (ts : List Tk) (ds : List Df) (xs : List Value) (T : Nat) (w : World) (hl : ds.length ≤ 1000000) (hv : w.ownsRow 0 208 5 v ds.length xs) (hd : RDList w T ts ds xs) (hT : T ≤ w.heap.size) :
    Calls Tryz.prog 130 #[v] w fun e w' => ∃ fv, e = .returned fv ∧ Below w.heap.size w w' ∧ w'.ownsRow w.heap.size 201 2 fv ds.length (rcs (ds.map (·.name))) := by
  obtain ⟨i, hi, hz0, hz1, hz2⟩ := info_parts Tryz.infoRTok
  obtain ⟨ao, cap, rfl⟩ := own_form hv
  go_enter Tryz.func130, Tryz.ntmps130
  go_wp2_with fail
  go_loopw [3, 4] (fun fv a wr => ∃ (k : Nat), k ≤ ds.length ∧ a = .int .i64 k ∧ Below w.heap.size w wr ∧ wr.ownsRow w.heap.size 201 2 fv k (rcs ((ds.take k).map (·.name)))) (fun _ a _ => ds.length - (intOf a).toNat)
  case atStart => exact ⟨0, Nat.zero_le _, rfl, Below.refl _ _, World.ownsRow_nil _ _ _ _⟩
  case round =>
    obtain ⟨k, hk, rfl, hb, hrow⟩ := hrel
    have hbsz := hb.size
    by_cases hlt : k < ds.length
    · obtain ⟨q, cap', hq, _, hqlt⟩ := hv.form (by omega)
      cases hq
      have hvr := ownsRow_old hv hb
      obtain ⟨pv, a, b, t0, t1, t2, t3, t4, hok⟩ := (hd.keep (hb.mono hT)).at k hlt
      have d0 := row_cell hvr _ _ t0
      have d1 := row_cell hvr _ _ t1
      clear t0 t1 t2 t3 t4 hvr hok
      go_wp2_with (at_builtin; go_must (refine wpList_append_lies _ rfl _ _ _ rfl w.heap.size 201 i _ 2 24 Tryz.underlying138 hi hz0 hz1 hz2 rfl (by omega) u3 k (rcs ((ds.take k).map (·.name))) rfl ?hown _ 1 _ (rcells ds[k].name) rfl rfl ?hnews ?h1 (by omega) ?h63 ?hbytes ?hbase _ rfl ?_))
      case hown => exact hrow.alloc _
      case hnews => first | exact fun _ _ h => h | exact World.news_of_block (heap_alloc_new wr _)
      case h1 => exact rcells_one _
      case h63 => unfold maxLen; omega
      case hbytes => omega
      case hbase => first | omega | (simp; omega)
      intro g cap1 w1 hown1 hgrow hat hlt1
      have hbf := (hb.alloc hb.size _).grown hgrow (by simp; omega) (fun q hq => (hrow.lt q hq).1)
      clear hi hz0 hz1 hz2 d0 d1
      go_wp2_with fail
      go_roundw
      case rel =>
        refine ⟨k + 1, by omega, by go_num, hbf, ?_⟩
        rw [List.take_succ_eq_append_getElem hlt, List.map_append, List.map_cons, List.map_nil, rcs_snoc]
        first | exact hown1 | (rw [List.map_take]; exact hown1)
      case measure => simp [intOf]; omega
    · have hk2 : k = ds.length := by omega
      subst hk2
      rw [List.take_length] at hrow
      go_wp2_with fail
      go_ret
      exact ⟨_, rfl, hb, hrow⟩

end Go.Proofs.YtnndoagpbcacdaaGreatDoor
