import Derived.Test.YtnndoagpbcacdaaGreatDoorMI7
import Derived.Test.YtnndoagpbcacdaaGreatDoorMG15
import Derived.Test.YtnndoagpbcacdaaGreatDoorML0
namespace Go.Proofs.YtnndoagpbcacdaaGreatDoor

/-! Nothing is worked out that is not needed: the run. -/
theorem tpl_app {A B : List Tp} {b h : Int} {k : Nat} {t : Tp} (hk : B[k]? = some t) : tplM ⟨A ++ B, b, h⟩ ((A.length + k : Nat) : Int) = t := by
  have hlt := (List.getElem?_eq_some_iff.1 hk).1
  unfold tplM
  simp only
  rw [if_pos ⟨by omega, by rw [List.length_append]; omega⟩, Int.toNat_natCast, List.getElem?_append_right (by omega), show A.length + k - A.length = k by omega, hk]
  rfl
theorem tpl_low {A B : List Tp} {b h : Int} {n : Int} (h0 : 0 ≤ n) (h1 : n < A.length) : tplM ⟨A ++ B, b, h⟩ n = tplM ⟨A, b, h⟩ n := by
  unfold tplM
  simp only
  rw [if_pos ⟨h0, by rw [List.length_append]; omega⟩, if_pos ⟨h0, h1⟩, List.getElem?_append_left (by omega)]
/-- A call that has its arguments, its budget and its room. -/
theorem move_call {c : Cf} {s : Im} {f : Int} {r : Ln} {t : Tp} (hc : s.cur = (3, f) :: r) (ht : tplM c f = t) (har : t.ar ≤ (r.length : Int)) (hb : s.stp < c.bud) (hh : (s.nds.length : Int) + ((t.ls.length : Int) - 1) ≤ c.hp) :
    moveI c s = { s with stp := s.stp + 1, cur := instM (t.ls.headD []) (r.take t.ar.toNat) (idP s.nds.length (t.ls.length - 1)) ++ r.drop t.ar.toNat, nds := s.nds ++ t.ls.tail.map (fun l => (instM l (r.take t.ar.toNat) (idP s.nds.length (t.ls.length - 1)), false)) } := by
  unfold moveI
  have h1 : hdI s.cur = (3, f) := by rw [hc]; rfl
  have h2 : s.cur.tail = r := by rw [hc]; rfl
  simp only [h1, h2]
  rw [if_neg (by decide), if_pos trivial, ht, if_pos har]
  unfold callI
  have := need_le s
  rw [if_neg (by omega), if_neg (by omega)]
theorem un_run (A : List Tp) (v : Int) : (runI ⟨A ++ [⟨0, [[(3, ((A.length + 1 : Nat) : Int)), (1, v), (5, 0)], [(3, 0), (1, 1)]]⟩, ⟨2, [[(2, 0)]]⟩], 2, 24000⟩ A.length).out = 1 ∧ (runI ⟨A ++ [⟨0, [[(3, ((A.length + 1 : Nat) : Int)), (1, v), (5, 0)], [(3, 0), (1, 1)]]⟩, ⟨2, [[(2, 0)]]⟩], 2, 24000⟩ A.length).val = v ∧ (runI ⟨A ++ [⟨0, [[(3, ((A.length + 1 : Nat) : Int)), (1, v), (5, 0)], [(3, 0), (1, 1)]]⟩, ⟨2, [[(2, 0)]]⟩], 2, 24000⟩ A.length).stp = 2 := by
  generalize hB : ([⟨0, [[(3, ((A.length + 1 : Nat) : Int)), (1, v), (5, 0)], [(3, 0), (1, 1)]]⟩, ⟨2, [[(2, 0)]]⟩] : List Tp) = B
  have t0 : tplM ⟨A ++ B, 2, 24000⟩ ((A.length : Nat) : Int) = ⟨0, [[(3, ((A.length + 1 : Nat) : Int)), (1, v), (5, 0)], [(3, 0), (1, 1)]]⟩ := tpl_app (k := 0) (by rw [← hB]; rfl)
  have t1 : tplM ⟨A ++ B, 2, 24000⟩ ((A.length + 1 : Nat) : Int) = ⟨2, [[(2, 0)]]⟩ := tpl_app (k := 1) (by rw [← hB]; rfl)
  have m1 : moveI ⟨A ++ B, 2, 24000⟩ (initI A.length) = ⟨[(3, ((A.length + 1 : Nat) : Int)), (1, v), (5, 0)], [], [([(3, 0), (1, 1)], false)], 1, 0, 0⟩ := by
    rw [move_call (c := ⟨A ++ B, 2, 24000⟩) (s := initI A.length) (r := []) rfl t0 (by simp) (by show (0 : Int) < 2; omega) (by simp [initI])]
    simp [initI, instM, instA, idP]
  have m2 : moveI ⟨A ++ B, 2, 24000⟩ ⟨[(3, ((A.length + 1 : Nat) : Int)), (1, v), (5, 0)], [], [([(3, 0), (1, 1)], false)], 1, 0, 0⟩ = ⟨[(1, v)], [], [([(3, 0), (1, 1)], false)], 2, 0, 0⟩ := by
    rw [move_call (c := ⟨A ++ B, 2, 24000⟩) (r := [(1, v), (5, 0)]) rfl t1 (by simp) (by show (1 : Int) < 2; omega) (by simp)]
    simp [instM, instA, idP]
  have m3 : moveI ⟨A ++ B, 2, 24000⟩ ⟨[(1, v)], [], [([(3, 0), (1, 1)], false)], 2, 0, 0⟩ = ⟨[(1, v)], [], [([(3, 0), (1, 1)], false)], 2, 1, v⟩ := by
    simp [moveI, hdI, delI]
  have h3 : iterI ⟨A ++ B, 2, 24000⟩ 3 (initI A.length) = ⟨[(1, v)], [], [([(3, 0), (1, 1)], false)], 2, 1, v⟩ := by
    rw [iterI, if_pos (show (initI (A.length : Int)).out = 0 from rfl), m1, iterI, if_pos rfl, m2, iterI, if_pos rfl, m3, iterI]
  rw [run_out ⟨A ++ B, 2, 24000⟩ A.length 3 (by rw [h3]; simp) (by omega), h3]
  exact ⟨rfl, rfl, rfl⟩

end Go.Proofs.YtnndoagpbcacdaaGreatDoor
namespace Go.Proofs.YtnndoagpbcacdaaGreatDoor
open Go.RowKit

/-! Unneeded. -/
def unX (n : Nat) (v : Int) : List (Fn 2) := [⟨mainT, [], (3, ((n + 1 : Nat) : Int)), [wE 2 (1, v), aE (3, 0) [wE 1 (1, 1)]]⟩, ⟨[107], [[97], [98]], (2, 0), []⟩]
def unTx (v : Nat) : List UInt8 := [109, 97, 105, 110, 32, 61, 32, 107, 32] ++ (decL v ++ [32, 40, 109, 32, 49, 41, 59, 32, 107, 32, 97, 32, 98, 32, 61, 32, 97, 59])
theorem one_nam (b : UInt8) (h : isL (n8 b) = true) : namP [b] := ⟨b, [], rfl, h, by simp⟩
theorem un_ok (L : List Int) (v : Nat) (hv : v ≤ 999999) (main : ByteArray) (hm : main.data.toList = [109]) (x : ByteArray) (ns : List ByteArray) (hns : NmsB main ns) (hl : ns.length = (progF L).length) (hx : x.data.toList = (fzOf ns (progF L)).flatMap (fzS ns) ++ unTx v) :
    x.size ≤ 1000 ∧ (chk x).2 = 0 ∧ ∃ A : List Tp, codeOf (cAll (toksF x 0)).ds = ⟨(A.length : Int), A ++ [⟨0, [[(3, ((A.length + 1 : Nat) : Int)), (1, (v : Int)), (5, 0)], [(3, 0), (1, 1)]]⟩, ⟨2, [[(2, 0)]]⟩]⟩ ∧ goodC ⟨(A.length : Int), A ++ [⟨0, [[(3, ((A.length + 1 : Nat) : Int)), (1, (v : Int)), (5, 0)], [(3, 0), (1, 1)]]⟩, ⟨2, [[(2, 0)]]⟩]⟩ = true := by
  obtain ⟨p1, p2, p3, p4⟩ := progF_ok L
  have ht := plain_text hns (progF L) hl p3 (unX (progF L).length v)
  rw [hm] at ht
  rw [ht] at hx
  have hlen := plain_len (main := [109]) (by decide) p2 p3 (unX (progF L).length v) (fun f hf => by
    simp only [unX, List.mem_cons, List.not_mem_nil, or_false] at hf
    rcases hf with rfl | rfl
    · show mainT.length ≤ 4; decide
    · show ([107] : List UInt8).length ≤ 4; decide)
  have hdl := decL_six v (by omega)
  have hsz : x.size ≤ 1000 := by rw [size_len, hx, List.length_append]; simp only [unTx, List.length_append, List.length_cons, List.length_nil]; omega
  have hnx : (unX (progF L).length v).map (·.nm) = [mainT, [107]] := rfl
  have hmain : namP [109] ∧ kdL [109] = 1 := ⟨one_nam 109 (by decide), by decide⟩
  obtain ⟨hpr, hnm⟩ := pr_more (σ := σ0) (fun x _ => nz0 x) (main := [109]) p3 p1 p2 (unX (progF L).length v) (by simp [unX]) (nm_ok hmain _ p2)
    (by rw [hnx]; exact names_nd [109] [mainT, [107]] _ p1 p2 (by decide))
    (fun p hp hq => by
      rw [hnx] at hq
      exact (show ∀ p ∈ letL, p ∉ [109] :: ([[102, 49], [102, 50], [102, 51]] ++ ([mainT, [107]] : List (List UInt8))) by decide) p hp (names_in [109] [mainT, [107]] _ p1 p2 hq))
    (fun f hf => by
      simp only [unX, List.mem_cons, List.not_mem_nil, or_false] at hf
      rw [hnx]
      rcases hf with rfl | rfl
      · refine ⟨main_nam, ⟨by simp, by simp, by simp⟩, .inr (.inr (.inl ⟨rfl, by simp only; omega, by simp [unX]⟩)), by simp, ?_, by simp [unA_c, unA_n, unE_w, unE_a]⟩
        intro e he
        simp only [List.mem_cons, List.not_mem_nil, or_false] at he
        rcases he with rfl | rfl
        · rw [ok_w]; exact .inl ⟨rfl, by simp only; omega, by simp only; omega⟩
        · rw [ok_a]
          refine ⟨.inr (.inr (.inl ⟨rfl, by simp, by simp [unX]; omega⟩)), by simp, by simp, ?_⟩
          intro e he
          simp only [List.mem_cons, List.not_mem_nil, or_false] at he
          subst he
          rw [ok_w]
          exact .inl ⟨rfl, by simp, by simp⟩
      · refine ⟨⟨one_nam 107 (by decide), by decide⟩, ⟨by simp, by decide, ?_⟩, .inr (.inl ⟨rfl, by simp, by simp⟩), by simp, by simp, by simp [unA_n]⟩
        intro p hp
        refine ⟨?_, fun hq => (show ∀ p ∈ ([[97], [98]] : List (List UInt8)), p ∉ [109] :: ([[102, 49], [102, 50], [102, 51]] ++ ([mainT, [107]] : List (List UInt8))) by decide) p hp (names_in [109] [mainT, [107]] _ p1 p2 hq)⟩
        simp only [List.mem_cons, List.not_mem_nil, or_false] at hp
        rcases hp with rfl | rfl
        · exact ⟨one_nam 97 (by decide), by decide⟩
        · exact ⟨one_nam 98 (by decide), by decide⟩)
    (fun f hf => ⟨nz0 _, fun e _ => exNz0⟩)
  have hnl : (namedF [109] (progF L)).length = (progF L).length := namedF_len _ _
  have hi : (namedF [109] (progF L) ++ unX (progF L).length v)[(progF L).length]? = some ⟨mainT, [], (3, (((progF L).length + 1 : Nat) : Int)), [wE 2 (1, (v : Int)), aE (3, 0) [wE 1 (1, 1)]]⟩ := by
    rw [List.getElem?_append_right (by omega), hnl, Nat.sub_self]; rfl
  have hnames : ∀ f : Fn 2, nmsOf (namedF [109] (progF L) ++ unX (progF L).length v) f = ⟨nmL [109] (progF L).length ++ [mainT, [107]], f.pn⟩ := fun f => by
    unfold nmsOf; rw [List.map_append, namedF_names, hnx]
  have hk : (nmL [109] (progF L).length ++ [mainT, [107]])[(progF L).length + 1]? = some [107] := by
    rw [List.getElem?_append_right (by rw [nmL_len]; omega), nmL_len, show (progF L).length + 1 - (progF L).length = 1 by omega]; rfl
  have hm0 : (nmL [109] (progF L).length ++ [mainT, [107]])[0]? = some [109] := by
    rw [nmL_four _ _ p1 p2]; rfl
  have hpc : (((unX (progF L).length v).zip [[[32]], []]).flatMap (fun x => fnPc (namedF [109] (progF L) ++ unX (progF L).length v) x.1 ++ x.2)).flatten = unTx v := by
    have d1 : decL 1 = [49] := by rw [decL_lt _ (by omega)]; rfl
    have e : (((progF L).length : Int) + 1).toNat = (progF L).length + 1 := by omega
    clear hi hpr hnm hx hlen ht
    generalize namedF [109] (progF L) ++ unX (progF L).length v = fs at *
    generalize nmL [109] (progF L).length ++ [mainT, [107]] = NL at *
    simp [unX, fnPc, hnames, pcA_c, pcA_n, pc_w, pc_a, wdT, mainT, unTx, hk, hm0, d1, e]
  have h := text_ok (main := main) (fb := progF L) (unX (progF L).length v) [[[32]], []] rfl (by intro b hb p hp; simp at hb; rcases hb with rfl | rfl <;> simp at hp; subst hp; decide) (by rw [hm]; exact hpr) (by rw [hm]; exact hnm) (progF L).length _ (by rw [hm]; exact hi) rfl rfl x hsz (by rw [hm, hx, hpc])
  rw [hm] at h
  obtain ⟨a, b, c, _⟩ := h
  refine ⟨hsz, a, (namedF [109] (progF L)).map fnCode, ?_, ?_⟩
  · rw [b, List.length_map, hnl, List.map_append]
    rfl
  · rw [List.length_map, hnl]
    rw [List.map_append] at c
    exact c

end Go.Proofs.YtnndoagpbcacdaaGreatDoor
