import Derived.Test.YtnndoagpbcacdaaGreatDoorMN2
import Derived.Test.YtnndoagpbcacdaaGreatDoorMM2
import Derived.Test.YtnndoagpbcacdaaGreatDoorMI7
namespace Go.Proofs.YtnndoagpbcacdaaGreatDoor

/-! The rounds of worth, by the moves of the machine. -/
theorem ev_val {c : Cf} {ks : List Kf} {k : Nat} {s U : Im} (he : Ev c ks k s U) (hk : s.ks = ks) (hv : isVal c s.cur) : k = 0 ∧ U = s := by
  cases k with
  | zero => exact ⟨rfl, he.1⟩
  | succ k => exact absurd ⟨hk, hv⟩ he.2.1
theorem ev_out {c : Cf} {ks : List Kf} {k : Nat} {s U : Im} (he : Ev c ks k s U) (ho : s.out ≠ 0) : k = 0 ∧ U = s := by
  cases k with
  | zero => exact ⟨rfl, he.1⟩
  | succ k => exact absurd he.1 ho
theorem ev_move {c : Cf} {ks : List Kf} {k : Nat} {s U : Im} (he : Ev c ks k s U) (ho : s.out = 0) (hv : ¬ (s.ks = ks ∧ isVal c s.cur)) : ∃ k', k = k' + 1 ∧ Ev c ks k' (moveI c s) U := by
  cases k with
  | zero => rcases he.2 with h | h
            · exact absurd ho h
            · exact absurd h hv
  | succ k => exact ⟨k, rfl, he.2.2⟩
theorem not_self {f : Kf} {ks : List Kf} : ¬ (f :: ks = ks) := fun h => by have := congrArg List.length h; simp at this
theorem val_del {c : Cf} {s : Im} (hv : isVal c s.cur) : moveI c s = delI c (hdI s.cur) s := by
  rcases move_cases c s with ⟨g, _⟩ | ⟨g, g2, _⟩ | ⟨g, g2, _⟩ | ⟨g1, g2, g3, g4, _⟩ | ⟨_, g⟩
  · exact absurd g hv.1
  · have := hv.2.1 g; omega
  · have := hv.2.2.1 g; omega
  · have := hv.2.2.2 g2 g3; omega
  · exact g
/-- The end of a part above a frame. -/
theorem ev_end {c : Cf} {ks : List Kf} {n : Nat} {s U : Im} (he : Ev c ks n s U) (ho : U.out = 0) : U.ks = ks ∧ isVal c U.cur := ((ev_iter he).2).resolve_left (fun h => h ho)
theorem sz_up {c : Cf} {n m : Nat} {s : Im} (h : Sz c n s) (hm : m ≤ n) : Sz c m s := ⟨h.st, by have := h.tot; omega, by have := h.ks; omega, h.nd, h.sb⟩
section
variable {c : Cf} (ht : ∀ t ∈ c.fs, TGo c t) (hp : ∀ t ∈ c.fs, TPg t)
include ht hp
/-- A node that is not done. -/
theorem ev_node (hbud : c.bud ≤ 2000) {ks : List Kf} {k : Nat} {s U : Im} {p : Nat} {l r : Ln} (he : Ev c ks k s U) (hk : s.ks = ks) (hg : Gd c s) (hs : Sz c k s) (hc : s.cur = (5, (p : Int)) :: r) (hn : s.nds[p]? = some (l, false)) :
    ∃ n1 n3 U1, n1 < k ∧ n3 < k ∧ Ev c (⟨1, (p : Int), 0, 0, r⟩ :: ks) n1 { s with cur := l, ks := ⟨1, (p : Int), 0, 0, r⟩ :: ks } U1 ∧ Gd c { s with cur := l, ks := ⟨1, (p : Int), 0, 0, r⟩ :: ks } ∧ Sz c n1 { s with cur := l, ks := ⟨1, (p : Int), 0, 0, r⟩ :: ks } ∧
      (U1.out = 0 → Ev c ks n3 { U1 with cur := U1.cur ++ r, ks := ks, nds := frcN p U1 } U ∧ Gd c { U1 with cur := U1.cur ++ r, ks := ks, nds := frcN p U1 } ∧ Sz c n3 { U1 with cur := U1.cur ++ r, ks := ks, nds := frcN p U1 } ∧ p < U1.nds.length ∧ U1.nds.length ≤ 900000) ∧ (U1.out ≠ 0 → U = U1) := by
  have hm : moveI c s = { s with cur := l, ks := ⟨1, (p : Int), 0, 0, r⟩ :: ks } := by
    unfold moveI
    have hnd : ndI s (p : Int) = (l, false) := by unfold ndI; rw [Int.toNat_natCast, hn]; rfl
    have h1 : hdI s.cur = (5, (p : Int)) := by rw [hc]; rfl
    have h2 : s.cur.tail = r := by rw [hc]; rfl
    simp only [h1, h2, hnd]
    rw [if_pos trivial, if_neg (by simp), hk]
  obtain ⟨k', rfl, he'⟩ := ev_move he hg.out (fun h => h.2.1 (by rw [hc]; rfl))
  rw [hm] at he'
  have hmo : (moveI c s).out = 0 := by rw [hm]; exact hg.out
  obtain ⟨hg1, hs1⟩ := gs_move ht hp hg hs hmo
  rw [hm] at hg1 hs1
  obtain ⟨rk, hi⟩ := hg1.ii
  obtain ⟨n1, n2, U1, hn12, e1, e2⟩ := ev_split ht k' _ U [] rk hi rfl he'
  by_cases ho : U1.out = 0
  · obtain ⟨hk1, hv1⟩ := ev_end e1 ho
    obtain ⟨n3, rfl, e3⟩ := ev_move e2 ho (fun h => by rw [hk1] at h; exact not_self h.1)
    obtain ⟨hgU, hsU⟩ := gs_ev ht hp e1 hg1 (n2 := n3 + 1) (by rw [hn12]; exact hs1) ho
    have hm2 : moveI c U1 = { U1 with cur := U1.cur ++ r, ks := ks, nds := frcN p U1 } := by
      rw [val_del hv1]; unfold delI; rw [hk1]
      simp only
      rw [if_pos trivial]
      unfold frcN
      rw [if_pos ho, Int.toNat_natCast]
    rw [hm2] at e3
    obtain ⟨hgR, hsR⟩ := gs_move ht hp hgU hsU (by rw [hm2]; exact ho)
    rw [hm2] at hgR hsR
    have hpl : p < U1.nds.length := by
      obtain ⟨rk2, hi2⟩ := hgU.ii
      have := ((hi2.fr ⟨1, (p : Int), 0, 0, r⟩ (by rw [hk1]; simp)).2.1 rfl).2
      simp only at this
      omega
    refine ⟨n1, n3, U1, by omega, by omega, e1, hg1, sz_up hs1 (by omega), fun _ => ⟨e3, hgR, hsR, hpl, ?_⟩, fun h => absurd ho h⟩
    have := hsU.nd
    have := hsU.sb
    omega
  · obtain ⟨h0, rfl⟩ := ev_out e2 ho
    exact ⟨n1, 0, U, by omega, by omega, e1, hg1, sz_up hs1 (by omega), fun h => absurd h ho, fun _ => rfl⟩
/-- A primitive with its arguments. -/
theorem ev_prim {ks : List Kf} {k : Nat} {s U : Im} {p : Int} {x y : Int × Int} {r : Ln} (he : Ev c ks k s U) (hk : s.ks = ks) (hg : Gd c s) (hs : Sz c k s) (hc : s.cur = (4, p) :: x :: y :: r) (hw : wantM p ≤ ((x :: y :: r).length : Int)) :
    ∃ n1 n2 n3 U1 U2, n1 < k ∧ n2 < k ∧ n3 < k ∧ Ev c (⟨2, 0, p, 0, y :: r⟩ :: ks) n1 { s with cur := [x], ks := ⟨2, 0, p, 0, y :: r⟩ :: ks } U1 ∧ Gd c { s with cur := [x], ks := ⟨2, 0, p, 0, y :: r⟩ :: ks } ∧ Sz c n1 { s with cur := [x], ks := ⟨2, 0, p, 0, y :: r⟩ :: ks } ∧ (U1.out = 0 → Gd c U1) ∧
      (numO U1 = 0 → Ev c (⟨3, 0, p, (hdI U1.cur).2, r⟩ :: ks) n2 { U1 with cur := [y], ks := ⟨3, 0, p, (hdI U1.cur).2, r⟩ :: ks } U2 ∧ Gd c { U1 with cur := [y], ks := ⟨3, 0, p, (hdI U1.cur).2, r⟩ :: ks } ∧ Sz c n2 { U1 with cur := [y], ks := ⟨3, 0, p, (hdI U1.cur).2, r⟩ :: ks } ∧ (U2.out = 0 → Gd c U2 ∧ U2.ks = ⟨3, 0, p, (hdI U1.cur).2, r⟩ :: ks ∧ 0 ≤ U2.stp)) ∧
      Ev c ks n3 (cmpR c U1 U2) U ∧ ((cmpR c U1 U2).out = 0 → Gd c (cmpR c U1 U2) ∧ Sz c n3 (cmpR c U1 U2) ∧ (cmpR c U1 U2).ks = ks) := by
  have hm : moveI c s = { s with cur := [x], ks := ⟨2, 0, p, 0, y :: r⟩ :: ks } := by
    unfold moveI
    have h1 : hdI s.cur = (4, p) := by rw [hc]; rfl
    have h2 : s.cur.tail = x :: y :: r := by rw [hc]; rfl
    simp only [h1, h2]
    rw [if_neg (by decide), if_neg (by decide), if_pos trivial, if_pos hw, hk]
    rfl
  obtain ⟨k', rfl, he'⟩ := ev_move he hg.out (fun h => by
    have := h.2.2.2.1 (by rw [hc]; rfl)
    rw [hc] at this
    have h2 : hdI ((4, p) :: x :: y :: r) = (4, p) := rfl
    rw [h2] at this
    simp only [List.tail_cons] at this
    omega)
  rw [hm] at he'
  obtain ⟨hg1, hs1⟩ := gs_move ht hp hg hs (by rw [hm]; exact hg.out)
  rw [hm] at hg1 hs1
  obtain ⟨rk, hi⟩ := hg1.ii
  obtain ⟨n1, m1, U1, hn1, e1, e2⟩ := ev_split ht k' _ U [] rk hi rfl he'
  by_cases ho : U1.out = 0
  · obtain ⟨hk1, hv1⟩ := ev_end e1 ho
    obtain ⟨m2, rfl, e3⟩ := ev_move e2 ho (fun h => by rw [hk1] at h; exact not_self h.1)
    obtain ⟨hgU, hsU⟩ := gs_ev ht hp e1 hg1 (n2 := m2 + 1) (by rw [hn1]; exact hs1) ho
    have hd : moveI c U1 = delI c (hdI U1.cur) U1 := val_del hv1
    by_cases hkd : (hdI U1.cur).1 = 1
    · have hz : numO U1 = 0 := by unfold numO; rw [if_pos ho, if_pos hkd]
      have hm2 : moveI c U1 = { U1 with cur := [y], ks := ⟨3, 0, p, (hdI U1.cur).2, r⟩ :: ks } := by
        rw [hd]; unfold delI; rw [hk1]
        simp only
        rw [if_neg (by decide), if_neg (by simpa using hkd), if_pos trivial]
        rfl
      obtain ⟨hg2, hs2⟩ := gs_move ht hp hgU hsU (by rw [hm2]; exact ho)
      rw [hm2] at e3 hg2 hs2
      obtain ⟨rk2, hi2⟩ := hg2.ii
      obtain ⟨n2, m3, U2, hn2, e4, e5⟩ := ev_split ht m2 _ U [] rk2 hi2 rfl e3
      by_cases ho2 : U2.out = 0
      · obtain ⟨hk2, hv2⟩ := ev_end e4 ho2
        obtain ⟨m4, rfl, e6⟩ := ev_move e5 ho2 (fun h => by rw [hk2] at h; exact not_self h.1)
        obtain ⟨hgU2, hsU2⟩ := gs_ev ht hp e4 hg2 (n2 := m4 + 1) (by rw [hn2]; exact hs2) ho2
        have hd2 : moveI c U2 = delI c (hdI U2.cur) U2 := val_del hv2
        have hcm : cmpR c U1 U2 = moveI c U2 := by
          unfold cmpR
          rw [if_neg (fun h => h hz)]
          by_cases hkd2 : (hdI U2.cur).1 = 1
          · have hz2 : numO U2 = 0 := by unfold numO; rw [if_pos ho2, if_pos hkd2]
            rw [if_neg (fun h => h hz2), hd2]
          · have hz2 : numO U2 = 3 := by unfold numO; rw [if_pos ho2, if_neg hkd2]
            rw [if_pos (by rw [hz2]; decide), hz2, hd2]
            unfold delI; rw [hk2]
            simp only
            rw [if_neg (by decide), if_pos hkd2]
        refine ⟨n1, n2, m4, U1, U2, by omega, by omega, by omega, e1, hg1, sz_up hs1 (by omega), fun _ => hgU, fun _ => ⟨e4, hg2, sz_up hs2 (by omega), fun _ => ⟨hgU2, hk2, hsU2.st⟩⟩, by rw [hcm]; exact e6, fun h => ?_⟩
        rw [hcm] at h ⊢
        obtain ⟨q1, q2⟩ := gs_move ht hp hgU2 hsU2 h
        refine ⟨q1, q2, ?_⟩
        rw [hd2] at h ⊢
        unfold delI at h ⊢
        rw [hk2] at h ⊢
        simp only at h ⊢
        rw [if_neg (by decide)] at h ⊢
        split at h
        · simp at h
        · rename_i hq
          rw [if_neg hq, if_neg (by decide)]
          rw [if_neg (by decide)] at h
          split at h
          · simp at h
          · rename_i hq2
            rw [if_neg hq2]
            split
            · rfl
            · split <;> rfl
      · obtain ⟨h0, rfl⟩ := ev_out e5 ho2
        have hz2 : numO U = U.out := by unfold numO; rw [if_neg ho2]
        have hcm : cmpR c U1 U = U := by
          unfold cmpR
          rw [if_neg (fun h => h hz), if_pos (by rw [hz2]; exact ho2), hz2]
        refine ⟨n1, n2, 0, U1, U, by omega, by omega, by omega, e1, hg1, sz_up hs1 (by omega), fun _ => hgU, fun _ => ⟨e4, hg2, sz_up hs2 (by omega), fun h => absurd h ho2⟩, by rw [hcm]; exact ⟨rfl, .inl ho2⟩, fun h => by rw [hcm] at h; exact absurd h ho2⟩
    · have hz : numO U1 = 3 := by unfold numO; rw [if_pos ho, if_neg hkd]
      have hm2 : moveI c U1 = { U1 with out := 3 } := by
        rw [hd]; unfold delI; rw [hk1]
        simp only
        rw [if_neg (by decide), if_pos hkd]
      have hcm : cmpR c U1 U1 = { U1 with out := 3 } := by
        unfold cmpR
        rw [if_pos (by rw [hz]; decide), hz]
      rw [hm2] at e3
      exact ⟨n1, 0, m2, U1, U1, by omega, by omega, by omega, e1, hg1, sz_up hs1 (by omega), fun _ => hgU, fun h => by rw [hz] at h; exact absurd h (by decide), by rw [hcm]; exact e3, fun h => by rw [hcm] at h; simp at h⟩
  · obtain ⟨h0, rfl⟩ := ev_out e2 ho
    have hz : numO U = U.out := by unfold numO; rw [if_neg ho]
    have hcm : cmpR c U U = U := by
      unfold cmpR
      rw [if_pos (by rw [hz]; exact ho), hz]
    exact ⟨n1, 0, 0, U, U, by omega, by omega, by omega, e1, hg1, sz_up hs1 (by omega), fun h => absurd h ho, fun h => by rw [hz] at h; exact absurd h ho, by rw [hcm]; exact ⟨rfl, .inl ho⟩, fun h => by rw [hcm] at h; exact absurd h ho⟩
end

end Go.Proofs.YtnndoagpbcacdaaGreatDoor
namespace Go.Proofs.YtnndoagpbcacdaaGreatDoor
open Go.RowKit

/-! The reference: result. -/
set_option maxHeartbeats 1000000 in
theorem rResult (out stp : Int) (l : Ln) (T : Nat) (iv : Value) (w : World) (hr : Rd w T iv l) (hne : out = 0 → l ≠ []) :
    Calls Tryz.prog 95 #[.int .i64 out, iv, .int .i64 stp] w fun e w' => e = .returned (.agg #[.int .i64 (if out = 0 then (if (hdI l).1 = 1 then 1 else 2) else out), .int .i64 (if out = 0 then (if (hdI l).1 = 1 then (hdI l).2 else 0) else 0), .int .i64 stp]) ∧ Below w.heap.size w w' := by
  obtain ⟨io, ic, rfl⟩ := hr.form
  by_cases ho : out = 0
  · subst ho
    obtain ⟨x, r, rfl⟩ : ∃ x r, l = x :: r := by
      cases l with
      | nil => exact absurd rfl (hne rfl)
      | cons a b => exact ⟨a, b, rfl⟩
    obtain ⟨ib, ioff, icap, he, hib⟩ := hr.isSome (by simp)
    cases he
    obtain ⟨a0, a1⟩ := Rd.at hr 0 (by simp)
    obtain ⟨x1, x2⟩ := x
    simp only [List.getElem_cons_zero, Nat.zero_mul, Nat.add_zero, List.length_cons, hdI, List.headD_cons, if_true] at a0 a1 ⊢
    clear hr hne
    by_cases hk : x1 = 1
    · subst hk
      simp only [if_true]
      go_enter Tryz.func95, Tryz.ntmps95
      go_wp2_with fail
      exact bodyPost_ret (v := .agg #[.int .i64 1, .int .i64 x2, .int .i64 stp]) (by simp [results, Tryz.results95, go_sem]) rfl ⟨rfl, below_al2 _ _ _⟩
    · have hk2 : (x1 == 1) = false := by simpa using hk
      simp only [hk, if_false]
      go_enter Tryz.func95, Tryz.ntmps95
      go_wp2_with fail
      exact bodyPost_ret (v := .agg #[.int .i64 2, .int .i64 0, .int .i64 stp]) (by simp [results, Tryz.results95, go_sem]) rfl ⟨rfl, below_al2 _ _ _⟩
  · have ho2 : (out == 0) = false := by simpa using ho
    simp only [ho, if_false]
    clear hr hne
    generalize l.length = n
    go_enter Tryz.func95, Tryz.ntmps95
    go_wp2_with fail
    exact bodyPost_ret (v := .agg #[.int .i64 out, .int .i64 0, .int .i64 stp]) (by simp [results, Tryz.results95, go_sem]) rfl ⟨rfl, below_al2 _ _ _⟩
theorem call_val (c : Cf) (t : Tp) (r : Ln) (s : Im) : (callI c t r s).val = s.val := by
  unfold callI
  split
  · rfl
  · split <;> rfl
theorem ev_val0 {c : Cf} : ∀ {n : Nat} {s U : Im}, Ev c [] n s U → s.val = 0 → U.val = 0
  | 0, s, U, h, hv => by obtain ⟨rfl, _⟩ := h; exact hv
  | n + 1, s, U, h, hv => by
    obtain ⟨h1, h2, h3⟩ := h
    refine ev_val0 h3 ?_
    rcases move_cases c s with ⟨_, e⟩ | ⟨_, _, e⟩ | ⟨_, _, e⟩ | ⟨_, _, _, _, e⟩ | ⟨hval, e⟩
    · rw [e]; split <;> exact hv
    · rw [e, call_val]; exact hv
    · rw [e]; exact hv
    · rw [e]; exact hv
    · rw [e]
      unfold delI
      cases hk : s.ks with
      | nil => exact absurd ⟨hk, hval⟩ h2
      | cons f ks =>
        simp only
        split
        · exact hv
        · split
          · exact hv
          · split
            · exact hv
            · split
              · exact hv
              · split
                · exact hv
                · split <;> exact hv
theorem gd_init (c : Cf) (mn : Int) (h : 0 ≤ mn ∧ mn < c.fs.length) (hb : 0 ≤ c.bud) {n : Nat} (hn : n ≤ 276001) : Gd c (initI mn) ∧ Sz c n (initI mn) := by
  refine ⟨⟨⟨_, ii_init c mn h⟩, fun n hn => by simp [initI] at hn, ⟨fun x hx => ?_, fun f hf => by simp [initI] at hf, fun n hn => by simp [initI] at hn⟩, rfl⟩, ⟨by simp [initI], ?_, by simp [initI]; omega, by simp [initI], by simpa [initI] using hb⟩⟩
  · simp [initI] at hx
    subst hx
    unfold PI
    simp
  · unfold totI flK
    simp [initI]
    omega
theorem run_res (c : Cf) (mn : Int) (hmn : 0 ≤ mn ∧ mn < c.fs.length) (ht : ∀ t ∈ c.fs, TGo c t) (hp : ∀ t ∈ c.fs, TPg t) (hb0 : 0 ≤ c.bud) (hb : c.bud ≤ 2000) :
    ∃ n U, Ev c [] n (initI mn) U ∧ Gd c (initI mn) ∧ Sz c n (initI mn) ∧ (U.out = 0 → U.cur ≠ []) ∧ (runI c mn).stp = U.stp ∧ (runI c mn).out = (if U.out = 0 then (if (hdI U.cur).1 = 1 then 1 else 2) else U.out) ∧ (runI c mn).val = (if U.out = 0 then (if (hdI U.cur).1 = 1 then (hdI U.cur).2 else 0) else 0) := by
  obtain ⟨n, U, hn, he, h1, h2⟩ := ev_run c mn hmn ht hb0 hb
  obtain ⟨g1, g2⟩ := gd_init c mn hmn hb0 hn
  refine ⟨n, U, he, g1, g2, fun ho => ?_, ?_⟩
  · obtain ⟨⟨⟨rk, hi⟩, _, _, _⟩, _⟩ := gs_ev ht hp (n2 := 0) he g1 (by rw [Nat.add_zero]; exact g2) ho
    exact hi.ne
  · by_cases ho : U.out = 0
    · obtain ⟨a, b, d⟩ := h2 ho
      rw [if_pos ho, if_pos ho]
      exact ⟨a, b, d⟩
    · rw [h1 ho, if_neg ho, if_neg ho]
      exact ⟨rfl, rfl, ev_val0 he rfl⟩

end Go.Proofs.YtnndoagpbcacdaaGreatDoor
