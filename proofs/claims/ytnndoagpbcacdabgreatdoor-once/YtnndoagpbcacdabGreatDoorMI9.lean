import Derived.Test.YtnndoagpbcacdabGreatDoorMI7
namespace Go.Proofs.YtnndoagpbcacdabGreatDoor

/-! Nothing is worked out that is not needed: the run. -/
theorem tpl_app {A B : List Tp} {b h : Int} {k : Nat} {t : Tp} (hk : B[k]? = some t) : tplM ⟨A ++ B, b, h⟩ ((A.length + k : Nat) : Int) = t := by
  have hlt := (List.getElem?_eq_some_iff.1 hk).1
  unfold tplM
  simp only
  rw [if_pos ⟨by omega, by rw [List.length_append]; omega⟩, Int.toNat_natCast, List.getElem?_append_right (by omega), show A.length + k - A.length = k by omega, hk]
  rfl
theorem tpl_low {A B : List Tp} {b h : Int} {n : Int} (h0 : 0 ≤ n) (h1 : n < A.length) : tplM ⟨A ++ B, b, h⟩ n = tplM ⟨A, b, h⟩ n := by
  unfold tplM
  simp only
  rw [if_pos ⟨h0, by rw [List.length_append]; omega⟩, if_pos ⟨h0, h1⟩, List.getElem?_append_left (by omega)]
/-- A call that has its arguments, its budget and its room. -/
theorem move_call {c : Cf} {s : Im} {f : Int} {r : Ln} {t : Tp} (hc : s.cur = (3, f) :: r) (ht : tplM c f = t) (har : t.ar ≤ (r.length : Int)) (hb : s.stp < c.bud) (hh : (s.nds.length : Int) + ((t.ls.length : Int) - 1) ≤ c.hp) :
    moveI c s = { s with stp := s.stp + 1, cur := instM (t.ls.headD []) (r.take t.ar.toNat) (idP s.nds.length (t.ls.length - 1)) ++ r.drop t.ar.toNat, nds := s.nds ++ t.ls.tail.map (fun l => (instM l (r.take t.ar.toNat) (idP s.nds.length (t.ls.length - 1)), false)) } := by
  unfold moveI
  have h1 : hdI s.cur = (3, f) := by rw [hc]; rfl
  have h2 : s.cur.tail = r := by rw [hc]; rfl
  simp only [h1, h2]
  rw [if_neg (by decide), if_pos trivial, ht, if_pos har]
  unfold callI
  have := need_le s
  rw [if_neg (by omega), if_neg (by omega)]
theorem un_run (A : List Tp) (v : Int) : (runI ⟨A ++ [⟨0, [[(3, ((A.length + 1 : Nat) : Int)), (1, v), (5, 0)], [(3, 0), (1, 1)]]⟩, ⟨2, [[(2, 0)]]⟩], 2, 24000⟩ A.length).out = 1 ∧ (runI ⟨A ++ [⟨0, [[(3, ((A.length + 1 : Nat) : Int)), (1, v), (5, 0)], [(3, 0), (1, 1)]]⟩, ⟨2, [[(2, 0)]]⟩], 2, 24000⟩ A.length).val = v ∧ (runI ⟨A ++ [⟨0, [[(3, ((A.length + 1 : Nat) : Int)), (1, v), (5, 0)], [(3, 0), (1, 1)]]⟩, ⟨2, [[(2, 0)]]⟩], 2, 24000⟩ A.length).stp = 2 := by
  generalize hB : ([⟨0, [[(3, ((A.length + 1 : Nat) : Int)), (1, v), (5, 0)], [(3, 0), (1, 1)]]⟩, ⟨2, [[(2, 0)]]⟩] : List Tp) = B
  have t0 : tplM ⟨A ++ B, 2, 24000⟩ ((A.length : Nat) : Int) = ⟨0, [[(3, ((A.length + 1 : Nat) : Int)), (1, v), (5, 0)], [(3, 0), (1, 1)]]⟩ := tpl_app (k := 0) (by rw [← hB]; rfl)
  have t1 : tplM ⟨A ++ B, 2, 24000⟩ ((A.length + 1 : Nat) : Int) = ⟨2, [[(2, 0)]]⟩ := tpl_app (k := 1) (by rw [← hB]; rfl)
  have m1 : moveI ⟨A ++ B, 2, 24000⟩ (initI A.length) = ⟨[(3, ((A.length + 1 : Nat) : Int)), (1, v), (5, 0)], [], [([(3, 0), (1, 1)], false)], 1, 0, 0⟩ := by
    rw [move_call (c := ⟨A ++ B, 2, 24000⟩) (s := initI A.length) (r := []) rfl t0 (by simp) (by show (0 : Int) < 2; omega) (by simp [initI])]
    simp [initI, instM, instA, idP]
  have m2 : moveI ⟨A ++ B, 2, 24000⟩ ⟨[(3, ((A.length + 1 : Nat) : Int)), (1, v), (5, 0)], [], [([(3, 0), (1, 1)], false)], 1, 0, 0⟩ = ⟨[(1, v)], [], [([(3, 0), (1, 1)], false)], 2, 0, 0⟩ := by
    rw [move_call (c := ⟨A ++ B, 2, 24000⟩) (r := [(1, v), (5, 0)]) rfl t1 (by simp) (by show (1 : Int) < 2; omega) (by simp)]
    simp [instM, instA, idP]
  have m3 : moveI ⟨A ++ B, 2, 24000⟩ ⟨[(1, v)], [], [([(3, 0), (1, 1)], false)], 2, 0, 0⟩ = ⟨[(1, v)], [], [([(3, 0), (1, 1)], false)], 2, 1, v⟩ := by
    simp [moveI, hdI, delI]
  have h3 : iterI ⟨A ++ B, 2, 24000⟩ 3 (initI A.length) = ⟨[(1, v)], [], [([(3, 0), (1, 1)], false)], 2, 1, v⟩ := by
    rw [iterI, if_pos (show (initI (A.length : Int)).out = 0 from rfl), m1, iterI, if_pos rfl, m2, iterI, if_pos rfl, m3, iterI]
  rw [run_out ⟨A ++ B, 2, 24000⟩ A.length 3 (by rw [h3]; simp) (by omega), h3]
  exact ⟨rfl, rfl, rfl⟩

end Go.Proofs.YtnndoagpbcacdabGreatDoor
namespace Go.Proofs.YtnndoagpbcacdabGreatDoor

/-! What is shared is worked out once: a run inside another one. -/
def up1 (p : Int) : Int := p + 1
def shK (f : Kf) : Kf := ⟨f.k, if f.k = 1 then f.nd + 1 else f.nd, f.pr, f.nu, f.rs.map (mp up1)⟩
def K2 : List Kf := [⟨1, 0, 0, 0, []⟩, ⟨2, 0, 0, 0, [(5, 0)]⟩]
structure Ro (N0 : Ln × Bool) (s s' : Im) : Prop where
  cur : s'.cur = s.cur.map (mp up1)
  ks : s'.ks = s.ks.map shK ++ K2
  nds : s'.nds = N0 :: s.nds.map (fun n => (n.1.map (mp up1), n.2))
  stp : s'.stp = s.stp + 3
  out : s'.out = s.out
  val : s'.val = s.val
theorem hd_up (l : Ln) : (hdI (l.map (mp up1))).1 = (hdI l).1 ∧ ((hdI l).1 ≠ 5 → hdI (l.map (mp up1)) = hdI l) := by
  cases l with
  | nil => exact ⟨rfl, fun _ => rfl⟩
  | cons a l => exact ⟨mp_kind up1 a, fun h => mp_not up1 a h⟩
theorem hd_up' (l : Ln) (h : l ≠ []) : hdI (l.map (mp up1)) = mp up1 (hdI l) := hd_map up1 l h
theorem idP_up (n k : Nat) : (idP n k).map up1 = idP (n + 1) k := by
  unfold idP
  rw [List.map_map]
  refine List.map_congr_left (fun i _ => ?_)
  show ((n + i : Nat) : Int) + 1 = ((n + 1 + i : Nat) : Int)
  omega
/-- A move that does not hand the last value out. -/
theorem ro_move {fs B : List Tp} {N0 : Ln × Bool} {s s' : Im} {rk : Int → Nat} (h : Ro N0 s s') (hi : Ii ⟨fs, 1997, 24000⟩ rk s) (hr : Rn ⟨fs, 1997, 24000⟩ s) (ht : ∀ t ∈ fs, TGo ⟨fs, 1997, 24000⟩ t) (hnv : ¬ (s.ks = [] ∧ isVal ⟨fs, 1997, 24000⟩ s.cur)) :
    Ro N0 (moveI ⟨fs, 1997, 24000⟩ s) (moveI ⟨fs ++ B, 2000, 24000⟩ s') := by
  have hne := hi.ne
  have hhd := hd_up' s.cur hne
  have hcur := h.cur
  have htl : s'.cur.tail = s.cur.tail.map (mp up1) := by rw [hcur, List.map_tail]
  have hlen : s'.cur.tail.length = s.cur.tail.length := by rw [htl, List.length_map]
  have hmem := hd_mem hne
  have hgi := hi.it _ hmem
  have htp : (hdI s.cur).1 = 3 → tplM ⟨fs ++ B, 2000, 24000⟩ (hdI s.cur).2 = tplM ⟨fs, 1997, 24000⟩ (hdI s.cur).2 := fun h3 => by
    have hv := hgi.2.1 h3
    rw [tpl_low hv.1 hv.2]; rfl
  have hk' : (hdI s'.cur).1 = (hdI s.cur).1 := by rw [hcur]; exact (hd_up s.cur).1
  have hsame : (hdI s.cur).1 ≠ 5 → hdI s'.cur = hdI s.cur := fun h5 => by rw [hcur]; exact (hd_up s.cur).2 h5
  rcases move_cases ⟨fs, 1997, 24000⟩ s with ⟨h5, e⟩ | ⟨h3, har, e⟩ | ⟨h4, har, e⟩ | ⟨n5, n3, n4, hp, e⟩ | ⟨hv, e⟩
  · -- a pointer
    have hv := hgi.2.2 h5
    have hx : hdI s'.cur = (5, (hdI s.cur).2 + 1) := by
      rw [hcur, hhd]; unfold mp; rw [if_pos h5]; rfl
    have hnd : ndI s' ((hdI s.cur).2 + 1) = ((ndI s (hdI s.cur).2).1.map (mp up1), (ndI s (hdI s.cur).2).2) := by
      have hlt : (hdI s.cur).2.toNat < s.nds.length := by omega
      unfold ndI
      rw [h.nds, show ((hdI s.cur).2 + 1).toNat = (hdI s.cur).2.toNat + 1 by omega, List.getElem?_cons_succ, List.getElem?_map, List.getElem?_eq_getElem hlt]
      rfl
    rw [e]
    unfold moveI
    simp only [hx]
    rw [if_pos trivial, hnd]
    simp only
    cases (ndI s (hdI s.cur).2).2
    · simp only [Bool.false_eq_true, if_false]
      refine ⟨rfl, ?_, h.nds, h.stp, h.out, h.val⟩
      rw [h.ks, htl]
      rfl
    · simp only [if_true]
      refine ⟨?_, h.ks, h.nds, h.stp, h.out, h.val⟩
      rw [htl, List.map_append]
  · -- a function
    rw [e]
    have hx := hsame (by omega)
    have hm : moveI ⟨fs ++ B, 2000, 24000⟩ s' = callI ⟨fs ++ B, 2000, 24000⟩ (tplM ⟨fs, 1997, 24000⟩ (hdI s.cur).2) s'.cur.tail s' := by
      unfold moveI
      simp only [hx]
      rw [if_neg (by omega), if_pos h3, htp h3, if_pos (by rw [hlen]; exact har)]
    rw [hm]
    have hv := hgi.2.1 h3
    have htg := tpl_go ht hv
    generalize tplM ⟨fs, 1997, 24000⟩ (hdI s.cur).2 = t at *
    have hn1 := need_le s
    have hn2 := need_le s'
    have hnl := hr.nl
    have hs0 := hr.s0
    have hs1 := hr.s1
    simp only at hs1
    have t1 := htg.tg.n1
    have t0 := htg.tg.n0
    have hl' : s'.nds.length = s.nds.length + 1 := by rw [h.nds]; simp
    have hst := h.stp
    unfold callI
    simp only
    by_cases hb : (1997 : Int) ≤ s.stp
    · have c2 : (2000 : Int) ≤ s'.stp := by omega
      rw [if_pos hb, if_pos c2]
      exact ⟨h.cur, h.ks, h.nds, h.stp, rfl, h.val⟩
    · have c2 : ¬ (2000 : Int) ≤ s'.stp := by omega
      have c3 : ¬ (24000 : Int) < (needI s : Int) + ((t.ls.length : Int) - 1) := by omega
      have c4 : ¬ (24000 : Int) < (needI s' : Int) + ((t.ls.length : Int) - 1) := by omega
      rw [if_neg hb, if_neg c2, if_neg c3, if_neg c4]
      have hgood : ∀ l ∈ t.ls, ∀ x ∈ l, x.1 = 5 → 0 ≤ x.2 ∧ x.2 < (idP s.nds.length (t.ls.length - 1)).length := fun l hl x hx h5 => by
        have := ((htg.tg.ln l hl).2.2 x hx).2.2 h5
        rw [show (idP s.nds.length (t.ls.length - 1)).length = t.ls.length - 1 by simp [idP]]
        omega
      have hinst : ∀ l ∈ t.ls, instM l (s'.cur.tail.take t.ar.toNat) (idP s'.nds.length (t.ls.length - 1)) = (instM l (s.cur.tail.take t.ar.toNat) (idP s.nds.length (t.ls.length - 1))).map (mp up1) := fun l hl => by
        rw [inst_map up1 l _ _ (hgood l hl), htl, hl', idP_up, List.map_take]
      refine ⟨?_, h.ks, ?_, by show s'.stp + 1 = s.stp + 1 + 3; omega, h.out, h.val⟩
      · show (_ ++ _ : Ln) = (_ ++ _ : Ln).map (mp up1)
        cases hls : t.ls with
        | nil => rw [hls] at t0; simp at t0
        | cons l0 lr =>
          have := hinst l0 (by rw [hls]; simp)
          rw [hls] at this
          simp only [List.headD_cons]
          rw [this, List.map_append, htl, List.map_drop]
      · show s'.nds ++ _ = N0 :: (s.nds ++ _).map _
        rw [h.nds, List.map_append, List.map_map, List.cons_append]
        congr 2
        refine List.map_congr_left (fun l hl => ?_)
        have := hinst l (List.mem_of_mem_tail hl)
        rw [h.nds] at this
        simp only [Function.comp]
        rw [← this]
  · -- a primitive
    rw [e]
    have hx := hsame (by omega)
    have hw := want_ge (hdI s.cur).2
    have hne2 : s.cur.tail ≠ [] := by intro e2; rw [e2] at har; simp at har; omega
    unfold moveI
    simp only [hx]
    rw [if_neg (by omega), if_neg (by omega), if_pos h4, if_pos (by rw [hlen]; exact har)]
    refine ⟨?_, ?_, h.nds, h.stp, h.out, h.val⟩
    · show [hdI s'.cur.tail] = [hdI s.cur.tail].map (mp up1)
      rw [htl, hd_up' _ hne2]; rfl
    · show _ :: s'.ks = _
      rw [h.ks, htl]
      simp [shK, List.map_tail]
  · -- a number with arguments
    rw [e]
    have hx := hsame n5
    unfold moveI
    simp only [hx]
    rw [if_neg n5, if_neg n3, if_neg n4, if_pos (by rw [hlen]; exact hp)]
    exact ⟨h.cur, h.ks, h.nds, h.stp, rfl, h.val⟩
  · -- a value
    rw [e]
    have hx := hsame hv.1
    have hm : moveI ⟨fs ++ B, 2000, 24000⟩ s' = delI ⟨fs ++ B, 2000, 24000⟩ (hdI s.cur) s' := by
      unfold moveI
      simp only [hx]
      rw [if_neg hv.1]
      by_cases h3 : (hdI s.cur).1 = 3
      · rw [if_pos h3, htp h3, if_neg (by rw [hlen]; have := hv.2.1 h3; omega)]
      · rw [if_neg h3]
        by_cases h4 : (hdI s.cur).1 = 4
        · rw [if_pos h4, if_neg (by rw [hlen]; have := hv.2.2.1 h4; omega)]
        · rw [if_neg h4, if_neg (by rw [hlen]; have := hv.2.2.2 h3 h4; omega)]
    rw [hm]
    have hks := h.ks
    cases hk : s.ks with
    | nil => exact absurd ⟨hk, hv⟩ hnv
    | cons f ks =>
      obtain ⟨f1, f2, f3, f4⟩ := hi.fr f (by rw [hk]; simp)
      rw [hk, List.map_cons, List.cons_append] at hks
      unfold delI
      rw [hk, hks]
      simp only
      have hfk : (shK f).k = f.k := rfl
      rw [hfk]
      by_cases hk1 : f.k = 1
      · rw [if_pos hk1, if_pos hk1]
        have hv2 := f2 hk1
        refine ⟨?_, rfl, ?_, h.stp, h.out, h.val⟩
        · show s'.cur ++ (shK f).rs = (s.cur ++ f.rs).map (mp up1)
          rw [hcur, List.map_append]; rfl
        · show s'.nds.set (shK f).nd.toNat (s'.cur, true) = N0 :: (s.nds.set f.nd.toNat (s.cur, true)).map _
          have e1 : (shK f).nd = f.nd + 1 := by show (if f.k = 1 then f.nd + 1 else f.nd) = _; rw [if_pos hk1]
          rw [e1, show (f.nd + 1).toNat = f.nd.toNat + 1 by omega, h.nds, List.set_cons_succ, List.map_set, hcur]
      · rw [if_neg hk1, if_neg hk1]
        by_cases hx1 : (hdI s.cur).1 ≠ 1
        · rw [if_pos hx1, if_pos hx1]
          exact ⟨h.cur, by show shK f :: (ks.map shK ++ K2) = (f :: ks).map shK ++ K2; rfl, h.nds, h.stp, rfl, h.val⟩
        · rw [if_neg hx1, if_neg hx1]
          have hrs : (shK f).rs = f.rs.map (mp up1) := rfl
          have hpr : (shK f).pr = f.pr := rfl
          have hnu : (shK f).nu = f.nu := rfl
          by_cases hk2 : f.k = 2
          · rw [if_pos hk2, if_pos hk2, hpr, hrs]
            have hl : 1 ≤ f.rs.length := by
              have := want_ge f.pr
              unfold frOk at f1
              omega
            have hne2 : f.rs ≠ [] := by intro e2; rw [e2] at hl; simp at hl
            refine ⟨?_, ?_, h.nds, h.stp, h.out, h.val⟩
            · show [hdI (f.rs.map (mp up1))] = [hdI f.rs].map (mp up1)
              rw [hd_up' _ hne2]; rfl
            · simp [shK, List.map_tail]
          · have hst := h.stp
            rw [if_neg hk2, if_neg hk2, hpr, hnu, hrs]
            by_cases hb : (1997 : Int) ≤ s.stp
            · have c2 : (2000 : Int) ≤ s'.stp := by omega
              rw [if_pos hb, if_pos c2]
              exact ⟨h.cur, by show shK f :: (ks.map shK ++ K2) = (f :: ks).map shK ++ K2; rfl, h.nds, h.stp, rfl, h.val⟩
            · have c2 : ¬ (2000 : Int) ≤ s'.stp := by omega
              rw [if_neg hb, if_neg c2]
              by_cases hp : f.pr = 3 ∨ f.pr = 4
              · rw [if_pos hp, if_pos hp]
                have hl : 2 ≤ f.rs.length := by
                  have hw : wantM f.pr = 4 := by unfold wantM; rw [if_pos hp]
                  unfold frOk at f1
                  omega
                refine ⟨?_, rfl, h.nds, by show s'.stp + 1 = s.stp + 1 + 3; omega, h.out, h.val⟩
                match hq : f.rs, hl with
                | a :: b :: r, _ =>
                  show _ :: _ = (_ :: _ : Ln).map (mp up1)
                  generalize picks f.pr f.nu (hdI s.cur).2 = bb
                  cases bb <;> simp [hdI]
              · rw [if_neg hp, if_neg hp]
                by_cases ho : overV (calcV f.pr f.nu (hdI s.cur).2) = true
                · rw [if_pos ho, if_pos ho]
                  exact ⟨rfl, rfl, h.nds, by show s'.stp + 1 = s.stp + 1 + 3; omega, rfl, h.val⟩
                · rw [if_neg ho, if_neg ho]
                  refine ⟨?_, rfl, h.nds, by show s'.stp + 1 = s.stp + 1 + 3; omega, h.out, h.val⟩
                  show (_ :: _ : Ln) = (_ :: _ : Ln).map (mp up1)
                  rw [List.map_cons, mp_not up1 _ (by simp)]

theorem rn_move {c : Cf} {s : Im} (h : Rn c s) (ht : ∀ t ∈ c.fs, TGo c t) (ho : (moveI c s).out = 0) : Rn c (moveI c s) := by
  obtain ⟨rk, hi⟩ := h.iv
  obtain ⟨m1, m2, m3, m4, m5⟩ := ii_move hi ht ho
  have h1 := h.s0
  have h2 := h.s1
  have h3 := h.nl
  refine ⟨m1, by omega, ?_, ?_⟩
  · by_cases e : s.stp < (moveI c s).stp
    · have := m4 e; omega
    · omega
  · by_cases e : s.stp < (moveI c s).stp
    · have := (m4 e).2; omega
    · omega
theorem ro_ev {fs B : List Tp} {N0 : Ln × Bool} (ht : ∀ t ∈ fs, TGo ⟨fs, 1997, 24000⟩ t) : ∀ (n : Nat) (s s' T : Im), Ro N0 s s' → (s.out = 0 → Rn ⟨fs, 1997, 24000⟩ s) → Ev ⟨fs, 1997, 24000⟩ [] n s T → Ro N0 T (iterI ⟨fs ++ B, 2000, 24000⟩ n s') ∧ (T.out = 0 → Rn ⟨fs, 1997, 24000⟩ T)
  | 0, s, s', T, h, hr, he => by
    obtain ⟨rfl, _⟩ := he
    exact ⟨h, hr⟩
  | n + 1, s, s', T, h, hr, he => by
    obtain ⟨h0, hv, he⟩ := he
    have hrn := hr h0
    obtain ⟨rk, hi⟩ := hrn.iv
    have hm := ro_move (B := B) h hi hrn ht hv
    rw [iterI, if_pos (by rw [h.out]; exact h0)]
    exact ro_ev ht n _ _ T hm (fun ho => rn_move hrn ht ho) he
theorem ev_prev {c : Cf} {ks : List Kf} : ∀ {n : Nat} {s T : Im}, Ev c ks (n + 1) s T → (iterI c n s).out = 0
  | 0, s, T, h => h.1
  | n + 1, s, T, h => by
    obtain ⟨h0, _, he⟩ := h
    rw [iterI, if_pos h0]
    exact ev_prev he
/-- How the outer program begins. -/
def onceB (n : Nat) : List Tp := [⟨0, [[(3, ((n + 1 : Nat) : Int)), (5, 0)], [(3, ((n + 2 : Nat) : Int)), (3, 0)]]⟩, ⟨1, [[(4, 0), (2, 0), (2, 0)]]⟩, ⟨1, [[(2, 0)]]⟩]
theorem once_start (A : List Tp) : iterI ⟨A ++ onceB A.length, 2000, 24000⟩ 5 (initI A.length) = ⟨[(3, 0)], K2, [([(3, ((A.length + 2 : Nat) : Int)), (3, 0)], false)], 3, 0, 0⟩ := by
  generalize hB : onceB A.length = B
  have t0 : tplM ⟨A ++ B, 2000, 24000⟩ ((A.length : Nat) : Int) = ⟨0, [[(3, ((A.length + 1 : Nat) : Int)), (5, 0)], [(3, ((A.length + 2 : Nat) : Int)), (3, 0)]]⟩ := tpl_app (k := 0) (by rw [← hB]; rfl)
  have t1 : tplM ⟨A ++ B, 2000, 24000⟩ ((A.length + 1 : Nat) : Int) = ⟨1, [[(4, 0), (2, 0), (2, 0)]]⟩ := tpl_app (k := 1) (by rw [← hB]; rfl)
  have t2 : tplM ⟨A ++ B, 2000, 24000⟩ ((A.length + 2 : Nat) : Int) = ⟨1, [[(2, 0)]]⟩ := tpl_app (k := 2) (by rw [← hB]; rfl)
  have m1 : moveI ⟨A ++ B, 2000, 24000⟩ (initI A.length) = ⟨[(3, ((A.length + 1 : Nat) : Int)), (5, 0)], [], [([(3, ((A.length + 2 : Nat) : Int)), (3, 0)], false)], 1, 0, 0⟩ := by
    rw [move_call (c := ⟨A ++ B, 2000, 24000⟩) (s := initI A.length) (r := []) rfl t0 (by simp) (by show (0 : Int) < 2000; omega) (by simp [initI])]
    simp [initI, instM, instA, idP]
  have m2 : moveI ⟨A ++ B, 2000, 24000⟩ ⟨[(3, ((A.length + 1 : Nat) : Int)), (5, 0)], [], [([(3, ((A.length + 2 : Nat) : Int)), (3, 0)], false)], 1, 0, 0⟩ = ⟨[(4, 0), (5, 0), (5, 0)], [], [([(3, ((A.length + 2 : Nat) : Int)), (3, 0)], false)], 2, 0, 0⟩ := by
    rw [move_call (c := ⟨A ++ B, 2000, 24000⟩) (r := [(5, 0)]) rfl t1 (by simp) (by show (1 : Int) < 2000; omega) (by simp)]
    simp [instM, instA, idP]
  have m3 : moveI ⟨A ++ B, 2000, 24000⟩ ⟨[(4, 0), (5, 0), (5, 0)], [], [([(3, ((A.length + 2 : Nat) : Int)), (3, 0)], false)], 2, 0, 0⟩ = ⟨[(5, 0)], [⟨2, 0, 0, 0, [(5, 0)]⟩], [([(3, ((A.length + 2 : Nat) : Int)), (3, 0)], false)], 2, 0, 0⟩ := by
    simp [moveI, hdI, wantM]
  have m4 : moveI ⟨A ++ B, 2000, 24000⟩ ⟨[(5, 0)], [⟨2, 0, 0, 0, [(5, 0)]⟩], [([(3, ((A.length + 2 : Nat) : Int)), (3, 0)], false)], 2, 0, 0⟩ = ⟨[(3, ((A.length + 2 : Nat) : Int)), (3, 0)], K2, [([(3, ((A.length + 2 : Nat) : Int)), (3, 0)], false)], 2, 0, 0⟩ := by
    simp [moveI, hdI, ndI, K2]
  have m5 : moveI ⟨A ++ B, 2000, 24000⟩ ⟨[(3, ((A.length + 2 : Nat) : Int)), (3, 0)], K2, [([(3, ((A.length + 2 : Nat) : Int)), (3, 0)], false)], 2, 0, 0⟩ = ⟨[(3, 0)], K2, [([(3, ((A.length + 2 : Nat) : Int)), (3, 0)], false)], 3, 0, 0⟩ := by
    rw [move_call (c := ⟨A ++ B, 2000, 24000⟩) (r := [(3, 0)]) rfl t2 (by simp) (by show (2 : Int) < 2000; omega) (by simp)]
    simp [instM, instA, idP]
  rw [iterI, if_pos (show (initI (A.length : Int)).out = 0 from rfl), m1, iterI, if_pos rfl, m2, iterI, if_pos rfl, m3, iterI, if_pos rfl, m4, iterI, if_pos rfl, m5, iterI]
/-- What the outer one comes to. -/
theorem once_end (c : Cf) (cur : Ln) (n0 : Ln × Bool) (ns : List (Ln × Bool)) (st : Int) (hb : c.bud = 2000) (hv : isVal c cur) (h1 : (hdI cur).1 = 1 → cur = [hdI cur]) :
    ((hdI cur).1 ≠ 1 → (iterI c 2 ⟨cur, K2, n0 :: ns, st, 0, 0⟩).out = 3 ∧ (iterI c 2 ⟨cur, K2, n0 :: ns, st, 0, 0⟩).val = 0 ∧ (iterI c 2 ⟨cur, K2, n0 :: ns, st, 0, 0⟩).stp = st) ∧
    ((hdI cur).1 = 1 → 2000 ≤ st → (iterI c 4 ⟨cur, K2, n0 :: ns, st, 0, 0⟩).out = 5 ∧ (iterI c 4 ⟨cur, K2, n0 :: ns, st, 0, 0⟩).val = 0 ∧ (iterI c 4 ⟨cur, K2, n0 :: ns, st, 0, 0⟩).stp = st) ∧
    ((hdI cur).1 = 1 → st < 2000 → (1000000000 < 2 * (hdI cur).2 ∨ 2 * (hdI cur).2 < -1000000000) → (iterI c 4 ⟨cur, K2, n0 :: ns, st, 0, 0⟩).out = 4 ∧ (iterI c 4 ⟨cur, K2, n0 :: ns, st, 0, 0⟩).val = 0 ∧ (iterI c 4 ⟨cur, K2, n0 :: ns, st, 0, 0⟩).stp = st + 1) ∧
    ((hdI cur).1 = 1 → st < 2000 → ¬ (1000000000 < 2 * (hdI cur).2 ∨ 2 * (hdI cur).2 < -1000000000) → (iterI c 5 ⟨cur, K2, n0 :: ns, st, 0, 0⟩).out = 1 ∧ (iterI c 5 ⟨cur, K2, n0 :: ns, st, 0, 0⟩).val = 2 * (hdI cur).2 ∧ (iterI c 5 ⟨cur, K2, n0 :: ns, st, 0, 0⟩).stp = st + 1) := by
  have hdel : ∀ s : Im, s.cur = cur → moveI c s = delI c (hdI cur) s := by
    intro s hs
    rcases move_cases c s with ⟨g, _⟩ | ⟨g, g2, _⟩ | ⟨g, g2, _⟩ | ⟨g1, g2, g3, g4, _⟩ | ⟨_, g⟩
    · rw [hs] at g; exact absurd g hv.1
    · rw [hs] at g g2; have := hv.2.1 g; omega
    · rw [hs] at g g2; have := hv.2.2.1 g; omega
    · rw [hs] at g2 g3 g4; have := hv.2.2.2 g2 g3; omega
    · rw [hs] at g; exact g
  have m1 : moveI c ⟨cur, K2, n0 :: ns, st, 0, 0⟩ = ⟨cur, [⟨2, 0, 0, 0, [(5, 0)]⟩], (cur, true) :: ns, st, 0, 0⟩ := by
    rw [hdel _ rfl]; simp [delI, K2]
  have i1 : ∀ k, iterI c (k + 1) ⟨cur, K2, n0 :: ns, st, 0, 0⟩ = iterI c k ⟨cur, [⟨2, 0, 0, 0, [(5, 0)]⟩], (cur, true) :: ns, st, 0, 0⟩ := fun k => by rw [iterI, if_pos rfl, m1]
  refine ⟨fun hn => ?_, ?_, ?_, ?_⟩
  · have m2 : moveI c ⟨cur, [⟨2, 0, 0, 0, [(5, 0)]⟩], (cur, true) :: ns, st, 0, 0⟩ = ⟨cur, [⟨2, 0, 0, 0, [(5, 0)]⟩], (cur, true) :: ns, st, 3, 0⟩ := by
      rw [hdel _ rfl]; simp [delI, hn]
    rw [i1, iterI, if_pos rfl, m2, iterI]
    exact ⟨rfl, rfl, rfl⟩
  all_goals
    intro hn
    have hc := h1 hn
    have m2 : moveI c ⟨cur, [⟨2, 0, 0, 0, [(5, 0)]⟩], (cur, true) :: ns, st, 0, 0⟩ = ⟨[(5, 0)], [⟨3, 0, 0, (hdI cur).2, []⟩], (cur, true) :: ns, st, 0, 0⟩ := by
      rw [hdel _ rfl]
      simp only [delI]
      rw [if_neg (by omega), if_neg (by omega), if_pos trivial]
      rfl
    have m3 : moveI c ⟨[(5, 0)], [⟨3, 0, 0, (hdI cur).2, []⟩], (cur, true) :: ns, st, 0, 0⟩ = ⟨cur, [⟨3, 0, 0, (hdI cur).2, []⟩], (cur, true) :: ns, st, 0, 0⟩ := by
      simp [moveI, hdI, ndI]
    have i3 : ∀ k, iterI c (k + 3) ⟨cur, K2, n0 :: ns, st, 0, 0⟩ = iterI c k ⟨cur, [⟨3, 0, 0, (hdI cur).2, []⟩], (cur, true) :: ns, st, 0, 0⟩ := fun k => by
      rw [show k + 3 = k + 2 + 1 by omega, i1, iterI, if_pos rfl, m2, iterI, if_pos rfl, m3]
    have e2 : calcV 0 (hdI cur).2 (hdI cur).2 = 2 * (hdI cur).2 := by unfold calcV; rw [if_pos rfl]; omega
  · intro hs
    have m4 : moveI c ⟨cur, [⟨3, 0, 0, (hdI cur).2, []⟩], (cur, true) :: ns, st, 0, 0⟩ = ⟨cur, [⟨3, 0, 0, (hdI cur).2, []⟩], (cur, true) :: ns, st, 5, 0⟩ := by
      rw [hdel _ rfl]; simp [delI, hn, hb, hs]
    rw [show 4 = 1 + 3 by omega, i3, iterI, if_pos rfl, m4, iterI]
    exact ⟨rfl, rfl, rfl⟩
  · intro hs ho
    have ho' : overV (2 * (hdI cur).2) = true := (over_iff _).2 ho
    have m4 : moveI c ⟨cur, [⟨3, 0, 0, (hdI cur).2, []⟩], (cur, true) :: ns, st, 0, 0⟩ = ⟨[], [], (cur, true) :: ns, st + 1, 4, 0⟩ := by
      rw [hdel _ rfl]
      have hs' : ¬ (2000 : Int) ≤ st := by omega
      simp [delI, hn, hb, hs', e2, ho']
    rw [show 4 = 1 + 3 by omega, i3, iterI, if_pos rfl, m4, iterI]
    exact ⟨rfl, rfl, rfl⟩
  · intro hs ho
    have ho' : overV (2 * (hdI cur).2) = false := by
      cases hq : overV (2 * (hdI cur).2)
      · rfl
      · exact absurd ((over_iff _).1 hq) ho
    have m4 : moveI c ⟨cur, [⟨3, 0, 0, (hdI cur).2, []⟩], (cur, true) :: ns, st, 0, 0⟩ = ⟨[(1, 2 * (hdI cur).2)], [], (cur, true) :: ns, st + 1, 0, 0⟩ := by
      rw [hdel _ rfl]
      have hs' : ¬ (2000 : Int) ≤ st := by omega
      simp [delI, hn, hb, hs', e2, ho']
    have m5 : moveI c ⟨[(1, 2 * (hdI cur).2)], [], (cur, true) :: ns, st + 1, 0, 0⟩ = ⟨[(1, 2 * (hdI cur).2)], [], (cur, true) :: ns, st + 1, 1, 2 * (hdI cur).2⟩ := by
      simp [moveI, hdI, delI]
    rw [show 5 = 2 + 3 by omega, i3, iterI, if_pos rfl, m4, iterI, if_pos rfl, m5, iterI]
    exact ⟨rfl, rfl, rfl⟩

theorem ro_init (N0 : Ln × Bool) : Ro N0 (initI 0) ⟨[(3, 0)], K2, [N0], 3, 0, 0⟩ := ⟨rfl, rfl, rfl, rfl, rfl, rfl⟩
/-- Once: the two runs. -/
theorem once_run (fs : List Tp) (hg : goodC ⟨0, fs⟩ = true) :
    let r := runI ⟨fs, 1997, 24000⟩ 0
    let t := runI ⟨fs ++ onceB fs.length, 2000, 24000⟩ fs.length
    (r.out = 1 ∧ -1000000000 ≤ r.val ∧ r.val ≤ 1000000000 ∧ r.stp = 1997 ∧ t.out = 5 ∧ t.val = 0 ∧ t.stp = 2000) ∨
    (r.out = 1 ∧ -1000000000 ≤ r.val ∧ r.val ≤ 1000000000 ∧ 0 ≤ r.stp ∧ r.stp < 1997 ∧ (1000000000 < 2 * r.val ∨ 2 * r.val < -1000000000) ∧ t.out = 4 ∧ t.val = 0 ∧ t.stp = r.stp + 4) ∨
    (r.out = 1 ∧ -1000000000 ≤ r.val ∧ r.val ≤ 1000000000 ∧ 0 ≤ r.stp ∧ r.stp < 1997 ∧ ¬ (1000000000 < 2 * r.val ∨ 2 * r.val < -1000000000) ∧ t.out = 1 ∧ t.val = 2 * r.val ∧ t.stp = r.stp + 4) ∨
    (r.out = 2 ∧ r.val = 0 ∧ 0 ≤ r.stp ∧ r.stp ≤ 1997 ∧ t.out = 3 ∧ t.val = 0 ∧ t.stp = r.stp + 3) ∨
    (r.out = 5 ∧ r.val = 0 ∧ r.stp = 1997 ∧ t.out = 5 ∧ t.val = 0 ∧ t.stp = 2000) ∨
    ((r.out = 3 ∨ r.out = 4) ∧ r.val = 0 ∧ 0 ≤ r.stp ∧ r.stp ≤ 1997 ∧ t.out = r.out ∧ t.val = 0 ∧ t.stp = r.stp + 3) := by
  intro r t
  obtain ⟨hmn, htg, har, _⟩ := tgo_good (bud := 1997) (hp := 24000) hg
  have fr := run_fin ⟨fs, 1997, 24000⟩ 0 hmn htg har (by simp) (by simp)
  obtain ⟨n, T, hn, he, hT1, hT2⟩ := ev_run ⟨fs, 1997, 24000⟩ 0 hmn htg (by simp) (by simp)
  have hi0 := ii_init ⟨fs, 1997, 24000⟩ 0 hmn
  have hr0 : Rn ⟨fs, 1997, 24000⟩ (initI 0) := ⟨⟨_, hi0⟩, by simp [initI], by simp [initI], by simp [initI]⟩
  -- the run is not too long
  have hnb : n ≤ 275587 := by
    cases n with
    | zero => omega
    | succ m =>
      have ho := ev_prev he
      obtain ⟨_, h2, h3, h4, _⟩ := ii_iter htg hi0 (by simp [initI]) m ho
      have e : pot (initI 0) = 0 := by simp [pot, initI, cntU, sumW, topW, hdI, opens]
      have e2 : (initI 0).stp = 0 := rfl
      rw [e, e2] at h2
      simp only at h4
      omega
  obtain ⟨hro, hrn⟩ := ro_ev (B := onceB fs.length) htg n (initI 0) _ T (ro_init ([(3, ((fs.length + 2 : Nat) : Int)), (3, 0)], false)) (fun _ => hr0) he
  obtain ⟨eT, hTv⟩ := ev_iter he
  have hstart := once_start fs
  have hit : ∀ k, iterI ⟨fs ++ onceB fs.length, 2000, 24000⟩ (5 + (n + k)) (initI fs.length) = iterI ⟨fs ++ onceB fs.length, 2000, 24000⟩ k (iterI ⟨fs ++ onceB fs.length, 2000, 24000⟩ n ⟨[(3, 0)], K2, [([(3, ((fs.length + 2 : Nat) : Int)), (3, 0)], false)], 3, 0, 0⟩) := fun k => by
    rw [iterI_add, hstart, iterI_add]
  generalize hT' : iterI ⟨fs ++ onceB fs.length, 2000, 24000⟩ n ⟨[(3, 0)], K2, [([(3, ((fs.length + 2 : Nat) : Int)), (3, 0)], false)], 3, 0, 0⟩ = T' at *
  have htk : ∀ k, (iterI ⟨fs ++ onceB fs.length, 2000, 24000⟩ k T').out ≠ 0 → k ≤ 10 → t = iterI ⟨fs ++ onceB fs.length, 2000, 24000⟩ k T' := fun k hk hk10 => by
    rw [← hit k] at hk ⊢
    exact run_out _ _ _ hk (by omega)
  have hou : r.out = 1 ∨ r.out = 2 ∨ r.out = 3 ∨ r.out = 4 ∨ r.out = 5 ∨ r.out = 6 := fr.ou
  have hvl : r.out ≠ 1 → r.val = 0 := fr.vl
  have hsp : r.out = 5 → r.stp = 1997 := fr.sp
  have hfu : r.out ≠ 6 := fr.fu (by simp)
  by_cases hTo : T.out = 0
  · obtain ⟨hk, hv⟩ := hTv.resolve_left (fun g => g hTo)
    obtain ⟨q1, q2, q3⟩ := hT2 hTo
    have hrT := hrn hTo
    obtain ⟨rk, hiT⟩ := hrT.iv
    have hne := hiT.ne
    have hcur : T'.cur = T.cur.map (mp up1) := hro.cur
    have hval0 : T.val = 0 := by
      rcases iter_val ⟨fs, 1997, 24000⟩ n (initI 0) rfl with g | g
      · rw [← eT] at g; exact g
      · rw [← eT] at g; omega
    have hT'e : T' = ⟨T.cur.map (mp up1), K2, ([(3, ((fs.length + 2 : Nat) : Int)), (3, 0)], false) :: T.nds.map (fun n => (n.1.map (mp up1), n.2)), T.stp + 3, 0, 0⟩ := by
      obtain ⟨a1, a2, a3, a4, a5, a6⟩ := hro
      rw [hk] at a2
      rw [hTo] at a5
      rw [hval0] at a6
      cases T'
      simp only at a1 a2 a3 a4 a5 a6
      subst a1 a3 a4 a5 a6
      rw [a2]
      rfl
    have hhd : hdI (T.cur.map (mp up1)) = hdI T.cur := (hd_up T.cur).2 hv.1
    have hgi := hiT.it _ (hd_mem hne)
    have hv' : isVal ⟨fs ++ onceB fs.length, 2000, 24000⟩ (T.cur.map (mp up1)) := by
      have hlen : (T.cur.map (mp up1)).tail.length = T.cur.tail.length := by rw [← List.map_tail, List.length_map]
      refine ⟨by rw [hhd]; exact hv.1, fun h3 => ?_, fun h4 => ?_, fun h3 h4 => ?_⟩
      · rw [hhd] at h3 ⊢
        have hvv := hgi.2.1 h3
        rw [hlen, tpl_low hvv.1 hvv.2]
        exact hv.2.1 h3
      · rw [hhd] at h4 ⊢; rw [hlen]; exact hv.2.2.1 h4
      · rw [hhd] at h3 h4; rw [hlen]; exact hv.2.2.2 h3 h4
    have h1' : (hdI (T.cur.map (mp up1))).1 = 1 → T.cur.map (mp up1) = [hdI (T.cur.map (mp up1))] := fun h1 => by
      rw [hhd] at h1
      have ht0 := hv.2.2.2 (by omega) (by omega)
      cases hc : T.cur with
      | nil => exact absurd hc hne
      | cons a l =>
        rw [hc] at ht0
        have : l = [] := by simpa using ht0
        rw [this]; rfl
    obtain ⟨o1, o2, o3, o4⟩ := once_end ⟨fs ++ onceB fs.length, 2000, 24000⟩ (T.cur.map (mp up1)) ([(3, ((fs.length + 2 : Nat) : Int)), (3, 0)], false) (T.nds.map (fun n => (n.1.map (mp up1), n.2))) (T.stp + 3) rfl hv' h1'
    rw [hhd, ← hT'e] at o1 o2 o3 o4
    have hs1 := hrT.s1
    have hs0 := hrT.s0
    simp only at hs1
    have r1 : r.stp = T.stp := q1
    by_cases hn1 : (hdI T.cur).1 = 1
    · have ro : r.out = 1 := by have : r.out = _ := q2; rw [this, if_pos hn1]
      have rv : r.val = (hdI T.cur).2 := by have : r.val = _ := q3; rw [this, if_pos hn1]
      by_cases hst : T.stp = 1997
      · left
        obtain ⟨z1, z2, z3⟩ := o2 hn1 (by omega)
        have ht := htk 4 (by rw [z1]; simp) (by omega)
        exact ⟨ro, by rw [rv]; exact (hgi.1 hn1).1, by rw [rv]; exact (hgi.1 hn1).2, by omega, by rw [ht]; exact z1, by rw [ht]; exact z2, by rw [ht, z3]; omega⟩
      · right
        by_cases hov : 1000000000 < 2 * (hdI T.cur).2 ∨ 2 * (hdI T.cur).2 < -1000000000
        · left
          obtain ⟨z1, z2, z3⟩ := o3 hn1 (by omega) hov
          have ht := htk 4 (by rw [z1]; simp) (by omega)
          exact ⟨ro, by rw [rv]; exact (hgi.1 hn1).1, by rw [rv]; exact (hgi.1 hn1).2, by omega, by omega, by rw [rv]; exact hov, by rw [ht]; exact z1, by rw [ht]; exact z2, by rw [ht, z3]; omega⟩
        · right; left
          obtain ⟨z1, z2, z3⟩ := o4 hn1 (by omega) hov
          have ht := htk 5 (by rw [z1]; simp) (by omega)
          exact ⟨ro, by rw [rv]; exact (hgi.1 hn1).1, by rw [rv]; exact (hgi.1 hn1).2, by omega, by omega, by rw [rv]; exact hov, by rw [ht]; exact z1, by rw [ht, rv]; exact z2, by rw [ht, z3]; omega⟩
    · have ro : r.out = 2 := by have : r.out = _ := q2; rw [this, if_neg hn1]
      obtain ⟨z1, z2, z3⟩ := o1 hn1
      have ht := htk 2 (by rw [z1]; simp) (by omega)
      exact .inr (.inr (.inr (.inl ⟨ro, hvl (by omega), by omega, by omega, by rw [ht]; exact z1, by rw [ht]; exact z2, by rw [ht, z3]; omega⟩)))
  · have hrT : r = T := hT1 hTo
    have hto : T'.out = T.out := hro.out
    have ht := htk 0 (by show T'.out ≠ 0; rw [hto]; exact hTo) (by omega)
    have ht' : t = T' := ht
    have e1 : t.out = r.out := by rw [ht', hrT]; exact hto
    have e2 : t.val = r.val := by rw [ht', hrT]; exact hro.val
    have e3 : t.stp = r.stp + 3 := by rw [ht', hrT]; exact hro.stp
    have hn12 : r.out ≠ 1 ∧ r.out ≠ 2 := by
      -- an outcome of a value comes behind the part of the run
      have key : ∀ (m : Nat) (s T0 : Im), Ev ⟨fs, 1997, 24000⟩ [] m s T0 → s.out = 0 → T0.out ≠ 1 ∧ T0.out ≠ 2 := by
        intro m
        induction m with
        | zero => intro s T0 he h0; obtain ⟨rfl, _⟩ := he; omega
        | succ m ih =>
          intro s T0 he h0
          obtain ⟨_, hnv, he⟩ := he
          by_cases hmo : (moveI ⟨fs, 1997, 24000⟩ s).out = 0
          · exact ih _ _ he hmo
          · obtain ⟨e0, _⟩ := ev_iter he
            rw [iterI_done _ _ _ hmo] at e0
            rw [e0]
            rcases move_cases ⟨fs, 1997, 24000⟩ s with ⟨_, e⟩ | ⟨_, _, e⟩ | ⟨_, _, e⟩ | ⟨_, _, _, _, e⟩ | ⟨hv, e⟩
            · rw [e]; split <;> (simp only; omega)
            · rw [e]; unfold callI
              split
              · simp
              · split
                · simp
                · simp only; omega
            · rw [e]; simp only; omega
            · rw [e]; simp
            · rw [e]; unfold delI
              split
              · next hk => exact absurd ⟨hk, hv⟩ hnv
              · repeat' split
                all_goals (simp only; omega)
      rw [hrT]
      exact key n (initI 0) T he rfl
    have hv0 := hvl hn12.1
    rcases hou with g | g | g | g | g | g
    · exact absurd g hn12.1
    · exact absurd g hn12.2
    · exact .inr (.inr (.inr (.inr (.inr ⟨.inl g, hv0, fr.s0, fr.s1, e1, by omega, e3⟩))))
    · exact .inr (.inr (.inr (.inr (.inr ⟨.inr g, hv0, fr.s0, fr.s1, e1, by omega, e3⟩))))
    · have := hsp g
      exact .inr (.inr (.inr (.inr (.inl ⟨g, hv0, this, by omega, by omega, by omega⟩))))
    · exact absurd g hfu

end Go.Proofs.YtnndoagpbcacdabGreatDoor
