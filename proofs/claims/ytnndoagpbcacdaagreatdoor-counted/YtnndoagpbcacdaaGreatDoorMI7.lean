import Derived.Test.YtnndoagpbcacdaaGreatDoorMI4
namespace Go.Proofs.YtnndoagpbcacdaaGreatDoor

/-! Budgets and heaps. -/
theorem need_le (s : Im) : needI s ≤ s.nds.length := (need_ri (asM s)).le
/-- A move makes a step, or none; what is told at the end. -/
structure M1 (c : Cf) (s s' : Im) : Prop where
  st : s'.stp = s.stp ∨ (s'.stp = s.stp + 1 ∧ s.stp < c.bud)
  ou : s'.out = 0 ∨ s'.out = 1 ∨ s'.out = 2 ∨ s'.out = 3 ∨ (s'.out = 4 ∧ s'.stp = s.stp + 1) ∨ (s'.out = 5 ∧ c.bud ≤ s.stp ∧ s' = { s with out := 5 }) ∨ (s'.out = 6 ∧ s.stp < c.bud ∧ s' = { s with out := 6 } ∧ ∃ t : Tp, c.hp < (needI s : Int) + ((t.ls.length : Int) - 1) ∧ (hdI s.cur).1 = 3 ∧ t = tplM c (hdI s.cur).2)
  vl : s'.val = s.val ∨ s'.out = 1
theorem del_m1 (c : Cf) (t : Int × Int) (s : Im) (h0 : s.out = 0) : M1 c s (delI c t s) := by
  unfold delI
  split
  · split
    · exact ⟨.inl rfl, .inr (.inl rfl), .inr rfl⟩
    · exact ⟨.inl rfl, .inr (.inr (.inl rfl)), .inl rfl⟩
  · next f ks hk =>
    split
    · exact ⟨.inl rfl, .inl h0, .inl rfl⟩
    · split
      · exact ⟨.inl rfl, .inr (.inr (.inr (.inl rfl))), .inl rfl⟩
      · split
        · exact ⟨.inl rfl, .inl h0, .inl rfl⟩
        · split
          · next hb => exact ⟨.inl rfl, .inr (.inr (.inr (.inr (.inr (.inl ⟨rfl, hb, by rw [hk]⟩))))), .inl rfl⟩
          · next hb =>
            have hb' : s.stp < c.bud := by omega
            split
            · exact ⟨.inr ⟨rfl, hb'⟩, .inl h0, .inl rfl⟩
            · split
              · exact ⟨.inr ⟨rfl, hb'⟩, .inr (.inr (.inr (.inr (.inl ⟨rfl, rfl⟩)))), .inl rfl⟩
              · exact ⟨.inr ⟨rfl, hb'⟩, .inl h0, .inl rfl⟩
theorem call_m1 (c : Cf) (r : Ln) (s : Im) (h0 : s.out = 0) (h3 : (hdI s.cur).1 = 3) : M1 c s (callI c (tplM c (hdI s.cur).2) r s) := by
  unfold callI
  split
  · next hb => exact ⟨.inl rfl, .inr (.inr (.inr (.inr (.inr (.inl ⟨rfl, hb, rfl⟩))))), .inl rfl⟩
  · next hb =>
    have hb' : s.stp < c.bud := by omega
    split
    · next hf => exact ⟨.inl rfl, .inr (.inr (.inr (.inr (.inr (.inr ⟨rfl, hb', rfl, _, hf, h3, rfl⟩))))), .inl rfl⟩
    · exact ⟨.inr ⟨rfl, hb'⟩, .inl h0, .inl rfl⟩
theorem move_m1 (c : Cf) (s : Im) (h0 : s.out = 0) : M1 c s (moveI c s) := by
  unfold moveI
  simp only
  split
  · split <;> exact ⟨.inl rfl, .inl h0, .inl rfl⟩
  · split
    · next h3 =>
      split
      · exact call_m1 c _ s h0 h3
      · exact del_m1 c _ s h0
    · split
      · split
        · exact ⟨.inl rfl, .inl h0, .inl rfl⟩
        · exact del_m1 c _ s h0
      · split
        · exact ⟨.inl rfl, .inr (.inr (.inr (.inl rfl))), .inl rfl⟩
        · exact del_m1 c _ s h0
/-- Two budgets or heaps: the same move, or one of them does not make the step. -/
theorem move_two (c1 c2 : Cf) (hfs : c1.fs = c2.fs) (s : Im) :
    moveI c1 s = moveI c2 s ∨ (moveI c1 s).out = 5 ∨ (moveI c1 s).out = 6 ∨ (moveI c2 s).out = 5 ∨ (moveI c2 s).out = 6 := by
  have htp : ∀ n, tplM c1 n = tplM c2 n := fun n => by unfold tplM; rw [hfs]
  have hdel : ∀ t, delI c1 t s = delI c2 t s ∨ (delI c1 t s).out = 5 ∨ (delI c2 t s).out = 5 := by
    intro t
    unfold delI
    split
    · exact .inl rfl
    · split
      · exact .inl rfl
      · split
        · exact .inl rfl
        · split
          · exact .inl rfl
          · by_cases b1 : c1.bud ≤ s.stp
            · rw [if_pos b1]; exact .inr (.inl rfl)
            · rw [if_neg b1]
              by_cases b2 : c2.bud ≤ s.stp
              · rw [if_pos b2]; exact .inr (.inr rfl)
              · rw [if_neg b2]; exact .inl rfl
  have hd : ∀ t, delI c1 t s = delI c2 t s ∨ (delI c1 t s).out = 5 ∨ (delI c1 t s).out = 6 ∨ (delI c2 t s).out = 5 ∨ (delI c2 t s).out = 6 := by
    intro t
    rcases hdel t with h | h | h
    · exact .inl h
    · exact .inr (.inl h)
    · exact .inr (.inr (.inr (.inl h)))
  have hcall : ∀ t r, callI c1 t r s = callI c2 t r s ∨ (callI c1 t r s).out = 5 ∨ (callI c1 t r s).out = 6 ∨ (callI c2 t r s).out = 5 ∨ (callI c2 t r s).out = 6 := by
    intro t r
    unfold callI
    split
    · exact .inr (.inl rfl)
    · split
      · exact .inr (.inr (.inl rfl))
      · split
        · exact .inr (.inr (.inr (.inl rfl)))
        · split
          · exact .inr (.inr (.inr (.inr rfl)))
          · exact .inl rfl
  unfold moveI
  simp only
  split
  · exact .inl rfl
  · split
    · rw [htp]
      split
      · exact hcall _ _
      · exact hd _
    · split
      · split
        · exact .inl rfl
        · exact hd _
      · split
        · exact .inl rfl
        · exact hd _
/-- Where the budget alone refuses a step, it is made with a larger one. -/
theorem step_due (c1 c2 : Cf) (hfs : c1.fs = c2.fs) (s : Im) (h5 : (moveI c1 s).out = 5) (hb : s.stp < c2.bud) (h0 : s.out = 0) : (moveI c2 s).stp = s.stp + 1 ∨ (moveI c2 s).out = 6 := by
  have htp : ∀ n, tplM c1 n = tplM c2 n := fun n => by unfold tplM; rw [hfs]
  have hdel : ∀ t, (delI c1 t s).out = 5 → (delI c2 t s).stp = s.stp + 1 ∨ (delI c2 t s).out = 6 := by
    intro t
    unfold delI
    split
    · split <;> simp
    · split
      · intro h; simp only at h; omega
      · split
        · intro h; simp at h
        · split
          · intro h; simp only at h; omega
          · intro _
            rw [if_neg (by omega)]
            split
            · exact .inl rfl
            · split <;> exact .inl rfl
  have hcall : ∀ t r, (callI c1 t r s).out = 5 → (callI c2 t r s).stp = s.stp + 1 ∨ (callI c2 t r s).out = 6 := by
    intro t r _
    unfold callI
    rw [if_neg (by omega)]
    split
    · exact .inr rfl
    · exact .inl rfl
  unfold moveI at h5 ⊢
  simp only at h5 ⊢
  split at h5
  · split at h5 <;> (simp only at h5; omega)
  · next a1 =>
    rw [if_neg a1]
    split at h5
    · next a2 =>
      rw [if_pos a2]
      rw [htp] at h5
      split at h5
      · next a3 => rw [if_pos a3]; exact hcall _ _ h5
      · next a3 => rw [if_neg a3]; exact hdel _ h5
    · next a2 =>
      rw [if_neg a2]
      split at h5
      · next a3 =>
        rw [if_pos a3]
        split at h5
        · simp only at h5; omega
        · next a4 => rw [if_neg a4]; exact hdel _ h5
      · next a3 =>
        rw [if_neg a3]
        split at h5
        · simp at h5
        · next a4 => rw [if_neg a4]; exact hdel _ h5
theorem iter_st (c : Cf) : ∀ (n : Nat) (s : Im), s.stp ≤ (iterI c n s).stp
  | 0, s => by simp [iterI]
  | n + 1, s => by
    rw [iterI]
    split
    · next h0 =>
      have h1 := iter_st c n (moveI c s)
      rcases (move_m1 c s h0).st with h | h <;> omega
    · omega
theorem iter_st_le (c : Cf) (n m : Nat) (s : Im) (h : n ≤ m) : (iterI c n s).stp ≤ (iterI c m s).stp := by
  obtain ⟨d, rfl⟩ : ∃ d, m = n + d := ⟨m - n, by omega⟩
  rw [iterI_add c n d s]
  exact iter_st c d _
theorem iter_val (c : Cf) : ∀ (n : Nat) (s : Im), s.out = 0 → (iterI c n s).val = s.val ∨ (iterI c n s).out = 1
  | 0, s, _ => .inl rfl
  | n + 1, s, h0 => by
    rw [iterI, if_pos h0]
    have h1 := move_m1 c s h0
    by_cases ho : (moveI c s).out = 0
    · rcases iter_val c n _ ho with h | h
      · rcases h1.vl with h2 | h2
        · exact .inl (h.trans h2)
        · omega
      · exact .inr h
    · rw [iterI_done c n _ ho]
      exact h1.vl
/-- The two runs go the same way, as long as none of them refuses a step. -/
theorem iter_two (c1 c2 : Cf) (hfs : c1.fs = c2.fs) : ∀ (n : Nat) (s : Im), iterI c1 n s = iterI c2 n s ∨
    ∃ k, k < n ∧ iterI c1 k s = iterI c2 k s ∧ (iterI c1 k s).out = 0 ∧ moveI c1 (iterI c1 k s) ≠ moveI c2 (iterI c1 k s)
  | 0, s => .inl rfl
  | n + 1, s => by
    rcases iter_two c1 c2 hfs n s with h | ⟨k, hk, h⟩
    · by_cases ho : (iterI c1 n s).out = 0
      · rw [iterI_one c1 n s ho, iterI_one c2 n s (by rw [← h]; exact ho), ← h]
        by_cases e : moveI c1 (iterI c1 n s) = moveI c2 (iterI c1 n s)
        · exact .inl e
        · exact .inr ⟨n, by omega, h, ho, e⟩
      · left
        rw [iterI_out c1 n (n + 1) s (by omega) ho, iterI_out c2 n (n + 1) s (by omega) (by rw [← h]; exact ho), h]
    · exact .inr ⟨k, by omega, h⟩
/-- At every state of a run. -/
structure Rn (c : Cf) (s : Im) : Prop where
  iv : ∃ rk, Ii c rk s
  s0 : 0 ≤ s.stp
  s1 : s.stp ≤ c.bud
  nl : s.nds.length ≤ 12 * s.stp.toNat
theorem rn_iter (c : Cf) (mn : Int) (hmn : 0 ≤ mn ∧ mn < c.fs.length) (ht : ∀ t ∈ c.fs, TGo c t) (hb : 0 ≤ c.bud) (i : Nat) (h : (iterI c i (initI mn)).out = 0) : Rn c (iterI c i (initI mn)) := by
  obtain ⟨h1, _, h3, h4, h5⟩ := ii_iter ht (ii_init c mn hmn) (by exact hb) i h
  have e : (initI mn).stp = 0 := rfl
  have e2 : (initI mn).nds.length = 0 := rfl
  rw [e] at h3 h5
  rw [e2] at h5
  exact ⟨h1, h3, h4, by rw [Int.sub_zero] at h5; omega⟩
/-- With twelve nodes a step no run is full. -/
theorem no_full {c : Cf} {s : Im} (h : Rn c s) (h0 : s.out = 0) (ht : ∀ t ∈ c.fs, TGo c t) (hh : 12 * c.bud ≤ c.hp) : (moveI c s).out ≠ 6 := by
  intro e
  have hm := (move_m1 c s h0).ou
  rcases hm with h1 | h1 | h1 | h1 | h1 | h1 | ⟨_, hb, _, t, hf, h3, rfl⟩
  · omega
  · omega
  · omega
  · omega
  · omega
  · omega
  · obtain ⟨rk, hi⟩ := h.iv
    have hv := (hi.it _ (hd_mem hi.ne)).2.1 h3
    have := (tpl_go ht hv).tg.n1
    have := need_le s
    have := h.nl
    have := h.s0
    omega
/-- What a run comes to. -/
structure Fin1 (c : Cf) (s : Im) : Prop where
  ou : s.out = 1 ∨ s.out = 2 ∨ s.out = 3 ∨ s.out = 4 ∨ s.out = 5 ∨ s.out = 6
  vl : s.out ≠ 1 → s.val = 0
  sp : s.out = 5 → s.stp = c.bud
  s0 : 0 ≤ s.stp
  s1 : s.stp ≤ c.bud
  one : s.out ≠ 5 → s.out ≠ 6 → 1 ≤ s.stp
  fu : 12 * c.bud ≤ c.hp → s.out ≠ 6
theorem first_move (c : Cf) (mn : Int) (hmn : 0 ≤ mn ∧ mn < c.fs.length) (har : (c.fs[mn.toNat]?.getD ⟨0, []⟩).ar = 0) : (moveI c (initI mn)).out = 5 ∨ (moveI c (initI mn)).out = 6 ∨ (moveI c (initI mn)).stp = 1 := by
  have e : moveI c (initI mn) = callI c (tplM c mn) [] (initI mn) := by
    unfold moveI
    have h1 : hdI (initI mn).cur = (3, mn) := rfl
    have h2 : (initI mn).cur.tail = [] := rfl
    simp only [h1, h2]
    rw [if_neg (by simp), if_pos trivial, if_pos]
    unfold tplM
    rw [if_pos hmn, har]; simp
  rw [e]
  unfold callI
  split
  · exact .inl rfl
  · split
    · exact .inr (.inl rfl)
    · exact .inr (.inr rfl)
theorem run_fin (c : Cf) (mn : Int) (hmn : 0 ≤ mn ∧ mn < c.fs.length) (ht : ∀ t ∈ c.fs, TGo c t) (har : (c.fs[mn.toNat]?.getD ⟨0, []⟩).ar = 0) (hb0 : 0 ≤ c.bud) (hb : c.bud ≤ 2000) : Fin1 c (runI c mn) := by
  have hend := run_ends c mn hmn ht hb0 hb
  -- the last move
  obtain ⟨k, hk, h0, h1⟩ : ∃ k, k < 276001 ∧ (iterI c k (initI mn)).out = 0 ∧ runI c mn = moveI c (iterI c k (initI mn)) := by
    have key : ∀ n, (iterI c n (initI mn)).out ≠ 0 → ∃ k, k < n ∧ (iterI c k (initI mn)).out = 0 ∧ iterI c n (initI mn) = moveI c (iterI c k (initI mn)) := by
      intro n
      induction n with
      | zero => intro h; simp [iterI, initI] at h
      | succ n ih =>
        intro h
        by_cases ho : (iterI c n (initI mn)).out = 0
        · exact ⟨n, by omega, ho, iterI_one c n _ ho⟩
        · obtain ⟨k, h1, h2, h3⟩ := ih ho
          exact ⟨k, by omega, h2, by rw [← h3]; exact iterI_out c n (n + 1) _ (by omega) ho⟩
    exact key _ hend
  have hr := rn_iter c mn hmn ht hb0 k h0
  have hm := move_m1 c _ h0
  have hne : (runI c mn).out ≠ 0 := hend
  rw [h1] at hne ⊢
  have hst : ∀ j, 1 ≤ j → (iterI c j (initI mn)).out = 5 ∨ (iterI c j (initI mn)).out = 6 ∨ 1 ≤ (iterI c j (initI mn)).stp := by
    intro j hj
    obtain ⟨i, rfl⟩ : ∃ i, j = i + 1 := ⟨j - 1, by omega⟩
    have e : iterI c (i + 1) (initI mn) = iterI c i (moveI c (initI mn)) := by rw [iterI, if_pos (show (initI mn).out = 0 from rfl)]
    rw [e]
    rcases first_move c mn hmn har with h | h | h
    · left; rw [iterI_done c i _ (by omega)]; exact h
    · right; left; rw [iterI_done c i _ (by omega)]; exact h
    · right; right; have := iter_st c i (moveI c (initI mn)); omega
  refine ⟨?_, ?_, ?_, ?_, ?_, ?_, ?_⟩
  · rcases hm.ou with h | h | h | h | h | h | h <;> omega
  · intro h
    rcases hm.vl with h2 | h2
    · rw [h2]
      rcases iter_val c k (initI mn) rfl with h3 | h3
      · rw [h3]; rfl
      · omega
    · exact absurd h2 h
  · intro h
    rcases hm.ou with h2 | h2 | h2 | h2 | h2 | ⟨_, h2, h3⟩ | h2
    · omega
    · omega
    · omega
    · omega
    · omega
    · rw [h3]; have := hr.s1; show (iterI c k (initI mn)).stp = _; omega
    · omega
  · have := hr.s0; rcases hm.st with h | h <;> omega
  · have := hr.s1; rcases hm.st with h | h <;> omega
  · intro h5 h6
    by_cases hk1 : 1 ≤ k
    · rcases hst k hk1 with h | h | h
      · omega
      · omega
      · rcases hm.st with h2 | h2 <;> omega
    · have hk0 : k = 0 := by omega
      subst hk0
      rcases first_move c mn hmn har with h | h | h
      · exact absurd h h5
      · exact absurd h h6
      · have : (moveI c (iterI c 0 (initI mn))).stp = 1 := h
        omega
  · intro hh
    exact no_full hr h0 ht hh
/-- Two budgets (no heap is full). -/
theorem run_budget (fs : List Tp) (mn b1 b2 hp : Int) (hmn : 0 ≤ mn ∧ mn < fs.length) (ht : ∀ bud, ∀ t ∈ fs, TGo ⟨fs, bud, hp⟩ t) (h1 : 0 ≤ b1) (h12 : b1 ≤ b2) (h2 : b2 ≤ 2000) (hh : 12 * b2 ≤ hp) :
    runI ⟨fs, b1, hp⟩ mn = runI ⟨fs, b2, hp⟩ mn ∨ ((runI ⟨fs, b1, hp⟩ mn).out = 5 ∧ (runI ⟨fs, b1, hp⟩ mn).stp = b1 ∧ b1 < (runI ⟨fs, b2, hp⟩ mn).stp) := by
  rcases iter_two ⟨fs, b1, hp⟩ ⟨fs, b2, hp⟩ rfl 276001 (initI mn) with h | ⟨k, hk, e, ho, hne⟩
  · exact .inl h
  · right
    have hr1 := rn_iter ⟨fs, b1, hp⟩ mn hmn (ht b1) h1 k ho
    have hr2 := rn_iter ⟨fs, b2, hp⟩ mn hmn (ht b2) (by show 0 ≤ b2; omega) k (by rw [← e]; exact ho)
    rw [← e] at hr2
    have hm1 := move_m1 ⟨fs, b1, hp⟩ _ ho
    have hm2 := move_m1 ⟨fs, b2, hp⟩ _ ho
    have hn1 := no_full hr1 ho (ht b1) (by show 12 * b1 ≤ hp; omega)
    have hn2 := no_full hr2 ho (ht b2) hh
    have f1 : iterI ⟨fs, b1, hp⟩ (k + 1) (initI mn) = moveI ⟨fs, b1, hp⟩ (iterI ⟨fs, b1, hp⟩ k (initI mn)) := iterI_one _ _ _ ho
    have f2 : iterI ⟨fs, b2, hp⟩ (k + 1) (initI mn) = moveI ⟨fs, b2, hp⟩ (iterI ⟨fs, b1, hp⟩ k (initI mn)) := by rw [iterI_one _ _ _ (by rw [← e]; exact ho), ← e]
    generalize iterI ⟨fs, b1, hp⟩ k (initI mn) = s at *
    have hs1 := hr1.s1
    have hs2 := hr2.s1
    simp only at hs1 hs2
    have hsp1 : (moveI ⟨fs, b1, hp⟩ s).out = 5 → b1 ≤ s.stp ∧ moveI ⟨fs, b1, hp⟩ s = { s with out := 5 } := by
      intro h5
      rcases hm1.ou with g | g | g | g | g | ⟨_, g, g2⟩ | g
      · omega
      · omega
      · omega
      · omega
      · omega
      · exact ⟨g, g2⟩
      · omega
    have hsp2 : (moveI ⟨fs, b2, hp⟩ s).out = 5 → b2 ≤ s.stp ∧ moveI ⟨fs, b2, hp⟩ s = { s with out := 5 } := by
      intro h5
      rcases hm2.ou with g | g | g | g | g | ⟨_, g, g2⟩ | g
      · omega
      · omega
      · omega
      · omega
      · omega
      · exact ⟨g, g2⟩
      · omega
    -- the same state under the larger budget makes a step
    have h5 : (moveI ⟨fs, b1, hp⟩ s).out = 5 := by
      rcases move_two ⟨fs, b1, hp⟩ ⟨fs, b2, hp⟩ rfl s with g | g | g | g | g
      · exact absurd g hne
      · exact g
      · exact absurd g hn1
      · obtain ⟨q1, q2⟩ := hsp2 g
        -- b2 = b1 then: the same configuration
        have : b1 = b2 := by omega
        subst this
        exact absurd rfl hne
      · exact absurd g hn2
    obtain ⟨q1, q2⟩ := hsp1 h5
    have hb : b1 = s.stp := by omega
    have hlt : b1 < b2 := by
      apply Classical.byContradiction
      intro hc
      have : b1 = b2 := by omega
      subst this
      exact hne rfl
    have hstep : (moveI ⟨fs, b2, hp⟩ s).stp = s.stp + 1 := by
      have key := step_due ⟨fs, b1, hp⟩ ⟨fs, b2, hp⟩ rfl s h5 (by show s.stp < b2; omega) ho
      rcases key with g | g
      · exact g
      · exact absurd g hn2
    have r1 : runI ⟨fs, b1, hp⟩ mn = moveI ⟨fs, b1, hp⟩ s := by rw [← f1]; exact run_out _ _ _ (by rw [f1, h5]; simp) (by omega)
    refine ⟨by rw [r1]; exact h5, by rw [r1, q2]; exact hb.symm, ?_⟩
    have hge : (iterI ⟨fs, b2, hp⟩ (k + 1) (initI mn)).stp ≤ (runI ⟨fs, b2, hp⟩ mn).stp := iter_st_le _ _ _ _ (by omega)
    rw [f2, hstep] at hge
    omega

/-- Two heaps. -/
theorem run_heap (fs : List Tp) (mn bud h1 h2 : Int) (h12 : h1 ≤ h2) :
    runI ⟨fs, bud, h1⟩ mn = runI ⟨fs, bud, h2⟩ mn ∨ ((runI ⟨fs, bud, h1⟩ mn).out = 6 ∧ (runI ⟨fs, bud, h1⟩ mn).stp < (runI ⟨fs, bud, h2⟩ mn).stp) := by
  rcases iter_two ⟨fs, bud, h1⟩ ⟨fs, bud, h2⟩ rfl 276001 (initI mn) with h | ⟨k, hk, e, ho, hne⟩
  · exact .inl h
  · right
    have f1 : iterI ⟨fs, bud, h1⟩ (k + 1) (initI mn) = moveI ⟨fs, bud, h1⟩ (iterI ⟨fs, bud, h1⟩ k (initI mn)) := iterI_one _ _ _ ho
    have f2 : iterI ⟨fs, bud, h2⟩ (k + 1) (initI mn) = moveI ⟨fs, bud, h2⟩ (iterI ⟨fs, bud, h1⟩ k (initI mn)) := by rw [iterI_one _ _ _ (by rw [← e]; exact ho), ← e]
    generalize iterI ⟨fs, bud, h1⟩ k (initI mn) = s at *
    have key : (moveI ⟨fs, bud, h1⟩ s).out = 6 ∧ (moveI ⟨fs, bud, h1⟩ s).stp = s.stp ∧ (moveI ⟨fs, bud, h2⟩ s).stp = s.stp + 1 := by
      have hdel : ∀ t, delI ⟨fs, bud, h1⟩ t s = delI ⟨fs, bud, h2⟩ t s := fun t => rfl
      have hcall : ∀ t r, callI ⟨fs, bud, h1⟩ t r s ≠ callI ⟨fs, bud, h2⟩ t r s → (callI ⟨fs, bud, h1⟩ t r s).out = 6 ∧ (callI ⟨fs, bud, h1⟩ t r s).stp = s.stp ∧ (callI ⟨fs, bud, h2⟩ t r s).stp = s.stp + 1 := by
        intro t r
        unfold callI
        simp only
        by_cases hb : bud ≤ s.stp
        · rw [if_pos hb, if_pos hb]; intro h; exact absurd rfl h
        · rw [if_neg hb, if_neg hb]
          by_cases a1 : h1 < (needI s : Int) + ((t.ls.length : Int) - 1)
          · rw [if_pos a1]
            by_cases a2 : h2 < (needI s : Int) + ((t.ls.length : Int) - 1)
            · rw [if_pos a2]; intro h; exact absurd rfl h
            · rw [if_neg a2]; intro _; exact ⟨rfl, rfl, rfl⟩
          · rw [if_neg a1, if_neg (by omega)]; intro h; exact absurd rfl h
      unfold moveI at hne ⊢
      simp only [hdel] at hne ⊢
      split at hne
      · exact absurd rfl hne
      · next a1 =>
        rw [if_neg a1, if_neg a1]
        split at hne
        · next a2 =>
          rw [if_pos a2, if_pos a2]
          have htp : ∀ n, tplM ⟨fs, bud, h1⟩ n = tplM ⟨fs, bud, h2⟩ n := fun _ => rfl
          simp only [htp] at hne ⊢
          split at hne
          · next a3 => rw [if_pos a3, if_pos a3]; exact hcall _ _ hne
          · exact absurd rfl hne
        · exact absurd rfl hne
    have r1 : runI ⟨fs, bud, h1⟩ mn = moveI ⟨fs, bud, h1⟩ s := by rw [← f1]; exact run_out _ _ _ (by rw [f1, key.1]; simp) (by omega)
    refine ⟨by rw [r1]; exact key.1, ?_⟩
    have hge : (iterI ⟨fs, bud, h2⟩ (k + 1) (initI mn)).stp ≤ (runI ⟨fs, bud, h2⟩ mn).stp := iter_st_le _ _ _ _ (by omega)
    rw [f2, key.2.2] at hge
    rw [r1, key.2.1]
    omega

end Go.Proofs.YtnndoagpbcacdaaGreatDoor
namespace Go.Proofs.YtnndoagpbcacdaaGreatDoor

/-! What a part of a run comes to: up to where the frames are again ks and a value is on top. -/
def Ev (c : Cf) (ks : List Kf) : Nat → Im → Im → Prop
  | 0, s, T => T = s ∧ (s.out ≠ 0 ∨ (s.ks = ks ∧ isVal c s.cur))
  | n + 1, s, T => s.out = 0 ∧ ¬ (s.ks = ks ∧ isVal c s.cur) ∧ Ev c ks n (moveI c s) T
theorem ev_iter {c : Cf} {ks : List Kf} : ∀ {n : Nat} {s T : Im}, Ev c ks n s T → T = iterI c n s ∧ (T.out ≠ 0 ∨ (T.ks = ks ∧ isVal c T.cur))
  | 0, s, T, h => by obtain ⟨rfl, h⟩ := h; exact ⟨rfl, h⟩
  | n + 1, s, T, h => by
    obtain ⟨h1, _, h3⟩ := h
    obtain ⟨e, h4⟩ := ev_iter h3
    exact ⟨by rw [iterI, if_pos h1]; exact e, h4⟩
theorem ev_exists (c : Cf) (ks : List Kf) : ∀ (N : Nat) (s : Im), (iterI c N s).out ≠ 0 → ∃ n T, n ≤ N ∧ Ev c ks n s T
  | 0, s, h => ⟨0, s, Nat.le_refl _, rfl, .inl h⟩
  | N + 1, s, h => by
    by_cases h0 : s.out = 0
    · by_cases hv : s.ks = ks ∧ isVal c s.cur
      · exact ⟨0, s, by omega, rfl, .inr hv⟩
      · rw [iterI, if_pos h0] at h
        obtain ⟨n, T, hn, he⟩ := ev_exists c ks N (moveI c s) h
        exact ⟨n + 1, T, by omega, h0, hv, he⟩
    · exact ⟨0, s, by omega, rfl, .inl h0⟩
/-- What is delivered is a value. -/
theorem move_cases (c : Cf) (s : Im) :
    ((hdI s.cur).1 = 5 ∧ moveI c s = (if (ndI s (hdI s.cur).2).2 then { s with cur := (ndI s (hdI s.cur).2).1 ++ s.cur.tail } else { s with cur := (ndI s (hdI s.cur).2).1, ks := ⟨1, (hdI s.cur).2, 0, 0, s.cur.tail⟩ :: s.ks })) ∨
    ((hdI s.cur).1 = 3 ∧ (tplM c (hdI s.cur).2).ar ≤ (s.cur.tail.length : Int) ∧ moveI c s = callI c (tplM c (hdI s.cur).2) s.cur.tail s) ∨
    ((hdI s.cur).1 = 4 ∧ wantM (hdI s.cur).2 ≤ (s.cur.tail.length : Int) ∧ moveI c s = { s with cur := [hdI s.cur.tail], ks := ⟨2, 0, (hdI s.cur).2, 0, s.cur.tail.tail⟩ :: s.ks }) ∨
    ((hdI s.cur).1 ≠ 5 ∧ (hdI s.cur).1 ≠ 3 ∧ (hdI s.cur).1 ≠ 4 ∧ 0 < s.cur.tail.length ∧ moveI c s = { s with out := 3 }) ∨
    (isVal c s.cur ∧ moveI c s = delI c (hdI s.cur) s) := by
  unfold moveI
  simp only
  by_cases h5 : (hdI s.cur).1 = 5
  · rw [if_pos h5]; exact .inl ⟨h5, rfl⟩
  rw [if_neg h5]
  by_cases h3 : (hdI s.cur).1 = 3
  · rw [if_pos h3]
    by_cases hl : (tplM c (hdI s.cur).2).ar ≤ (s.cur.tail.length : Int)
    · rw [if_pos hl]; exact .inr (.inl ⟨h3, hl, rfl⟩)
    · rw [if_neg hl]; exact .inr (.inr (.inr (.inr ⟨⟨h5, fun _ => by omega, fun e => by omega, fun e => by omega⟩, rfl⟩)))
  rw [if_neg h3]
  by_cases h4 : (hdI s.cur).1 = 4
  · rw [if_pos h4]
    by_cases hl : wantM (hdI s.cur).2 ≤ (s.cur.tail.length : Int)
    · rw [if_pos hl]; exact .inr (.inr (.inl ⟨h4, hl, rfl⟩))
    · rw [if_neg hl]; exact .inr (.inr (.inr (.inr ⟨⟨h5, fun e => by omega, fun _ => by omega, fun _ e => by omega⟩, rfl⟩)))
  rw [if_neg h4]
  by_cases hl : 0 < s.cur.tail.length
  · rw [if_pos hl]; exact .inr (.inr (.inr (.inl ⟨h5, h3, h4, hl, rfl⟩)))
  · rw [if_neg hl]; exact .inr (.inr (.inr (.inr ⟨⟨h5, fun e => by omega, fun e => by omega, fun _ _ => by omega⟩, rfl⟩)))
theorem call_ks (c : Cf) (t : Tp) (r : Ln) (s : Im) : (callI c t r s).ks = s.ks := by
  unfold callI
  split
  · rfl
  · split <;> rfl
/-- The frames below are left alone. -/
theorem move_suf {c : Cf} {s : Im} {f : Kf} {pre ks : List Kf} (hk : s.ks = pre ++ f :: ks) (hv : ¬ (s.ks = f :: ks ∧ isVal c s.cur)) : ∃ pre', (moveI c s).ks = pre' ++ f :: ks := by
  rcases move_cases c s with ⟨_, e⟩ | ⟨_, _, e⟩ | ⟨_, _, e⟩ | ⟨_, _, _, _, e⟩ | ⟨hval, e⟩
  · rw [e]
    split
    · exact ⟨pre, hk⟩
    · exact ⟨⟨1, (hdI s.cur).2, 0, 0, s.cur.tail⟩ :: pre, by simp [hk]⟩
  · rw [e]; exact ⟨pre, by rw [call_ks]; exact hk⟩
  · rw [e]; exact ⟨⟨2, 0, (hdI s.cur).2, 0, s.cur.tail.tail⟩ :: pre, by simp [hk]⟩
  · rw [e]; exact ⟨pre, hk⟩
  · rw [e]
    cases pre with
    | nil => exact absurd ⟨hk, hval⟩ hv
    | cons g pre =>
      unfold delI
      rw [hk]
      simp only [List.cons_append]
      repeat' split
      all_goals first
        | exact ⟨pre, rfl⟩
        | exact ⟨⟨3, 0, g.pr, (hdI s.cur).2, g.rs.tail⟩ :: pre, rfl⟩
        | exact ⟨g :: pre, rfl⟩
theorem ev_split {c : Cf} (ht : ∀ t ∈ c.fs, TGo c t) {f : Kf} {ks : List Kf} : ∀ (n : Nat) (s T : Im) (pre : List Kf) (rk : Int → Nat), Ii c rk s → s.ks = pre ++ f :: ks → Ev c ks n s T → ∃ n1 n2 T1, n1 + n2 = n ∧ Ev c (f :: ks) n1 s T1 ∧ Ev c ks n2 T1 T
  | 0, s, T, pre, rk, hi, hk, he => by
    obtain ⟨rfl, h⟩ := he
    rcases h with h | ⟨h, _⟩
    · exact ⟨0, 0, T, rfl, ⟨rfl, .inl h⟩, rfl, .inl h⟩
    · have := congrArg List.length (hk.symm.trans h); simp at this; omega
  | n + 1, s, T, pre, rk, hi, hk, he => by
    by_cases hv : s.ks = f :: ks ∧ isVal c s.cur
    · exact ⟨0, n + 1, s, by omega, ⟨rfl, .inr hv⟩, he⟩
    · obtain ⟨h0, h1, h2⟩ := he
      by_cases ho : (moveI c s).out = 0
      · obtain ⟨pre', hk'⟩ := move_suf hk hv
        obtain ⟨rk', hi'⟩ := (ii_move hi ht ho).iv
        obtain ⟨n1, n2, T1, e, e1, e2⟩ := ev_split ht n (moveI c s) T pre' rk' hi' hk' h2
        exact ⟨n1 + 1, n2, T1, by omega, ⟨h0, hv, e1⟩, e2⟩
      · exact ⟨1, n, moveI c s, by omega, ⟨h0, hv, rfl, .inl ho⟩, h2⟩
/-- A run, by its parts. -/
theorem ev_run (c : Cf) (mn : Int) (hmn : 0 ≤ mn ∧ mn < c.fs.length) (ht : ∀ t ∈ c.fs, TGo c t) (hb0 : 0 ≤ c.bud) (hb : c.bud ≤ 2000) :
    ∃ n T, n ≤ 276001 ∧ Ev c [] n (initI mn) T ∧ (T.out ≠ 0 → runI c mn = T) ∧ (T.out = 0 → (runI c mn).stp = T.stp ∧ (runI c mn).out = (if (hdI T.cur).1 = 1 then 1 else 2) ∧ (runI c mn).val = (if (hdI T.cur).1 = 1 then (hdI T.cur).2 else 0)) := by
  have hend := run_ends c mn hmn ht hb0 hb
  obtain ⟨n, T, hn, he⟩ := ev_exists c [] 276001 (initI mn) hend
  obtain ⟨e, hT⟩ := ev_iter he
  refine ⟨n, T, hn, he, fun h => by rw [e] at h ⊢; exact run_out c mn n h hn, fun h => ?_⟩
  have hv := hT.resolve_left (fun g => g h)
  have hlt : n < 276001 := by
    rcases Nat.lt_or_eq_of_le hn with g | g
    · exact g
    · subst g; rw [e] at h; exact absurd h hend
  obtain ⟨⟨rk, hi⟩, _⟩ := ii_iter ht (ii_init c mn hmn) (by exact hb0) n (by rw [← e]; exact h)
  rw [← e] at hi
  have hval0 : T.val = 0 := by
    rcases iter_val c n (initI mn) rfl with g | g
    · rw [← e] at g; exact g
    · rw [← e] at g; omega
  have hm : moveI c T = delI c (hdI T.cur) T := by
    rcases move_cases c T with ⟨g, _⟩ | ⟨g, g2, _⟩ | ⟨g, g2, _⟩ | ⟨g1, g2, g3, g4, _⟩ | ⟨_, g⟩
    · exact absurd g hv.2.1
    · have := hv.2.2.1 g; omega
    · have := hv.2.2.2.1 g; omega
    · have := hv.2.2.2.2 g2 g3; omega
    · exact g
  have e2 : iterI c (n + 1) (initI mn) = delI c (hdI T.cur) T := by rw [iterI_one c n _ (by rw [← e]; exact h), ← e, hm]
  have e3 : delI c (hdI T.cur) T = if (hdI T.cur).1 = 1 then { T with out := 1, val := (hdI T.cur).2 } else { T with out := 2 } := by
    unfold delI; rw [hv.1]
  have e4 : runI c mn = delI c (hdI T.cur) T := by
    rw [← e2]
    refine run_out c mn (n + 1) ?_ (by omega)
    rw [e2, e3]
    split <;> simp
  rw [e4, e3]
  split
  · exact ⟨rfl, rfl, rfl⟩
  · exact ⟨rfl, rfl, hval0⟩

end Go.Proofs.YtnndoagpbcacdaaGreatDoor
namespace Go.Proofs.YtnndoagpbcacdaaGreatDoor

/-! Nothing is worked out that is not needed: the run. -/
theorem tpl_app {A B : List Tp} {b h : Int} {k : Nat} {t : Tp} (hk : B[k]? = some t) : tplM ⟨A ++ B, b, h⟩ ((A.length + k : Nat) : Int) = t := by
  have hlt := (List.getElem?_eq_some_iff.1 hk).1
  unfold tplM
  simp only
  rw [if_pos ⟨by omega, by rw [List.length_append]; omega⟩, Int.toNat_natCast, List.getElem?_append_right (by omega), show A.length + k - A.length = k by omega, hk]
  rfl
theorem tpl_low {A B : List Tp} {b h : Int} {n : Int} (h0 : 0 ≤ n) (h1 : n < A.length) : tplM ⟨A ++ B, b, h⟩ n = tplM ⟨A, b, h⟩ n := by
  unfold tplM
  simp only
  rw [if_pos ⟨h0, by rw [List.length_append]; omega⟩, if_pos ⟨h0, h1⟩, List.getElem?_append_left (by omega)]
/-- A call that has its arguments, its budget and its room. -/
theorem move_call {c : Cf} {s : Im} {f : Int} {r : Ln} {t : Tp} (hc : s.cur = (3, f) :: r) (ht : tplM c f = t) (har : t.ar ≤ (r.length : Int)) (hb : s.stp < c.bud) (hh : (s.nds.length : Int) + ((t.ls.length : Int) - 1) ≤ c.hp) :
    moveI c s = { s with stp := s.stp + 1, cur := instM (t.ls.headD []) (r.take t.ar.toNat) (idP s.nds.length (t.ls.length - 1)) ++ r.drop t.ar.toNat, nds := s.nds ++ t.ls.tail.map (fun l => (instM l (r.take t.ar.toNat) (idP s.nds.length (t.ls.length - 1)), false)) } := by
  unfold moveI
  have h1 : hdI s.cur = (3, f) := by rw [hc]; rfl
  have h2 : s.cur.tail = r := by rw [hc]; rfl
  simp only [h1, h2]
  rw [if_neg (by decide), if_pos trivial, ht, if_pos har]
  unfold callI
  have := need_le s
  rw [if_neg (by omega), if_neg (by omega)]
theorem un_run (A : List Tp) (v : Int) : (runI ⟨A ++ [⟨0, [[(3, ((A.length + 1 : Nat) : Int)), (1, v), (5, 0)], [(3, 0), (1, 1)]]⟩, ⟨2, [[(2, 0)]]⟩], 2, 24000⟩ A.length).out = 1 ∧ (runI ⟨A ++ [⟨0, [[(3, ((A.length + 1 : Nat) : Int)), (1, v), (5, 0)], [(3, 0), (1, 1)]]⟩, ⟨2, [[(2, 0)]]⟩], 2, 24000⟩ A.length).val = v ∧ (runI ⟨A ++ [⟨0, [[(3, ((A.length + 1 : Nat) : Int)), (1, v), (5, 0)], [(3, 0), (1, 1)]]⟩, ⟨2, [[(2, 0)]]⟩], 2, 24000⟩ A.length).stp = 2 := by
  generalize hB : ([⟨0, [[(3, ((A.length + 1 : Nat) : Int)), (1, v), (5, 0)], [(3, 0), (1, 1)]]⟩, ⟨2, [[(2, 0)]]⟩] : List Tp) = B
  have t0 : tplM ⟨A ++ B, 2, 24000⟩ ((A.length : Nat) : Int) = ⟨0, [[(3, ((A.length + 1 : Nat) : Int)), (1, v), (5, 0)], [(3, 0), (1, 1)]]⟩ := tpl_app (k := 0) (by rw [← hB]; rfl)
  have t1 : tplM ⟨A ++ B, 2, 24000⟩ ((A.length + 1 : Nat) : Int) = ⟨2, [[(2, 0)]]⟩ := tpl_app (k := 1) (by rw [← hB]; rfl)
  have m1 : moveI ⟨A ++ B, 2, 24000⟩ (initI A.length) = ⟨[(3, ((A.length + 1 : Nat) : Int)), (1, v), (5, 0)], [], [([(3, 0), (1, 1)], false)], 1, 0, 0⟩ := by
    rw [move_call (c := ⟨A ++ B, 2, 24000⟩) (s := initI A.length) (r := []) rfl t0 (by simp) (by show (0 : Int) < 2; omega) (by simp [initI])]
    simp [initI, instM, instA, idP]
  have m2 : moveI ⟨A ++ B, 2, 24000⟩ ⟨[(3, ((A.length + 1 : Nat) : Int)), (1, v), (5, 0)], [], [([(3, 0), (1, 1)], false)], 1, 0, 0⟩ = ⟨[(1, v)], [], [([(3, 0), (1, 1)], false)], 2, 0, 0⟩ := by
    rw [move_call (c := ⟨A ++ B, 2, 24000⟩) (r := [(1, v), (5, 0)]) rfl t1 (by simp) (by show (1 : Int) < 2; omega) (by simp)]
    simp [instM, instA, idP]
  have m3 : moveI ⟨A ++ B, 2, 24000⟩ ⟨[(1, v)], [], [([(3, 0), (1, 1)], false)], 2, 0, 0⟩ = ⟨[(1, v)], [], [([(3, 0), (1, 1)], false)], 2, 1, v⟩ := by
    simp [moveI, hdI, delI]
  have h3 : iterI ⟨A ++ B, 2, 24000⟩ 3 (initI A.length) = ⟨[(1, v)], [], [([(3, 0), (1, 1)], false)], 2, 1, v⟩ := by
    rw [iterI, if_pos (show (initI (A.length : Int)).out = 0 from rfl), m1, iterI, if_pos rfl, m2, iterI, if_pos rfl, m3, iterI]
  rw [run_out ⟨A ++ B, 2, 24000⟩ A.length 3 (by rw [h3]; simp) (by omega), h3]
  exact ⟨rfl, rfl, rfl⟩

end Go.Proofs.YtnndoagpbcacdaaGreatDoor
