import Derived.Test.YtnndoagpbcacdaaGreatDoorMI4
namespace Go.Proofs.YtnndoagpbcacdaaGreatDoor

/-! Budgets and heaps. -/
theorem need_le (s : Im) : needI s ≤ s.nds.length := (need_ri (asM s)).le
/-- A move makes a step, or none; what is told at the end. -/
structure M1 (c : Cf) (s s' : Im) : Prop where
  st : s'.stp = s.stp ∨ (s'.stp = s.stp + 1 ∧ s.stp < c.bud)
  ou : s'.out = 0 ∨ s'.out = 1 ∨ s'.out = 2 ∨ s'.out = 3 ∨ (s'.out = 4 ∧ s'.stp = s.stp + 1) ∨ (s'.out = 5 ∧ c.bud ≤ s.stp ∧ s' = { s with out := 5 }) ∨ (s'.out = 6 ∧ s.stp < c.bud ∧ s' = { s with out := 6 } ∧ ∃ t : Tp, c.hp < (needI s : Int) + ((t.ls.length : Int) - 1) ∧ (hdI s.cur).1 = 3 ∧ t = tplM c (hdI s.cur).2)
  vl : s'.val = s.val ∨ s'.out = 1
theorem del_m1 (c : Cf) (t : Int × Int) (s : Im) (h0 : s.out = 0) : M1 c s (delI c t s) := by
  unfold delI
  split
  · split
    · exact ⟨.inl rfl, .inr (.inl rfl), .inr rfl⟩
    · exact ⟨.inl rfl, .inr (.inr (.inl rfl)), .inl rfl⟩
  · next f ks hk =>
    split
    · exact ⟨.inl rfl, .inl h0, .inl rfl⟩
    · split
      · exact ⟨.inl rfl, .inr (.inr (.inr (.inl rfl))), .inl rfl⟩
      · split
        · exact ⟨.inl rfl, .inl h0, .inl rfl⟩
        · split
          · next hb => exact ⟨.inl rfl, .inr (.inr (.inr (.inr (.inr (.inl ⟨rfl, hb, by rw [hk]⟩))))), .inl rfl⟩
          · next hb =>
            have hb' : s.stp < c.bud := by omega
            split
            · exact ⟨.inr ⟨rfl, hb'⟩, .inl h0, .inl rfl⟩
            · split
              · exact ⟨.inr ⟨rfl, hb'⟩, .inr (.inr (.inr (.inr (.inl ⟨rfl, rfl⟩)))), .inl rfl⟩
              · exact ⟨.inr ⟨rfl, hb'⟩, .inl h0, .inl rfl⟩
theorem call_m1 (c : Cf) (r : Ln) (s : Im) (h0 : s.out = 0) (h3 : (hdI s.cur).1 = 3) : M1 c s (callI c (tplM c (hdI s.cur).2) r s) := by
  unfold callI
  split
  · next hb => exact ⟨.inl rfl, .inr (.inr (.inr (.inr (.inr (.inl ⟨rfl, hb, rfl⟩))))), .inl rfl⟩
  · next hb =>
    have hb' : s.stp < c.bud := by omega
    split
    · next hf => exact ⟨.inl rfl, .inr (.inr (.inr (.inr (.inr (.inr ⟨rfl, hb', rfl, _, hf, h3, rfl⟩))))), .inl rfl⟩
    · exact ⟨.inr ⟨rfl, hb'⟩, .inl h0, .inl rfl⟩
theorem move_m1 (c : Cf) (s : Im) (h0 : s.out = 0) : M1 c s (moveI c s) := by
  unfold moveI
  simp only
  split
  · split <;> exact ⟨.inl rfl, .inl h0, .inl rfl⟩
  · split
    · next h3 =>
      split
      · exact call_m1 c _ s h0 h3
      · exact del_m1 c _ s h0
    · split
      · split
        · exact ⟨.inl rfl, .inl h0, .inl rfl⟩
        · exact del_m1 c _ s h0
      · split
        · exact ⟨.inl rfl, .inr (.inr (.inr (.inl rfl))), .inl rfl⟩
        · exact del_m1 c _ s h0
/-- Two budgets or heaps: the same move, or one of them does not make the step. -/
theorem move_two (c1 c2 : Cf) (hfs : c1.fs = c2.fs) (s : Im) :
    moveI c1 s = moveI c2 s ∨ (moveI c1 s).out = 5 ∨ (moveI c1 s).out = 6 ∨ (moveI c2 s).out = 5 ∨ (moveI c2 s).out = 6 := by
  have htp : ∀ n, tplM c1 n = tplM c2 n := fun n => by unfold tplM; rw [hfs]
  have hdel : ∀ t, delI c1 t s = delI c2 t s ∨ (delI c1 t s).out = 5 ∨ (delI c2 t s).out = 5 := by
    intro t
    unfold delI
    split
    · exact .inl rfl
    · split
      · exact .inl rfl
      · split
        · exact .inl rfl
        · split
          · exact .inl rfl
          · by_cases b1 : c1.bud ≤ s.stp
            · rw [if_pos b1]; exact .inr (.inl rfl)
            · rw [if_neg b1]
              by_cases b2 : c2.bud ≤ s.stp
              · rw [if_pos b2]; exact .inr (.inr rfl)
              · rw [if_neg b2]; exact .inl rfl
  have hd : ∀ t, delI c1 t s = delI c2 t s ∨ (delI c1 t s).out = 5 ∨ (delI c1 t s).out = 6 ∨ (delI c2 t s).out = 5 ∨ (delI c2 t s).out = 6 := by
    intro t
    rcases hdel t with h | h | h
    · exact .inl h
    · exact .inr (.inl h)
    · exact .inr (.inr (.inr (.inl h)))
  have hcall : ∀ t r, callI c1 t r s = callI c2 t r s ∨ (callI c1 t r s).out = 5 ∨ (callI c1 t r s).out = 6 ∨ (callI c2 t r s).out = 5 ∨ (callI c2 t r s).out = 6 := by
    intro t r
    unfold callI
    split
    · exact .inr (.inl rfl)
    · split
      · exact .inr (.inr (.inl rfl))
      · split
        · exact .inr (.inr (.inr (.inl rfl)))
        · split
          · exact .inr (.inr (.inr (.inr rfl)))
          · exact .inl rfl
  unfold moveI
  simp only
  split
  · exact .inl rfl
  · split
    · rw [htp]
      split
      · exact hcall _ _
      · exact hd _
    · split
      · split
        · exact .inl rfl
        · exact hd _
      · split
        · exact .inl rfl
        · exact hd _
/-- Where the budget alone refuses a step, it is made with a larger one. -/
theorem step_due (c1 c2 : Cf) (hfs : c1.fs = c2.fs) (s : Im) (h5 : (moveI c1 s).out = 5) (hb : s.stp < c2.bud) (h0 : s.out = 0) : (moveI c2 s).stp = s.stp + 1 ∨ (moveI c2 s).out = 6 := by
  have htp : ∀ n, tplM c1 n = tplM c2 n := fun n => by unfold tplM; rw [hfs]
  have hdel : ∀ t, (delI c1 t s).out = 5 → (delI c2 t s).stp = s.stp + 1 ∨ (delI c2 t s).out = 6 := by
    intro t
    unfold delI
    split
    · split <;> simp
    · split
      · intro h; simp only at h; omega
      · split
        · intro h; simp at h
        · split
          · intro h; simp only at h; omega
          · intro _
            rw [if_neg (by omega)]
            split
            · exact .inl rfl
            · split <;> exact .inl rfl
  have hcall : ∀ t r, (callI c1 t r s).out = 5 → (callI c2 t r s).stp = s.stp + 1 ∨ (callI c2 t r s).out = 6 := by
    intro t r _
    unfold callI
    rw [if_neg (by omega)]
    split
    · exact .inr rfl
    · exact .inl rfl
  unfold moveI at h5 ⊢
  simp only at h5 ⊢
  split at h5
  · split at h5 <;> (simp only at h5; omega)
  · next a1 =>
    rw [if_neg a1]
    split at h5
    · next a2 =>
      rw [if_pos a2]
      rw [htp] at h5
      split at h5
      · next a3 => rw [if_pos a3]; exact hcall _ _ h5
      · next a3 => rw [if_neg a3]; exact hdel _ h5
    · next a2 =>
      rw [if_neg a2]
      split at h5
      · next a3 =>
        rw [if_pos a3]
        split at h5
        · simp only at h5; omega
        · next a4 => rw [if_neg a4]; exact hdel _ h5
      · next a3 =>
        rw [if_neg a3]
        split at h5
        · simp at h5
        · next a4 => rw [if_neg a4]; exact hdel _ h5
theorem iter_st (c : Cf) : ∀ (n : Nat) (s : Im), s.stp ≤ (iterI c n s).stp
  | 0, s => by simp [iterI]
  | n + 1, s => by
    rw [iterI]
    split
    · next h0 =>
      have h1 := iter_st c n (moveI c s)
      rcases (move_m1 c s h0).st with h | h <;> omega
    · omega
theorem iter_st_le (c : Cf) (n m : Nat) (s : Im) (h : n ≤ m) : (iterI c n s).stp ≤ (iterI c m s).stp := by
  obtain ⟨d, rfl⟩ : ∃ d, m = n + d := ⟨m - n, by omega⟩
  rw [iterI_add c n d s]
  exact iter_st c d _
theorem iter_val (c : Cf) : ∀ (n : Nat) (s : Im), s.out = 0 → (iterI c n s).val = s.val ∨ (iterI c n s).out = 1
  | 0, s, _ => .inl rfl
  | n + 1, s, h0 => by
    rw [iterI, if_pos h0]
    have h1 := move_m1 c s h0
    by_cases ho : (moveI c s).out = 0
    · rcases iter_val c n _ ho with h | h
      · rcases h1.vl with h2 | h2
        · exact .inl (h.trans h2)
        · omega
      · exact .inr h
    · rw [iterI_done c n _ ho]
      exact h1.vl
/-- The two runs go the same way, as long as none of them refuses a step. -/
theorem iter_two (c1 c2 : Cf) (hfs : c1.fs = c2.fs) : ∀ (n : Nat) (s : Im), iterI c1 n s = iterI c2 n s ∨
    ∃ k, k < n ∧ iterI c1 k s = iterI c2 k s ∧ (iterI c1 k s).out = 0 ∧ moveI c1 (iterI c1 k s) ≠ moveI c2 (iterI c1 k s)
  | 0, s => .inl rfl
  | n + 1, s => by
    rcases iter_two c1 c2 hfs n s with h | ⟨k, hk, h⟩
    · by_cases ho : (iterI c1 n s).out = 0
      · rw [iterI_one c1 n s ho, iterI_one c2 n s (by rw [← h]; exact ho), ← h]
        by_cases e : moveI c1 (iterI c1 n s) = moveI c2 (iterI c1 n s)
        · exact .inl e
        · exact .inr ⟨n, by omega, h, ho, e⟩
      · left
        rw [iterI_out c1 n (n + 1) s (by omega) ho, iterI_out c2 n (n + 1) s (by omega) (by rw [← h]; exact ho), h]
    · exact .inr ⟨k, by omega, h⟩
/-- At every state of a run. -/
structure Rn (c : Cf) (s : Im) : Prop where
  iv : ∃ rk, Ii c rk s
  s0 : 0 ≤ s.stp
  s1 : s.stp ≤ c.bud
  nl : s.nds.length ≤ 12 * s.stp.toNat
theorem rn_iter (c : Cf) (mn : Int) (hmn : 0 ≤ mn ∧ mn < c.fs.length) (ht : ∀ t ∈ c.fs, TGo c t) (hb : 0 ≤ c.bud) (i : Nat) (h : (iterI c i (initI mn)).out = 0) : Rn c (iterI c i (initI mn)) := by
  obtain ⟨h1, _, h3, h4, h5⟩ := ii_iter ht (ii_init c mn hmn) (by exact hb) i h
  have e : (initI mn).stp = 0 := rfl
  have e2 : (initI mn).nds.length = 0 := rfl
  rw [e] at h3 h5
  rw [e2] at h5
  exact ⟨h1, h3, h4, by rw [Int.sub_zero] at h5; omega⟩
/-- With twelve nodes a step no run is full. -/
theorem no_full {c : Cf} {s : Im} (h : Rn c s) (h0 : s.out = 0) (ht : ∀ t ∈ c.fs, TGo c t) (hh : 12 * c.bud ≤ c.hp) : (moveI c s).out ≠ 6 := by
  intro e
  have hm := (move_m1 c s h0).ou
  rcases hm with h1 | h1 | h1 | h1 | h1 | h1 | ⟨_, hb, _, t, hf, h3, rfl⟩
  · omega
  · omega
  · omega
  · omega
  · omega
  · omega
  · obtain ⟨rk, hi⟩ := h.iv
    have hv := (hi.it _ (hd_mem hi.ne)).2.1 h3
    have := (tpl_go ht hv).tg.n1
    have := need_le s
    have := h.nl
    have := h.s0
    omega
/-- What a run comes to. -/
structure Fin1 (c : Cf) (s : Im) : Prop where
  ou : s.out = 1 ∨ s.out = 2 ∨ s.out = 3 ∨ s.out = 4 ∨ s.out = 5 ∨ s.out = 6
  vl : s.out ≠ 1 → s.val = 0
  sp : s.out = 5 → s.stp = c.bud
  s0 : 0 ≤ s.stp
  s1 : s.stp ≤ c.bud
  one : s.out ≠ 5 → s.out ≠ 6 → 1 ≤ s.stp
  fu : 12 * c.bud ≤ c.hp → s.out ≠ 6
theorem first_move (c : Cf) (mn : Int) (hmn : 0 ≤ mn ∧ mn < c.fs.length) (har : (c.fs[mn.toNat]?.getD ⟨0, []⟩).ar = 0) : (moveI c (initI mn)).out = 5 ∨ (moveI c (initI mn)).out = 6 ∨ (moveI c (initI mn)).stp = 1 := by
  have e : moveI c (initI mn) = callI c (tplM c mn) [] (initI mn) := by
    unfold moveI
    have h1 : hdI (initI mn).cur = (3, mn) := rfl
    have h2 : (initI mn).cur.tail = [] := rfl
    simp only [h1, h2]
    rw [if_neg (by simp), if_pos trivial, if_pos]
    unfold tplM
    rw [if_pos hmn, har]; simp
  rw [e]
  unfold callI
  split
  · exact .inl rfl
  · split
    · exact .inr (.inl rfl)
    · exact .inr (.inr rfl)
theorem run_fin (c : Cf) (mn : Int) (hmn : 0 ≤ mn ∧ mn < c.fs.length) (ht : ∀ t ∈ c.fs, TGo c t) (har : (c.fs[mn.toNat]?.getD ⟨0, []⟩).ar = 0) (hb0 : 0 ≤ c.bud) (hb : c.bud ≤ 2000) : Fin1 c (runI c mn) := by
  have hend := run_ends c mn hmn ht hb0 hb
  -- the last move
  obtain ⟨k, hk, h0, h1⟩ : ∃ k, k < 276001 ∧ (iterI c k (initI mn)).out = 0 ∧ runI c mn = moveI c (iterI c k (initI mn)) := by
    have key : ∀ n, (iterI c n (initI mn)).out ≠ 0 → ∃ k, k < n ∧ (iterI c k (initI mn)).out = 0 ∧ iterI c n (initI mn) = moveI c (iterI c k (initI mn)) := by
      intro n
      induction n with
      | zero => intro h; simp [iterI, initI] at h
      | succ n ih =>
        intro h
        by_cases ho : (iterI c n (initI mn)).out = 0
        · exact ⟨n, by omega, ho, iterI_one c n _ ho⟩
        · obtain ⟨k, h1, h2, h3⟩ := ih ho
          exact ⟨k, by omega, h2, by rw [← h3]; exact iterI_out c n (n + 1) _ (by omega) ho⟩
    exact key _ hend
  have hr := rn_iter c mn hmn ht hb0 k h0
  have hm := move_m1 c _ h0
  have hne : (runI c mn).out ≠ 0 := hend
  rw [h1] at hne ⊢
  have hst : ∀ j, 1 ≤ j → (iterI c j (initI mn)).out = 5 ∨ (iterI c j (initI mn)).out = 6 ∨ 1 ≤ (iterI c j (initI mn)).stp := by
    intro j hj
    obtain ⟨i, rfl⟩ : ∃ i, j = i + 1 := ⟨j - 1, by omega⟩
    have e : iterI c (i + 1) (initI mn) = iterI c i (moveI c (initI mn)) := by rw [iterI, if_pos (show (initI mn).out = 0 from rfl)]
    rw [e]
    rcases first_move c mn hmn har with h | h | h
    · left; rw [iterI_done c i _ (by omega)]; exact h
    · right; left; rw [iterI_done c i _ (by omega)]; exact h
    · right; right; have := iter_st c i (moveI c (initI mn)); omega
  refine ⟨?_, ?_, ?_, ?_, ?_, ?_, ?_⟩
  · rcases hm.ou with h | h | h | h | h | h | h <;> omega
  · intro h
    rcases hm.vl with h2 | h2
    · rw [h2]
      rcases iter_val c k (initI mn) rfl with h3 | h3
      · rw [h3]; rfl
      · omega
    · exact absurd h2 h
  · intro h
    rcases hm.ou with h2 | h2 | h2 | h2 | h2 | ⟨_, h2, h3⟩ | h2
    · omega
    · omega
    · omega
    · omega
    · omega
    · rw [h3]; have := hr.s1; show (iterI c k (initI mn)).stp = _; omega
    · omega
  · have := hr.s0; rcases hm.st with h | h <;> omega
  · have := hr.s1; rcases hm.st with h | h <;> omega
  · intro h5 h6
    by_cases hk1 : 1 ≤ k
    · rcases hst k hk1 with h | h | h
      · omega
      · omega
      · rcases hm.st with h2 | h2 <;> omega
    · have hk0 : k = 0 := by omega
      subst hk0
      rcases first_move c mn hmn har with h | h | h
      · exact absurd h h5
      · exact absurd h h6
      · have : (moveI c (iterI c 0 (initI mn))).stp = 1 := h
        omega
  · intro hh
    exact no_full hr h0 ht hh
/-- Two budgets (no heap is full). -/
theorem run_budget (fs : List Tp) (mn b1 b2 hp : Int) (hmn : 0 ≤ mn ∧ mn < fs.length) (ht : ∀ bud, ∀ t ∈ fs, TGo ⟨fs, bud, hp⟩ t) (h1 : 0 ≤ b1) (h12 : b1 ≤ b2) (h2 : b2 ≤ 2000) (hh : 12 * b2 ≤ hp) :
    runI ⟨fs, b1, hp⟩ mn = runI ⟨fs, b2, hp⟩ mn ∨ ((runI ⟨fs, b1, hp⟩ mn).out = 5 ∧ (runI ⟨fs, b1, hp⟩ mn).stp = b1 ∧ b1 < (runI ⟨fs, b2, hp⟩ mn).stp) := by
  rcases iter_two ⟨fs, b1, hp⟩ ⟨fs, b2, hp⟩ rfl 276001 (initI mn) with h | ⟨k, hk, e, ho, hne⟩
  · exact .inl h
  · right
    have hr1 := rn_iter ⟨fs, b1, hp⟩ mn hmn (ht b1) h1 k ho
    have hr2 := rn_iter ⟨fs, b2, hp⟩ mn hmn (ht b2) (by show 0 ≤ b2; omega) k (by rw [← e]; exact ho)
    rw [← e] at hr2
    have hm1 := move_m1 ⟨fs, b1, hp⟩ _ ho
    have hm2 := move_m1 ⟨fs, b2, hp⟩ _ ho
    have hn1 := no_full hr1 ho (ht b1) (by show 12 * b1 ≤ hp; omega)
    have hn2 := no_full hr2 ho (ht b2) hh
    have f1 : iterI ⟨fs, b1, hp⟩ (k + 1) (initI mn) = moveI ⟨fs, b1, hp⟩ (iterI ⟨fs, b1, hp⟩ k (initI mn)) := iterI_one _ _ _ ho
    have f2 : iterI ⟨fs, b2, hp⟩ (k + 1) (initI mn) = moveI ⟨fs, b2, hp⟩ (iterI ⟨fs, b1, hp⟩ k (initI mn)) := by rw [iterI_one _ _ _ (by rw [← e]; exact ho), ← e]
    generalize iterI ⟨fs, b1, hp⟩ k (initI mn) = s at *
    have hs1 := hr1.s1
    have hs2 := hr2.s1
    simp only at hs1 hs2
    have hsp1 : (moveI ⟨fs, b1, hp⟩ s).out = 5 → b1 ≤ s.stp ∧ moveI ⟨fs, b1, hp⟩ s = { s with out := 5 } := by
      intro h5
      rcases hm1.ou with g | g | g | g | g | ⟨_, g, g2⟩ | g
      · omega
      · omega
      · omega
      · omega
      · omega
      · exact ⟨g, g2⟩
      · omega
    have hsp2 : (moveI ⟨fs, b2, hp⟩ s).out = 5 → b2 ≤ s.stp ∧ moveI ⟨fs, b2, hp⟩ s = { s with out := 5 } := by
      intro h5
      rcases hm2.ou with g | g | g | g | g | ⟨_, g, g2⟩ | g
      · omega
      · omega
      · omega
      · omega
      · omega
      · exact ⟨g, g2⟩
      · omega
    -- the same state under the larger budget makes a step
    have h5 : (moveI ⟨fs, b1, hp⟩ s).out = 5 := by
      rcases move_two ⟨fs, b1, hp⟩ ⟨fs, b2, hp⟩ rfl s with g | g | g | g | g
      · exact absurd g hne
      · exact g
      · exact absurd g hn1
      · obtain ⟨q1, q2⟩ := hsp2 g
        -- b2 = b1 then: the same configuration
        have : b1 = b2 := by omega
        subst this
        exact absurd rfl hne
      · exact absurd g hn2
    obtain ⟨q1, q2⟩ := hsp1 h5
    have hb : b1 = s.stp := by omega
    have hlt : b1 < b2 := by
      apply Classical.byContradiction
      intro hc
      have : b1 = b2 := by omega
      subst this
      exact hne rfl
    have hstep : (moveI ⟨fs, b2, hp⟩ s).stp = s.stp + 1 := by
      have key := step_due ⟨fs, b1, hp⟩ ⟨fs, b2, hp⟩ rfl s h5 (by show s.stp < b2; omega) ho
      rcases key with g | g
      · exact g
      · exact absurd g hn2
    have r1 : runI ⟨fs, b1, hp⟩ mn = moveI ⟨fs, b1, hp⟩ s := by rw [← f1]; exact run_out _ _ _ (by rw [f1, h5]; simp) (by omega)
    refine ⟨by rw [r1]; exact h5, by rw [r1, q2]; exact hb.symm, ?_⟩
    have hge : (iterI ⟨fs, b2, hp⟩ (k + 1) (initI mn)).stp ≤ (runI ⟨fs, b2, hp⟩ mn).stp := iter_st_le _ _ _ _ (by omega)
    rw [f2, hstep] at hge
    omega

/-- Two heaps. -/
theorem run_heap (fs : List Tp) (mn bud h1 h2 : Int) (h12 : h1 ≤ h2) :
    runI ⟨fs, bud, h1⟩ mn = runI ⟨fs, bud, h2⟩ mn ∨ ((runI ⟨fs, bud, h1⟩ mn).out = 6 ∧ (runI ⟨fs, bud, h1⟩ mn).stp < (runI ⟨fs, bud, h2⟩ mn).stp) := by
  rcases iter_two ⟨fs, bud, h1⟩ ⟨fs, bud, h2⟩ rfl 276001 (initI mn) with h | ⟨k, hk, e, ho, hne⟩
  · exact .inl h
  · right
    have f1 : iterI ⟨fs, bud, h1⟩ (k + 1) (initI mn) = moveI ⟨fs, bud, h1⟩ (iterI ⟨fs, bud, h1⟩ k (initI mn)) := iterI_one _ _ _ ho
    have f2 : iterI ⟨fs, bud, h2⟩ (k + 1) (initI mn) = moveI ⟨fs, bud, h2⟩ (iterI ⟨fs, bud, h1⟩ k (initI mn)) := by rw [iterI_one _ _ _ (by rw [← e]; exact ho), ← e]
    generalize iterI ⟨fs, bud, h1⟩ k (initI mn) = s at *
    have key : (moveI ⟨fs, bud, h1⟩ s).out = 6 ∧ (moveI ⟨fs, bud, h1⟩ s).stp = s.stp ∧ (moveI ⟨fs, bud, h2⟩ s).stp = s.stp + 1 := by
      have hdel : ∀ t, delI ⟨fs, bud, h1⟩ t s = delI ⟨fs, bud, h2⟩ t s := fun t => rfl
      have hcall : ∀ t r, callI ⟨fs, bud, h1⟩ t r s ≠ callI ⟨fs, bud, h2⟩ t r s → (callI ⟨fs, bud, h1⟩ t r s).out = 6 ∧ (callI ⟨fs, bud, h1⟩ t r s).stp = s.stp ∧ (callI ⟨fs, bud, h2⟩ t r s).stp = s.stp + 1 := by
        intro t r
        unfold callI
        simp only
        by_cases hb : bud ≤ s.stp
        · rw [if_pos hb, if_pos hb]; intro h; exact absurd rfl h
        · rw [if_neg hb, if_neg hb]
          by_cases a1 : h1 < (needI s : Int) + ((t.ls.length : Int) - 1)
          · rw [if_pos a1]
            by_cases a2 : h2 < (needI s : Int) + ((t.ls.length : Int) - 1)
            · rw [if_pos a2]; intro h; exact absurd rfl h
            · rw [if_neg a2]; intro _; exact ⟨rfl, rfl, rfl⟩
          · rw [if_neg a1, if_neg (by omega)]; intro h; exact absurd rfl h
      unfold moveI at hne ⊢
      simp only [hdel] at hne ⊢
      split at hne
      · exact absurd rfl hne
      · next a1 =>
        rw [if_neg a1, if_neg a1]
        split at hne
        · next a2 =>
          rw [if_pos a2, if_pos a2]
          have htp : ∀ n, tplM ⟨fs, bud, h1⟩ n = tplM ⟨fs, bud, h2⟩ n := fun _ => rfl
          simp only [htp] at hne ⊢
          split at hne
          · next a3 => rw [if_pos a3, if_pos a3]; exact hcall _ _ hne
          · exact absurd rfl hne
        · exact absurd rfl hne
    have r1 : runI ⟨fs, bud, h1⟩ mn = moveI ⟨fs, bud, h1⟩ s := by rw [← f1]; exact run_out _ _ _ (by rw [f1, key.1]; simp) (by omega)
    refine ⟨by rw [r1]; exact key.1, ?_⟩
    have hge : (iterI ⟨fs, bud, h2⟩ (k + 1) (initI mn)).stp ≤ (runI ⟨fs, bud, h2⟩ mn).stp := iter_st_le _ _ _ _ (by omega)
    rw [f2, key.2.2] at hge
    rw [r1, key.2.1]
    omega

end Go.Proofs.YtnndoagpbcacdaaGreatDoor
namespace Go.Proofs.YtnndoagpbcacdaaGreatDoor

/-! What a part of a run comes to: up to where the frames are again ks and a value is on top. -/
def Ev (c : Cf) (ks : List Kf) : Nat → Im → Im → Prop
  | 0, s, T => T = s ∧ (s.out ≠ 0 ∨ (s.ks = ks ∧ isVal c s.cur))
  | n + 1, s, T => s.out = 0 ∧ ¬ (s.ks = ks ∧ isVal c s.cur) ∧ Ev c ks n (moveI c s) T
theorem ev_iter {c : Cf} {ks : List Kf} : ∀ {n : Nat} {s T : Im}, Ev c ks n s T → T = iterI c n s ∧ (T.out ≠ 0 ∨ (T.ks = ks ∧ isVal c T.cur))
  | 0, s, T, h => by obtain ⟨rfl, h⟩ := h; exact ⟨rfl, h⟩
  | n + 1, s, T, h => by
    obtain ⟨h1, _, h3⟩ := h
    obtain ⟨e, h4⟩ := ev_iter h3
    exact ⟨by rw [iterI, if_pos h1]; exact e, h4⟩
theorem ev_exists (c : Cf) (ks : List Kf) : ∀ (N : Nat) (s : Im), (iterI c N s).out ≠ 0 → ∃ n T, n ≤ N ∧ Ev c ks n s T
  | 0, s, h => ⟨0, s, Nat.le_refl _, rfl, .inl h⟩
  | N + 1, s, h => by
    by_cases h0 : s.out = 0
    · by_cases hv : s.ks = ks ∧ isVal c s.cur
      · exact ⟨0, s, by omega, rfl, .inr hv⟩
      · rw [iterI, if_pos h0] at h
        obtain ⟨n, T, hn, he⟩ := ev_exists c ks N (moveI c s) h
        exact ⟨n + 1, T, by omega, h0, hv, he⟩
    · exact ⟨0, s, by omega, rfl, .inl h0⟩
/-- What is delivered is a value. -/
theorem move_cases (c : Cf) (s : Im) :
    ((hdI s.cur).1 = 5 ∧ moveI c s = (if (ndI s (hdI s.cur).2).2 then { s with cur := (ndI s (hdI s.cur).2).1 ++ s.cur.tail } else { s with cur := (ndI s (hdI s.cur).2).1, ks := ⟨1, (hdI s.cur).2, 0, 0, s.cur.tail⟩ :: s.ks })) ∨
    ((hdI s.cur).1 = 3 ∧ (tplM c (hdI s.cur).2).ar ≤ (s.cur.tail.length : Int) ∧ moveI c s = callI c (tplM c (hdI s.cur).2) s.cur.tail s) ∨
    ((hdI s.cur).1 = 4 ∧ wantM (hdI s.cur).2 ≤ (s.cur.tail.length : Int) ∧ moveI c s = { s with cur := [hdI s.cur.tail], ks := ⟨2, 0, (hdI s.cur).2, 0, s.cur.tail.tail⟩ :: s.ks }) ∨
    ((hdI s.cur).1 ≠ 5 ∧ (hdI s.cur).1 ≠ 3 ∧ (hdI s.cur).1 ≠ 4 ∧ 0 < s.cur.tail.length ∧ moveI c s = { s with out := 3 }) ∨
    (isVal c s.cur ∧ moveI c s = delI c (hdI s.cur) s) := by
  unfold moveI
  simp only
  by_cases h5 : (hdI s.cur).1 = 5
  · rw [if_pos h5]; exact .inl ⟨h5, rfl⟩
  rw [if_neg h5]
  by_cases h3 : (hdI s.cur).1 = 3
  · rw [if_pos h3]
    by_cases hl : (tplM c (hdI s.cur).2).ar ≤ (s.cur.tail.length : Int)
    · rw [if_pos hl]; exact .inr (.inl ⟨h3, hl, rfl⟩)
    · rw [if_neg hl]; exact .inr (.inr (.inr (.inr ⟨⟨h5, fun _ => by omega, fun e => by omega, fun e => by omega⟩, rfl⟩)))
  rw [if_neg h3]
  by_cases h4 : (hdI s.cur).1 = 4
  · rw [if_pos h4]
    by_cases hl : wantM (hdI s.cur).2 ≤ (s.cur.tail.length : Int)
    · rw [if_pos hl]; exact .inr (.inr (.inl ⟨h4, hl, rfl⟩))
    · rw [if_neg hl]; exact .inr (.inr (.inr (.inr ⟨⟨h5, fun e => by omega, fun _ => by omega, fun _ e => by omega⟩, rfl⟩)))
  rw [if_neg h4]
  by_cases hl : 0 < s.cur.tail.length
  · rw [if_pos hl]; exact .inr (.inr (.inr (.inl ⟨h5, h3, h4, hl, rfl⟩)))
  · rw [if_neg hl]; exact .inr (.inr (.inr (.inr ⟨⟨h5, fun e => by omega, fun e => by omega, fun _ _ => by omega⟩, rfl⟩)))
theorem call_ks (c : Cf) (t : Tp) (r : Ln) (s : Im) : (callI c t r s).ks = s.ks := by
  unfold callI
  split
  · rfl
  · split <;> rfl
/-- The frames below are left alone. -/
theorem move_suf {c : Cf} {s : Im} {f : Kf} {pre ks : List Kf} (hk : s.ks = pre ++ f :: ks) (hv : ¬ (s.ks = f :: ks ∧ isVal c s.cur)) : ∃ pre', (moveI c s).ks = pre' ++ f :: ks := by
  rcases move_cases c s with ⟨_, e⟩ | ⟨_, _, e⟩ | ⟨_, _, e⟩ | ⟨_, _, _, _, e⟩ | ⟨hval, e⟩
  · rw [e]
    split
    · exact ⟨pre, hk⟩
    · exact ⟨⟨1, (hdI s.cur).2, 0, 0, s.cur.tail⟩ :: pre, by simp [hk]⟩
  · rw [e]; exact ⟨pre, by rw [call_ks]; exact hk⟩
  · rw [e]; exact ⟨⟨2, 0, (hdI s.cur).2, 0, s.cur.tail.tail⟩ :: pre, by simp [hk]⟩
  · rw [e]; exact ⟨pre, hk⟩
  · rw [e]
    cases pre with
    | nil => exact absurd ⟨hk, hval⟩ hv
    | cons g pre =>
      unfold delI
      rw [hk]
      simp only [List.cons_append]
      repeat' split
      all_goals first
        | exact ⟨pre, rfl⟩
        | exact ⟨⟨3, 0, g.pr, (hdI s.cur).2, g.rs.tail⟩ :: pre, rfl⟩
        | exact ⟨g :: pre, rfl⟩
theorem ev_split {c : Cf} (ht : ∀ t ∈ c.fs, TGo c t) {f : Kf} {ks : List Kf} : ∀ (n : Nat) (s T : Im) (pre : List Kf) (rk : Int → Nat), Ii c rk s → s.ks = pre ++ f :: ks → Ev c ks n s T → ∃ n1 n2 T1, n1 + n2 = n ∧ Ev c (f :: ks) n1 s T1 ∧ Ev c ks n2 T1 T
  | 0, s, T, pre, rk, hi, hk, he => by
    obtain ⟨rfl, h⟩ := he
    rcases h with h | ⟨h, _⟩
    · exact ⟨0, 0, T, rfl, ⟨rfl, .inl h⟩, rfl, .inl h⟩
    · have := congrArg List.length (hk.symm.trans h); simp at this; omega
  | n + 1, s, T, pre, rk, hi, hk, he => by
    by_cases hv : s.ks = f :: ks ∧ isVal c s.cur
    · exact ⟨0, n + 1, s, by omega, ⟨rfl, .inr hv⟩, he⟩
    · obtain ⟨h0, h1, h2⟩ := he
      by_cases ho : (moveI c s).out = 0
      · obtain ⟨pre', hk'⟩ := move_suf hk hv
        obtain ⟨rk', hi'⟩ := (ii_move hi ht ho).iv
        obtain ⟨n1, n2, T1, e, e1, e2⟩ := ev_split ht n (moveI c s) T pre' rk' hi' hk' h2
        exact ⟨n1 + 1, n2, T1, by omega, ⟨h0, hv, e1⟩, e2⟩
      · exact ⟨1, n, moveI c s, by omega, ⟨h0, hv, rfl, .inl ho⟩, h2⟩
/-- A run, by its parts. -/
theorem ev_run (c : Cf) (mn : Int) (hmn : 0 ≤ mn ∧ mn < c.fs.length) (ht : ∀ t ∈ c.fs, TGo c t) (hb0 : 0 ≤ c.bud) (hb : c.bud ≤ 2000) :
    ∃ n T, n ≤ 276001 ∧ Ev c [] n (initI mn) T ∧ (T.out ≠ 0 → runI c mn = T) ∧ (T.out = 0 → (runI c mn).stp = T.stp ∧ (runI c mn).out = (if (hdI T.cur).1 = 1 then 1 else 2) ∧ (runI c mn).val = (if (hdI T.cur).1 = 1 then (hdI T.cur).2 else 0)) := by
  have hend := run_ends c mn hmn ht hb0 hb
  obtain ⟨n, T, hn, he⟩ := ev_exists c [] 276001 (initI mn) hend
  obtain ⟨e, hT⟩ := ev_iter he
  refine ⟨n, T, hn, he, fun h => by rw [e] at h ⊢; exact run_out c mn n h hn, fun h => ?_⟩
  have hv := hT.resolve_left (fun g => g h)
  have hlt : n < 276001 := by
    rcases Nat.lt_or_eq_of_le hn with g | g
    · exact g
    · subst g; rw [e] at h; exact absurd h hend
  obtain ⟨⟨rk, hi⟩, _⟩ := ii_iter ht (ii_init c mn hmn) (by exact hb0) n (by rw [← e]; exact h)
  rw [← e] at hi
  have hval0 : T.val = 0 := by
    rcases iter_val c n (initI mn) rfl with g | g
    · rw [← e] at g; exact g
    · rw [← e] at g; omega
  have hm : moveI c T = delI c (hdI T.cur) T := by
    rcases move_cases c T with ⟨g, _⟩ | ⟨g, g2, _⟩ | ⟨g, g2, _⟩ | ⟨g1, g2, g3, g4, _⟩ | ⟨_, g⟩
    · exact absurd g hv.2.1
    · have := hv.2.2.1 g; omega
    · have := hv.2.2.2.1 g; omega
    · have := hv.2.2.2.2 g2 g3; omega
    · exact g
  have e2 : iterI c (n + 1) (initI mn) = delI c (hdI T.cur) T := by rw [iterI_one c n _ (by rw [← e]; exact h), ← e, hm]
  have e3 : delI c (hdI T.cur) T = if (hdI T.cur).1 = 1 then { T with out := 1, val := (hdI T.cur).2 } else { T with out := 2 } := by
    unfold delI; rw [hv.1]
  have e4 : runI c mn = delI c (hdI T.cur) T := by
    rw [← e2]
    refine run_out c mn (n + 1) ?_ (by omega)
    rw [e2, e3]
    split <;> simp
  rw [e4, e3]
  split
  · exact ⟨rfl, rfl, rfl⟩
  · exact ⟨rfl, rfl, hval0⟩

end Go.Proofs.YtnndoagpbcacdaaGreatDoor
namespace Go.Proofs.YtnndoagpbcacdaaGreatDoor

/-! The reference's marks: what is needed, plain. -/
def mrk (l : Ln) (S : List Bool) : List Bool := l.foldl (fun S a => if a.1 = 5 then S.set a.2.toNat true else S) S
def mrkO (l : List Int) (S : List Bool) : List Bool := l.foldl (fun S p => S.set p.toNat true) S
def pas (nd : List Ln) : Nat → List Bool → List Bool
  | 0, S => S
  | i + 1, S => pas nd i (if S[i]?.getD false then mrk (nd[i]?.getD []) S else S)
theorem mrk_cons (a : Int × Int) (l : Ln) (S : List Bool) : mrk (a :: l) S = mrk l (if a.1 = 5 then S.set a.2.toNat true else S) := rfl
theorem mrk_app (a b : Ln) (S : List Bool) : mrk (a ++ b) S = mrk b (mrk a S) := by unfold mrk; rw [List.foldl_append]
theorem mrkO_app (a b : List Int) (S : List Bool) : mrkO (a ++ b) S = mrkO b (mrkO a S) := by unfold mrkO; rw [List.foldl_append]
theorem mrk_len : ∀ (l : Ln) (S : List Bool), (mrk l S).length = S.length
  | [], _ => rfl
  | a :: l, S => by rw [mrk_cons, mrk_len l]; split <;> simp
theorem mrkO_len : ∀ (l : List Int) (S : List Bool), (mrkO l S).length = S.length
  | [], _ => rfl
  | a :: l, S => by show (mrkO l (S.set a.toNat true)).length = _; rw [mrkO_len l]; simp
theorem set_true (S : List Bool) (k i : Nat) : (S.set k true)[i]? = some true ↔ S[i]? = some true ∨ (i < S.length ∧ k = i) := by
  rw [List.getElem?_set]
  by_cases h : k = i
  · subst h
    rw [if_pos rfl]
    by_cases hl : k < S.length
    · rw [if_pos hl]; simp [hl]
    · rw [if_neg hl]; simp [hl]
  · rw [if_neg h]; simp [h]
theorem mrk_iff : ∀ (l : Ln) (S : List Bool) (i : Nat), (mrk l S)[i]? = some true ↔ S[i]? = some true ∨ (i < S.length ∧ ∃ a ∈ l, a.1 = 5 ∧ a.2.toNat = i)
  | [], S, i => by simp [mrk]
  | a :: l, S, i => by
    rw [mrk_cons, mrk_iff l]
    by_cases h : a.1 = 5
    · rw [if_pos h, set_true, List.length_set]
      constructor
      · rintro ((h1 | ⟨h1, h2⟩) | ⟨h1, b, hb, h2⟩)
        · exact .inl h1
        · exact .inr ⟨h1, a, by simp, h, h2⟩
        · exact .inr ⟨h1, b, by simp [hb], h2⟩
      · rintro (h1 | ⟨h1, b, hb, h2⟩)
        · exact .inl (.inl h1)
        · rcases List.mem_cons.1 hb with rfl | hb
          · exact .inl (.inr ⟨h1, h2.2⟩)
          · exact .inr ⟨h1, b, hb, h2⟩
    · rw [if_neg h]
      constructor
      · rintro (h1 | ⟨h1, b, hb, h2⟩)
        · exact .inl h1
        · exact .inr ⟨h1, b, by simp [hb], h2⟩
      · rintro (h1 | ⟨h1, b, hb, h2⟩)
        · exact .inl h1
        · rcases List.mem_cons.1 hb with rfl | hb
          · exact absurd h2.1 h
          · exact .inr ⟨h1, b, hb, h2⟩
theorem mrkO_iff : ∀ (l : List Int) (S : List Bool) (i : Nat), (mrkO l S)[i]? = some true ↔ S[i]? = some true ∨ (i < S.length ∧ ∃ p ∈ l, p.toNat = i)
  | [], S, i => by simp [mrkO]
  | a :: l, S, i => by
    show (mrkO l (S.set a.toNat true))[i]? = some true ↔ _
    rw [mrkO_iff l, set_true, List.length_set]
    constructor
    · rintro ((h1 | ⟨h1, h2⟩) | ⟨h1, b, hb, h2⟩)
      · exact .inl h1
      · exact .inr ⟨h1, a, by simp, h2⟩
      · exact .inr ⟨h1, b, by simp [hb], h2⟩
    · rintro (h1 | ⟨h1, b, hb, h2⟩)
      · exact .inl (.inl h1)
      · rcases List.mem_cons.1 hb with rfl | hb
        · exact .inl (.inr ⟨h1, h2⟩)
        · exact .inr ⟨h1, b, hb, h2⟩
/-- One list marks no more than another, and as many: they are the same. -/
theorem ct_sub : ∀ (S U : List Bool), S.length = U.length → (∀ i : Nat, S[i]? = some true → U[i]? = some true) → cT S ≤ cT U ∧ (cT U ≤ cT S → U = S)
  | [], [], _, _ => ⟨Nat.le_refl _, fun _ => rfl⟩
  | [], _ :: _, h, _ => by simp at h
  | _ :: _, [], h, _ => by simp at h
  | a :: S, b :: U, h, hs => by
    obtain ⟨h1, h2⟩ := ct_sub S U (by simpa using h) (fun i hi => by have := hs (i + 1) (by simpa using hi); simpa using this)
    have h0 := hs 0
    cases a <;> cases b <;> simp [cT] at h0 ⊢
    · exact ⟨h1, h2⟩
    · exact ⟨by omega, by omega⟩
    · exact ⟨h1, h2⟩
section
variable {nd : List Ln}
theorem pas_len : ∀ (n : Nat) (S : List Bool), (pas nd n S).length = S.length
  | 0, _ => rfl
  | n + 1, S => by rw [pas, pas_len n]; split <;> simp [mrk_len]
theorem pas_sub : ∀ (n : Nat) (S : List Bool) (i : Nat), S[i]? = some true → (pas nd n S)[i]? = some true
  | 0, _, _, h => h
  | n + 1, S, i, h => by
    rw [pas]
    refine pas_sub n _ i ?_
    split
    · exact (mrk_iff _ _ _).2 (.inl h)
    · exact h
theorem pas_sound {R : Nat → Prop} (hc : ∀ i, R i → ∀ a ∈ nd[i]?.getD [], a.1 = 5 → R a.2.toNat) : ∀ (n : Nat) (S : List Bool), (∀ i, S[i]? = some true → R i) → ∀ i, (pas nd n S)[i]? = some true → R i
  | 0, _, h => h
  | n + 1, S, h => by
    rw [pas]
    refine pas_sound hc n _ ?_
    split
    · rename_i hn
      intro i hi
      rcases (mrk_iff _ _ _).1 hi with hi | ⟨_, a, ha, h5, rfl⟩
      · exact h i hi
      · refine hc n (h n ?_) a ha h5
        cases hq : S[n]? with
        | none => rw [hq] at hn; simp at hn
        | some b => rw [hq] at hn; simp at hn; rw [hn]
    · exact h
theorem pas_fix : ∀ (n : Nat) (S : List Bool), cT (pas nd n S) ≤ cT S → pas nd n S = S ∧ ∀ i, i < n → S[i]? = some true → mrk (nd[i]?.getD []) S = S
  | 0, S, _ => ⟨rfl, fun i hi => absurd hi (by omega)⟩
  | n + 1, S, h => by
    rw [pas] at h ⊢
    have hsub : ∀ i, S[i]? = some true → (if S[n]?.getD false then mrk (nd[n]?.getD []) S else S)[i]? = some true := fun i hi => by
      split
      · exact (mrk_iff _ _ _).2 (.inl hi)
      · exact hi
    have hlen : S.length = (if S[n]?.getD false then mrk (nd[n]?.getD []) S else S).length := by split <;> simp [mrk_len]
    have e1 := ct_sub S _ hlen hsub
    have e2 := ct_sub _ (pas nd n (if S[n]?.getD false then mrk (nd[n]?.getD []) S else S)) (pas_len n _).symm (pas_sub n _)
    have e := e1.2 (by omega)
    obtain ⟨h1, h2⟩ := pas_fix n (if S[n]?.getD false then mrk (nd[n]?.getD []) S else S) (by omega)
    rw [h1]
    refine ⟨e, fun i hi ht => ?_⟩
    by_cases hn : i = n
    · subst hn
      rw [ht] at e
      simpa using e
    · rw [e] at h2
      exact h2 i (by omega) ht
end
/-- Where the marks hold what is at hand, are closed, and none is too many: as many are needed. -/
theorem need_cnt (s : Im) (S : List Bool) (hl : S.length = s.nds.length) (hv1 : ∀ a ∈ s.cur ++ flK s.ks, a.1 = 5 → 0 ≤ a.2 ∧ a.2 < s.nds.length) (hv2 : ∀ p ∈ opens s.ks, 0 ≤ p ∧ p < s.nds.length) (hv3 : ∀ n ∈ s.nds, ∀ a ∈ n.1, a.1 = 5 → 0 ≤ a.2 ∧ a.2 < s.nds.length)
    (hr1 : ∀ a ∈ s.cur ++ flK s.ks, a.1 = 5 → S[a.2.toNat]? = some true) (hr2 : ∀ p ∈ opens s.ks, S[p.toNat]? = some true)
    (hcl : ∀ i : Nat, S[i]? = some true → ∀ a ∈ (s.nds[i]?.getD ([], false)).1, a.1 = 5 → S[a.2.toNat]? = some true)
    (hso : ∀ R : Nat → Prop, (∀ a ∈ s.cur ++ flK s.ks, a.1 = 5 → R a.2.toNat) → (∀ p ∈ opens s.ks, R p.toNat) → (∀ i, R i → ∀ a ∈ (s.nds[i]?.getD ([], false)).1, a.1 = 5 → R a.2.toNat) → ∀ i, S[i]? = some true → R i) : needI s = cT S := by
  have hop : ∀ f ∈ (asM s).frs, f.k = 1 → f.nd ∈ opens s.ks := by
    intro f hf hk
    obtain ⟨g, hg, rfl⟩ := List.mem_map.1 hf
    exact List.mem_flatMap.2 ⟨g, hg, by simp only at hk; rw [if_pos hk]; simp⟩
  have hri := need_ri (asM s)
  have hndl : (asM s).nds.length = s.nds.length := rfl
  have hnd : ∀ p : Int, 0 ≤ p → p < s.nds.length → ndA (asM s) p = s.nds[p.toNat]?.getD ([], false) := by
    intro p h0 h1
    rfl
  have hni := need_iff (asM s) hv1 (fun f hf hk => hv2 _ (hop f hf hk)) (fun p h0 h1 _ a ha h5 => by
    have hlt : p.toNat < s.nds.length := by rw [hndl] at h1; omega
    rw [hnd p h0 h1, List.getElem?_eq_getElem hlt] at ha
    exact hv3 _ (List.getElem_mem hlt) a ha h5)
  have key : S = (needM (asM s)).1 := by
    refine List.ext_getElem? (fun i => ?_)
    have hlen : (needM (asM s)).1.length = s.nds.length := hri.len
    by_cases hi : i < s.nds.length
    · have hm : (needM (asM s)).1[i]? = some true ↔ S[i]? = some true := by
        have h1 := hri.iff (i : Int)
        rw [Int.toNat_natCast] at h1
        have h2 := hni (i : Int)
        constructor
        · intro h
          exact (h2.1 (h1.2 ⟨by omega, h⟩)) (fun p => S[p.toNat]? = some true) (fun p hp a ha h5 => hcl _ hp a ha h5) (fun a ha h5 => hr1 a ha h5) (fun f hf hk => hr2 _ (hop f hf hk))
        · intro h
          refine (h1.1 (h2.2 (fun R hc hs hf => ?_))).2
          refine hso (fun i => R (i : Int)) (fun a ha h5 => ?_) (fun p hp => ?_) (fun j hj a ha h5 => ?_) i h
          · have := hv1 a ha h5
            show R _
            rw [Int.toNat_of_nonneg this.1]; exact hs a ha h5
          · have := hv2 p hp
            show R _
            rw [Int.toNat_of_nonneg this.1]
            obtain ⟨g, hg, hq⟩ := List.mem_flatMap.1 hp
            by_cases hk : g.k = 1
            · rw [if_pos hk] at hq
              simp only [List.mem_singleton] at hq
              subst hq
              exact hf ⟨g.k, 0, g.nd, g.pr, g.nu⟩ (List.mem_map.2 ⟨g, hg, rfl⟩) hk
            · rw [if_neg hk] at hq; simp at hq
          · have ha' : a ∈ (ndA (asM s) (j : Int)).1 := ha
            have h0 : 0 ≤ a.2 := by
              by_cases hjl : j < s.nds.length
              · rw [List.getElem?_eq_getElem hjl] at ha
                exact (hv3 _ (List.getElem_mem hjl) a ha h5).1
              · rw [List.getElem?_eq_none (by omega)] at ha; simp at ha
            show R _
            rw [Int.toNat_of_nonneg h0]; exact hc (j : Int) hj a ha' h5
      cases ha : S[i]? with
      | none => have := List.getElem?_eq_none_iff.1 ha; omega
      | some a =>
        cases hb : (needM (asM s)).1[i]? with
        | none => have := List.getElem?_eq_none_iff.1 hb; omega
        | some b => rw [ha, hb] at hm; cases a <;> cases b <;> simp at hm ⊢
    · rw [List.getElem?_eq_none (by omega), List.getElem?_eq_none (by omega)]
  show (needM (asM s)).2.length = _
  rw [hri.cnt, ← key]

end Go.Proofs.YtnndoagpbcacdaaGreatDoor
