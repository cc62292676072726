import Derived.Test.YtnndoagpbcacdaaDoorY3
import Derived.Test.YtnndoagpbcacdaaDoorX13
import Derived.Deep.DeepCutAuto
namespace Go.Proofs.YtnndoagpbcacdaaDoor
open Go.RowKit

/-! Package redexkeep: grow.go: good code out of any code. -/
theorem AtomsRd.up {w : World} {T T' : Nat} {v : Value} {l : Ln} (h : AtomsRd w T v l) (hT : T ≤ T') : AtomsRd w T' v l := by
  obtain ⟨a, cap, h1, h2, h3, h4⟩ := h
  refine ⟨a, cap, h1, h2, h3, ?_⟩
  rcases h4 with h4 | ⟨b, off, rfl, hbl, hc⟩
  · exact .inl h4
  · exact .inr ⟨b, off, rfl, by omega, hc⟩
theorem goodLs_snoc {nf : Nat} {ar : Int} {nl : Nat} : ∀ {L : List Ln} {l : Ln} {j : Nat}, goodLs nf ar nl j L = true → goodL nf ar nl (j + L.length) l = true → goodLs nf ar nl j (L ++ [l]) = true
  | [], l, j, _, h => by simpa [goodLs] using h
  | a :: L, l, j, h1, h2 => by
    simp only [goodLs, Bool.and_eq_true, List.cons_append] at h1 ⊢
    exact ⟨h1.1, goodLs_snoc h1.2 (by rw [show j + 1 + L.length = j + (a :: L).length by simp; omega]; exact h2)⟩
theorem goodT_of {nf : Nat} {ar : Int} {L : List Ln} (h0 : 0 ≤ ar) (h6 : ar ≤ 6) (h1 : 1 ≤ L.length) (h13 : L.length ≤ 13) (h : goodLs nf ar L.length 0 L = true) : goodT nf ⟨ar, L⟩ = true := by
  simp only [goodT, Bool.and_eq_true, decide_eq_true_eq]
  exact ⟨h0, h6, h1, h13, h⟩
/-- Templates so far, of which the one in place M has no parameters. -/
def TpSo (nf : Nat) (M : Int) (F : List Tp) : Prop := (∀ t ∈ F, goodT nf t = true) ∧ ∀ h : M.toNat < F.length, F[M.toNat].ar = 0
theorem TpSo.nil (nf : Nat) (M : Int) : TpSo nf M [] := ⟨fun t h => by simp at h, fun h => by simp at h⟩
theorem TpSo.snoc {nf : Nat} {M : Int} {F : List Tp} {t : Tp} (h : TpSo nf M F) (ht : goodT nf t = true) (hm : F.length = M.toNat → t.ar = 0) : TpSo nf M (F ++ [t]) := by
  refine ⟨fun x hx => ?_, fun hl => ?_⟩
  · rcases List.mem_append.1 hx with hx | hx
    · exact h.1 x hx
    · rw [List.mem_singleton.1 hx]; exact ht
  · by_cases hlt : M.toNat < F.length
    · rw [List.getElem_append_left hlt]; exact h.2 hlt
    · have he : F.length = M.toNat := by rw [List.length_append] at hl; simp at hl; omega
      rw [List.getElem_append_right (by omega)]
      simpa using hm he
theorem TpSo.good {M : Int} {F : List Tp} (h : TpSo F.length M F) (h1 : 1 ≤ F.length) (h16 : F.length ≤ 16) (hM0 : 0 ≤ M) (hM1 : M < F.length) : goodC ⟨M, F⟩ = true := by
  simp only [goodC, Bool.and_eq_true, decide_eq_true_eq, List.all_eq_true]
  have hlt : M.toNat < F.length := by omega
  refine ⟨h1, h16, hM0, hM1, h.1, ?_⟩
  rw [List.getElem?_eq_getElem hlt]
  exact h.2 hlt

theorem five_blocks (w : World) (a b c d e : Array Value) (s t u v : TypeId) :
    (((((w.alloc (.cells a s)).alloc (.cells b s)).alloc (.cells c t)).alloc (.cells d u)).alloc (.cells e v)).heap[w.heap.size + 1]? = some (.cells b s (0, 0)) ∧
    (((((w.alloc (.cells a s)).alloc (.cells b s)).alloc (.cells c t)).alloc (.cells d u)).alloc (.cells e v)).heap[w.heap.size + 1 + 1]? = some (.cells c t (0, 0)) ∧
    (((((w.alloc (.cells a s)).alloc (.cells b s)).alloc (.cells c t)).alloc (.cells d u)).alloc (.cells e v)).heap[w.heap.size + 1 + 1 + 1]? = some (.cells d u (0, 0)) ∧
    (((((w.alloc (.cells a s)).alloc (.cells b s)).alloc (.cells c t)).alloc (.cells d u)).alloc (.cells e v)).heap[w.heap.size + 1 + 1 + 1 + 1]? = some (.cells e v (0, 0)) ∧
    Below w.heap.size w (((((w.alloc (.cells a s)).alloc (.cells b s)).alloc (.cells c t)).alloc (.cells d u)).alloc (.cells e v)) := by
  have n1 : (w.alloc (.cells a s)).heap.size = w.heap.size + 1 := by simp
  have n2 : ((w.alloc (.cells a s)).alloc (.cells b s)).heap.size = w.heap.size + 1 + 1 := by simp
  have n3 : (((w.alloc (.cells a s)).alloc (.cells b s)).alloc (.cells c t)).heap.size = w.heap.size + 1 + 1 + 1 := by simp
  have n4 : ((((w.alloc (.cells a s)).alloc (.cells b s)).alloc (.cells c t)).alloc (.cells d u)).heap.size = w.heap.size + 1 + 1 + 1 + 1 := by simp
  have h1 := heap_alloc_new (w.alloc (.cells a s)) (.cells b s)
  have h2 := heap_alloc_new ((w.alloc (.cells a s)).alloc (.cells b s)) (.cells c t)
  have h3 := heap_alloc_new (((w.alloc (.cells a s)).alloc (.cells b s)).alloc (.cells c t)) (.cells d u)
  have h4 := heap_alloc_new ((((w.alloc (.cells a s)).alloc (.cells b s)).alloc (.cells c t)).alloc (.cells d u)) (.cells e v)
  rw [n1] at h1
  rw [n2] at h2
  rw [n3] at h3
  rw [n4] at h4
  refine ⟨?_, ?_, ?_, h4, ?_⟩
  · exact (Below.heap_alloc _ _ _ (by rw [n4]; omega)).trans ((Below.heap_alloc _ _ _ (by rw [n3]; omega)).trans ((Below.heap_alloc _ _ _ (by rw [n2]; omega)).trans h1))
  · exact (Below.heap_alloc _ _ _ (by rw [n4]; omega)).trans ((Below.heap_alloc _ _ _ (by rw [n3]; omega)).trans h2)
  · exact (Below.heap_alloc _ _ _ (by rw [n4]; omega)).trans h3
  · exact (((((Below.refl _ _).alloc (Nat.le_refl _) _).alloc (by rw [n1]; omega) _).alloc (by rw [n2]; omega) _).alloc (by rw [n3]; omega) _).alloc (by rw [n4]; omega) _
theorem three_blocks (w : World) (a b c : Array Value) (s t u : TypeId) :
    (((w.alloc (.cells a s)).alloc (.cells b t)).alloc (.cells c u)).heap[w.heap.size]? = some (.cells a s (0, 0)) ∧
    (((w.alloc (.cells a s)).alloc (.cells b t)).alloc (.cells c u)).heap[w.heap.size + 1]? = some (.cells b t (0, 0)) ∧
    (((w.alloc (.cells a s)).alloc (.cells b t)).alloc (.cells c u)).heap[w.heap.size + 1 + 1]? = some (.cells c u (0, 0)) ∧
    Below w.heap.size w (((w.alloc (.cells a s)).alloc (.cells b t)).alloc (.cells c u)) := by
  have n1 : (w.alloc (.cells a s)).heap.size = w.heap.size + 1 := by simp
  have n2 : ((w.alloc (.cells a s)).alloc (.cells b t)).heap.size = w.heap.size + 1 + 1 := by simp
  have h1 := heap_alloc_new (w.alloc (.cells a s)) (.cells b t)
  have h2 := heap_alloc_new ((w.alloc (.cells a s)).alloc (.cells b t)) (.cells c u)
  rw [n1] at h1
  rw [n2] at h2
  refine ⟨?_, ?_, h2, ?_⟩
  · exact (Below.heap_alloc _ _ _ (by rw [n2]; omega)).trans ((Below.heap_alloc _ _ _ (by rw [n1]; omega)).trans (heap_alloc_new w _))
  · exact (Below.heap_alloc _ _ _ (by rw [n2]; omega)).trans h1
  · exact (((Below.refl _ _).alloc (Nat.le_refl _) _).alloc (by rw [n1]; omega) _).alloc (by rw [n2]; omega) _
theorem kLine2 (l : Ln) (v : Value) (j nl nf : Nat) (ar : Int) (w : World) (hv : AtomsRd w w.heap.size v l) (hr : ∀ a ∈ l, in64 a.1 ∧ in64 a.2) (ha0 : 0 ≤ ar) (ha6 : ar ≤ 6) (hl1 : 1 ≤ nl) (hl : nl ≤ 13) (hj : j < nl) (hf1 : 1 ≤ nf) (hf : nf ≤ 16) :
    Calls Tryd.prog 30 #[v, .int .i64 j, .int .i64 ar, .int .i64 nl, .int .i64 nf] w fun e w' => ∃ a cap l', e = .returned (.slice a l'.length cap) ∧ Hid (w'.ownsRow w.heap.size 60 2 (.slice a l'.length cap) l'.length (acs l')) ∧ Hid (Below w.heap.size w w') ∧ Hid (goodL nf ar nl j l' = true) := by
  refine (kLine l v j nl nf ar w hv (fun a ha => ⟨(hr a ha).1.1, (hr a ha).1.2, (hr a ha).2.1, (hr a ha).2.2⟩) ha0 ha6 hl1 hl hj hf1 hf).mono ?_
  rintro e w1 ⟨u, l', rfl, h1, h2, h3⟩
  obtain ⟨a, cap, rfl⟩ := own_form h1
  exact ⟨a, cap, l', rfl, h1, h2, h3⟩
theorem own_block {w : World} {b : Nat} {e : TypeId} {n size : Nat} {cs : Array Value} (h : w.heap[b]? = some (.cells cs e (0, 0))) (hs : cs.size = n * size) (hn : n ≤ maxLen) : w.ownsRow 0 e size (.slice (some ⟨b, 0, none⟩) n n) n cs.toList :=
  ⟨by rw [Array.length_toList]; exact hs, .inr ⟨b, n, cs, rfl, Nat.zero_le _, h, Nat.le_refl _, hn, hs, List.take_of_length_le (by rw [Array.length_toList]; omega)⟩⟩

set_option maxRecDepth 100000 in
set_option maxHeartbeats 8000000 in
theorem kBentC (mn : Int) (fs : List Tp) (fv : Value) (w : World) (hf : FunsRd w w.heap.size fv fs) (hr : CdIn mn fs) :
    Calls Tryd.prog 14 #[.agg #[.int .i64 mn, fv]] w fun e w' => ∃ (c : Cd) (u : Value), e = .returned (.agg #[.int .i64 c.mn, u]) ∧ FunsOw w' u c.fs ∧ Below w.heap.size w w' ∧ goodC c = true := by
  obtain ⟨o, cap, rfl, hc1, hc2, hcs⟩ := hf
  unfold maxLen at hc2
  by_cases h0 : fs.length = 0
  · obtain rfl : fs = [] := List.length_eq_zero_iff.1 h0
    clear hcs hr
    simp only [List.length_nil] at *
    go_enter Tryd.func14, Tryd.ntmps14
    go_wp2_with fail
    have hZ : Hid _ := five_blocks w #[.int .i64 mn, .slice o 0 cap] #[.int .i64 0, .slice (some ⟨w.heap.size + 1 + 1 + 1 + 1, 0, none⟩) 1 1] #[.int .i64 1, .int .i64 0] #[.slice (some ⟨w.heap.size + 1 + 1, 0, none⟩) 1 1] #[.int .i64 0, .slice (some ⟨w.heap.size + 1 + 1 + 1, 0, none⟩) 1 1] 36 60 61 64
    obtain ⟨q0, q1, _, _⟩ := two_cells hZ.out.1
    refine bodyPost_ret (v := .agg #[.int .i64 0, .slice (some ⟨w.heap.size + 1 + 1 + 1 + 1, 0, none⟩) 1 1]) (by simp [results, Tryd.results14, go_sem, q0, q1]) rfl ⟨⟨0, [⟨0, [[(1, 0)]]⟩]⟩, _, rfl, ?_, ?_, by decide⟩
    · refine ⟨_, own_block hZ.out.2.2.2.1 rfl (by decide), _, [], rfl, ?_, rfl⟩
      refine ⟨_, own_block hZ.out.2.2.1 rfl (by decide), fun k hk => ?_, fun j hj => ?_⟩
      · obtain rfl : w.heap.size + 1 + 1 + 1 = k := by simpa [Value.ownBlock] using hk
        simp
      · obtain rfl : j = 0 := by simpa using hj
        refine ⟨_, rfl, own_block hZ.out.2.1 rfl (by decide), fun k hk => ?_⟩
        obtain rfl : w.heap.size + 1 + 1 = k := by simpa [Value.ownBlock] using hk
        simp <;> omega
    · exact hZ.out.2.2.2.2
  have HR : Hid _ := hr
  have HB0 : Hid _ := kBent2 mn hr.1.1 hr.1.2
  clear hr
  have hl1 : ¬ (fs.length : Int) = 0 := by omega
  have hl2 : ((fs.length : Int) == 0) = false := by simpa using h0
  go_enter Tryd.func14, Tryd.ntmps14
  go_upto_if 15 with fail
  go_cut [3] (fun v3 wc => ∃ n : Nat, v3 = .int .i64 n ∧ 1 ≤ n ∧ n ≤ 16 ∧ n ≤ fs.length ∧ wc = ((w.alloc (Obj.cells #[.int .i64 mn, .slice o fs.length cap] 36)).alloc (Obj.cells #[.int .i64 0, .slice none 0 0] 36)))
  case first =>
    by_cases h16 : (16 : Int) < fs.length
    · go_wp2_with fail
      go_meet
      case rel => exact ⟨16, rfl, by omega, by omega, by omega, rfl⟩
    · have h16' : decide ((16 : Int) < fs.length) = false := by simpa using h16
      go_wp2_with fail
      go_meet
      case rel => exact ⟨fs.length, rfl, by omega, by omega, by omega, rfl⟩
  case rest =>
    obtain ⟨n, rfl, hn1, hn16, hnl, rfl⟩ := hcut
    have hn2 : ¬ (n : Int) = 0 := by omega
    have hn3 : ((n : Int) == 0) = false := by simp; omega
    go_wp2_with fail
    refine (show Calls _ _ _ _ _ from HB0.out _ _ _ (by omega) (by omega) (by omega)).mono ?_
    rintro e w1 ⟨M, hM0, hM1, rfl, rfl⟩
    clear HB0
    obtain ⟨CB, hCB⟩ : ∃ CB, CB = w.heap.size + 1 + 1 := ⟨_, rfl⟩
    have HB : Hid _ := three_blocks w #[.int .i64 mn, .slice o fs.length cap] #[.int .i64 0, .slice none 0 0] #[.int .i64 M, .slice none 0 0] 36 36 36
    rw [← hCB] at HB
    have hCl : w.heap.size + 1 < CB := by omega
    go_wp2_with fail
    rw [← hCB]
    have HCS : Hid (CB < (((w.alloc (Obj.cells #[.int .i64 mn, .slice o fs.length cap] 36)).alloc (Obj.cells #[.int .i64 0, .slice none 0 0] 36)).alloc (Obj.cells #[.int .i64 M, .slice none 0 0] 36)).heap.size) := by simp [Hid]; omega
    clear hCB
    obtain ⟨i2, hi2, hy0, hy1, hy2⟩ := info_parts Tryd.infoLine
    obtain ⟨i, hi, hz0, hz1, hz2⟩ := info_parts Tryd.infoTemplate
    go_loopw [5] (fun y wr => ∃ (j : Nat) (F : List Tp) (fv : Value) (ys : List Value) (T : Nat), j ≤ n ∧ y = .int .i64 j ∧ Hid (F.length = j) ∧ F.length ≤ 16 ∧ Hid (TpSo n M F) ∧ Below w.heap.size w wr ∧ wr.heap[w.heap.size]? = some (.cells #[.int .i64 mn, .slice o fs.length cap] 36 (0, 0)) ∧ wr.heap[w.heap.size + 1]? = some (.cells #[.int .i64 0, .slice none 0 0] 36 (0, 0)) ∧ wr.heap[CB]? = some (.cells #[.int .i64 M, fv] 36 (0, 0)) ∧ wr.ownsRow (CB + 1) 64 2 fv F.length ys ∧ CB < T ∧ T ≤ wr.heap.size ∧ FuOw wr T F ys) (fun y _ => n - (intOf y).toNat)
    case atStart => exact ⟨0, [], .slice none 0 0, [], CB + 1, Nat.zero_le _, rfl, rfl, by simp, TpSo.nil _ _, HB.out.2.2.2, HB.out.1, HB.out.2.1, HB.out.2.2.1, World.ownsRow_nil _ _ _ _, by omega, HCS.out, rfl⟩
    case round =>
      clear HB HCS
      obtain ⟨j, F, fv, ys, T, hj, rfl, HFL, hFl, HSO, hb, hX0, hX1, hCC, hrow, hTlo, hThi, hfu⟩ := hrel
      have hbsz := hb.size
      obtain ⟨W, hW⟩ : ∃ W, W = wr := ⟨wr, rfl⟩
      subst hW
      have hCl2 : CB < W.heap.size := (Array.getElem?_eq_some_iff.1 hCC).1
      have hX0l : w.heap.size < W.heap.size := by omega
      obtain ⟨_, a1, _, _⟩ := two_cells hX0
      obtain ⟨c0, c1, _, _⟩ := two_cells hCC
      by_cases hlt : j < n
      · rcases hcs with hz | ⟨b1, f1, rfl, hb1, hcell1⟩
        · omega
        obtain ⟨lv1, e0, e1, hl⟩ := hcell1 j (by omega)
        have HE1 : Hid _ := e1
        have hrt := HR.out.2 fs[j] (List.getElem_mem _)
        rw [← hb.cell (p := ⟨b1, f1 + j * 2, none⟩) (show b1 < _ by omega)] at e0
        rw [← hb.cell (p := ⟨b1, f1 + j * 2 + 1, none⟩) (show b1 < _ by omega)] at e1
        have lb1 : b1 < W.heap.size := by omega
        have hjl : j < fs.length := by omega
        generalize fs[j] = t at *
        obtain ⟨ar, ls⟩ := t
        simp only at *
        have HBA : Hid _ := kBent2 ar hrt.1.1 hrt.1.2
        have HRL : Hid _ := hrt.2
        clear hrt
        obtain ⟨p1, d1, rfl, hd11, hd12, hls1⟩ := hl
        unfold maxLen at hd12
        go_wp2_with fail
        refine (show Calls _ _ _ _ _ from HBA.out _ _ _ (by omega) (by omega) (by omega)).mono ?_
        rintro e w1 ⟨A0, hA00, hA06, rfl, rfl⟩
        clear HBA
        go_upto_if 46 with fail
        go_cut [5] (fun y wc => y = .int .i64 j ∧ ∃ A : Int, 0 ≤ A ∧ A ≤ 6 ∧ Hid ((j : Int) = M → A = 0) ∧ wc = w1.alloc (Obj.cells #[.int .i64 A, .slice none 0 0] 64))
        case first =>
          by_cases hjm : (j : Int) = M
          · have hjm' : ((j : Int) == M) = true := by simpa using hjm
            have HJ : Hid _ := hjm
            clear hjm
            go_wp2_with fail
            go_meet
            case rel => exact ⟨rfl, 0, by omega, by omega, fun _ => rfl, rfl⟩
          · have hjm' : ((j : Int) == M) = false := by simpa using hjm
            go_wp2_with fail
            go_meet
            case rel => exact ⟨rfl, A0, hA00, hA06, fun h => absurd h hjm, rfl⟩
        case rest =>
          obtain ⟨rfl, A, hA0, hA6, HAM, rfl⟩ := hcut
          go_upto_if 56 with fail
          go_cut [7] (fun v wc => ∃ nl : Nat, v = .int .i64 nl ∧ nl ≤ 13 ∧ nl ≤ ls.length ∧ wc = w1.alloc (Obj.cells #[.int .i64 A, .slice none 0 0] 64))
          case first =>
            by_cases h13 : (13 : Int) < ls.length
            · go_wp2_with fail
              go_meet
              case rel => exact ⟨13, rfl, by omega, by omega, rfl⟩
            · have h13' : decide ((13 : Int) < ls.length) = false := by simpa using h13
              go_wp2_with fail
              go_meet
              case rel => exact ⟨ls.length, rfl, by omega, by omega, rfl⟩
          case rest =>
            obtain ⟨nl, rfl, hnl13, hnls, rfl⟩ := hcut
            obtain ⟨TB, hTB⟩ : ∃ TB, TB = w1.heap.size := ⟨_, rfl⟩
            have HT0 : Hid ((w1.alloc (Obj.cells #[.int .i64 A, .slice none 0 0] 64)).heap[TB]? = some (.cells #[.int .i64 A, .slice none 0 0] 64 (0, 0))) := by rw [hTB]; exact heap_alloc_new w1 _
            have hTB1 : TB ≤ w1.heap.size := by omega
            have hTB2 : w1.heap.size ≤ TB := by omega
            have hTT2 : T ≤ TB := by omega
            go_wp2_with fail
            rw [← hTB]
            clear hTB
            have HB0 : Hid (Below TB w1 (w1.alloc (Obj.cells #[.int .i64 A, .slice none 0 0] 64))) := (Below.refl _ _).alloc hTB1 _
            go_loopw [8] (fun y wr => ∃ (k : Nat) (L : List Ln) (lv : Value), k ≤ nl ∧ y = .int .i64 k ∧ Hid (L.length = k) ∧ L.length ≤ 13 ∧ Hid (goodLs n A nl 0 L = true) ∧ Below TB w1 wr ∧ wr.heap[TB]? = some (.cells #[.int .i64 A, lv] 64 (0, 0)) ∧ LinesB wr (TB + 1) lv L) (fun y _ => nl - (intOf y).toNat)
            case atStart => exact ⟨0, [], .slice none 0 0, Nat.zero_le _, rfl, rfl, by simp, rfl, HB0.out, HT0.out, [], World.ownsRow_nil _ _ _ _, fun j hj => by simp at hj⟩
            case round =>
              clear HB0 HT0 a1 c0 c1 e0 e1
              obtain ⟨k, L, lv, hk, rfl, HLL, hL13, HGL, hb2, hTT, hLB⟩ := hrel
              have hb2s := hb2.size
              have hTl : TB < wr.heap.size := (Array.getElem?_eq_some_iff.1 hTT).1
              have hbw : Below w.heap.size w wr := hb.trans (hb2.mono (by omega))
              by_cases hlt2 : k < nl
              · rcases hls1 with hz | ⟨q1, g1, rfl, hq1, hlc1⟩
                · omega
                have hkl : k < ls.length := by omega
                obtain ⟨av, u1, hat⟩ := hlc1 k hkl
                have e1 := HE1.out
                rw [← hbw.cell (p := ⟨b1, f1 + j * 2 + 1, none⟩) (show b1 < _ by omega)] at e1
                rw [← hbw.cell (p := ⟨q1, g1 + k, none⟩) (show q1 < _ by omega)] at u1
                have lb1' : b1 < wr.heap.size := by omega
                have lq1' : q1 < wr.heap.size := by omega
                have lx0' : w.heap.size < wr.heap.size := by omega
                obtain ⟨_, a1, _, _⟩ := two_cells ((hb2.block _ (by omega)).trans hX0)
                obtain ⟨t0, t1, _, _⟩ := two_cells hTT
                have HC : Hid _ := kLine2 ls[k] av k nl n A wr.drew ((hat.keep (Below.drew hbw)).up (by rw [heap_drew]; omega)) (HRL.out ls[k] (List.getElem_mem _)) hA0 hA6 (by omega) hnl13 hlt2 hn1 hn16
                obtain ⟨s1, k1, rfl, _, _, _⟩ := hat
                go_wp2_with fail
                go_cut [9] (fun v wc => ∃ a c l', v = .slice a l'.length c ∧ Hid (wc.ownsRow wr.heap.size 60 2 (.slice a l'.length c) l'.length (acs l')) ∧ Hid (Below wr.heap.size wr wc) ∧ Hid (goodL n A nl k l' = true))
                case first =>
                  go_region_with (go_at_call 30; go_must (refine (show Calls _ _ _ _ _ from HC.out).mono ?_); rintro e w3 ⟨a3, c3, l3, rfl, H1, H2, H3⟩)
                  all_goals
                    go_wp2_with fail
                    go_meet
                    case rel => exact ⟨a3, c3, l3, rfl, ownsRow_base H1.out (by rw [heap_drew]; exact Nat.le_refl _), (Below.drew (Below.refl _ _)).trans (H2.out.mono (by simp [heap_drew])), H3⟩
                case rest =>
                  obtain ⟨vo, vcap, l', rfl, H1, H2, H3⟩ := hcut
                  have hv4 := H1.out
                  have hT4 := (H2.out.block _ hTl).trans hTT
                  have hLB4 := hLB.old H2.out
                  have hb4 : Below TB w1 wc := hb2.trans (H2.out.mono (by omega))
                  have hwcs := hb4.size
                  have HGL2 : Hid (goodLs n A nl 0 (L ++ [l']) = true) := goodLs_snoc HGL.out (by rw [Nat.zero_add, HLL.out]; exact H3.out)
                  clear HC e1 u1 a1 t0 t1
                  obtain ⟨vs, hlr4, hrw4⟩ := hLB4
                  obtain ⟨t0, t1, _, ft1⟩ := two_cells hT4
                  have hT4l : TB < wc.heap.size := (Array.getElem?_eq_some_iff.1 hT4).1
                  obtain ⟨lo, lcap, rfl⟩ := own_form hlr4
                  have hA4 : Below wc.heap.size wc (wc.alloc (Obj.cells #[.slice vo l'.length vcap] 61)) := (Below.refl _ _).alloc (Nat.le_refl _) _
                  go_wp2_with (at_builtin; go_must (refine wpList_append_lies _ rfl _ _ _ rfl (TB + 1) 61 i2 _ 1 24 Tryd.underlying62 hi2 hy0 hy1 hy2 rfl (by omega) (.slice lo L.length lcap) L.length vs rfl ?hownA1 _ 1 _ [.slice vo l'.length vcap] rfl rfl ?hnewsA1 ?h1A1 (by omega) ?h63A1 ?hbytesA1 ?hbaseA1 _ rfl ?_))
                  case hownA1 => exact hlr4.alloc _
                  case hnewsA1 => exact World.news_of_block (heap_alloc_new wc _)
                  case h1A1 => simp [Value.oneCell']
                  case h63A1 => unfold maxLen; omega
                  case hbytesA1 => omega
                  case hbaseA1 => first | omega | (simp; omega)
                  intro g cap2 w5 hown5 hgrow5 hat5 hlt5
                  have hT5 := grown_type (hlr4.alloc _) hgrow5 (by decide) ((hA4.block _ hT4l).trans hT4)
                  have hb5 : Below TB w1 w5 := (hb4.alloc (by omega) _).grown hgrow5 (by simp; omega) (fun k hk => Nat.le_trans (Nat.le_succ _) (hlr4.lt k hk).1)
                  have hLB5 : LinesB w5 (TB + 1) (.slice (some ⟨g, 0, none⟩) (L.length + 1) cap2) (L ++ [l']) := by
                    refine ⟨vs ++ [.slice vo l'.length vcap], by rw [List.length_append]; exact hown5, RowsAt.app (by have := hlr4.1; simpa using this) ((hrw4.old hA4 (fun _ _ h => h)).type (hlr4.alloc _) hgrow5 (fun _ h => h)) ?_⟩
                    intro q hq
                    have hq0 : q = 0 := by simpa using hq
                    subst hq0
                    exact ⟨_, rfl, own_grown_type (hlr4.alloc _) hgrow5 (by decide) ((ownsRow_base2 hv4 (by omega)).alloc _), fun _ _ => trivial⟩
                  obtain ⟨z0, z1, _, fz1⟩ := two_cells hT5
                  have hT5l : TB < w5.heap.size := (Array.getElem?_eq_some_iff.1 hT5).1
                  clear hgrow5 hat5 t0 t1 ft1
                  go_wp2_with fail
                  go_roundw
                  case rel => exact ⟨k + 1, L ++ [l'], _, hlt2, by go_num, by have := HLL.out; simp [Hid, this], by have := HLL.out; simp; omega, HGL2, hb5.setCell (by exact Nat.le_refl _) _, blk_set _ hT5, hLB5.set hT5⟩
                  case measure => simp [intOf]; omega
              · have hk2 : k = nl := by omega
                have hle : ¬ (k : Int) < (nl : Int) := by omega
                by_cases hz : nl = 0
                · subst hz
                  have hL0 : L = [] := List.length_eq_zero_iff.1 (by have := HLL.out; omega)
                  subst hL0
                  obtain ⟨t0, t1, _, _⟩ := two_cells hTT
                  have HC : Hid _ := kLine2 [] (.slice none 0 0) 0 1 n A wr ⟨none, 0, rfl, by simp, by unfold maxLen; omega, .inl rfl⟩ (fun a ha => by simp at ha) hA0 hA6 (by omega) (by omega) (by omega) hn1 hn16
                  go_wp2_with fail
                  refine (show Calls _ _ _ _ _ from HC.out).mono ?_
                  rintro e w3 ⟨vo, vcap, l', rfl, H1, H2, H3⟩
                  have hv4 := H1.out
                  have hT4 := (H2.out.block _ hTl).trans hTT
                  have hLB4 := hLB.old H2.out
                  have hb4 : Below TB w1 w3 := hb2.trans (H2.out.mono (by omega))
                  have hwcs := hb4.size
                  clear HC t0 t1
                  obtain ⟨L, hL⟩ : ∃ L : List Ln, L = [] := ⟨_, rfl⟩
                  rw [← hL] at hLB4
                  have hLl : L.length ≤ 13 := by rw [hL]; simp
                  have HL0 : Hid (L = []) := hL
                  clear hL
                  obtain ⟨vs, hlr4, hrw4⟩ := hLB4
                  obtain ⟨t0, t1, _, ft1⟩ := two_cells hT4
                  have hT4l : TB < w3.heap.size := (Array.getElem?_eq_some_iff.1 hT4).1
                  obtain ⟨lo, lcap, rfl⟩ := own_form hlr4
                  have hA4 : Below w3.heap.size w3 (w3.alloc (Obj.cells #[.slice vo l'.length vcap] 61)) := (Below.refl _ _).alloc (Nat.le_refl _) _
                  go_wp2_with (at_builtin; go_must (refine wpList_append_lies _ rfl _ _ _ rfl (TB + 1) 61 i2 _ 1 24 Tryd.underlying62 hi2 hy0 hy1 hy2 rfl (by omega) (.slice lo L.length lcap) L.length vs rfl ?hownA2 _ 1 _ [.slice vo l'.length vcap] rfl rfl ?hnewsA2 ?h1A2 (by omega) ?h63A2 ?hbytesA2 ?hbaseA2 _ rfl ?_))
                  case hownA2 => exact hlr4.alloc _
                  case hnewsA2 => exact World.news_of_block (heap_alloc_new w3 _)
                  case h1A2 => simp [Value.oneCell']
                  case h63A2 => unfold maxLen; omega
                  case hbytesA2 => omega
                  case hbaseA2 => first | omega | (simp; omega)
                  intro g cap2 w5 hown5 hgrow5 hat5 hlt5
                  have hT5 := grown_type (hlr4.alloc _) hgrow5 (by decide) ((hA4.block _ hT4l).trans hT4)
                  have hb5 : Below TB w1 w5 := (hb4.alloc (by omega) _).grown hgrow5 (by simp; omega) (fun k hk => Nat.le_trans (Nat.le_succ _) (hlr4.lt k hk).1)
                  have hLB5 : LinesB w5 (TB + 1) (.slice (some ⟨g, 0, none⟩) (L.length + 1) cap2) (L ++ [l']) := by
                    refine ⟨vs ++ [.slice vo l'.length vcap], by rw [List.length_append]; exact hown5, RowsAt.app (by have := hlr4.1; simpa using this) ((hrw4.old hA4 (fun _ _ h => h)).type (hlr4.alloc _) hgrow5 (fun _ h => h)) ?_⟩
                    intro q hq
                    have hq0 : q = 0 := by simpa using hq
                    subst hq0
                    exact ⟨_, rfl, own_grown_type (hlr4.alloc _) hgrow5 (by decide) ((ownsRow_base2 hv4 (by omega)).alloc _), fun _ _ => trivial⟩
                  obtain ⟨z0, z1, _, fz1⟩ := two_cells hT5
                  have hT5l : TB < w5.heap.size := (Array.getElem?_eq_some_iff.1 hT5).1
                  clear hgrow5 hat5 t0 t1 ft1
                  have HGT : Hid (goodT n ⟨A, L ++ [l']⟩ = true) := by
                    have h3 := H3.out
                    refine goodT_of hA0 hA6 (by simp) (by rw [HL0.out]; simp) ?_
                    rw [HL0.out]
                    simpa [goodLs] using h3
                  go_upto_region 24 with fail
                  have hbV : Below TB w1 (w5.setCell ⟨TB, 1, none⟩ (.slice (some ⟨g, 0, none⟩) (L.length + 1) cap2)) := hb5.setCell (by exact Nat.le_refl _) _
                  have hTV := blk_set (i := 1) (.slice (some ⟨g, 0, none⟩) (L.length + 1) cap2) hT5
                  have hLBV := hLB5.set (i := 1) (u := .slice (some ⟨g, 0, none⟩) (L.length + 1) cap2) hT5
                  simp only [List.setIfInBounds_toArray, List.set_cons_zero, List.set_cons_succ] at hTV
                  generalize hVV : w5.setCell ⟨TB, 1, none⟩ (.slice (some ⟨g, 0, none⟩) (L.length + 1) cap2) = V at *
                  clear hVV z0 z1 fz1 hT5 hLB5 hb5 hown5 hlt5 hT5l
                  obtain ⟨LV, hLV⟩ : ∃ LV, LV = L ++ [l'] := ⟨_, rfl⟩
                  obtain ⟨lvV, hlvV⟩ : ∃ x, x = Value.slice (some ⟨g, 0, none⟩) (L.length + 1) cap2 := ⟨_, rfl⟩
                  rw [← hlvV] at hTV
                  rw [← hlvV, ← hLV] at hLBV
                  rw [← hLV] at HGT
                  clear hlvV hLV
                  have hbVw : Below w1.heap.size w1 V := hbV.mono hTB2
                  have hsV := hbV.size
                  have hX0V := (hbV.block _ (by omega)).trans hX0
                  have hX1V := (hbV.block _ (by omega)).trans hX1
                  have hCV := (hbV.block _ (by omega)).trans hCC
                  have hrowV := ownsRow_old hrow hbVw
                  have hfuV := (hfu.keep (hbV.mono hTT2)).up (show T ≤ V.heap.size by omega)
                  have how := hLBV.ow
                  have hfuV2 : FuOw V V.heap.size F ys := hfuV.up (by omega)
                  obtain ⟨lo3, lc3, hlv3⟩ : ∃ a c, lvV = .slice a LV.length c := by obtain ⟨vs, h1, _⟩ := how; obtain ⟨a, c, e⟩ := own_form h1; exact ⟨a, c, e⟩
                  subst hlv3
                  obtain ⟨t0, t1, _, _⟩ := two_cells hTV
                  obtain ⟨s0, s1, _, fs1⟩ := two_cells hCV
                  obtain ⟨fo, fcap, rfl⟩ := own_form hrowV
                  have hCVl : CB < V.heap.size := by omega
                  have hTVl : TB < V.heap.size := (Array.getElem?_eq_some_iff.1 hTV).1
                  have hA3 : Below V.heap.size V (V.alloc (Obj.cells #[.int .i64 A, .slice lo3 LV.length lc3] 64)) := (Below.refl _ _).alloc (Nat.le_refl _) _
                  go_wp2_with (at_builtin; go_must (refine wpList_append_lies _ rfl _ _ _ rfl (CB + 1) 64 i _ 2 32 Tryd.underlying34 hi hz0 hz1 hz2 rfl (by omega) (.slice fo F.length fcap) F.length ys rfl ?hownB2 _ 1 _ [.int .i64 A, .slice lo3 LV.length lc3] rfl rfl ?hnewsB2 ?h1B2 (by omega) ?h63B2 ?hbytesB2 ?hbaseB2 _ rfl ?_))
                  case hownB2 => exact hrowV.alloc _
                  try case hnewsB2 => exact World.news_of_block (heap_alloc_new V _)
                  case h1B2 => simp [Value.oneCell']
                  case h63B2 => unfold maxLen; omega
                  case hbytesB2 => omega
                  case hbaseB2 => first | omega | (simp; omega)
                  intro g cap2 w5 hown5 hgrow5 hat5 hlt5
                  have hX05 := grown_type (hrowV.alloc _) hgrow5 (by decide) ((hA3.block _ (by omega)).trans hX0V)
                  have hX15 := grown_type (hrowV.alloc _) hgrow5 (by decide) ((hA3.block _ (by omega)).trans hX1V)
                  have hC5 := grown_type (hrowV.alloc _) hgrow5 (by decide) ((hA3.block _ (by omega)).trans hCV)
                  have hb5 : Below w.heap.size w w5 := ((hb.trans (hbV.mono (by omega))).trans (hA3.mono (by omega))).grown hgrow5 (by simp; omega) (fun k hk => Nat.le_trans (by omega) (hrowV.lt k hk).1)
                  have hfu5 : FuOw w5 V.heap.size (F ++ [⟨A, LV⟩]) (ys ++ [.int .i64 A, .slice lo3 LV.length lc3]) := FuOw.type (hrowV.alloc _) hgrow5 ((FuOw.snoc (t := ⟨A, LV⟩) how hfuV2).keep hA3)
                  have hs5 := hgrow5.size
                  simp only [World.size_alloc] at hs5
                  obtain ⟨z0, z1, _, fz1⟩ := two_cells hC5
                  have hC5l : CB < w5.heap.size := (Array.getElem?_eq_some_iff.1 hC5).1
                  clear hgrow5 hat5 t0 t1 s0 s1 fs1
                  go_wp2_with fail
                  go_roundw
                  case rel => exact ⟨j + 1, F ++ [⟨A, LV⟩], _, _, V.heap.size, hlt, by go_num, by have := HFL.out; simp [Hid, this], by have := HFL.out; simp; omega, HSO.out.snoc HGT.out (fun he => HAM.out (by have := HFL.out; omega)), hb5.setCell (by show w.heap.size ≤ CB; omega) _, (heap_set_ne _ (by omega)).trans hX05, (heap_set_ne _ (by omega)).trans hX15, blk_set _ hC5, by rw [List.length_append]; exact ownsRow_set hown5 hC5 (by decide), by omega, by simp [World.setCell]; omega, FuOw.set hC5 hfu5⟩
                  case measure => simp [intOf]; omega
                · have hnz1 : ¬ (nl : Int) = 0 := by omega
                  have hnz2 : ((nl : Int) == 0) = false := by simpa using hz
                  have HGT : Hid (goodT n ⟨A, L⟩ = true) := goodT_of hA0 hA6 (by have := HLL.out; omega) hL13 (by have := HLL.out; rw [this, hk2]; exact HGL.out)
                  obtain ⟨LV, hLV⟩ : ∃ LV, LV = L := ⟨_, rfl⟩
                  subst hLV
                  obtain ⟨lvV, hlvV⟩ : ∃ x, x = lv := ⟨_, rfl⟩
                  subst hlvV
                  have hbV := hb2
                  have hTV := hTT
                  have hLBV := hLB
                  have hbVw : Below w1.heap.size w1 wr := hbV.mono hTB2
                  have hsV := hbV.size
                  have hX0V := (hbV.block _ (by omega)).trans hX0
                  have hX1V := (hbV.block _ (by omega)).trans hX1
                  have hCV := (hbV.block _ (by omega)).trans hCC
                  have hrowV := ownsRow_old hrow hbVw
                  have hfuV := (hfu.keep (hbV.mono hTT2)).up (show T ≤ wr.heap.size by omega)
                  have how := hLBV.ow
                  have hfuV2 : FuOw wr wr.heap.size F ys := hfuV.up (by omega)
                  obtain ⟨lo3, lc3, hlv3⟩ : ∃ a c, lvV = .slice a LV.length c := by obtain ⟨vs, h1, _⟩ := how; obtain ⟨a, c, e⟩ := own_form h1; exact ⟨a, c, e⟩
                  subst hlv3
                  obtain ⟨t0, t1, _, _⟩ := two_cells hTV
                  obtain ⟨s0, s1, _, fs1⟩ := two_cells hCV
                  obtain ⟨fo, fcap, rfl⟩ := own_form hrowV
                  have hCVl : CB < wr.heap.size := by omega
                  have hTVl : TB < wr.heap.size := (Array.getElem?_eq_some_iff.1 hTV).1
                  have hA3 : Below wr.heap.size wr (wr.alloc (Obj.cells #[.int .i64 A, .slice lo3 LV.length lc3] 64)) := (Below.refl _ _).alloc (Nat.le_refl _) _
                  go_wp2_with (at_builtin; go_must (refine wpList_append_lies _ rfl _ _ _ rfl (CB + 1) 64 i _ 2 32 Tryd.underlying34 hi hz0 hz1 hz2 rfl (by omega) (.slice fo F.length fcap) F.length ys rfl ?hownB1 _ 1 _ [.int .i64 A, .slice lo3 LV.length lc3] rfl rfl ?hnewsB1 ?h1B1 (by omega) ?h63B1 ?hbytesB1 ?hbaseB1 _ rfl ?_))
                  case hownB1 => exact hrowV.alloc _
                  try case hnewsB1 => exact World.news_of_block (heap_alloc_new wr _)
                  case h1B1 => simp [Value.oneCell']
                  case h63B1 => unfold maxLen; omega
                  case hbytesB1 => omega
                  case hbaseB1 => first | omega | (simp; omega)
                  intro g cap2 w5 hown5 hgrow5 hat5 hlt5
                  have hX05 := grown_type (hrowV.alloc _) hgrow5 (by decide) ((hA3.block _ (by omega)).trans hX0V)
                  have hX15 := grown_type (hrowV.alloc _) hgrow5 (by decide) ((hA3.block _ (by omega)).trans hX1V)
                  have hC5 := grown_type (hrowV.alloc _) hgrow5 (by decide) ((hA3.block _ (by omega)).trans hCV)
                  have hb5 : Below w.heap.size w w5 := ((hb.trans (hbV.mono (by omega))).trans (hA3.mono (by omega))).grown hgrow5 (by simp; omega) (fun k hk => Nat.le_trans (by omega) (hrowV.lt k hk).1)
                  have hfu5 : FuOw w5 wr.heap.size (F ++ [⟨A, LV⟩]) (ys ++ [.int .i64 A, .slice lo3 LV.length lc3]) := FuOw.type (hrowV.alloc _) hgrow5 ((FuOw.snoc (t := ⟨A, LV⟩) how hfuV2).keep hA3)
                  have hs5 := hgrow5.size
                  simp only [World.size_alloc] at hs5
                  obtain ⟨z0, z1, _, fz1⟩ := two_cells hC5
                  have hC5l : CB < w5.heap.size := (Array.getElem?_eq_some_iff.1 hC5).1
                  clear hgrow5 hat5 t0 t1 s0 s1 fs1
                  go_wp2_with fail
                  go_roundw
                  case rel => exact ⟨j + 1, F ++ [⟨A, LV⟩], _, _, wr.heap.size, hlt, by go_num, by have := HFL.out; simp [Hid, this], by have := HFL.out; simp; omega, HSO.out.snoc HGT.out (fun he => HAM.out (by have := HFL.out; omega)), hb5.setCell (by show w.heap.size ≤ CB; omega) _, (heap_set_ne _ (by omega)).trans hX05, (heap_set_ne _ (by omega)).trans hX15, blk_set _ hC5, by rw [List.length_append]; exact ownsRow_set hown5 hC5 (by decide), by omega, by simp [World.setCell]; omega, FuOw.set hC5 hfu5⟩
                  case measure => simp [intOf]; omega
      · have hj2 : j = n := by omega
        have hle : ¬ (j : Int) < (n : Int) := by omega
        obtain ⟨fo, fcap, rfl⟩ := own_form hrow
        obtain ⟨x0, x1, g0, g1⟩ := two_cells hX1
        obtain ⟨q0, q1⟩ := read2 (a := .int .i64 M) (c := .slice fo F.length fcap) hX1
        have hX1l : w.heap.size + 1 < W.heap.size := by omega
        have hne : CB ≠ w.heap.size + 1 := by omega
        have HG : Hid (goodC ⟨M, F⟩ = true) := by
          have h1 := HFL.out
          exact TpSo.good (by rw [h1, hj2]; exact HSO.out) (by omega) hFl hM0 (by omega)
        go_wp2_with fail
        refine bodyPost_ret (v := .agg #[.int .i64 M, .slice fo F.length fcap]) (by simp [results, Tryd.results14, go_sem, q0, q1]) rfl ⟨⟨M, F⟩, _, rfl, ?_, ?_, HG.out⟩
        · exact (FunsOw.set ⟨ys, ownsRow_base hrow (Nat.zero_le _), hfu.up hThi⟩ hX1).set (blk_set _ hX1)
        · exact (hb.setCell (by show w.heap.size ≤ w.heap.size + 1; omega) _).setCell (by show w.heap.size ≤ w.heap.size + 1; omega) _

end Go.Proofs.YtnndoagpbcacdaaDoor
