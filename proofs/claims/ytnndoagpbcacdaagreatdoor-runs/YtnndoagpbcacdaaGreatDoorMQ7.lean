import Derived.Test.YtnndoagpbcacdaaGreatDoorMQ4
namespace Go.Proofs.YtnndoagpbcacdaaGreatDoor
open Go.RowKit

theorem three_blocksQ (w : World) (a b : Array Value) (s t : TypeId) :
    ((w.alloc (.cells a s)).alloc (.cells b t)).heap[w.heap.size]? = some (.cells a s (0, 0)) ∧
    ((w.alloc (.cells a s)).alloc (.cells b t)).heap[w.heap.size + 1]? = some (.cells b t (0, 0)) ∧
    Below w.heap.size w ((w.alloc (.cells a s)).alloc (.cells b t)) :=
  ⟨(two_later (Below.refl _ _)).1, (two_later (Below.refl _ _)).2, ((Below.refl _ _).alloc (Nat.le_refl _) _).alloc (by simp) _⟩
theorem hd_pos {c : UInt8} {ws : List ByteArray} (h : hdOk c ws = true) : 0 ≤ hdA c ws ∧ 0 ≤ hdB c ws := by
  simp only [hdOk, Bool.and_eq_true] at h
  obtain ⟨o1, o2, o3, o4⟩ := h
  unfold hdA hdB
  simp only [o1, o2, Bool.and_self, if_true, decV, o3, o4]
  exact ⟨(numV_le _).1, (numV_le _).1⟩

set_option maxRecDepth 100000 in
set_option maxHeartbeats 8000000 in
theorem rRead0 (r : ByteArray) (a : Option Addr) (cap : Nat) (LS : List (List UInt8)) (w : World) (hls : spL 10 r.data.toList = LS) (hs : r.size ≤ 30000) (hl : LS.length ≤ 30001) (hrow : w.ownsRow 0 9 1 (.slice a LS.length cap) LS.length (sts (LS.map ba))) :
    Calls Tryz.prog 90 #[.slice a LS.length cap] w fun e w' => ∃ mn fo fl fc, e = .returned (.tuple #[.agg #[.int .i64 mn, .slice fo fl fc], .int .i64 (codeR r).2, .bool (codeR r).1.isSome]) ∧ Below w.heap.size w w' ∧ ∀ c, (codeR r).1 = some c → mn = c.mn ∧ FunsOw w' (.slice fo fl fc) c.fs := by
  have hpos : 0 < LS.length := by rw [← hls]; exact List.length_pos_iff.2 (spL_ne _ _)
  have HSZ : Hid (∀ (i : Nat) (h : i < LS.length), (ba LS[i]).size ≤ 30000) := fun i h => by
    have := spL_len 10 r.data.toList LS[i] (by rw [hls]; exact List.getElem_mem h)
    rw [← size_len] at this
    rw [size_len, ba_toL]
    omega
  obtain ⟨q, cap', hq, _, hqlt⟩ := hrow.form hpos
  cases hq
  have HCELL : Hid (∀ wr : World, Below w.heap.size w wr → ∀ (i : Nat) (h : i < LS.length), wr.cell? ⟨q, i, none⟩ = some (.string (ba LS[i]))) := fun wr hb i h => by
    refine row_cell (ownsRow_old hrow hb) i _ ?_
    unfold sts
    rw [List.map_map, List.getElem?_map, List.getElem?_eq_getElem h]
    rfl
  clear hrow
  generalize hX : codeR r = X
  have HX : Hid (codeR r = X) := hX
  clear hX
  have HBAD : Hid (head0 LS hpos = false → X = (none, 1)) := fun h => by rw [← HX.out]; exact code_bad hls hpos h
  have HGOOD : Hid _ := fun h => code_good hls hpos h
  rw [HX.out] at HGOOD
  clear HX
  have HD : Hid (head0 LS hpos = (decide (2 ≤ LS.length) && (hdOk 77 (wsB (ba LS[0])) && begins (hdA 77 (wsB (ba LS[0]))) (hdB 77 (wsB (ba LS[0])))))) := rfl
  have HC : Hid _ := fun w => rHeader 77 (ba LS[0]) w (HSZ.out 0 hpos)
  have HW : Hid _ := three_blocksQ w #[.int .i64 0, .slice none 0 0] #[.int .i64 0, .slice none 0 0] 57 57
  have c0 := HCELL.out _ HW.out.2.2 0 hpos
  have HPA : Hid (hdOk 77 (wsB (ba LS[0])) = true → 0 ≤ hdA 77 (wsB (ba LS[0]))) := fun h => (hd_pos h).1
  generalize hdOk 77 (wsB (ba LS[0])) = ok at *
  generalize hdA 77 (wsB (ba LS[0])) = PA at *
  generalize hdB 77 (wsB (ba LS[0])) = PB at *
  generalize head0 LS hpos = G at *
  have hq1 : q < w.heap.size + 1 := by omega
  go_enter Tryz.func90, Tryz.ntmps90
  go_wp2_with fail
  refine (show Calls _ _ _ _ _ from HC.out _).mono ?_
  rintro e w1 ⟨rfl, hb1⟩
  clear HC c0
  have hR0 := (hb1.block _ (by simp; omega)).trans HW.out.1
  have hR1 := (hb1.block _ (by simp)).trans HW.out.2.1
  have hbw1 : Below w.heap.size w w1 := HW.out.2.2.trans (hb1.mono (by simp; omega))
  have hbs1 := hbw1.size
  have hR1l : w.heap.size + 1 < w1.heap.size := (Array.getElem?_eq_some_iff.1 hR1).1
  clear hb1 HW
  obtain ⟨Bd, hBd⟩ : ∃ Bd, Bd = !G := ⟨_, rfl⟩
  have HBD : Hid (Bd = !G) := hBd
  clear hBd
  go_upto_region 3 with fail
  go_cut [45] (fun v wc => v = .bool Bd ∧ wc = w1)
  case first =>
    cases ok with
    | false =>
      go_wp2_with fail
      go_meet
      case rel => exact ⟨congrArg Value.bool (by rw [HBD.out, HD.out]; simp), rfl⟩
    | true =>
      by_cases h2 : 2 ≤ LS.length
      · have h2' : ¬ (LS.length : Int) < 2 := by omega
        have h2d : decide ((LS.length : Int) < 2) = false := by simp; omega
        by_cases p1 : 1 ≤ PB
        · have p1' : decide (PB < 1) = false := by simp; omega
          by_cases p2 : PB ≤ 16
          · have p2' : decide (16 < PB) = false := by simp; omega
            have HA0 : Hid (0 ≤ PA) := HPA.out rfl
            by_cases p3 : PA < PB
            · have p3' : decide (PB ≤ PA) = false := by simp; omega
              go_wp2_with fail
              go_meet
              case rel => exact ⟨congrArg Value.bool (by rw [HBD.out, HD.out]; simp [begins, h2, p1, p2, p3, HA0.out]), rfl⟩
            · have p3' : decide (PB ≤ PA) = true := by simp; omega
              go_wp2_with fail
              go_meet
              case rel => exact ⟨congrArg Value.bool (by rw [HBD.out, HD.out]; simp [begins, p3]), rfl⟩
          · have p2' : decide (16 < PB) = true := by simp; omega
            go_wp2_with fail
            go_meet
            case rel => exact ⟨congrArg Value.bool (by rw [HBD.out, HD.out]; simp [begins, p2]), rfl⟩
        · have p1' : decide (PB < 1) = true := by simp; omega
          go_wp2_with fail
          go_meet
          case rel => exact ⟨congrArg Value.bool (by rw [HBD.out, HD.out]; simp [begins, p1]), rfl⟩
      · have h2' : (LS.length : Int) < 2 := by omega
        go_wp2_with fail
        go_meet
        case rel => exact ⟨congrArg Value.bool (by rw [HBD.out, HD.out]; simp [h2]), rfl⟩
  case rest =>
    obtain ⟨rfl, rfl⟩ := hcut
    cases Bd with
    | true =>
      have HX2 : Hid _ := HBAD.out (by have := HBD.out; simpa using this.symm)
      obtain ⟨x0, x1, f0, f1⟩ := two_cells hR0
      obtain ⟨y0, y1, _, _⟩ := two_cells hR1
      obtain ⟨q0, q1⟩ := read2 (a := .int .i64 0) (c := .slice none 0 0) hR0
      have hR0l : w.heap.size < wc.heap.size := by omega
      go_wp2_with fail
      refine bodyPost_ret (v := .tuple #[.agg #[.int .i64 0, .slice none 0 0], .int .i64 1, .bool false]) (by simp [results, Tryz.results90, go_sem, q0, q1]) rfl ⟨0, _, _, _, by rw [HX2.out]; rfl, ?_, fun c hc => by rw [HX2.out] at hc; cases hc⟩
      exact (hbw1.setCell (by exact Nat.le_refl _) _).setCell (by exact Nat.le_refl _) _
    | false =>
      obtain ⟨hXX, hrest, h2, hbg⟩ := HGOOD.out (by have := HBD.out; simpa using this.symm)
      clear HGOOD HBAD HD HPA HBD
      simp only [begins, Bool.and_eq_true, decide_eq_true_eq] at hbg
      obtain ⟨p1, p2, p3, p4⟩ := hbg
      obtain ⟨n, rfl⟩ := Int.eq_ofNat_of_zero_le (show 0 ≤ PB by omega)
      have hn16 : n ≤ 16 := by omega
      rw [Int.toNat_natCast] at hXX
      generalize restF r = RF at *
      generalize hY : funsR n PA n 0 RF = Y at *
      have HX1 : Hid _ := hXX
      have HY : Hid (funsR n PA (n - 0) 0 RF = Y) := hY
      have HR : Hid (spL 10 RF.data.toList = LS.drop 1) := hrest
      clear hXX hY hrest hls p1 p2
      obtain ⟨y0, y1, g0, g1⟩ := two_cells hR1
      obtain ⟨i2, hi2, hz20, hz21, hz22⟩ := info_parts Tryz.infoLine
      obtain ⟨i, hi, hz0, hz1, hz2⟩ := info_parts Tryz.infoTemplate
      have hR0l : w.heap.size < wc.heap.size := by omega
      go_wp2_with fail
      go_loopw [9, 10] (fun x y wr => ∃ (k : Nat) (F : List Tp) (rj : ByteArray) (t : Nat) (fv : Value) (ys : List Value) (T : Nat), k ≤ n ∧ y = .int .i64 k ∧ x = .int .i64 t ∧ Hid (Y = ((funsR n PA (n - k) k rj).1.map (F ++ ·), (funsR n PA (n - k) k rj).2.1, (funsR n PA (n - k) k rj).2.2 + (t - 1))) ∧ Hid (F.length = k) ∧ F.length ≤ 16 ∧ 1 ≤ t ∧ t < LS.length ∧ Hid (spL 10 rj.data.toList = LS.drop t) ∧ Below w.heap.size w wr ∧ wr.heap[w.heap.size]? = some (.cells #[.int .i64 0, .slice none 0 0] 57 (0, 0)) ∧ wr.heap[w.heap.size + 1]? = some (.cells #[.int .i64 PA, fv] 57 (0, 0)) ∧ wr.ownsRow (w.heap.size + 1 + 1) 78 2 fv F.length ys ∧ w.heap.size + 1 < T ∧ T ≤ wr.heap.size ∧ FuOw wr T F ys) (fun _ y _ => n - (intOf y).toNat)
      case atStart =>
        refine ⟨0, [], RF, 1, .slice none 0 0, [], w.heap.size + 1 + 1, Nat.zero_le _, rfl, rfl, ?_, rfl, by simp, Nat.le_refl _, by omega, HR.out, hbw1.setCell (by show w.heap.size ≤ w.heap.size + 1; omega) _, (heap_set_ne _ (by omega)).trans hR0, blk_set _ hR1, World.ownsRow_nil _ _ _ _, by omega, by simp [World.setCell]; omega, rfl⟩
        rw [HY.out]; simp [Hid]
      case round =>
        clear hR0 hR1 y0 y1 g0 g1 HY HR hbw1 hbs1 hR1l hR0l
        obtain ⟨k, F, rj, t, fv, ys, T, hk, rfl, rfl, HFR, HFL, hF16, ht1, htl, HLJ, hb, hR0, hCC, hrow, hTlo, hThi, hfu⟩ := hrel
        obtain ⟨W, hW⟩ : ∃ W, W = wr := ⟨wr, rfl⟩
        subst hW
        have hbs := hb.size
        have hCl : w.heap.size + 1 < W.heap.size := (Array.getElem?_eq_some_iff.1 hCC).1
        obtain ⟨fo, fcap, rfl⟩ := own_form hrow
        by_cases hlt : k < n
        · have HC : Hid _ := fun w => rHeader 70 (ba LS[t]) w (HSZ.out t htl)
          have HBT : Hid (headF LS t htl ((k : Int) == PA) = false → X = (none, t + 1)) := fun hf => by
            have h := HFR.out
            rw [show n - k = (n - (k + 1)) + 1 by omega] at h
            unfold funsR at h
            rw [tmpl_bad n htl HLJ.out hf] at h
            simp only [Option.map_none] at h
            have h1 := HX1.out
            rw [h] at h1
            simp only at h1
            rw [h1]
            congr 1
            omega
          have HGT : Hid _ := fun hf => tmpl_good n htl HLJ.out (m := ((k : Int) == PA)) hf
          have HFS : Hid (∀ tp, (tmplR n ((k : Int) == PA) rj).1 = some tp → Y = ((funsR n PA (n - (k + 1)) (k + 1) (tmplR n ((k : Int) == PA) rj).2.1).1.map ((F ++ [tp]) ++ ·), (funsR n PA (n - (k + 1)) (k + 1) (tmplR n ((k : Int) == PA) rj).2.1).2.1, (funsR n PA (n - (k + 1)) (k + 1) (tmplR n ((k : Int) == PA) rj).2.1).2.2 + ((tmplR n ((k : Int) == PA) rj).2.2 + (t - 1)))) := fun tp hT => by
            have h := HFR.out
            rw [show n - k = (n - (k + 1)) + 1 by omega] at h
            unfold funsR at h
            rw [hT] at h
            simp only [Option.map_map] at h
            rw [h]
            congr 1
            · congr 1
              funext M
              simp
            · congr 1
              omega
          have HFN : Hid ((tmplR n ((k : Int) == PA) rj).1 = none → X = (none, (tmplR n ((k : Int) == PA) rj).2.2 + (t - 1) + 1)) := fun hT => by
            have h := HFR.out
            rw [show n - k = (n - (k + 1)) + 1 by omega] at h
            unfold funsR at h
            rw [hT] at h
            simp only [Option.map_none] at h
            have h1 := HX1.out
            rw [h] at h1
            simp only at h1
            exact h1
          have HD : Hid (headF LS t htl ((k : Int) == PA) = (decide (t + 1 < LS.length) && (hdOk 70 (wsB (ba LS[t])) && stand (hdA 70 (wsB (ba LS[t]))) (hdB 70 (wsB (ba LS[t]))) ((k : Int) == PA)))) := rfl
          have HPA : Hid (hdOk 70 (wsB (ba LS[t])) = true → 0 ≤ hdA 70 (wsB (ba LS[t])) ∧ 0 ≤ hdB 70 (wsB (ba LS[t]))) := fun h => hd_pos h
          have c0 := HCELL.out _ hb t htl
          have hqW : q < W.heap.size := by omega
          clear HFR
          generalize hdOk 70 (wsB (ba LS[t])) = ok at *
          generalize hdA 70 (wsB (ba LS[t])) = A at *
          generalize hdB 70 (wsB (ba LS[t])) = B at *
          generalize headF LS t htl ((k : Int) == PA) = G at *
          go_wp2_with fail
          refine (show Calls _ _ _ _ _ from HC.out _).mono ?_
          rintro e w2 ⟨rfl, hb2⟩
          clear HC c0
          have hb2s := hb2.size
          have hbw2 : Below w.heap.size w w2 := hb.trans (hb2.mono hbs)
          have hR0W := (hb2.block _ (by omega)).trans hR0
          have hCCW := (hb2.block _ (by omega)).trans hCC
          obtain ⟨Bd, hBd⟩ : ∃ Bd, Bd = !G := ⟨_, rfl⟩
          have HBD : Hid (Bd = !G) := hBd
          clear hBd
          go_upto_region 11 with fail
          go_cut [88] (fun v wc => v = .bool Bd ∧ wc = w2)
          case first =>
            cases ok with
            | false =>
              go_wp2_with fail
              go_meet
              case rel => exact ⟨congrArg Value.bool (by rw [HBD.out, HD.out]; simp), rfl⟩
            | true =>
              obtain ⟨hA0, hB0⟩ := HPA.out rfl
              by_cases h2 : t + 1 < LS.length
              · have h2' : ¬ (LS.length : Int) ≤ (t : Int) + 1 := by omega
                have h2d : decide ((LS.length : Int) ≤ (t : Int) + 1) = false := by simp; omega
                by_cases p1 : A ≤ 6
                · have p1' : decide (6 < A) = false := by simp; omega
                  by_cases p2 : B ≤ 12
                  · have p2' : decide (12 < B) = false := by simp; omega
                    cases hm : ((k : Int) == PA)
                    · go_wp2_with fail
                      go_meet
                      case rel => exact ⟨congrArg Value.bool (by rw [HBD.out, HD.out, hm]; simp [stand, h2, p1, p2, hA0, hB0]), rfl⟩
                    · by_cases p5 : 0 < A
                      · have p5' : decide (0 < A) = true := by simpa using p5
                        go_wp2_with fail
                        go_meet
                        case rel => exact ⟨congrArg Value.bool (by rw [HBD.out, HD.out, hm]; simp [stand, p5]), rfl⟩
                      · have p5' : decide (0 < A) = false := by simpa using p5
                        go_wp2_with fail
                        go_meet
                        case rel => exact ⟨congrArg Value.bool (by rw [HBD.out, HD.out, hm]; simp [stand, h2, p1, p2, p5, hA0, hB0]), rfl⟩
                  · have p2' : decide (12 < B) = true := by simp; omega
                    go_wp2_with fail
                    go_meet
                    case rel => exact ⟨congrArg Value.bool (by rw [HBD.out, HD.out]; simp [stand, p2]), rfl⟩
                · have p1' : decide (6 < A) = true := by simp; omega
                  go_wp2_with fail
                  go_meet
                  case rel => exact ⟨congrArg Value.bool (by rw [HBD.out, HD.out]; simp [stand, p1]), rfl⟩
              · have h2' : (LS.length : Int) ≤ (t : Int) + 1 := by omega
                go_wp2_with fail
                go_meet
                case rel => exact ⟨congrArg Value.bool (by rw [HBD.out, HD.out]; simp [h2]), rfl⟩
          case rest =>
            obtain ⟨rfl, rfl⟩ := hcut
            cases Bd with
            | true =>
              have HX2 : Hid _ := HBT.out (by have := HBD.out; simpa using this.symm)
              obtain ⟨x0, x1, f0, f1⟩ := two_cells hR0W
              obtain ⟨y0, y1, _, _⟩ := two_cells hCCW
              obtain ⟨q0, q1⟩ := read2 (a := .int .i64 PA) (c := .slice fo F.length fcap) hR0W
              have hR0l : w.heap.size < wc.heap.size := (Array.getElem?_eq_some_iff.1 hR0W).1
              have hR1l2 : w.heap.size + 1 < wc.heap.size := (Array.getElem?_eq_some_iff.1 hCCW).1
              go_wp2_with fail
              refine bodyPost_ret (v := .tuple #[.agg #[.int .i64 PA, .slice fo F.length fcap], .int .i64 ((t : Int) + 1), .bool false]) (by simp [results, Tryz.results90, go_sem, q0, q1]) rfl ⟨PA, _, _, _, by rw [HX2.out]; rfl, ?_, fun c hc => by rw [HX2.out] at hc; cases hc⟩
              exact (hbw2.setCell (by exact Nat.le_refl _) _).setCell (by exact Nat.le_refl _) _
            | false =>
              obtain ⟨hTT, hrest, h2, hstd⟩ := HGT.out (by have := HBD.out; simpa using this.symm)
              clear HGT HBT HD HPA HBD
              simp only [stand, Bool.and_eq_true, decide_eq_true_eq] at hstd
              obtain ⟨hA0, hA6, _, hB0, hB12⟩ := hstd
              obtain ⟨x, rfl⟩ := Int.eq_ofNat_of_zero_le hB0
              have hx12 : x ≤ 12 := by omega
              rw [Int.toNat_natCast] at hTT
              generalize restF rj = RF2 at *
              have HRF : Hid (spL 10 RF2.data.toList = LS.drop (t + 1)) := hrest
              have HLN : Hid ((linesR n A (x + 1) (x + 1) 0 RF2).1 = none → X = (none, (linesR n A (x + 1) (x + 1) 0 RF2).2.2 + 1 + (t - 1) + 1)) := fun h => by
                have h1 := HFN.out
                rw [hTT] at h1
                exact h1 (by simp [h])
              have HLS : Hid (∀ L, (linesR n A (x + 1) (x + 1) 0 RF2).1 = some L → Y = ((funsR n PA (n - (k + 1)) (k + 1) (linesR n A (x + 1) (x + 1) 0 RF2).2.1).1.map ((F ++ [⟨A, L⟩]) ++ ·), (funsR n PA (n - (k + 1)) (k + 1) (linesR n A (x + 1) (x + 1) 0 RF2).2.1).2.1, (funsR n PA (n - (k + 1)) (k + 1) (linesR n A (x + 1) (x + 1) 0 RF2).2.1).2.2 + ((linesR n A (x + 1) (x + 1) 0 RF2).2.2 + 1 + (t - 1)))) := fun L h => by
                have h1 := HFS.out
                rw [hTT] at h1
                exact h1 ⟨A, L⟩ (by simp [h])
              clear hTT HFN HFS hrest
              generalize hY2 : linesR n A (x + 1) (x + 1) 0 RF2 = Y2 at *
              have HY2 : Hid (linesR n A (x + 1) (x + 1 - 0) 0 RF2 = Y2) := hY2
              clear hY2
              have hrow2 := ownsRow_old hrow hb2
              have hfu2 : FuOw wc T F ys := hfu.keep (hb2.mono hThi)
              obtain ⟨TB, hTB⟩ : ∃ TB, TB = wc.heap.size := ⟨_, rfl⟩
              have HT0 : Hid ((wc.alloc (Obj.cells #[.int .i64 A, .slice none 0 0] 78)).heap[TB]? = some (.cells #[.int .i64 A, .slice none 0 0] 78 (0, 0))) := by rw [hTB]; exact heap_alloc_new wc _
              have hTB1 : TB ≤ wc.heap.size := by omega
              have hTB2 : wc.heap.size ≤ TB := by omega
              have hTT2 : T ≤ TB := by omega
              have hbws := hbw2.size
              go_wp2_with fail
              rw [← hTB]
              clear hTB
              have HB0 : Hid (Below TB wc (wc.alloc (Obj.cells #[.int .i64 A, .slice none 0 0] 78))) := (Below.refl _ _).alloc hTB1 _
              go_loopw [9, 15] (fun a y wr => ∃ (j : Nat) (L : List Ln) (rl : ByteArray) (u : Nat) (lv : Value), j ≤ x + 1 ∧ y = .int .i64 j ∧ a = .int .i64 u ∧ Hid (u = t + 1 + j) ∧ Hid (Y2 = ((linesR n A (x + 1) (x + 1 - j) j rl).1.map (L ++ ·), (linesR n A (x + 1) (x + 1 - j) j rl).2.1, (linesR n A (x + 1) (x + 1 - j) j rl).2.2 + j)) ∧ Hid (L.length = j) ∧ L.length ≤ 13 ∧ u < LS.length ∧ Hid (spL 10 rl.data.toList = LS.drop u) ∧ Below TB wc wr ∧ wr.heap[TB]? = some (.cells #[.int .i64 A, lv] 78 (0, 0)) ∧ LinesB wr (TB + 1) lv L) (fun _ y _ => x + 2 - (intOf y).toNat)
              case atStart =>
                refine ⟨0, [], RF2, t + 1, .slice none 0 0, Nat.zero_le _, rfl, by go_num, rfl, ?_, rfl, by simp, h2, HRF.out, HB0.out, HT0.out, [], World.ownsRow_nil _ _ _ _, fun j hj => by simp at hj⟩
                rw [HY2.out]; simp [Hid]
              case round =>
                clear HB0 HT0 HY2 HRF
                obtain ⟨j, L, rl, u, lv, hj, rfl, rfl, HU, HLR, HLL, hL13, hul, HLJ2, hb3, hTT, hLB⟩ := hrel
                have hb3s := hb3.size
                have hTl : TB < wr.heap.size := (Array.getElem?_eq_some_iff.1 hTT).1
                have hbw3 : Below w.heap.size w wr := hbw2.trans (hb3.mono (by omega))
                have hR0X := (hb3.block _ (by omega)).trans hR0W
                have hCCX := (hb3.block _ (by omega)).trans hCCW
                by_cases hlt2 : j < x + 1
                · have hle : (j : Int) ≤ (x : Int) := by omega
                  have HC : Hid _ := fun w => rAtoms (ba LS[u]) w (HSZ.out u hul)
                  have HBL : Hid (lineF LS u hul n A (x + 1) j = false → X = (none, u + 1)) := fun hf => by
                    have h := HLR.out
                    rw [show x + 1 - j = (x - j) + 1 by omega, lines_bad hul HLJ2.out hf] at h
                    simp only [Option.map_none] at h
                    have h1 := HLN.out
                    rw [h] at h1
                    simp only at h1
                    rw [h1 (by simp)]
                    congr 1
                    have := HU.out
                    omega
                  have HGL : Hid (lineF LS u hul n A (x + 1) j = true → Y2 = ((linesR n A (x + 1) (x + 1 - (j + 1)) (j + 1) (restF rl)).1.map ((L ++ [(wsB (ba LS[u])).map atV]) ++ ·), (linesR n A (x + 1) (x + 1 - (j + 1)) (j + 1) (restF rl)).2.1, (linesR n A (x + 1) (x + 1 - (j + 1)) (j + 1) (restF rl)).2.2 + (j + 1)) ∧ spL 10 (restF rl).data.toList = LS.drop (u + 1)) := fun hf => by
                    have h := HLR.out
                    obtain ⟨g1, g2, _⟩ := lines_good (m := x - j) hul HLJ2.out hf
                    rw [show x + 1 - j = (x - j) + 1 by omega, g1] at h
                    refine ⟨?_, g2⟩
                    simp only [Option.map_map] at h
                    rw [h, show x + 1 - (j + 1) = x - j by omega]
                    congr 1
                    · congr 1
                      funext M
                      simp
                    · congr 1
                      omega
                  have HD : Hid (lineF LS u hul n A (x + 1) j = (decide (u + 1 < LS.length) && (atsOk (wsB (ba LS[u])) && goodL n A (x + 1) j ((wsB (ba LS[u])).map atV)))) := rfl
                  have c0 := HCELL.out _ hbw3 u hul
                  have hqr : q < wr.heap.size := by omega
                  clear HLR
                  generalize hws : wsB (ba LS[u]) = ws at *
                  clear hws
                  generalize restF rl = RL at *
                  generalize lineF LS u hul n A (x + 1) j = G2 at *
                  cases hao : atsOk ws
                  · rw [hao] at HC HD
                    have HX2 : Hid _ := HBL.out (by rw [HD.out]; simp)
                    go_wp2_with fail
                    refine (show Calls _ _ _ _ _ from HC.out _).mono ?_
                    rintro e w5 ⟨va, vn, vc, rfl, hb5, _⟩
                    have hbF : Below w.heap.size w w5 := hbw3.trans (hb5.mono (by omega))
                    have hR0W := (hb5.block _ (by omega)).trans hR0X
                    have hCCW := (hb5.block _ (by omega)).trans hCCX
                    clear HC c0
                    obtain ⟨x0, x1, f0, f1⟩ := two_cells hR0W
                    obtain ⟨y0, y1, _, _⟩ := two_cells hCCW
                    obtain ⟨q0, q1⟩ := read2 (a := .int .i64 PA) (c := .slice fo F.length fcap) hR0W
                    have hR0l : w.heap.size < w5.heap.size := (Array.getElem?_eq_some_iff.1 hR0W).1
                    have hR1l2 : w.heap.size + 1 < w5.heap.size := (Array.getElem?_eq_some_iff.1 hCCW).1
                    go_wp2_with fail
                    refine bodyPost_ret (v := .tuple #[.agg #[.int .i64 PA, .slice fo F.length fcap], .int .i64 ((u : Int) + 1), .bool false]) (by simp [results, Tryz.results90, go_sem, q0, q1]) rfl ⟨PA, _, _, _, by rw [HX2.out]; rfl, ?_, fun c hc => by rw [HX2.out] at hc; cases hc⟩
                    exact (hbF.setCell (by exact Nat.le_refl _) _).setCell (by exact Nat.le_refl _) _
                  · rw [hao] at HC HD
                    go_wp2_with fail
                    refine (show Calls _ _ _ _ _ from HC.out _).mono ?_
                    rintro e w5 ⟨va, vn, vc, rfl, hb5, hown⟩
                    obtain ⟨hvn, hown5⟩ := hown (by simp)
                    subst hvn
                    clear HC c0 hown
                    have hb5s := hb5.size
                    have hMl : (ws.map atV).length = ws.length := by simp
                    rw [← hMl] at hown5
                    have HL : Hid _ := rLined (ws.map atV) (.slice va (ws.map atV).length vc) j (x + 1) n A w5 (atomsRd_of hown5) hA0 hA6 (by omega) hlt2 hn16
                    rw [hMl, show ((x + 1 : Nat) : Int) = (x : Int) + 1 by omega] at HL
                    rw [hMl] at hown5
                    have HO5 : Hid _ := hown5
                    have HL1 : Hid ((ws.map atV).length = ws.length) := hMl
                    clear hMl hown5
                    generalize hlv : ws.map atV = l' at *
                    clear hlv
                    generalize goodL n A (x + 1) j l' = GL at *
                    have hbw5 : Below w.heap.size w w5 := hbw3.trans (hb5.mono (by omega))
                    go_wp2_with fail
                    refine (show Calls _ _ _ _ _ from HL.out).mono ?_
                    rintro e w6 ⟨rfl, hb6⟩
                    clear HL
                    have hb6s := hb6.size
                    have hbF : Below w.heap.size w w6 := hbw5.trans (hb6.mono (by omega))
                    have hR0W := (hb6.block _ (by omega)).trans ((hb5.block _ (by omega)).trans hR0X)
                    have hCCW := (hb6.block _ (by omega)).trans ((hb5.block _ (by omega)).trans hCCX)
                    cases GL with
                    | false =>
                      have HX2 : Hid _ := HBL.out (by rw [HD.out]; simp)
                      obtain ⟨x0, x1, f0, f1⟩ := two_cells hR0W
                      obtain ⟨y0, y1, _, _⟩ := two_cells hCCW
                      obtain ⟨q0, q1⟩ := read2 (a := .int .i64 PA) (c := .slice fo F.length fcap) hR0W
                      have hR0l : w.heap.size < w6.heap.size := (Array.getElem?_eq_some_iff.1 hR0W).1
                      have hR1l2 : w.heap.size + 1 < w6.heap.size := (Array.getElem?_eq_some_iff.1 hCCW).1
                      go_wp2_with fail
                      refine bodyPost_ret (v := .tuple #[.agg #[.int .i64 PA, .slice fo F.length fcap], .int .i64 ((u : Int) + 1), .bool false]) (by simp [results, Tryz.results90, go_sem, q0, q1]) rfl ⟨PA, _, _, _, by rw [HX2.out]; rfl, ?_, fun c hc => by rw [HX2.out] at hc; cases hc⟩
                      exact (hbF.setCell (by exact Nat.le_refl _) _).setCell (by exact Nat.le_refl _) _
                    | true =>
                      by_cases hu2 : u + 1 < LS.length
                      · have hu2' : ¬ (LS.length : Int) ≤ (u : Int) + 1 := by omega
                        have hu2d : decide ((LS.length : Int) ≤ (u : Int) + 1) = false := by simp; omega
                        obtain ⟨hY3, hJ3⟩ := HGL.out (by rw [HD.out]; simp [hu2])
                        have HY3 : Hid _ := hY3
                        have HJ3 : Hid _ := hJ3
                        clear hY3 hJ3 HGL HBL
                        have hT4 := (hb6.block _ (by omega)).trans ((hb5.block _ (by omega)).trans hTT)
                        have hLB4 := (hLB.old hb5).old hb6
                        have hv4 := ownsRow_old HO5.out hb6
                        have hb4 : Below TB wc w6 := hb3.trans ((hb5.mono (by omega)).trans (hb6.mono (by omega)))
                        have hv5 : w6.ownsRow wr.heap.size 75 2 (.slice va ws.length vc) l'.length (acs l') := by rw [HL1.out]; exact hv4
                        obtain ⟨vs, hlr4, hrw4⟩ := hLB4
                        obtain ⟨t0, t1, _, ft1⟩ := two_cells hT4
                        have hT4l : TB < w6.heap.size := (Array.getElem?_eq_some_iff.1 hT4).1
                        obtain ⟨lo, lcap, rfl⟩ := own_form hlr4
                        have hA4 : Below w6.heap.size w6 (w6.alloc (Obj.cells #[.slice va ws.length vc] 76)) := (Below.refl _ _).alloc (Nat.le_refl _) _
                        go_wp2_with (at_builtin; go_must (refine wpList_append_lies _ rfl _ _ _ rfl (TB + 1) 76 i2 _ 1 24 Tryz.underlying50 hi2 hz20 hz21 hz22 rfl (by omega) (.slice lo L.length lcap) L.length vs rfl ?hown _ 1 _ [.slice va ws.length vc] rfl rfl ?hnews ?h1 (by omega) ?h63 ?hbytes ?hbase _ rfl ?_))
                        case hown => exact hlr4.alloc _
                        try case hnews => exact World.news_of_block (heap_alloc_new w6 _)
                        case h1 => simp [Value.oneCell']
                        case h63 => unfold maxLen; omega
                        case hbytes => omega
                        case hbase => first | omega | (simp; omega)
                        intro g cap2 w7 hown7 hgrow7 hat7 hlt7
                        have hT7 := grown_type (hlr4.alloc _) hgrow7 (by decide) ((hA4.block _ hT4l).trans hT4)
                        have hb7 : Below TB wc w7 := (hb4.alloc (by omega) _).grown hgrow7 (by simp; omega) (fun k hk => Nat.le_trans (Nat.le_succ _) (hlr4.lt k hk).1)
                        have hLB7 : LinesB w7 (TB + 1) (.slice (some ⟨g, 0, none⟩) (L.length + 1) cap2) (L ++ [l']) := by
                          refine ⟨vs ++ [.slice va ws.length vc], by rw [List.length_append]; exact hown7, RowsAt.app (by have := hlr4.1; simpa using this) ((hrw4.old hA4 (fun _ _ h => h)).type (hlr4.alloc _) hgrow7 (fun _ h => h)) ?_⟩
                          intro z hz
                          have hz0 : z = 0 := by simpa using hz
                          subst hz0
                          exact ⟨_, rfl, own_grown_type (hlr4.alloc _) hgrow7 (by decide) ((ownsRow_base2 hv5 (by omega)).alloc _), fun _ _ => trivial⟩
                        obtain ⟨z0, z1, _, fz1⟩ := two_cells hT7
                        have hT7l : TB < w7.heap.size := (Array.getElem?_eq_some_iff.1 hT7).1
                        clear hgrow7 hat7 t0 t1 ft1
                        go_wp2_with fail
                        go_roundw
                        case rel => exact ⟨j + 1, L ++ [l'], RL, u + 1, _, hlt2, by go_num, by go_num, by have := HU.out; show _ = _; omega, HY3, by have := HLL.out; simp [Hid, this], by have := HLL.out; simp; omega, hu2, HJ3, hb7.setCell (by exact Nat.le_refl _) _, blk_set _ hT7, hLB7.set hT7⟩
                        case measure => simp [intOf]; omega
                      · have hu2' : (LS.length : Int) ≤ (u : Int) + 1 := by omega
                        have HX2 : Hid _ := HBL.out (by rw [HD.out]; simp [hu2])
                        obtain ⟨x0, x1, f0, f1⟩ := two_cells hR0W
                        obtain ⟨y0, y1, _, _⟩ := two_cells hCCW
                        obtain ⟨q0, q1⟩ := read2 (a := .int .i64 PA) (c := .slice fo F.length fcap) hR0W
                        have hR0l : w.heap.size < w6.heap.size := (Array.getElem?_eq_some_iff.1 hR0W).1
                        have hR1l2 : w.heap.size + 1 < w6.heap.size := (Array.getElem?_eq_some_iff.1 hCCW).1
                        go_wp2_with fail
                        refine bodyPost_ret (v := .tuple #[.agg #[.int .i64 PA, .slice fo F.length fcap], .int .i64 ((u : Int) + 1), .bool false]) (by simp [results, Tryz.results90, go_sem, q0, q1]) rfl ⟨PA, _, _, _, by rw [HX2.out]; rfl, ?_, fun c hc => by rw [HX2.out] at hc; cases hc⟩
                        exact (hbF.setCell (by exact Nat.le_refl _) _).setCell (by exact Nat.le_refl _) _
                · have hj2 : j = x + 1 := by omega
                  have hle : ¬ (j : Int) ≤ (x : Int) := by omega
                  have HYF : Hid (Y = ((funsR n PA (n - (k + 1)) (k + 1) rl).1.map ((F ++ [⟨A, L⟩]) ++ ·), (funsR n PA (n - (k + 1)) (k + 1) rl).2.1, (funsR n PA (n - (k + 1)) (k + 1) rl).2.2 + (u - 1))) := by
                    show _ = _
                    have h := HLR.out
                    rw [hj2, Nat.sub_self] at h
                    simp only [linesR, Option.map_some, List.append_nil, Nat.zero_add] at h
                    have h1 := HLS.out L
                    rw [h] at h1
                    rw [h1 (by simp)]
                    congr 2
                    have := HU.out
                    simp only
                    omega
                  have hbV := hb3
                  have hTV := hTT
                  have hLBV := hLB
                  have hbVw : Below wc.heap.size wc wr := hbV.mono hTB2
                  have hrowV := ownsRow_old hrow2 hbVw
                  have hfuV2 : FuOw wr wr.heap.size F ys := (hfu2.keep (hbV.mono hTT2)).up (by omega)
                  have how := hLBV.ow
                  obtain ⟨lo3, lc3, hlv3⟩ : ∃ a c, lv = .slice a L.length c := by obtain ⟨vs, h1, _⟩ := how; obtain ⟨a, c, e⟩ := own_form h1; exact ⟨a, c, e⟩
                  subst hlv3
                  obtain ⟨t0, t1, _, _⟩ := two_cells hTV
                  obtain ⟨s0, s1, _, fs1⟩ := two_cells hCCX
                  have hCVl : w.heap.size + 1 < wr.heap.size := by omega
                  have hA3 : Below wr.heap.size wr (wr.alloc (Obj.cells #[.int .i64 A, .slice lo3 L.length lc3] 78)) := (Below.refl _ _).alloc (Nat.le_refl _) _
                  go_wp2_with (at_builtin; go_must (refine wpList_append_lies _ rfl _ _ _ rfl (w.heap.size + 1 + 1) 78 i _ 2 32 Tryz.underlying55 hi hz0 hz1 hz2 rfl (by omega) (.slice fo F.length fcap) F.length ys rfl ?hownB _ 1 _ [.int .i64 A, .slice lo3 L.length lc3] rfl rfl ?hnewsB ?h1B (by omega) ?h63B ?hbytesB ?hbaseB _ rfl ?_))
                  case hownB => exact hrowV.alloc _
                  try case hnewsB => exact World.news_of_block (heap_alloc_new wr _)
                  case h1B => simp [Value.oneCell']
                  case h63B => unfold maxLen; omega
                  case hbytesB => omega
                  case hbaseB => first | omega | (simp; omega)
                  intro g cap2 w5 hown5 hgrow5 hat5 hlt5
                  have hR05 := grown_type (hrowV.alloc _) hgrow5 (by decide) ((hA3.block _ (by omega)).trans hR0X)
                  have hC5 := grown_type (hrowV.alloc _) hgrow5 (by decide) ((hA3.block _ (by omega)).trans hCCX)
                  have hb5 : Below w.heap.size w w5 := (hbw3.trans (hA3.mono (by omega))).grown hgrow5 (by simp; omega) (fun k hk => Nat.le_trans (by omega) (hrowV.lt k hk).1)
                  have hfu5 : FuOw w5 wr.heap.size (F ++ [⟨A, L⟩]) (ys ++ [.int .i64 A, .slice lo3 L.length lc3]) := FuOw.type (hrowV.alloc _) hgrow5 ((FuOw.snoc (t := ⟨A, L⟩) how hfuV2).keep hA3)
                  have hs5 := hgrow5.size
                  simp only [World.size_alloc] at hs5
                  obtain ⟨z0, z1, _, fz1⟩ := two_cells hC5
                  have hC5l : w.heap.size + 1 < w5.heap.size := (Array.getElem?_eq_some_iff.1 hC5).1
                  clear hgrow5 hat5 t0 t1 s0 s1 fs1
                  go_wp2_with fail
                  go_roundw
                  case rel => exact ⟨k + 1, F ++ [⟨A, L⟩], rl, u, _, _, wr.heap.size, hlt, by go_num, rfl, HYF, by have := HFL.out; simp [Hid, this], by have := HFL.out; simp; omega, by have := HU.out; omega, hul, HLJ2, hb5.setCell (by show w.heap.size ≤ w.heap.size + 1; omega) _, (heap_set_ne _ (by omega)).trans hR05, blk_set _ hC5, by rw [List.length_append]; exact ownsRow_set hown5 hC5 (by decide), by omega, by simp [World.setCell]; omega, FuOw.set hC5 hfu5⟩
                  case measure => simp [intOf]; omega
        · have hk2 : k = n := by omega
          have hkn : ¬ (k : Int) < (n : Int) := by omega
          have HX2 : Hid (X = (if rj.size = 0 then some ⟨PA, F⟩ else none, t + 1)) := by
            show _ = _
            have h := HFR.out
            rw [hk2, Nat.sub_self] at h
            simp only [funsR, Option.map_some, List.append_nil, Nat.zero_add] at h
            have h1 := HX1.out
            rw [h] at h1
            simp only at h1
            rw [h1, show t - 1 + 2 = t + 1 by omega]
          have hll := last_line htl HLJ.out
          obtain ⟨x0, x1, f0, f1⟩ := two_cells hR0
          obtain ⟨y0, y1, _, _⟩ := two_cells hCC
          have c0 := HCELL.out _ hb t htl
          have hR0l : w.heap.size < W.heap.size := by omega
          have hqW : q < W.heap.size := by omega
          have HQ : Hid _ := read2 (a := .int .i64 PA) (c := .slice fo F.length fcap) hR0
          have HFO : Hid (FunsOw ((W.setCell ⟨w.heap.size, 0, none⟩ (.int .i64 PA)).setCell ⟨w.heap.size, 1, none⟩ (.slice fo F.length fcap)) (.slice fo F.length fcap) F) := (FunsOw.set ⟨ys, ownsRow_base hrow (Nat.zero_le _), hfu.up hThi⟩ hR0).set (blk_set _ hR0)
          have HBF : Hid (Below w.heap.size w ((W.setCell ⟨w.heap.size, 0, none⟩ (.int .i64 PA)).setCell ⟨w.heap.size, 1, none⟩ (.slice fo F.length fcap))) := (hb.setCell (by exact Nat.le_refl _) _).setCell (by exact Nat.le_refl _) _
          have hbl : (ba LS[t]).toList = LS[t] := by rw [ByteArray.toList_eq]; rfl
          by_cases e1 : t + 1 = LS.length
          · have e1' : ((t : Int) + 1 == (LS.length : Int)) = true := by simp; omega
            by_cases e2 : LS[t] = []
            · have e2' : ((ba LS[t]).toList == []) = true := by rw [hbl, e2]; rfl
              have HX3 : Hid (X = (some ⟨PA, F⟩, t + 1)) := by rw [HX2.out, if_pos (hll.2 ⟨e1, e2⟩)]; rfl
              clear hll HX2 e1 e2 hbl
              go_wp2_with fail
              go_region
              all_goals
                go_wp2_with fail
                obtain ⟨q0, q1⟩ := HQ.out
                exact bodyPost_ret (v := .tuple #[.agg #[.int .i64 PA, .slice fo F.length fcap], .int .i64 ((t : Int) + 1), .bool true]) (by simp [results, Tryz.results90, go_sem, q0, q1]) rfl ⟨PA, _, _, _, by rw [HX3.out]; rfl, Below.drew HBF.out, fun c hc => by rw [HX3.out] at hc; cases hc; exact ⟨rfl, FunsOw.old HFO.out (Below.drew (Below.refl _ _))⟩⟩
            · have e2' : ((ba LS[t]).toList == []) = false := by rw [hbl]; simpa using e2
              have HX3 : Hid (X = (none, t + 1)) := by rw [HX2.out, if_neg (fun h => e2 (hll.1 h).2)]; rfl
              clear hll HX2 e1 e2 hbl
              go_wp2_with fail
              go_region
              all_goals
                go_wp2_with fail
                obtain ⟨q0, q1⟩ := HQ.out
                exact bodyPost_ret (v := .tuple #[.agg #[.int .i64 PA, .slice fo F.length fcap], .int .i64 ((t : Int) + 1), .bool false]) (by simp [results, Tryz.results90, go_sem, q0, q1]) rfl ⟨PA, _, _, _, by rw [HX3.out]; rfl, Below.drew HBF.out, fun c hc => by rw [HX3.out] at hc; cases hc⟩
          · have e1' : ((t : Int) + 1 == (LS.length : Int)) = false := by simp; omega
            have e1n : ¬ (t : Int) + 1 = (LS.length : Int) := by omega
            have HX3 : Hid (X = (none, t + 1)) := by rw [HX2.out, if_neg (fun h => e1 (hll.1 h).1)]; rfl
            clear hll HX2 e1 hbl
            go_wp2_with fail
            go_region
            all_goals
              go_wp2_with fail
              obtain ⟨q0, q1⟩ := HQ.out
              exact bodyPost_ret (v := .tuple #[.agg #[.int .i64 PA, .slice fo F.length fcap], .int .i64 ((t : Int) + 1), .bool false]) (by simp [results, Tryz.results90, go_sem, q0, q1]) rfl ⟨PA, _, _, _, by rw [HX3.out]; rfl, Below.drew HBF.out, fun c hc => by rw [HX3.out] at hc; cases hc⟩

end Go.Proofs.YtnndoagpbcacdaaGreatDoor
namespace Go.Proofs.YtnndoagpbcacdaaGreatDoor
open Go.RowKit

/-! The reference: Read. -/
set_option maxRecDepth 100000 in
set_option maxHeartbeats 4000000 in
theorem rRead (s : ByteArray) (w : World) (hs : s.size ≤ maxLen) :
    Calls Tryz.prog 51 #[.string s] w fun e w' => ∃ mn fo fl fc, e = .returned (.tuple #[.agg #[.int .i64 mn, .slice fo fl fc], .int .i64 (rdL s), .int .i64 (rdE s)]) ∧ Below w.heap.size w w' ∧ (rdC s = none → mn = 0 ∧ Value.slice fo fl fc = .slice none 0 0) ∧ ∀ c, rdC s = some c → mn = c.mn ∧ FunsOw w' (.slice fo fl fc) c.fs := by
  unfold maxLen at hs
  by_cases hbig : 30000 < s.size
  · have HV : Hid (rdL s = 0 ∧ rdE s = 1 ∧ rdC s = none) := by simp [Hid, rdL, rdE, rdC, hbig]
    rw [HV.out.1, HV.out.2.1, HV.out.2.2]
    have hb' : (30000 : Int) < (s.size : Int) := by omega
    go_enter Tryz.func51, Tryz.ntmps51
    go_wp2_with fail
    exact bodyPost_ret (v := .tuple #[.agg #[.int .i64 0, .slice none 0 0], .int .i64 0, .int .i64 1]) (by simp [results, Tryz.results51, go_sem]) rfl ⟨0, _, _, _, rfl, (Below.refl _ _).alloc (Nat.le_refl _) _, fun _ => ⟨rfl, rfl⟩, fun c hc => by cases hc⟩
  have hs3 : s.size ≤ 30000 := by omega
  have HV : Hid (rdL s = (if (codeR s).1.isSome then 0 else (codeR s).2 : Int) ∧ rdE s = (if (codeR s).1.isSome then 0 else 7) ∧ rdC s = (codeR s).1) := by simp [Hid, rdL, rdE, rdC, hbig]
  rw [HV.out.1, HV.out.2.1, HV.out.2.2]
  clear HV
  have HS : Hid _ := rSplit s 10 (w.alloc (Obj.cells #[.int .i64 0, .slice none 0 0] 57)) hs3
  have HRD : Hid _ := fun (a : Option Addr) (cap : Nat) (LS : List (List UInt8)) (w : World) (h : spL 10 s.data.toList = LS) => rRead0 s a cap LS w h hs3
  generalize hLS : spL 10 s.data.toList = LS at *
  have HLS : Hid (spL 10 s.data.toList = LS) := hLS
  clear hLS
  generalize codeR s = X at *
  obtain ⟨o, lnn⟩ := X
  simp only at HRD ⊢
  have hbn : ¬ (30000 : Int) < (s.size : Int) := by omega
  go_enter Tryz.func51, Tryz.ntmps51
  go_wp2_with fail
  refine (show Calls _ _ _ _ _ from HS.out).mono ?_
  rintro e w1 ⟨a, cap, rfl, hb1, hrow, hwl⟩
  clear HS
  have hR1 := box_later' hb1
  have hbw1 : Below w.heap.size w w1 := ((Below.refl _ _).alloc (Nat.le_refl _) _).trans (hb1.mono (by simp))
  have hbs1 := hbw1.size
  have hR1l : w.heap.size < w1.heap.size := (Array.getElem?_eq_some_iff.1 hR1).1
  have HC : Hid _ := HRD.out a cap LS w1 rfl hwl (ownsRow_base hrow (Nat.zero_le _))
  clear HRD hrow
  go_wp2_with fail
  refine (show Calls _ _ _ _ _ from HC.out).mono ?_
  rintro e w2 ⟨mn, fo, fl, fc, rfl, hb2, hall⟩
  clear HC
  have HALL : Hid _ := hall
  clear hall
  have hb2s := hb2.size
  have hbw2 : Below w.heap.size w w2 := hbw1.trans (hb2.mono hbs1)
  have hR2 := (hb2.block _ hR1l).trans hR1
  have hR2l : w.heap.size < w2.heap.size := (Array.getElem?_eq_some_iff.1 hR2).1
  obtain ⟨x0, x1, f0, f1⟩ := two_cells hR2
  cases o with
  | none =>
    simp only [Option.isSome_none]
    have hs4 : ((w2.setCell ⟨w.heap.size, 0, none⟩ (.int .i64 0)).setCell ⟨w.heap.size, 1, none⟩ (.slice none 0 0)).heap.size = w2.heap.size := by simp [World.setCell]
    have hR4 := (Below.heap_alloc ((w2.setCell ⟨w.heap.size, 0, none⟩ (.int .i64 0)).setCell ⟨w.heap.size, 1, none⟩ (.slice none 0 0)) (Obj.cells #[.int .i64 mn, .slice fo fl fc] 57) w.heap.size (by rw [hs4]; omega)).trans (blk_set _ (blk_set _ hR2))
    have HQ0 : Hid _ := cell_of_row _ _ 0 _ _ _ hR4
    have HQ1 : Hid _ := cell_of_row _ _ 1 _ _ _ hR4
    have HBF : Hid (Below w.heap.size w (((w2.setCell ⟨w.heap.size, 0, none⟩ (.int .i64 0)).setCell ⟨w.heap.size, 1, none⟩ (.slice none 0 0)).alloc (Obj.cells #[.int .i64 mn, .slice fo fl fc] 57))) := (((hbw2.setCell (by exact Nat.le_refl _) _).setCell (by exact Nat.le_refl _) _).alloc (by rw [hs4]; omega) _)
    clear hR4
    go_wp2_with fail
    have q0 := HQ0.out
    have q1 := HQ1.out
    refine bodyPost_ret (v := .tuple #[.agg #[.int .i64 0, .slice none 0 0], .int .i64 lnn, .int .i64 7]) (by simp [results, Tryz.results51, go_sem, q0, q1]) rfl ⟨0, none, 0, 0, rfl, HBF.out, ?_⟩
    simp
  | some c =>
    simp only [Option.isSome_some]
    have hs4 : ((w2.setCell ⟨w.heap.size, 0, none⟩ (.int .i64 mn)).setCell ⟨w.heap.size, 1, none⟩ (.slice fo fl fc)).heap.size = w2.heap.size := by simp [World.setCell]
    have hR4 := (Below.heap_alloc ((w2.setCell ⟨w.heap.size, 0, none⟩ (.int .i64 mn)).setCell ⟨w.heap.size, 1, none⟩ (.slice fo fl fc)) (Obj.cells #[.int .i64 mn, .slice fo fl fc] 57) w.heap.size (by rw [hs4]; omega)).trans (blk_set _ (blk_set _ hR2))
    have HQ0 : Hid _ := cell_of_row _ _ 0 _ _ _ hR4
    have HQ1 : Hid _ := cell_of_row _ _ 1 _ _ _ hR4
    have HBF : Hid (Below w.heap.size w (((w2.setCell ⟨w.heap.size, 0, none⟩ (.int .i64 mn)).setCell ⟨w.heap.size, 1, none⟩ (.slice fo fl fc)).alloc (Obj.cells #[.int .i64 mn, .slice fo fl fc] 57))) := (((hbw2.setCell (by exact Nat.le_refl _) _).setCell (by exact Nat.le_refl _) _).alloc (by rw [hs4]; omega) _)
    clear hR4
    go_wp2_with fail
    have q0 := HQ0.out
    have q1 := HQ1.out
    refine bodyPost_ret (v := .tuple #[.agg #[.int .i64 mn, .slice fo fl fc], .int .i64 0, .int .i64 0]) (by simp [results, Tryz.results51, go_sem, q0, q1]) rfl ⟨mn, fo, fl, fc, rfl, HBF.out, ?_⟩
    have h := HALL.out c rfl
    exact ⟨h.1, ((FunsOw.set h.2 hR2).set (blk_set _ hR2)).old ((Below.refl _ _).alloc (Nat.le_refl _) _)⟩

end Go.Proofs.YtnndoagpbcacdaaGreatDoor
