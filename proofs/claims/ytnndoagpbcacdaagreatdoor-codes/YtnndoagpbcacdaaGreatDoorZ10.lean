import Derived.Test.YtnndoagpbcacdaaGreatDoorMZ7
namespace Go.Proofs.YtnndoagpbcacdaaGreatDoor
open Go.RowKit

/-! The law's Hold takes a code's lists in. -/
theorem Tryz.infoLines : (Tryz.prog.info? 50).map (fun i => (i.zero, i.size, i.bytes)) = some (some (.slice none 0 0), 1, 24) := by kernel_rfl
theorem Tryz.infoFuns : (Tryz.prog.info? 55).map (fun i => (i.zero, i.size, i.bytes)) = some (some (.slice none 0 0), 1, 24) := by kernel_rfl
structure KEnv (w0 wr : World) (B0 T0 CB : Nat) (mn : Int) (fsv : Value) (n : Nat) (xs : List Value) : Prop where
  bel : Below B0 w0 wr
  box : wr.heap[CB]? = some (.cells #[.int .i64 mn, fsv] 57 (0, 0))
  row : wr.ownsRow T0 78 2 fsv n xs
section
variable {w0 wr w' : World} {B0 T0 CB : Nat} {mn : Int} {fsv : Value} {n : Nat} {xs : List Value}
theorem KEnv.old (h : KEnv w0 wr B0 T0 CB mn fsv n xs) (hb : Below wr.heap.size wr w') (hB : B0 ≤ wr.heap.size) : KEnv w0 w' B0 T0 CB mn fsv n xs :=
  ⟨h.bel.trans (hb.mono hB), (hb.block CB (Array.getElem?_eq_some_iff.1 h.box).1).trans h.box, ownsRow_old h.row hb⟩
theorem KEnv.put {x i : Nat} {u : Value} {cs : Array Value} {t : TypeId} (h : KEnv w0 wr B0 T0 CB mn fsv n xs) (hx : wr.heap[x]? = some (.cells cs t (0, 0))) (h1 : 57 ≠ t) (h2 : 78 ≠ t) (hB : B0 ≤ x) : KEnv w0 (wr.setCell ⟨x, i, none⟩ u) B0 T0 CB mn fsv n xs :=
  ⟨h.bel.setCell (by exact hB) _, (heap_set_ne _ (ty_ne h.box hx h1)).trans h.box, ownsRow_set h.row hx h2⟩
theorem KEnv.grown {base size m : Nat} {e : TypeId} {v : Value} {ys : List Value} (h : KEnv w0 wr B0 T0 CB mn fsv n xs) (hr : wr.ownsRow base e size v m ys) (hg : wr.grownBy w' v.ownBlock) (h1 : 57 ≠ e) (h2 : 78 ≠ e) (hB : B0 ≤ base) (hs : B0 ≤ wr.heap.size) : KEnv w0 w' B0 T0 CB mn fsv n xs :=
  ⟨h.bel.trans ((Below.refl B0 wr).grown hg hs (fun k hk => Nat.le_trans hB (hr.lt k hk).1)), grown_type hr hg h1 h.box, own_grown_type hr hg h2 h.row⟩
end
theorem HoldB.up {w : World} {B0 hb T0 T1 Ma Ml M : Nat} {av lv fv : Value} {NA NL NF EA EL EF : List Value} (h : HoldB w B0 hb T0 T1 Ma Ml av lv fv NA NL NF EA EL EF) (hM : Ma ≤ M) : HoldB w B0 hb T0 T1 M Ml av lv fv NA NL NF EA EL EF := by
  refine ⟨h.blk, h.ra, h.rl, h.rf, h.out, fun i hi => ?_, h.fl, h.ff, h.sep⟩
  obtain ⟨a, n, h1, h2, h3⟩ := h.fa i hi
  refine ⟨a, n, h1, h2, ?_⟩
  rcases h3 with h3 | ⟨b, cur, rfl, hb, hh, hc⟩
  · exact .inl h3
  · exact .inr ⟨b, cur, rfl, Nat.lt_of_lt_of_le hb hM, hh, hc⟩
/-- The next template of a list. -/
theorem ShI.open {w : World} {ns : List Nat} {xs : List Value} {i lo hi : Nat} (h : ShI w lo (ns.drop i) (xs.drop (i * 2)) hi) (hi' : i < ns.length) :
    ∃ lv vs mid, xs[i * 2 + 1]? = some lv ∧ TpSh w lo mid lv ns[i] vs ∧ lo ≤ mid ∧ ShI w mid (ns.drop (i + 1)) (xs.drop ((i + 1) * 2)) hi := by
  rw [List.drop_eq_getElem_cons hi'] at h
  obtain ⟨ar, lv, ys, vs, mid, h1, h2, h3, h4⟩ := h
  refine ⟨lv, vs, mid, ?_, h2, h3, ?_⟩
  · have : (xs.drop (i * 2))[1]? = some lv := by rw [h1]; rfl
    rw [List.getElem?_drop] at this
    exact this
  · have : xs.drop ((i + 1) * 2) = ys := by
      rw [show (i + 1) * 2 = i * 2 + 2 by omega, ← List.drop_drop, h1]; rfl
    rw [this]; exact h4
theorem list_grow {w : World} {B : Nat} {e : TypeId} {v : Value} {xs : List Value} (h : w.ownsRow B e 1 v xs.length xs) : ∃ o c, v = .slice o xs.length c := own_form h

theorem below_alZ (w : World) (o : Obj) : Below w.heap.size w (w.alloc o) := (Below.refl _ w).alloc (Nat.le_refl _) _
theorem cells_ofZ {w : World} {k : Nat} {u v : Value} {t : TypeId} (h : w.heap[k]? = some (.cells #[u, v] t (0, 0))) : w.cell? ⟨k, 0, none⟩ = some u ∧ w.cell? ⟨k, 1, none⟩ = some v :=
  ⟨by rw [cell_of_row w k 0 _ _ _ h]; rfl, by rw [cell_of_row w k 1 _ _ _ h]; rfl⟩

set_option maxRecDepth 100000 in
set_option maxHeartbeats 4000000 in
theorem lCode (hb B0 T0 T1 : Nat) (mn : Int) (fo : Option Addr) (fl fc : Nat) (ns : List Nat) (xs NA NL NF : List Value) (av lv fv : Value) (w : World)
    (hH : HoldB w B0 hb T0 T1 T0 T0 av lv fv NA NL NF [] [] []) (hB : B0 ≤ T0) (hhb : B0 ≤ hb) (hT0 : T0 ≤ T1) (hT : T1 ≤ w.heap.size)
    (hrow : w.ownsRow T0 78 2 (.slice fo fl fc) ns.length xs) (hrl : ∀ k, (Value.slice fo fl fc).ownBlock = some k → k < T1)
    (hsh : ShI w T0 ns xs T1) (hn1 : ns.length ≤ 16) (hn2 : ∀ k ∈ ns, k ≤ 13)
    (hNA : NA.length ≤ 1099511627776) (hNL : NL.length ≤ 1099511627776) (hNF : NF.length ≤ 1099511627776) :
    Calls Tryz.prog 53 #[.pointer (some ⟨hb, 0, none⟩), .agg #[.int .i64 mn, .slice fo fl fc]] w fun e w' => (∃ v, e = .returned v) ∧ Below B0 w w' ∧ ∃ T Ma Ml av' lv' fv' NA' NL' NF', HoldB w' B0 hb T T1 Ma Ml av' lv' fv' NA' NL' NF' [] [] [] ∧ NA'.length ≤ NA.length + 208 ∧ NL'.length ≤ NL.length + 16 ∧ NF'.length ≤ NF.length + 1 := by
  obtain ⟨ia, hia, ha0, ha1, ha2⟩ := info_parts Tryz.infoAtom
  obtain ⟨il, hil, hl0, hl1, hl2⟩ := info_parts Tryz.infoLine
  obtain ⟨im, him, hm0, hm1, hm2⟩ := info_parts Tryz.infoLines
  obtain ⟨iu, hiu, hu0, hu1, hu2⟩ := info_parts Tryz.infoFuns
  have hfl : fl = ns.length := by
    obtain ⟨a, c, e⟩ := own_form hrow
    cases e; rfl
  subst hfl
  have hfc : ns.length ≤ fc ∧ fc ≤ 9223372036854775807 := by
    rcases hrow.2 with ⟨h0, h1⟩ | ⟨g', cap', cur, h0, hg, hh, x1, x2, _⟩
    · simp at h0; omega
    · simp at h0; obtain ⟨_, rfl⟩ := h0; unfold maxLen at x2; omega
  have hhbl : hb < w.heap.size := (Array.getElem?_eq_some_iff.1 hH.blk).1
  have hA0 := below_alZ w (Obj.cells #[.int .i64 mn, .slice fo ns.length fc] 57)
  have HK0 : Hid (KEnv w (w.alloc (Obj.cells #[.int .i64 mn, .slice fo ns.length fc] 57)) B0 T0 w.heap.size mn (.slice fo ns.length fc) ns.length xs) := ⟨hA0.mono (by omega), heap_alloc_new w _, ownsRow_old hrow hA0⟩
  have HH0 : Hid _ := hH.old hA0
  have HS0 : Hid _ := hsh.sh (Sh3.below hA0)
  have HRL : Hid _ := hrl
  have HN2 : Hid _ := hn2
  clear hA0 hH hsh hrow hrl hn2
  go_enter Tryz.func53, Tryz.ntmps53
  go_wp2_with fail
  go_loopw [4] (fun y wr => ∃ (i lo : Nat) (av lv : Value) (NA' NL' : List Value), i ≤ ns.length ∧ y = .int .i64 i ∧ T0 ≤ lo ∧ lo ≤ T1 ∧ T1 ≤ wr.heap.size ∧ w.heap.size < wr.heap.size ∧ Hid (KEnv w wr B0 T0 w.heap.size mn (.slice fo ns.length fc) ns.length xs) ∧ Hid (HoldB wr B0 hb T0 T1 lo lo av lv fv NA' NL' NF [] [] []) ∧ Hid (ShI wr lo (ns.drop i) (xs.drop (i * 2)) T1) ∧ NA'.length ≤ NA.length + 13 * i ∧ NL'.length ≤ NL.length + i) (fun y _ => ns.length - (intOf y).toNat)
  case atStart => exact ⟨0, T0, av, lv, NA, NL, Nat.zero_le _, rfl, Nat.le_refl _, hT0, by simp; omega, by simp, HK0.out, HH0.out, HS0.out, by omega, by omega⟩
  case round =>
    clear HK0 HH0 HS0 hT hhbl
    obtain ⟨i, lo, av, lv, NA', NL', hi, rfl, hlo1, hlo2, hTs, hCs, HK, HH, HS, hla, hll⟩ := hrel
    have hhbl : hb < wr.heap.size := (Array.getElem?_eq_some_iff.1 HH.out.blk).1
    obtain ⟨b0, b1⟩ := cells_ofZ HK.out.box
    by_cases hin : i < ns.length
    · obtain ⟨lvv, vs, mid, hx, htp, hmid, hsh⟩ := HS.out.open hin
      have hmT := hsh.le
      have hkn := HN2.out ns[i] (List.getElem_mem hin)
      obtain ⟨fb, fcap, hfe, hfB, hflt⟩ := HK.out.row.form (by omega)
      cases hfe
      have k1 := row_cell HK.out.row (i * 2 + 1) _ hx
      have HX : Hid (xs[i * 2 + 1]? = some lvv) := hx
      have hfbT : fb < T1 := HRL.out fb rfl
      generalize ns[i] = kn at *
      have HTP : Hid _ := htp
      obtain ⟨lb, lc, lcur, hlv, hlc1, hlc2, hlb1, hlb2, _⟩ := htp
      subst hlv
      unfold maxLen at hlc2
      have HSH : Hid _ := hsh
      clear hsh hx HS
      go_wp2_with fail
      go_loopw [5] (fun y wx => ∃ (j M : Nat) (av : Value) (NA'' : List Value), j ≤ kn ∧ y = .int .i64 j ∧ lo ≤ M ∧ M ≤ mid ∧ T1 ≤ wx.heap.size ∧ w.heap.size < wx.heap.size ∧ Hid (KEnv w wx B0 T0 w.heap.size mn (.slice (some ⟨fb, 0, none⟩) ns.length fc) ns.length xs) ∧ Hid (HoldB wx B0 hb T0 T1 M lo av lv fv NA'' NL' NF [] [] []) ∧ Hid (TpSh wx lo mid (.slice (some ⟨lb, 0, none⟩) kn lc) kn vs) ∧ Hid (ShI wx mid (ns.drop (i + 1)) (xs.drop ((i + 1) * 2)) T1) ∧ Hid (∀ q u b, j ≤ q → vs[q]? = some u → u.ownBlock = some b → M ≤ b) ∧ NA''.length ≤ NA.length + 13 * i + j) (fun y _ => kn - (intOf y).toNat)
      case atStart =>
        refine ⟨0, lo, av, NA', Nat.zero_le _, rfl, Nat.le_refl _, hmid, hTs, hCs, HK.out, HH.out, HTP.out, HSH.out, ?_, by omega⟩
        intro q u b _ hq hu
        obtain ⟨_, _, _, _, _, _, _, _, _, _, _, _, _, hln⟩ := HTP.out
        obtain ⟨n, b', c, cur, e, _, _, h1, _⟩ := hln u (List.mem_of_getElem? hq)
        subst e
        simp [Value.ownBlock] at hu
        omega
      case round =>
        clear HK HH HTP HSH hTs hCs hhbl b0 b1 k1 hflt
        obtain ⟨j, M, av, NA'', hj, rfl, hM1, hM2, hTs, hCs, HK, HH, HTP, HSH, HMB, hla2⟩ := hrel
        have hhbl : hb < wr.heap.size := (Array.getElem?_eq_some_iff.1 HH.out.blk).1
        obtain ⟨b0, b1⟩ := cells_ofZ HK.out.box
        have k1 := row_cell HK.out.row (i * 2 + 1) _ HX.out
        have hflt : fb < wr.heap.size := by omega
        have hlbl : lb < wr.heap.size := by omega
        by_cases hjl : j < kn
        · obtain ⟨lb', lc', lcur, hlv, hlc1', _, _, _, hlb, hlcs, hvl, hcv, hinc, hln⟩ := HTP.out
          cases hlv
          have hjv : j < vs.length := by omega
          have hvj : vs[j]? = some vs[j] := List.getElem?_eq_getElem hjv
          have u0 : wr.cell? ⟨lb, j, none⟩ = some vs[j] := by rw [cell_of_row wr lb _ _ _ _ hlb, hcv j hjl]; exact hvj
          obtain ⟨n, b, cc, cur, hve, hnc, hccm, hb1', hb2', hblk, hcs⟩ := hln vs[j] (List.getElem_mem hjv)
          have HMb : Hid (M ≤ b) := HMB.out j _ b (Nat.le_refl _) hvj (by rw [hve]; rfl)
          have HMB2 : Hid (∀ q u b', j + 1 ≤ q → vs[q]? = some u → u.ownBlock = some b' → b + 1 ≤ b') := fun q u b' hq hu ho => by
            have := hinc j q vs[j] u b b' (by omega) hvj hu (by rw [hve]; rfl) ho
            omega
          rw [hve] at u0
          unfold maxLen at hccm
          have hblt : b < wr.heap.size := by omega
          obtain ⟨av0, lv0, fv0⟩ := three_cells HH.out.blk
          have hra0 : wr.ownsRow B0 76 1 av NA''.length NA'' := by have := HH.out.ra; simpa using this
          obtain ⟨ao, ac, rfl⟩ := own_form hra0
          have HRA0 : Hid _ := hra0
          clear hra0
          have HBK : Hid _ := hblk
          have HCS : Hid _ := hcs
          clear hve hln hcv hinc hlb hblk hcs hvj hlcs
          go_wp2_with (at_builtin; go_must (refine wpList_append_lies _ rfl _ _ _ rfl B0 76 il _ 1 24 Tryz.underlying50 hil hl0 hl1 hl2 rfl (by omega) (.slice ao NA''.length ac) NA''.length NA'' rfl ?hownA _ 1 _ [.slice (some ⟨b, 0, none⟩) cc cc] rfl rfl ?hnewsA ?h1A (by omega) ?h63A ?hbytesA ?hbaseA _ rfl ?_))
          case hownA => exact World.ownsRow.alloc HRA0.out _
          try case hnewsA => exact World.news_of_block (heap_alloc_new wr _)
          case h1A => simp [Value.oneCell']
          case h63A => unfold maxLen; omega
          case hbytesA => omega
          case hbaseA => first | omega | (simp; omega)
          intro g cap2 w5 hown5 hgrow5 hat5 hlt5
          have HA : Hid _ := below_alZ wr (Obj.cells #[.slice (some ⟨b, 0, none⟩) cc cc] 76)
          have hra : (wr.alloc (Obj.cells #[.slice (some ⟨b, 0, none⟩) cc cc] 76)).ownsRow B0 76 1 (.slice ao NA''.length ac) NA''.length NA'' := World.ownsRow.alloc HRA0.out _
          have hs5 : wr.heap.size ≤ w5.heap.size := by have := hgrow5.size; simp at this; omega
          have hout : ∀ k, (Value.slice ao NA''.length ac).ownBlock = some k → k < T0 ∨ T1 ≤ k := fun k hk => HH.out.out k hk
          have hK5 := (HK.out.old HA.out (by omega)).grown hra hgrow5 (by decide) (by decide) (Nat.le_refl _) (by simp; omega)
          have hS5 : ∀ lo' hi', T0 ≤ lo' → hi' ≤ T1 → Sh3 lo' hi' wr w5 := fun lo' hi' h1 h2 => (Sh3.below HA.out).trans (Sh3.grown hra hgrow5 (by decide) (.inr fun k hk => by have := hout k hk; omega))
          have hH5 := HoldB.takeA (f := .slice (some ⟨b, 0, none⟩) cc cc) HH.out hTs hown5 hgrow5 (by rw [World.size_alloc]; exact hat5)
          have hb5 : w5.heap[hb]? = some (.cells #[.slice ao NA''.length ac, lv, fv] 54 (0, 0)) := grown_type hra hgrow5 (by decide) (HA.out.block hb hhbl |>.trans HH.out.blk)
          obtain ⟨v50, v51, v52⟩ := three_cells hb5
          have f50 := frozen_of_row w5 hb 0 _ _ hb5
          have hhb5 : hb < w5.heap.size := by omega
          have HK6 : Hid _ := hK5.put (i := 0) (u := .slice (some ⟨g, 0, none⟩) (NA''.length + 1) cap2) hb5 (by decide) (by decide) hhb
          have HH6 : Hid _ := hH5
          have HTP6 : Hid _ := (HTP.out.sh (hS5 lo mid hlo1 hmT)).sh (Sh3.putH (i := 0) (u := .slice (some ⟨g, 0, none⟩) (NA''.length + 1) cap2) hb5)
          have HSH6 : Hid _ := (HSH.out.sh (hS5 mid T1 (by omega) (Nat.le_refl _))).sh (Sh3.putH (i := 0) (u := .slice (some ⟨g, 0, none⟩) (NA''.length + 1) cap2) hb5)
          have hblk5 := hS5 lo mid hlo1 hmT b cur _ hb1' hb2' (.inl rfl) HBK.out
          obtain ⟨cur5, hcur5, hcs5, _⟩ := hblk5
          have hne5 : b ≠ hb := ty_ne hcur5 hb5 (by decide)
          have HBK6 : Hid ((w5.setCell ⟨hb, 0, none⟩ (.slice (some ⟨g, 0, none⟩) (NA''.length + 1) cap2)).heap[b]? = some (.cells cur5 75 (0, 0))) := (heap_set_ne _ hne5).trans hcur5
          have HCS6 : Hid (cur5.size = cc * 2) := hcs5.trans HCS.out
          have hs6 : (w5.setCell ⟨hb, 0, none⟩ (.slice (some ⟨g, 0, none⟩) (NA''.length + 1) cap2)).heap.size = w5.heap.size := by simp [World.setCell]
          clear hown5 hgrow5 hat5 hlt5 hra hout hK5 hS5 hH5 hb5 hcur5 hcs5 HK HH HTP HSH HBK HCS av0 lv0 fv0 u0 k1 b0 b1 HRA0
          go_wp2_with fail
          clear v50 v51 v52 f50
          go_loopw [8] (fun y wx => ∃ (q : Nat) (cur : Array Value), q ≤ cc ∧ y = .int .i64 q ∧ T1 ≤ wx.heap.size ∧ w.heap.size < wx.heap.size ∧ Hid (KEnv w wx B0 T0 w.heap.size mn (.slice (some ⟨fb, 0, none⟩) ns.length fc) ns.length xs) ∧ Hid (HoldB wx B0 hb T0 T1 M lo (.slice (some ⟨g, 0, none⟩) (NA''.length + 1) cap2) lv fv NA'' NL' NF [.slice (some ⟨b, 0, none⟩) cc cc] [] []) ∧ Hid (TpSh wx lo mid (.slice (some ⟨lb, 0, none⟩) kn lc) kn vs) ∧ Hid (ShI wx mid (ns.drop (i + 1)) (xs.drop ((i + 1) * 2)) T1) ∧ Hid (wx.heap[b]? = some (.cells cur 75 (0, 0))) ∧ Hid (cur.size = cc * 2) ∧ Hid (∀ p, p < q → cur[p * 2]? = some (.int .i64 ((NA''.length : Int) + 1)) ∧ cur[p * 2 + 1]? = some (.int .i64 0))) (fun y _ => cc - (intOf y).toNat)
          case atStart => exact ⟨0, cur5, Nat.zero_le _, rfl, by rw [hs6]; omega, by rw [hs6]; omega, HK6.out, HH6.out, HTP6.out, HSH6.out, HBK6.out, HCS6.out, fun p hp => by omega⟩
          case round =>
            clear HK6 HH6 HTP6 HSH6 HBK6 HCS6 hs6 hs5 hTs hCs hhbl hhb5 hflt hlbl hblt
            obtain ⟨q, cur, hq, rfl, hTs, hCs, HK, HH, HTP, HSH, HBK, HCS, HDN⟩ := hrel
            have hhbl : hb < wr.heap.size := (Array.getElem?_eq_some_iff.1 HH.out.blk).1
            have hblt : b < wr.heap.size := (Array.getElem?_eq_some_iff.1 HBK.out).1
            obtain ⟨v50, v51, v52⟩ := three_cells HH.out.blk
            by_cases hql : q < cc
            · have hq2 : q * 2 + 1 < cur.size := by have := HCS.out; omega
              have d0 : wr.cell? ⟨b, q * 2, none⟩ = some (cur[q * 2]'(by omega)) := by rw [cell_of_row wr b _ _ _ _ HBK.out]; exact Array.getElem?_eq_getElem _
              have d1 : wr.cell? ⟨b, q * 2 + 1, none⟩ = some (cur[q * 2 + 1]'hq2) := by rw [cell_of_row wr b _ _ _ _ HBK.out]; exact Array.getElem?_eq_getElem _
              have f0 := frozen_of_row wr b (q * 2) _ _ HBK.out
              have f1 := frozen_of_row wr b (q * 2 + 1) _ _ HBK.out
              generalize cur[q * 2]'(by omega) = x0 at d0
              generalize cur[q * 2 + 1]'hq2 = x1 at d1
              have hMb := HMb.out
              go_wp2_with fail
              go_roundw
              case rel =>
                have hB1 := blk_set (i := q * 2) (.int .i64 ((NA''.length : Int) + 1)) HBK.out
                have hB2 := blk_set (i := q * 2 + 1) (.int .i64 0) hB1
                refine ⟨q + 1, (cur.setIfInBounds (q * 2) (.int .i64 ((NA''.length : Int) + 1))).setIfInBounds (q * 2 + 1) (.int .i64 0), hql, by go_num, by simp [World.setCell]; omega, by simp [World.setCell]; omega, (HK.out.put HBK.out (by decide) (by decide) (by omega)).put hB1 (by decide) (by decide) (by omega), (HH.out.putA HBK.out hMb).putA hB1 hMb, (HTP.out.sh (Sh3.putAt HBK.out)).sh (Sh3.putAt hB1), (HSH.out.sh (Sh3.putAt HBK.out)).sh (Sh3.putAt hB1), hB2, by have := HCS.out; simp only [Hid, Array.size_setIfInBounds]; exact this, fun p hp => ?_⟩
                by_cases hpq : p = q
                · subst hpq
                  exact ⟨by rw [Array.getElem?_setIfInBounds_ne (by omega), Array.getElem?_setIfInBounds_self_of_lt (by omega)], by rw [Array.getElem?_setIfInBounds_self_of_lt (by rw [Array.size_setIfInBounds]; omega)]⟩
                · obtain ⟨e0, e1⟩ := HDN.out p (by omega)
                  exact ⟨by rw [Array.getElem?_setIfInBounds_ne (by omega), Array.getElem?_setIfInBounds_ne (by omega)]; exact e0, by rw [Array.getElem?_setIfInBounds_ne (by omega), Array.getElem?_setIfInBounds_ne (by omega)]; exact e1⟩
              case measure => simp [intOf]; omega
            · have hd : decide ((q : Int) < (cc : Int)) = false := by simp; omega
              have hd2 : ¬ (q : Int) < (cc : Int) := by omega
              have HF : Hid (HoldB wr B0 hb T0 T1 (b + 1) lo (.slice (some ⟨g, 0, none⟩) (NA''.length + 1) cap2) lv fv (NA'' ++ [.slice (some ⟨b, 0, none⟩) cc cc]) NL' NF [] [] []) := HH.out.fullA (by have := HMb.out; omega) ⟨some ⟨b, 0, none⟩, cc, rfl, by unfold maxLen; omega, .inr ⟨b, cur, rfl, Nat.lt_succ_self _, HBK.out, fun p hp => HDN.out p (by omega)⟩⟩
              have hla3 : (NA'' ++ [Value.slice (some ⟨b, 0, none⟩) cc cc]).length ≤ NA.length + 13 * i + (j + 1) := by rw [List.length_append]; simp; omega
              have hMb := HMb.out
              clear HH
              go_wp2_with fail
              go_roundw
              case rel => exact ⟨j + 1, b + 1, _, _, hjl, by go_num, by omega, by omega, hTs, hCs, HK.out, HF.out, HTP.out, HSH.out, HMB2.out, hla3⟩
              case measure => simp [intOf]; omega
        · have hjm : j = kn := by omega
          have hdj : decide ((j : Int) < (kn : Int)) = false := by simp; omega
          have hdj2 : ¬ (j : Int) < (kn : Int) := by omega
          clear hjm
          obtain ⟨lb', lc', lcur, hlv, hlc1', _, _, _, hlb, hlcs, _, _, _, _⟩ := HTP.out
          cases hlv
          obtain ⟨av0, lv0, fv0⟩ := three_cells HH.out.blk
          have hrl0 : wr.ownsRow B0 50 1 lv NL'.length NL' := by have := HH.out.rl; simpa using this
          obtain ⟨lo', lc', rfl⟩ := own_form hrl0
          have HRL0 : Hid _ := hrl0
          have HBK : Hid _ := hlb
          have HCS : Hid _ := hlcs
          clear hrl0 hlb hlcs
          go_wp2_with (at_builtin; go_must (refine wpList_append_lies _ rfl _ _ _ rfl B0 50 im _ 1 24 Tryz.underlying51 him hm0 hm1 hm2 rfl (by omega) (.slice lo' NL'.length lc') NL'.length NL' rfl ?hownL _ 1 _ [.slice (some ⟨lb, 0, none⟩) lc lc] rfl rfl ?hnewsL ?h1L (by omega) ?h63L ?hbytesL ?hbaseL _ rfl ?_))
          case hownL => exact World.ownsRow.alloc HRL0.out _
          try case hnewsL => exact World.news_of_block (heap_alloc_new wr _)
          case h1L => simp [Value.oneCell']
          case h63L => unfold maxLen; omega
          case hbytesL => omega
          case hbaseL => first | omega | (simp; omega)
          intro g cap2 w5 hown5 hgrow5 hat5 hlt5
          have HA : Hid _ := below_alZ wr (Obj.cells #[.slice (some ⟨lb, 0, none⟩) lc lc] 50)
          have hra : (wr.alloc (Obj.cells #[.slice (some ⟨lb, 0, none⟩) lc lc] 50)).ownsRow B0 50 1 (.slice lo' NL'.length lc') NL'.length NL' := World.ownsRow.alloc HRL0.out _
          have hs5 : wr.heap.size ≤ w5.heap.size := by have := hgrow5.size; simp at this; omega
          have hK5 := (HK.out.old HA.out (by omega)).grown hra hgrow5 (by decide) (by decide) (Nat.le_refl _) (by simp; omega)
          have hS5 : ∀ lo' hi', Sh3 lo' hi' wr w5 := fun lo' hi' => (Sh3.below HA.out).trans (Sh3.grown hra hgrow5 (by decide) (.inl (by decide)))
          have hH5 := HoldB.takeL (f := .slice (some ⟨lb, 0, none⟩) lc lc) HH.out hown5 hgrow5
          have hb5 : w5.heap[hb]? = some (.cells #[av, .slice lo' NL'.length lc', fv] 54 (0, 0)) := grown_type hra hgrow5 (by decide) (HA.out.block hb hhbl |>.trans HH.out.blk)
          obtain ⟨v50, v51, v52⟩ := three_cells hb5
          have f51 := frozen_of_row w5 hb 1 _ _ hb5
          have hhb5 : hb < w5.heap.size := by omega
          have HK6 : Hid _ := hK5.put (i := 1) (u := .slice (some ⟨g, 0, none⟩) (NL'.length + 1) cap2) hb5 (by decide) (by decide) hhb
          have HH6 : Hid _ := hH5
          have HSH6 : Hid _ := (HSH.out.sh (hS5 mid T1)).sh (Sh3.putH (i := 1) (u := .slice (some ⟨g, 0, none⟩) (NL'.length + 1) cap2) hb5)
          have hblk5 := hS5 lo mid lb lcur _ hlb1 hlb2 (.inr (.inl rfl)) HBK.out
          obtain ⟨cur5, hcur5, hcs5, _⟩ := hblk5
          have hne5 : lb ≠ hb := ty_ne hcur5 hb5 (by decide)
          have HBK6 : Hid ((w5.setCell ⟨hb, 1, none⟩ (.slice (some ⟨g, 0, none⟩) (NL'.length + 1) cap2)).heap[lb]? = some (.cells cur5 76 (0, 0))) := (heap_set_ne _ hne5).trans hcur5
          have HCS6 : Hid (cur5.size = lc) := hcs5.trans HCS.out
          have hs6 : (w5.setCell ⟨hb, 1, none⟩ (.slice (some ⟨g, 0, none⟩) (NL'.length + 1) cap2)).heap.size = w5.heap.size := by simp [World.setCell]
          clear hown5 hgrow5 hat5 hlt5 hra hK5 hS5 hH5 hb5 hcur5 hcs5 HK HH HTP HSH HBK HCS av0 lv0 fv0 k1 b0 b1 HRL0 HMB
          go_wp2_with fail
          clear v50 v51 v52 f51
          go_loopw [11] (fun y wx => ∃ (q : Nat) (cur : Array Value), q ≤ lc ∧ y = .int .i64 q ∧ T1 ≤ wx.heap.size ∧ w.heap.size < wx.heap.size ∧ Hid (KEnv w wx B0 T0 w.heap.size mn (.slice (some ⟨fb, 0, none⟩) ns.length fc) ns.length xs) ∧ Hid (HoldB wx B0 hb T0 T1 M lo av (.slice (some ⟨g, 0, none⟩) (NL'.length + 1) cap2) fv NA'' NL' NF [] [.slice (some ⟨lb, 0, none⟩) lc lc] []) ∧ Hid (ShI wx mid (ns.drop (i + 1)) (xs.drop ((i + 1) * 2)) T1) ∧ Hid (wx.heap[lb]? = some (.cells cur 76 (0, 0))) ∧ Hid (cur.size = lc) ∧ Hid (∀ p, p < q → ∃ a' c', cur[p]? = some (.slice a' (NL'.length + 1) c'))) (fun y _ => lc - (intOf y).toNat)
          case atStart => exact ⟨0, cur5, Nat.zero_le _, rfl, by rw [hs6]; omega, by rw [hs6]; omega, HK6.out, HH6.out, HSH6.out, HBK6.out, HCS6.out, fun p hp => by omega⟩
          case round =>
            clear HK6 HH6 HSH6 HBK6 HCS6 hs6 hs5 hTs hCs hhbl hhb5 hflt hlbl
            obtain ⟨q, cur, hq, rfl, hTs, hCs, HK, HH, HSH, HBK, HCS, HDN⟩ := hrel
            have hhbl : hb < wr.heap.size := (Array.getElem?_eq_some_iff.1 HH.out.blk).1
            have hblt : lb < wr.heap.size := (Array.getElem?_eq_some_iff.1 HBK.out).1
            obtain ⟨v50, v51, v52⟩ := three_cells HH.out.blk
            by_cases hql : q < lc
            · have hqc : q < cur.size := by have := HCS.out; omega
              go_wp2_with (at_make; go_must (refine wpList_make_full _ rfl _ _ 76 rfl B0 75 ia _ 2 Tryz.underlying76 hia ha0 ha1 _ _ _ _ (NL'.length + 1) rfl rfl (by simp) (by simp) ?mbM ?mlM ?mbaseM ?_))
              case mbM => rw [ha2]; omega
              case mlM => unfold maxLen; omega
              case mbaseM => omega
              intro w6 hown6 hgrow6
              have hb6 : Below wr.heap.size wr w6 := (Below.refl _ _).grown (row := none) hgrow6 (Nat.le_refl _) (fun k hk => by cases hk)
              have hs6 := hb6.size
              have HBK6 : Hid _ := (hb6.block lb hblt).trans HBK.out
              have d0 : w6.cell? ⟨lb, q, none⟩ = some (cur[q]'hqc) := by rw [cell_of_row w6 lb _ _ _ _ HBK6.out]; exact Array.getElem?_eq_getElem _
              have f0 := frozen_of_row w6 lb q _ _ HBK6.out
              generalize cur[q]'hqc = x0 at d0
              have HK6 : Hid _ := HK.out.old hb6 (by omega)
              have HH6 : Hid _ := HH.out.old hb6
              have HSH6 : Hid _ := HSH.out.sh (Sh3.below hb6)
              have hlb6 : lb < w6.heap.size := by omega
              clear hown6 hgrow6 hb6 v50 v51 v52 HK HH HSH
              go_wp2_with fail
              go_roundw
              case rel =>
                refine ⟨q + 1, cur.setIfInBounds q (.slice (some ⟨wr.heap.size, 0, none⟩) (NL'.length + 1) (NL'.length + 1)), hql, by go_num, by simp [World.setCell]; omega, by simp [World.setCell]; omega, HK6.out.put HBK6.out (by decide) (by decide) (by omega), HH6.out.putL HBK6.out (by omega) (by omega) (by omega), HSH6.out.sh (Sh3.putOut (.inl hlb2)), blk_set _ HBK6.out, by have := HCS.out; simp only [Hid, Array.size_setIfInBounds]; exact this, fun p hp => ?_⟩
                by_cases hpq : p = q
                · subst hpq
                  exact ⟨_, _, by rw [Array.getElem?_setIfInBounds_self_of_lt hqc]⟩
                · obtain ⟨a', c', e0⟩ := HDN.out p (by omega)
                  exact ⟨a', c', by rw [Array.getElem?_setIfInBounds_ne (by omega)]; exact e0⟩
              case measure => simp [intOf]; omega
            · have hd : decide ((q : Int) < (lc : Int)) = false := by simp; omega
              have hd2 : ¬ (q : Int) < (lc : Int) := by omega
              have HF : Hid (HoldB wr B0 hb T0 T1 mid mid av (.slice (some ⟨g, 0, none⟩) (NL'.length + 1) cap2) fv NA'' (NL' ++ [.slice (some ⟨lb, 0, none⟩) lc lc]) NF [] [] []) :=
                (HH.out.fullL hmid ⟨some ⟨lb, 0, none⟩, lc, rfl, by unfold maxLen; omega, .inr ⟨lb, cur, rfl, hlb2, HBK.out, fun p hp => HDN.out p (by omega)⟩⟩ (fun k hk e => by
                  have h1 := HH.out.out k hk
                  have h2 : lb = k := by simpa [Value.ownBlock] using e
                  omega)).up hM2
              have hll3 : (NL' ++ [Value.slice (some ⟨lb, 0, none⟩) lc lc]).length ≤ NL.length + (i + 1) := by rw [List.length_append]; simp; omega
              clear HH
              go_wp2_with fail
              go_roundw
              case rel => exact ⟨i + 1, mid, _, _, _, _, hin, by go_num, by omega, hmT, hTs, hCs, HK.out, HF.out, HSH.out, by omega, hll3⟩
              case measure => simp [intOf]; omega
    · have hdi : decide ((i : Int) < (ns.length : Int)) = false := by simp; omega
      have hdi2 : ¬ (i : Int) < (ns.length : Int) := by omega
      obtain ⟨av0, lv0, fv0⟩ := three_cells HH.out.blk
      have hrf0 : wr.ownsRow B0 55 1 fv NF.length NF := by have := HH.out.rf; simpa using this
      obtain ⟨fo', fc', rfl⟩ := own_form hrf0
      have HRF0 : Hid _ := hrf0
      clear hrf0 HS
      rcases HK.out.row.2 with ⟨hn0, hz⟩ | ⟨fb, fcap, fcur, hfe, hfB, hfh, hf1, hf2, hf3, _⟩
      · obtain ⟨rfl, hz1, rfl⟩ : fo = none ∧ ns.length = 0 ∧ fc = 0 := by simpa using hn0
        rw [hz1] at b1
        have HZ1 : Hid (ns.length = 0) := hz1
        have hi0 : i ≤ 0 := by omega
        clear hz hz1 hn0 hi hdi hdi2
        have hi00 : i = 0 := by omega
        subst hi00
        have hdz : ¬ ((0 : Nat) : Int) < 0 := by simp
        go_wp2_with (at_builtin; go_must (refine wpList_append_lies _ rfl _ _ _ rfl B0 55 iu _ 1 24 Tryz.underlying52 hiu hu0 hu1 hu2 rfl (by omega) (.slice fo' NF.length fc') NF.length NF rfl ?hownFN _ 1 _ [.slice none 0 0] rfl rfl ?hnewsFN ?h1FN (by omega) ?h63FN ?hbytesFN ?hbaseFN _ rfl ?_))
        case hownFN => exact World.ownsRow.alloc HRF0.out _
        try case hnewsFN => exact World.news_of_block (heap_alloc_new wr _)
        case h1FN => simp [Value.oneCell']
        case h63FN => unfold maxLen; omega
        case hbytesFN => omega
        case hbaseFN => first | omega | (simp; omega)
        intro g cap2 w5 hown5 hgrow5 hat5 hlt5
        have HA : Hid _ := below_alZ wr (Obj.cells #[.slice none 0 0] 55)
        have hra : (wr.alloc (Obj.cells #[.slice none 0 0] 55)).ownsRow B0 55 1 (.slice fo' NF.length fc') NF.length NF := World.ownsRow.alloc HRF0.out _
        have hs5 : wr.heap.size ≤ w5.heap.size := by have := hgrow5.size; simp at this; omega
        have hH5 := HoldB.takeF (f := .slice none 0 0) HH.out hown5 hgrow5
        have hb5 : w5.heap[hb]? = some (.cells #[av, lv, .slice fo' NF.length fc'] 54 (0, 0)) := grown_type hra hgrow5 (by decide) (HA.out.block hb hhbl |>.trans HH.out.blk)
        obtain ⟨v50, v51, v52⟩ := three_cells hb5
        have f52 := frozen_of_row w5 hb 2 _ _ hb5
        have hhb5 : hb < w5.heap.size := by omega
        have HB5 : Hid (Below B0 w (w5.setCell ⟨hb, 2, none⟩ (.slice (some ⟨g, 0, none⟩) (NF.length + 1) cap2))) := ((HK.out.bel.trans ((HA.out.mono (by omega)).grown hgrow5 (by simp; omega) (fun k hk => (hra.lt k hk).1)))).setCell (by exact hhb) _
        have HH6 : Hid _ := hH5
        have HF : Hid (HoldB (w5.setCell ⟨hb, 2, none⟩ (.slice (some ⟨g, 0, none⟩) (NF.length + 1) cap2)) B0 hb T1 T1 lo lo av lv (.slice (some ⟨g, 0, none⟩) (NF.length + 1) cap2) NA' NL' (NF ++ [.slice none 0 0]) [] [] []) := HH6.out.fullF hT0 ⟨none, 0, rfl, by unfold maxLen; omega, .inl rfl⟩ (fun k hk => by omega)
        clear hown5 hgrow5 hat5 hlt5 hra hH5 hb5 HK HH HRF0 av0 lv0 fv0 b0 b1 HH6
        go_wp2_with fail
        clear v50 v51 v52 f52
        go_loopw [13] (fun y wx => y = .int .i64 0 ∧ Hid (Below B0 w wx) ∧ Hid (HoldB wx B0 hb T1 T1 lo lo av lv (.slice (some ⟨g, 0, none⟩) (NF.length + 1) cap2) NA' NL' (NF ++ [.slice none 0 0]) [] [] [])) (fun _ _ => 0)
        case atStart => exact ⟨rfl, HB5.out, HF.out⟩
        case round =>
          clear HB5 HF
          obtain ⟨rfl, HB, HF⟩ := hrel
          go_wp2_with fail
          exact bodyPost_end (v := .tuple #[]) (by simp [results, Tryz.results53, go_sem]) rfl ⟨⟨_, rfl⟩, HB.out, T1, lo, lo, _, _, _, _, _, _, HF.out, by omega, by omega, by rw [List.length_append]; simp⟩
      · obtain ⟨rfl, rfl⟩ : fo = some ⟨fb, 0, none⟩ ∧ fc = fcap := by simpa using hfe
        have hflt : fb < wr.heap.size := (Array.getElem?_eq_some_iff.1 hfh).1
        have hfbT : fb < T1 := HRL.out fb rfl
        have HBK : Hid _ := hfh
        have HCS : Hid _ := hf3
        clear hfe hf3 hfh
        go_wp2_with (at_builtin; go_must (refine wpList_append_lies _ rfl _ _ _ rfl B0 55 iu _ 1 24 Tryz.underlying52 hiu hu0 hu1 hu2 rfl (by omega) (.slice fo' NF.length fc') NF.length NF rfl ?hownFS _ 1 _ [.slice (some ⟨fb, 0, none⟩) fc fc] rfl rfl ?hnewsFS ?h1FS (by omega) ?h63FS ?hbytesFS ?hbaseFS _ rfl ?_))
        case hownFS => exact World.ownsRow.alloc HRF0.out _
        try case hnewsFS => exact World.news_of_block (heap_alloc_new wr _)
        case h1FS => simp [Value.oneCell']
        case h63FS => unfold maxLen; omega
        case hbytesFS => omega
        case hbaseFS => first | omega | (simp; omega)
        intro g cap2 w5 hown5 hgrow5 hat5 hlt5
        have HA : Hid _ := below_alZ wr (Obj.cells #[.slice (some ⟨fb, 0, none⟩) fc fc] 55)
        have hra : (wr.alloc (Obj.cells #[.slice (some ⟨fb, 0, none⟩) fc fc] 55)).ownsRow B0 55 1 (.slice fo' NF.length fc') NF.length NF := World.ownsRow.alloc HRF0.out _
        have hs5 : wr.heap.size ≤ w5.heap.size := by have := hgrow5.size; simp at this; omega
        have hH5 := HoldB.takeF (f := .slice (some ⟨fb, 0, none⟩) fc fc) HH.out hown5 hgrow5
        have hb5 : w5.heap[hb]? = some (.cells #[av, lv, .slice fo' NF.length fc'] 54 (0, 0)) := grown_type hra hgrow5 (by decide) (HA.out.block hb hhbl |>.trans HH.out.blk)
        obtain ⟨v50, v51, v52⟩ := three_cells hb5
        have f52 := frozen_of_row w5 hb 2 _ _ hb5
        have hhb5 : hb < w5.heap.size := by omega
        have HB5 : Hid (Below B0 w (w5.setCell ⟨hb, 2, none⟩ (.slice (some ⟨g, 0, none⟩) (NF.length + 1) cap2))) := ((HK.out.bel.trans ((HA.out.mono (by omega)).grown hgrow5 (by simp; omega) (fun k hk => (hra.lt k hk).1)))).setCell (by exact hhb) _
        have HH6 : Hid _ := hH5
        have hblk5 : w5.heap[fb]? = some (.cells fcur 78 (0, 0)) := grown_type hra hgrow5 (by decide) ((HA.out.block fb hflt).trans HBK.out)
        have hne5 : fb ≠ hb := ty_ne hblk5 hb5 (by decide)
        have HBK6 : Hid ((w5.setCell ⟨hb, 2, none⟩ (.slice (some ⟨g, 0, none⟩) (NF.length + 1) cap2)).heap[fb]? = some (.cells fcur 78 (0, 0))) := (heap_set_ne _ hne5).trans hblk5
        have hs6 : (w5.setCell ⟨hb, 2, none⟩ (.slice (some ⟨g, 0, none⟩) (NF.length + 1) cap2)).heap.size = w5.heap.size := by simp [World.setCell]
        clear hown5 hgrow5 hat5 hlt5 hra hH5 hb5 HK HH HRF0 av0 lv0 fv0 b0 b1 hblk5
        go_wp2_with fail
        clear v50 v51 v52 f52
        go_loopw [13] (fun y wx => ∃ (q : Nat) (cur : Array Value), q ≤ fc ∧ y = .int .i64 q ∧ Hid (Below B0 w wx) ∧ Hid (HoldB wx B0 hb T0 T1 lo lo av lv (.slice (some ⟨g, 0, none⟩) (NF.length + 1) cap2) NA' NL' NF [] [] [.slice (some ⟨fb, 0, none⟩) fc fc]) ∧ Hid (wx.heap[fb]? = some (.cells cur 78 (0, 0))) ∧ Hid (cur.size = fc * 2) ∧ Hid (∀ p, p < q → cur[p * 2]? = some (.int .i64 ((NF.length : Int) + 1)) ∧ cur[p * 2 + 1]? = some (.slice none 0 0))) (fun y _ => fc - (intOf y).toNat)
        case atStart => exact ⟨0, fcur, Nat.zero_le _, rfl, HB5.out, HH6.out, HBK6.out, HCS.out, fun p hp => by omega⟩
        case round =>
          clear HB5 HH6 HBK6 HCS hs6 hs5 hhb5 hhbl hflt
          obtain ⟨q, cur, hq, rfl, HB, HH, HBK, HCS, HDN⟩ := hrel
          have hhbl : hb < wr.heap.size := (Array.getElem?_eq_some_iff.1 HH.out.blk).1
          have hblt : fb < wr.heap.size := (Array.getElem?_eq_some_iff.1 HBK.out).1
          obtain ⟨v50, v51, v52⟩ := three_cells HH.out.blk
          by_cases hql : q < fc
          · have hq2 : q * 2 + 1 < cur.size := by have := HCS.out; omega
            have d0 : wr.cell? ⟨fb, q * 2, none⟩ = some (cur[q * 2]'(by omega)) := by rw [cell_of_row wr fb _ _ _ _ HBK.out]; exact Array.getElem?_eq_getElem _
            have d1 : wr.cell? ⟨fb, q * 2 + 1, none⟩ = some (cur[q * 2 + 1]'hq2) := by rw [cell_of_row wr fb _ _ _ _ HBK.out]; exact Array.getElem?_eq_getElem _
            have f0 := frozen_of_row wr fb (q * 2) _ _ HBK.out
            have f1 := frozen_of_row wr fb (q * 2 + 1) _ _ HBK.out
            generalize cur[q * 2]'(by omega) = x0 at d0
            generalize cur[q * 2 + 1]'hq2 = x1 at d1
            go_wp2_with fail
            go_roundw
            case rel =>
              have hB1 := blk_set (i := q * 2) (.int .i64 ((NF.length : Int) + 1)) HBK.out
              have hB2 := blk_set (i := q * 2 + 1) (.slice none 0 0) hB1
              refine ⟨q + 1, (cur.setIfInBounds (q * 2) (.int .i64 ((NF.length : Int) + 1))).setIfInBounds (q * 2 + 1) (.slice none 0 0), hql, by go_num, (HB.out.setCell (by show B0 ≤ fb; omega) _).setCell (by show B0 ≤ fb; omega) _, (HH.out.putF HBK.out hfB).putF hB1 hfB, hB2, by have := HCS.out; simp only [Hid, Array.size_setIfInBounds]; exact this, fun p hp => ?_⟩
              by_cases hpq : p = q
              · subst hpq
                exact ⟨by rw [Array.getElem?_setIfInBounds_ne (by omega), Array.getElem?_setIfInBounds_self_of_lt (by omega)], by rw [Array.getElem?_setIfInBounds_self_of_lt (by rw [Array.size_setIfInBounds]; omega)]⟩
              · obtain ⟨e0, e1⟩ := HDN.out p (by omega)
                exact ⟨by rw [Array.getElem?_setIfInBounds_ne (by omega), Array.getElem?_setIfInBounds_ne (by omega)]; exact e0, by rw [Array.getElem?_setIfInBounds_ne (by omega), Array.getElem?_setIfInBounds_ne (by omega)]; exact e1⟩
            case measure => simp [intOf]; omega
          · have hd : decide ((q : Int) < (fc : Int)) = false := by simp; omega
            have hd2 : ¬ (q : Int) < (fc : Int) := by omega
            have HF : Hid (HoldB wr B0 hb T1 T1 lo lo av lv (.slice (some ⟨g, 0, none⟩) (NF.length + 1) cap2) NA' NL' (NF ++ [.slice (some ⟨fb, 0, none⟩) fc fc]) [] [] []) := HH.out.fullF hT0 ⟨some ⟨fb, 0, none⟩, fc, rfl, by unfold maxLen; omega, .inr ⟨fb, cur, rfl, hfbT, HBK.out, fun p hp => HDN.out p (by omega)⟩⟩ (fun k hk => by omega)
            clear HH
            go_wp2_with fail
            exact bodyPost_end (v := .tuple #[]) (by simp [results, Tryz.results53, go_sem]) rfl ⟨⟨_, rfl⟩, HB.out, T1, lo, lo, _, _, _, _, _, _, HF.out, by omega, by omega, by rw [List.length_append]; simp⟩

end Go.Proofs.YtnndoagpbcacdaaGreatDoor
