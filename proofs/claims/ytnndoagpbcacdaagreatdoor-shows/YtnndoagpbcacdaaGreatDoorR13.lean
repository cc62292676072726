import Derived.Test.YtnndoagpbcacdaaGreatDoorR11
import Derived.Test.YtnndoagpbcacdaaGreatDoorR12
import Derived.Test.YtnndoagpbcacdaaGreatDoorS3
namespace Go.Proofs.YtnndoagpbcacdaaGreatDoor
open Go.RowKit

def strs (ps : List Tk) : List Value := ps.map fun p => .string p.txt
/-- A function of the reference in memory. -/
structure FOk (w : World) (T : Nat) (names : List Tk) (d : Df) (psv bv : Value) : Prop where
  prow : w.ownsRow 0 9 1 psv d.ps.length (strs d.ps)
  plt : ∀ k, psv.ownBlock = some k → k < T
  body : ∃ h a xs, d.body = h :: At.toks a ∧ simp3 h ∧ a.ok ∧ w.ownsRow 0 212 3 bv (a.cnt + 1) xs ∧ ER w (fun k => k < T) d.ps names (.sim h a) xs
  blt : ∀ k, bv.ownBlock = some k → k < T
def fcells (d : Df) (psv bv : Value) : List Value := [.string d.name.txt, psv, bv]
def FList (w : World) (T : Nat) (names : List Tk) : List Df → List Value → Prop
  | [], xs => xs = []
  | d :: ds, xs => ∃ psv bv r, xs = fcells d psv bv ++ r ∧ FOk w T names d psv bv ∧ FList w T names ds r
theorem FOk.keep {w w' : World} {T : Nat} {names : List Tk} {d : Df} {psv bv : Value} (h : FOk w T names d psv bv) (hb : Below T w w') : FOk w' T names d psv bv := by
  obtain ⟨hh, a, xs, h1, h2, h3, h4, h5⟩ := h.body
  exact ⟨ownsRow_below h.prow hb h.plt, h.plt, ⟨hh, a, xs, h1, h2, h3, ownsRow_below h4 hb h.blt, ER.keep (fun k hk => hb.block k hk) (fun _ h => h) h5⟩, h.blt⟩
theorem FOk.up {w : World} {T T' : Nat} {names : List Tk} {d : Df} {psv bv : Value} (hT : T ≤ T') (h : FOk w T names d psv bv) : FOk w T' names d psv bv := by
  obtain ⟨hh, a, xs, h1, h2, h3, h4, h5⟩ := h.body
  exact ⟨h.prow, fun k hk => Nat.lt_of_lt_of_le (h.plt k hk) hT, ⟨hh, a, xs, h1, h2, h3, h4, ER.keep (fun _ _ => rfl) (fun k hk => Nat.lt_of_lt_of_le hk hT) h5⟩, fun k hk => Nat.lt_of_lt_of_le (h.blt k hk) hT⟩
theorem ER.type {w w' : World} {base size n : Nat} {t : TypeId} {v : Value} {xs0 : List Value} {S : Nat → Prop} {ps names : List Tk} (hr : w.ownsRow base t size v n xs0) (hg : w.grownBy w' v.ownBlock) (ht : 212 ≠ t) : ∀ {a : At} {xs : List Value}, ER w S ps names a xs → ER w' S ps names a xs
  | .nil, _, h => h
  | .sim _ _, _, ⟨r', h1, h2⟩ => ⟨r', h1, ER.type hr hg ht h2⟩
  | .par _ _ _ _ _, _, .inl ⟨h0, r', h1, h2⟩ => .inl ⟨h0, r', h1, ER.type hr hg ht h2⟩
  | .par _ _ _ _ _, _, .inr ⟨h0, pv, ys, r', h1, h2, h3, h4, h5⟩ => .inr ⟨h0, pv, ys, r', h1, own_grown_type hr hg ht h2, h3, ER.type hr hg ht h4, ER.type hr hg ht h5⟩
theorem FOk.type {w w' : World} {base size n T : Nat} {names : List Tk} {v : Value} {xs0 : List Value} {d : Df} {psv bv : Value} (hr : w.ownsRow base 149 size v n xs0) (hg : w.grownBy w' v.ownBlock) (h : FOk w T names d psv bv) : FOk w' T names d psv bv := by
  obtain ⟨hh, a, xs, h1, h2, h3, h4, h5⟩ := h.body
  exact ⟨own_grown_type hr hg (by decide) h.prow, h.plt, ⟨hh, a, xs, h1, h2, h3, own_grown_type hr hg (by decide) h4, ER.type hr hg (by decide) h5⟩, h.blt⟩
theorem FList.keep {w w' : World} {T : Nat} {names : List Tk} (hb : Below T w w') : ∀ {ds : List Df} {xs : List Value}, FList w T names ds xs → FList w' T names ds xs
  | [], _, h => h
  | _ :: _, _, ⟨a, b, r, h1, h2, h3⟩ => ⟨a, b, r, h1, h2.keep hb, FList.keep hb h3⟩
theorem FList.up {w : World} {T T' : Nat} {names : List Tk} (hT : T ≤ T') : ∀ {ds : List Df} {xs : List Value}, FList w T names ds xs → FList w T' names ds xs
  | [], _, h => h
  | _ :: _, _, ⟨a, b, r, h1, h2, h3⟩ => ⟨a, b, r, h1, h2.up hT, FList.up hT h3⟩
theorem FList.type {w w' : World} {base size n T : Nat} {names : List Tk} {v : Value} {xs0 : List Value} (hr : w.ownsRow base 149 size v n xs0) (hg : w.grownBy w' v.ownBlock) : ∀ {ds : List Df} {xs : List Value}, FList w T names ds xs → FList w' T names ds xs
  | [], _, h => h
  | _ :: _, _, ⟨a, b, r, h1, h2, h3⟩ => ⟨a, b, r, h1, h2.type hr hg, FList.type hr hg h3⟩
theorem FList.snoc {w : World} {T : Nat} {names : List Tk} {d : Df} {psv bv : Value} (hd : FOk w T names d psv bv) : ∀ {ds : List Df} {xs : List Value}, FList w T names ds xs → FList w T names (ds ++ [d]) (xs ++ fcells d psv bv)
  | [], _, h => by rw [show _ = ([] : List Value) from h]; exact ⟨psv, bv, [], by simp, hd, rfl⟩
  | _ :: _, _, ⟨p, b, r, h1, h2, h3⟩ => ⟨p, b, r ++ fcells d psv bv, by rw [h1]; simp, h2, FList.snoc hd h3⟩
theorem fcells_one (d : Df) (psv bv : Value) (h1 : psv.oneCell' = true) (h2 : bv.oneCell' = true) : ∀ u ∈ fcells d psv bv, u.oneCell' = true := by
  intro u hu
  simp only [fcells, List.mem_cons, List.not_mem_nil, or_false] at hu
  rcases hu with rfl | rfl | rfl <;> first | rfl | assumption

theorem Tryz.infoFun : (Tryz.prog.info? 149).map (fun i => (i.zero, i.size, i.bytes)) = some (some (.agg #[.string ByteArray.empty, .slice none 0 0, .slice none 0 0]), 3, 64) := by kernel_rfl

/-- What is known of the definitions of a program. -/
structure Prog (ts : List Tk) (ds : List Df) : Prop where
  shq : Shq ts ds
  wt : ∀ t ∈ ts, WT t.txt
  lt : ts.length ≤ 1000
  num : ∀ d ∈ ds, ∀ t ∈ ts, simp3 t → t ∈ d.body → (knownF d.ps (ds.map (·.name)) t).1 = 1 → t.txt.size ≤ 6 ∧ digL t.txt.data.toList

end Go.Proofs.YtnndoagpbcacdaaGreatDoor
