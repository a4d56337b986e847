/- A map[Mask][]int64 that a call makes, told by what it has for each mask: made, an entry looked for and put back. -/
import Derived.Test.YtanocllpmjhblaaKeyM
namespace Go.Proofs.Ytanocllpmjhblaa
open Go.ChangeShapes Go.WideShapes Go.ChangeAt Go.RowKit Go.ChangeMaps

/-- How the numbers of a key read: nothing, or the row. -/
def rowD (zs : List Int) : DataW Unit := if zs = [] then .nil else .slice (lits .i64 zs) []
/-- Block b holds such a map, of n entries at most, with rows from a block on. -/
def GrpM (w : World) (base b n : Nat) (f : Int → Int → List Int) : Prop :=
  ∃ D : DataW Unit, w.ownsGroups Try.prog 53 base 2 .i64 b n D ∧ Maps.IsMap D ∧ ∀ x y, U64 x → U64 y → D.atKey (keyM x y) .nil = rowD (f x y)
theorem grpM_made (w : World) : GrpM (w.alloc (.map #[] 0)) (w.heap.size + 1) w.heap.size 0 (fun _ _ => []) :=
  ⟨.map [], World.ownsGroups_made _ _ _ _ _, ⟨[], rfl⟩, fun _ _ _ _ => rfl⟩
theorem lits_inj : ∀ {zs ys : List Int}, lits (H := Unit) .i64 zs = lits .i64 ys → zs = ys
  | [], [], _ => rfl
  | [], _ :: _, h => by simp [lits] at h
  | _ :: _, [], h => by simp [lits] at h
  | z :: zs, y :: ys, h => by
    simp only [lits, List.map_cons, List.cons.injEq] at h
    obtain ⟨h1, h2⟩ := h
    injection h1 with h1
    injection h1 with _ h1
    rw [h1, lits_inj h2]
theorem row_is {w : World} {base : Nat} {e : TypeId} {v : Value} {zs ys : List Int} (h : w.ownsInts base e .i64 v zs) (he : rowDatum (H := Unit) .i64 v zs = rowD ys) : zs = ys := by
  unfold rowD at he
  by_cases hy : ys = []
  · rw [if_pos hy] at he
    rcases h.datum (H := Unit) with ⟨_, h0⟩ | h1
    · rw [h0, hy]
    · rw [h1] at he; cases he
  · rw [if_neg hy] at he
    rcases h.datum (H := Unit) with ⟨h0, _⟩ | h1
    · rw [h0] at he; cases he
    · rw [h1] at he
      injection he with he
      exact lits_inj he
def addF (f : Int → Int → List Int) (x y : Int) (zs : List Int) : Int → Int → List Int := fun p q => if p = x ∧ q = y then zs else f p q

set_option maxRecDepth 100000 in
/-- The entry of a mask looked for, and put back with more numbers. -/
theorem GrpM.entry {w : World} {base b n : Nat} {f : Int → Int → List Int} (h : GrpM w base b n f) (hn : n < maxLen) (x y : Int) (hx : U64 x) (hy : U64 y) :
    ∃ (v : Value) (st : Nat) (es1 : Array MapEntry) (clock1 : Nat), (Instr.mapEntry 98 (.map (some b)) (.agg #[.int .u64 x, .int .u64 y])).run Try.prog w = .ok (.tuple #[v, goInt st]) (setBlock w b (.map es1 clock1)) ∧ w.ownsInts base 2 .i64 v (f x y) ∧ (f x y).length ≤ n ∧
      ∀ (w1 : World) (v' : Value) (zs' : List Int), (setBlock w b (.map es1 clock1)).grownBy w1 v.ownBlock → w1.ownsInts base 2 .i64 v' zs' → zs' ≠ [] → zs'.length ≤ n + 1 → (v'.ownBlock = v.ownBlock ∨ ∃ g, v'.ownBlock = some g ∧ w.heap.size ≤ g) →
        ∃ w2, (Instr.entryStore 98 (.map (some b)) (goInt st) v').run Try.prog w1 = .ok () w2 ∧ GrpM w2 base b (n + 1) (addF f x y zs') ∧ w1.grownBy w2 (some b) := by
  obtain ⟨D, ho, hm, hat⟩ := h
  have hz : ∀ v : World, (zeroValue 56).run Try.prog v = .ok (.slice none 0 0) v := fun v => by kernel_rfl
  obtain ⟨v, zs, st, es1, clock1, hrun, hd, hown, hlen, hback⟩ := groups_entry ho mask_law Try.underlying98 hz hn (keyOf_mask x y hx hy)
  have e := row_is hown (hd.symm.trans (hat x y hx hy))
  subst e
  refine ⟨v, st, es1, clock1, hrun, hown, hlen, fun w1 v' zs' hg hown' hne hl hloc => ?_⟩
  obtain ⟨w2, hst, hgr, hg2⟩ := hback w1 v' zs' hg hown' hl hloc
  refine ⟨w2, hst, ⟨_, hgr, ?_, fun p q hp hq => ?_⟩, hg2⟩
  · obtain ⟨es, rfl⟩ := hm; exact ⟨_, rfl⟩
  · by_cases e : p = x ∧ q = y
    · obtain ⟨rfl, rfl⟩ := e
      rw [Maps.atKey_put_same hm (show WideAt.IsKeyLit (keyM p q) from trivial)]
      rw [show addF f p q zs' p q = zs' from if_pos ⟨rfl, rfl⟩]
      unfold rowD
      rw [if_neg hne]
      exact hown'.datum_pos hne
    · rw [Maps.atKey_put_other (fun k => e (keyM_inj hp hq hx hy k)), hat p q hp hq]
      unfold addF
      rw [if_neg e]
end Go.Proofs.Ytanocllpmjhblaa
