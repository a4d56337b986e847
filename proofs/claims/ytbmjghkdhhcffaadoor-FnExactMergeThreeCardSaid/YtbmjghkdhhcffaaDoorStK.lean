/- States as keys of a map: the law, and the key that a state makes; a set of states that a call makes. -/
import Derived.Test.YtbmjghkdhhcffaaDoorSm
import Derived.DeepKeys4
namespace Go.Proofs.YtbmjghkdhhcffaaDoor
open Go.ChangeShapes Go.WideShapes Go.ChangeAt Go.RowKit

/-- The key that a state makes. -/
def keySt (s : St) : Lit := .string (keyBytes [.bool s.t, .int .u64 s.a, .int .u64 s.b])
/-- A state that can be. -/
def StFit (s : St) : Prop := U64 s.a ∧ U64 s.b
theorem lit_u64S {a : Int} (h : U64 a) : (Lit.int .u64 a).wf = true := by
  simp [Lit.wf, IntKind.min, IntKind.max, IntKind.signed, IntKind.bits]
  exact ⟨h.1, by have := h.2; omega⟩
theorem lits_u64S (P : Program) (t : TypeId) (ht : P.underlying t = some (.int .u64)) (d : Nat) (a : Int) (ha : U64 a) : P.keyLits (d + 1) t [.int .u64 a] = some [.int .u64 a] := by
  unfold Program.keyLits; simp only [ht]; rw [if_pos ⟨trivial, lit_u64S ha⟩]
theorem lits_boolS (P : Program) (t : TypeId) (ht : P.underlying t = some .bool) (d : Nat) (b : Bool) : P.keyLits (d + 1) t [.bool b] = some [.bool b] := by
  unfold Program.keyLits; simp only [ht]
set_option maxRecDepth 100000 in
theorem lits_maskS (m : Nat) (x y : Int) (hx : U64 x) (hy : U64 y) : Tryd.prog.keyLits (m + 2) 39 [.int .u64 x, .int .u64 y] = some [.int .u64 x, .int .u64 y] := by
  have c2 : Tryd.prog.cellsOf 39 = 2 := by kernel_rfl
  have ci : Tryd.prog.cellsOf 34 = 1 := by kernel_rfl
  have ui := Tryd.underlying34
  have ue := Tryd.underlying39
  have l1 := lits_u64S Tryd.prog 34 ui m x hx
  have l2 := lits_u64S Tryd.prog 34 ui m y hy
  unfold Program.keyLits
  simp only [ue]
  simp [ci]
  refine ⟨c2.symm, [[.int .u64 x], [.int .u64 y]], ?_, rfl⟩
  rw [show List.range 2 = [0, 1] from rfl]
  simp [l1, l2]
set_option maxRecDepth 100000 in
theorem keyOf_st (s : St) (h : StFit s) : keyOf Tryd.prog 116 (stV s) = some (keySt s) := by
  obtain ⟨t, a, b⟩ := s
  obtain ⟨ha, hb⟩ := h
  obtain ⟨m, hm⟩ : ∃ m, Tryd.prog.types.size = m + 2 := ⟨Tryd.prog.types.size - 2, by have : 2 < Tryd.prog.types.size := of_decide_eq_true (by kernel_rfl); omega⟩
  have ks : Tryd.prog.keyType 116 = true := by kernel_rfl
  have c3 : Tryd.prog.cellsOf 116 = 3 := by kernel_rfl
  have cb : Tryd.prog.cellsOf 4 = 1 := by kernel_rfl
  have c2 : Tryd.prog.cellsOf 39 = 2 := by kernel_rfl
  have ub := Tryd.underlying4
  have ue := Tryd.underlying116
  have l0 := lits_boolS Tryd.prog 4 ub (m + 1) t
  have l1 := lits_maskS m a b ha hb
  unfold stV keySt keyOf
  simp only [ue, ks, Value.formed, c3, hm]
  unfold Program.keyLits
  simp only [ue, c3]
  simp [Value.cells, cb, c2, l0, l1]
theorem st_law : Maps.Keyed Tryd.prog 116 := Maps.Keyed.of_law (deep_law_laid laidOut (m := 3) (by omega) (of_decide_eq_true (by kernel_rfl)) (by kernel_rfl) (by kernel_rfl))
theorem keySt_inj {x y : St} (hx : StFit x) (hy : StFit y) (h : keySt x = keySt y) : x = y := by
  have := st_law.inj (keyOf_st x hx) (h ▸ keyOf_st y hy)
  obtain ⟨t, a, b⟩ := x
  obtain ⟨u, c, d⟩ := y
  unfold stV at this
  simp at this
  obtain ⟨rfl, rfl, rfl⟩ := this
  rfl
theorem keySt_lit (x : St) : WideAt.IsKeyLit (keySt x) := trivial
/-- Two states are the same. -/
def eqSt (x y : St) : Bool := x.t == y.t && (x.a == y.a && x.b == y.b)
theorem eqSt_iff {x y : St} : eqSt x y = true ↔ x = y := by
  obtain ⟨t, a, b⟩ := x
  obtain ⟨u, c, d⟩ := y
  unfold eqSt
  simp
/-- How many different ones. -/
def cntSt : List St → Nat
  | [] => 0
  | x :: xs => if (xs.any (eqSt x)) = true then cntSt xs else cntSt xs + 1
/-- Block b holds a set of these states. -/
def StSet (w : World) (b : Nat) (xs : List St) : Prop :=
  ∃ D : DataW Unit, w.ownsMap Tryd.prog 116 (plainElem Tryd.prog 4) b xs.length D ∧ Maps.Tidy D ∧ (∀ x, StFit x → Maps.has D (keySt x) = xs.any (eqSt x)) ∧ Maps.size D = cntSt xs
theorem stSet_made (w : World) : StSet (w.alloc (.map #[] 0)) w.heap.size [] := ⟨.map [], World.ownsMap_made _ _ _ _, Maps.tidy_empty, fun _ _ => rfl, rfl⟩
theorem StSet.put {w : World} {b : Nat} {xs : List St} (h : StSet w b xs) (x : St) (hx : StFit x) (hn : xs.length < 100) :
    ∃ w', (Instr.mapUpdate 208 (.map (some b)) (stV x) (.bool true)).run Tryd.prog w = .ok () w' ∧ StSet w' b (x :: xs) ∧ w.grownBy w' (some b) := by
  obtain ⟨D, hown, hm, hat, hs⟩ := h
  obtain ⟨w', hrun, hown', hg⟩ := hown.update st_law Tryd.underlying208 (by unfold maxLen; omega) (keyOf_st x hx) (plainElem_bool Tryd.underlying4 true)
  refine ⟨w', hrun, ⟨D.put (keySt x) (.lit (.bool true)), hown', hm.put (keySt_lit x) _, fun y hy => ?_, ?_⟩, hg⟩
  · rw [List.any_cons]
    by_cases e : y = x
    · subst e
      rw [Maps.has_put_same hm.isMap (keySt_lit y), eqSt_iff.2 rfl]; rfl
    · rw [Maps.has_put_other (fun h => e (keySt_inj hy hx h)), hat y hy]
      have : eqSt y x = false := by cases q : eqSt y x; rfl; exact absurd (eqSt_iff.1 q) e
      rw [this, Bool.false_or]
  · rw [Maps.size_put hm, hat x hx, hs]; rfl
theorem StSet.count {w : World} {b : Nat} {xs : List St} (h : StSet w b xs) (ty : TypeId) : (Builtin.len_ #[208] ty #[.map (some b)]).run Tryd.prog w = .ok (.int .i64 (cntSt xs)) w := by
  obtain ⟨D, hown, _, _, hs⟩ := h
  rw [← hs]
  exact hown.len Tryd.underlying208 ty
theorem StSet.at {w w' : World} {b : Nat} {xs : List St} (h : StSet w b xs) (hb : w'.heap[b]? = w.heap[b]?) : StSet w' b xs := by
  obtain ⟨D, ⟨es, clock, hc, F, hs, hD⟩, r⟩ := h
  exact ⟨D, ⟨es, clock, hb.trans hc, F, hs, hD⟩, r⟩
theorem StSet.lt {w : World} {b : Nat} {xs : List St} (h : StSet w b xs) : b < w.heap.size := by
  obtain ⟨D, hown, _⟩ := h
  exact Go.World.ownsMap.lt hown
/-- All three differ. -/
def isC (x y z : St) : Bool := !(eqSt x y) && (!(eqSt x z) && !(eqSt y z))
theorem eqSt_comm (x y : St) : eqSt x y = eqSt y x := by
  cases h : eqSt x y
  · cases k : eqSt y x
    · rfl
    · rw [eqSt_iff.1 k, eqSt_iff.2 rfl] at h; cases h
  · rw [eqSt_iff.1 h]; exact (eqSt_iff.2 rfl).symm
theorem cnt3 (x y z : St) : (((cntSt [x, y, z] : Nat) : Int) == 3) = isC x y z := by
  unfold isC cntSt cntSt cntSt cntSt
  simp only [List.any_cons, List.any_nil, Bool.or_false]
  cases h1 : eqSt x y <;> cases h2 : eqSt x z <;> cases h3 : eqSt y z <;> simp
end Go.Proofs.YtbmjghkdhhcffaaDoor
