/- Masks as keys of a map: the law, and the key that a mask makes. -/
import Derived.Test.YtanocllpmjhblaaGrp
import Derived.DeepKeys4
namespace Go.Proofs.Ytanocllpmjhblaa
open Go.ChangeShapes Go.WideShapes Go.ChangeAt Go.RowKit

/-- The key that a mask makes. -/
def keyM (x y : Int) : Lit := .string (keyBytes [.int .u64 x, .int .u64 y])
theorem lit_u64 {a : Int} (h : U64 a) : (Lit.int .u64 a).wf = true := by
  simp [Lit.wf, IntKind.min, IntKind.max, IntKind.signed, IntKind.bits]
  exact ⟨h.1, by have := h.2; omega⟩
theorem lits_u64 (P : Program) (t : TypeId) (ht : P.underlying t = some (.int .u64)) (d : Nat) (a : Int) (ha : U64 a) : P.keyLits (d + 1) t [.int .u64 a] = some [.int .u64 a] := by
  unfold Program.keyLits; simp only [ht]; rw [if_pos ⟨trivial, lit_u64 ha⟩]
set_option maxRecDepth 100000 in
theorem keyOf_mask (x y : Int) (hx : U64 x) (hy : U64 y) : keyOf Try.prog 53 (.agg #[.int .u64 x, .int .u64 y]) = some (keyM x y) := by
  obtain ⟨m, hm⟩ : ∃ m, Try.prog.types.size = m + 1 := ⟨Try.prog.types.size - 1, by have : 0 < Try.prog.types.size := of_decide_eq_true (by kernel_rfl); omega⟩
  have ks : Try.prog.keyType 53 = true := by kernel_rfl
  have c2 : Try.prog.cellsOf 53 = 2 := by kernel_rfl
  have ci : Try.prog.cellsOf 49 = 1 := by kernel_rfl
  have ui := Try.underlying49
  have ue := Try.underlying53
  have l1 := lits_u64 Try.prog 49 ui m x hx
  have l2 := lits_u64 Try.prog 49 ui m y hy
  unfold keyM keyOf
  simp only [ue, ks, Value.formed, c2, hm]
  unfold Program.keyLits
  simp only [ue, c2]
  simp [Value.cells, ci]
  refine ⟨[[.int .u64 x], [.int .u64 y]], ?_, rfl⟩
  rw [show List.range 2 = [0, 1] from rfl]
  simp [l1, l2]
theorem mask_law : WideMaps.KeyLaw Try.prog 53 := deep_law_laid laidOut (m := 2) (by omega) (of_decide_eq_true (by kernel_rfl)) (by kernel_rfl) (by kernel_rfl)
theorem keyM_inj {x y u v : Int} (hx : U64 x) (hy : U64 y) (hu : U64 u) (hv : U64 v) (h : keyM x y = keyM u v) : x = u ∧ y = v := by
  have := mask_law.inj (keyOf_mask x y hx hy) (h ▸ keyOf_mask u v hu hv)
  simpa using this
end Go.Proofs.Ytanocllpmjhblaa
