/- Contracts: a hole put into a mask behind a pointer, by the model. -/
import Derived.Test.YtllhglakihfjmaaDoorMix
import Derived.Test.YtllhglakihfjmaaDoorBit
import Derived.Deep.DeepCutAuto
namespace Go.Proofs.YtllhglakihfjmaaDoor
open Go.ChangeShapes Go.WideShapes Go.ChangeAt Go.RowKit

/-- One block has been written; all else of what there was is as it was. -/
structure Wr (w : World) (bk : Nat) (o : Obj) (w' : World) : Prop where
  os : w'.os = w.os
  tape : w'.tape = w.tape
  output : w'.output = w.output
  size : w.heap.size ≤ w'.heap.size
  block : ∀ k, k < w.heap.size → k ≠ bk → w'.heap[k]? = w.heap[k]?
  at_ : w'.heap[bk]? = some o

theorem Wr.below {w0 w w' : World} {b : Nat} {o : Obj} (h : Wr w b o w') (hb : w0.heap.size ≤ b) (kk : Below w0.heap.size w0 w) : Below w0.heap.size w0 w' :=
  kk.trans ⟨h.os, h.tape, h.output, h.size, fun i hi => h.block i (Nat.lt_of_lt_of_le hi kk.size) (by omega)⟩
theorem Wr.keeps {w w' : World} {b k : Nat} {o p : Obj} (h : Wr w b o w') (hk : k ≠ b) (hp : w.heap[k]? = some p) : w'.heap[k]? = some p := (h.block k (lt_of_block hp) hk).trans hp
theorem wr_of_ab {w w3 : World} {b j : Nat} {C : Array Value} {t : TypeId} {r : Nat × Nat} (v : Value) (h : Ab w w3) (hb : w3.heap[b]? = some (.cells C t r)) : Wr w b (.cells (C.setIfInBounds j v) t r) (w3.setCell ⟨b, j, none⟩ v) :=
  ⟨h.os, h.tape, h.output, Nat.le_trans h.size (by simp), fun k hk hne => (Below.heap_setCell _ _ _ _ hne).trans (Below.block h k hk), block_setCell v hb⟩



theorem or_zero (x : Int) (h : U64 x) : bits .or .u64 x 0 = x := by
  rw [Go.u64_or x 0 h.1 h.2 (by decide) (by decide)]
  obtain ⟨n, rfl⟩ := Int.eq_ofNat_of_zero_le h.1
  simp
theorem u64_or_in (x y : Int) (hx : U64 x) (hy : U64 y) : U64 (bits .or .u64 x y) := by
  rw [Go.u64_or x y hx.1 hx.2 hy.1 hy.2]
  obtain ⟨n, rfl⟩ := Int.eq_ofNat_of_zero_le hx.1
  obtain ⟨m, rfl⟩ := Int.eq_ofNat_of_zero_le hy.1
  have h1 := hx.2
  have h2 := hy.2
  have : n ||| m < 2 ^ 64 := Nat.or_lt_two_pow (by omega) (by omega)
  refine ⟨by simp, ?_⟩
  simp only [Int.toNat_natCast]
  omega

/-! ### The holes of a mix, gathered by the model -/
def ma (f : Int → Int) (s : Int) : Nat → Int
  | 0 => 0
  | k + 1 => bits .or .u64 (ma f s k) (f (s + k))
theorem ma_in (s : Int) (h0 : 0 ≤ s) : ∀ k : Nat, s + k ≤ 96 → U64 (ma b0 s k) ∧ U64 (ma b1 s k)
  | 0, _ => show U64 0 ∧ U64 0 from ⟨⟨by decide, by decide⟩, ⟨by decide, by decide⟩⟩
  | k + 1, h => by
    obtain ⟨a, b⟩ := ma_in s h0 k (by omega)
    exact ⟨u64_or_in _ _ a (u64_b0 _ (by omega)), u64_or_in _ _ b (u64_b1 _ (by omega))⟩

/-- The two boxes of a mask that is gathered: the answer's, still empty, and the mask's. -/
def PrR (w wr : World) (x y : Int) : Prop :=
  wr.heap[w.heap.size]? = some (.cells #[.int .u64 0, .int .u64 0] 28 (0, 0)) ∧ wr.heap[w.heap.size + 1]? = some (.cells #[.int .u64 x, .int .u64 y] 28 (0, 0)) ∧ Below w.heap.size w wr
theorem prR_next {w wr w' : World} {x y p q : Int} (h : PrR w wr x y) (k : Wr wr (w.heap.size + 1) (.cells #[.int .u64 p, .int .u64 q] 28 (0, 0)) w') : PrR w w' p q :=
  ⟨k.keeps (by omega) h.1, k.at_, k.below (by omega) h.2.2⟩

end Go.Proofs.YtllhglakihfjmaaDoor
