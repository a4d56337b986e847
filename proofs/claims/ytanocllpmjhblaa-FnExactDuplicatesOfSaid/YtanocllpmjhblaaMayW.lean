/- Contracts: MaybeWords, the program's and the model's. -/
import Derived.Test.YtanocllpmjhblaaMayI
namespace Go.Proofs.Ytanocllpmjhblaa
open Go.ChangeShapes Go.WideShapes Go.ChangeAt Go.RowKit

/-- A list of numbers of the call's own, and a code. -/
def MwR (c : Int) (xs : List Int) (w : World) (e : Ending) (w' : World) : Prop := ∃ v, e = .returned (.tuple #[v, .int .i64 c]) ∧ OwnInts w.heap.size xs v w' ∧ Below w.heap.size w w'
theorem ask_words {ok : Bool} {ms : List (Int × Int)} {zs : List ByteArray} {m : Nat} (h : askC ok ms zs m = 0) : zs.length ≤ m := by
  refine Nat.le_of_not_lt fun e => ?_
  unfold askC wordsC at h
  rw [words_long e] at h
  split at h
  · split at h
    · split at h <;> exact absurd h (by decide)
    · exact absurd h (by decide)
  · exact absurd h (by decide)


/-- Two boxes of the call's own: a mix, a mask. -/
def Rw (w wr : World) (t z p a b : Int) : Prop :=
  wr.heap[w.heap.size]? = some (.cells #[.int .i16 t, .int .i16 z, .int .i16 p] 30 (0, 0)) ∧ wr.heap[w.heap.size + 1]? = some (.cells #[.int .u64 a, .int .u64 b] 53 (0, 0)) ∧ Below w.heap.size w wr
theorem rw_ab {w wr w' : World} {t z p a b : Int} (h : Rw w wr t z p a b) (k : Below wr.heap.size wr w') : Rw w w' t z p a b :=
  ⟨Ab.block k h.1, Ab.block k h.2.1, h.2.2.trans (Below.mono k h.2.2.size)⟩
theorem rw_start (w : World) (t z p a b : Int) : Rw w ((w.alloc (.cells #[.int .i16 t, .int .i16 z, .int .i16 p] 30)).alloc (.cells #[.int .u64 a, .int .u64 b] 53)) t z p a b :=
  ⟨(block_alloc2 _ _ _).1, (block_alloc2 _ _ _).2, Ab.trans (ab_new _ _) (ab_new _ _)⟩

end Go.Proofs.Ytanocllpmjhblaa
