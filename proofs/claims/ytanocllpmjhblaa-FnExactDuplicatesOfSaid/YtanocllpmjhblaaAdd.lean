/- Contracts: AddWords, the program's and the model's. -/
import Derived.Test.YtanocllpmjhblaaAsk
namespace Go.Proofs.Ytanocllpmjhblaa
open Go.ChangeShapes Go.WideShapes Go.ChangeAt Go.RowKit

/-- Three boxes: a mix, a mask, the answer's mask, still empty. -/
def R3 (w wr : World) (t z p a b : Int) : Prop :=
  wr.heap[w.heap.size]? = some (.cells #[.int .i16 t, .int .i16 z, .int .i16 p] 30 (0, 0)) ∧ wr.heap[w.heap.size + 1]? = some (.cells #[.int .u64 a, .int .u64 b] 53 (0, 0)) ∧ wr.heap[w.heap.size + 2]? = some (.cells #[.int .u64 0, .int .u64 0] 53 (0, 0)) ∧ Below w.heap.size w wr
theorem r3_ab {w wr w' : World} {t z p a b : Int} (h : R3 w wr t z p a b) (k : Below wr.heap.size wr w') : R3 w w' t z p a b :=
  ⟨Ab.block k h.1, Ab.block k h.2.1, Ab.block k h.2.2.1, h.2.2.2.trans (Below.mono k h.2.2.2.size)⟩
theorem r3_start (w : World) (t z p a b : Int) : R3 w (((w.alloc (.cells #[.int .i16 t, .int .i16 z, .int .i16 p] 30)).alloc (.cells #[.int .u64 a, .int .u64 b] 53)).alloc (.cells #[.int .u64 0, .int .u64 0] 53)) t z p a b :=
  ⟨(block_alloc3 _ _ _ _).1, (block_alloc3 _ _ _ _).2.1, (block_alloc3 _ _ _ _).2.2, (by repeat' (first | (with_reducible exact Below.refl _ _) | (with_reducible assumption) | (with_reducible refine below_drewN ?_ _) | (with_reducible refine Below.drew ?_) | (with_reducible refine below_new ?_ _) | (with_reducible refine below_next ?_ (by with_reducible assumption)) | (with_reducible refine Below.setCell ?_ ?_ _) | go_size))⟩

def addV (c x y : Int) : Value := .tuple #[.agg #[.int .u64 (if c = 0 then x else 0), .int .u64 (if c = 0 then y else 0)], .int .i64 c]
def AX (a t z : Int) (F : Int → Nat) (zs : List ByteArray) : Int := bits .or .u64 a (A0 t z F zs zs.length : Int)
def AY (b t z : Int) (F : Int → Nat) (zs : List ByteArray) : Int := bits .or .u64 b (A1 t z F zs zs.length : Int)
theorem iJoin_below (a b c d : Int) (w : World) : Calls Try.prog 107 #[.agg #[.int .u64 a, .int .u64 b], .agg #[.int .u64 c, .int .u64 d]] w fun e w' => e = .returned (.agg #[.int .u64 (bits .or .u64 a c), .int .u64 (bits .or .u64 b d)]) ∧ Below w.heap.size w w' :=
  (iJoin_any a b c d w).mono fun e w' ⟨he, hw⟩ => ⟨he, by subst hw; exact (by repeat' (first | (with_reducible exact Below.refl _ _) | (with_reducible assumption) | (with_reducible refine below_drewN ?_ _) | (with_reducible refine Below.drew ?_) | (with_reducible refine below_new ?_ _) | (with_reducible refine below_next ?_ (by with_reducible assumption)) | (with_reducible refine Below.setCell ?_ ?_ _) | go_size))⟩
theorem mOk1 (a b : Int) : masksOk [(a, b)] = mOk b := by unfold masksOk; simp
theorem add_1 (a b : Int) (zs : List ByteArray) (m : Nat) : askC false [(a, b)] zs m = 1 := rfl
theorem add_2 {b : Int} (a : Int) (zs : List ByteArray) (m : Nat) (h : mOk b = false) : askC true [(a, b)] zs m = 1 := ask_2 zs m (by rw [mOk1, h])
theorem add_3 {b : Int} (a : Int) (zs : List ByteArray) (m : Nat) (h : mOk b = true) : askC true [(a, b)] zs m = wordsC zs m := ask_4 zs m (by rw [mOk1, h]) (by simp)
theorem ret_v {x y : Value} (h : x = y) : Ending.returned y = .returned x := by rw [h]


/-- A slice of one mask that the call has made. -/
theorem masks_one {w : World} {b : Nat} {x y : Int} {ty : TypeId} (h : w.heap[b]? = some (.cells #[.int .u64 x, .int .u64 y] ty (0, 0))) : MasksIn w (some ⟨b, 0, none⟩) [(x, y)] := fun i hi => by
  have hi0 : i = 0 := by simp at hi; omega
  subst hi0
  exact ⟨b, 0, rfl, lt_of_block h, by simpa using cell_of_block h 0, by simpa using cell_of_block h 1⟩

theorem addV_no {c x y : Int} (h : c ≠ 0) : addV c x y = .tuple #[.agg #[.int .u64 0, .int .u64 0], .int .i64 c] := by unfold addV; rw [if_neg h, if_neg h]
theorem addV_yes (x y : Int) : addV 0 x y = .tuple #[.agg #[.int .u64 x, .int .u64 y], .int .i64 0] := rfl
theorem ask_ok {ok : Bool} {ms : List (Int × Int)} {zs : List ByteArray} {m : Nat} (h : askC ok ms zs m = 0) : ok = true := by
  cases ok
  · exact absurd h (by rw [ask_1]; decide)
  · rfl

end Go.Proofs.Ytanocllpmjhblaa
