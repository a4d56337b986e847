/- Contracts: the edits that undo one of each kind, the program's. -/
import Derived.Test.YtpgonfeobfefaaaEdUS
import Derived.Test.YtpgonfeobfefaaaFloat
namespace Go.Proofs.Ytpgonfeobfefaaa
open Go.ChangeShapes Go.WideShapes Go.ChangeAt Go.RowKit

set_option maxHeartbeats 800000 in
theorem iAs_any (k : Int) (s : ByteArray) (h a b q : Int) (w : World) :
    Calls Try.prog 193 #[.agg #[.int .i8 k, .string s, .int .i16 h, .int .u64 a, .int .u64 b], .int .i8 q] w fun e w' => e = .returned (.agg #[.int .i8 q, .string s, .int .i16 h, .int .u64 a, .int .u64 b]) ∧ Below w.heap.size w w' := by
  go_enter Try.func193, Try.ntmps193
  go_wp2
  go_returns
  exact ⟨rfl, (by repeat' (first | (with_reducible exact Below.refl _ _) | (with_reducible assumption) | (with_reducible refine below_drewN ?_ _) | (with_reducible refine Below.drew ?_) | (with_reducible refine below_new ?_ _) | (with_reducible refine below_next ?_ (by with_reducible assumption)) | (with_reducible refine Below.setCell ?_ ?_ _) | go_size))⟩

set_option maxHeartbeats 800000 in
theorem iUndone_addition (k : Int) (s : ByteArray) (h a b : Int) (w : World) :
    Calls Try.prog 192 #[.agg #[.int .i8 k, .string s, .int .i16 h, .int .u64 a, .int .u64 b]] w fun e w' => e = .returned (.agg #[.int .i8 2, .string s, .int .i16 h, .int .u64 a, .int .u64 b]) ∧ Below w.heap.size w w' := by
  have HB := Lib.hid (block_alloc2 w (.cells #[.int .i8 k, .string s, .int .i16 h, .int .u64 a, .int .u64 b] 158) (.cells #[.int .i8 0, .string ByteArray.empty, .int .i16 0, .int .u64 0, .int .u64 0] 86))
  have KK := Lib.hid (below_new (below_new (Below.refl w.heap.size w) (.cells #[.int .i8 k, .string s, .int .i16 h, .int .u64 a, .int .u64 b] 158)) (.cells #[.int .i8 0, .string ByteArray.empty, .int .i16 0, .int .u64 0, .int .u64 0] 86))
  go_enter Try.func192, Try.ntmps192
  go_wp2_with (go_at_call 193; refine (iAs_any _ _ _ _ _ _ _).mono ?_; rintro e w1 ⟨rfl, hB⟩; have B1 := Lib.hid (KK.out.trans (Below.mono hB KK.out.size)); have m1 := Ab.block hB HB.out.2; have x1 := cell_of_block m1; have f1 := free_of_block m1; clear hB m1)
  refine bodyPost_ret (by simp [results, Try.results192, go_sem, x1]; try rfl) rfl ?_
  exact ⟨rfl, ((((B1.out.setCell (by simp) _).setCell (by simp) _).setCell (by simp) _).setCell (by simp) _).setCell (by simp) _⟩

set_option maxHeartbeats 800000 in
theorem iUndone_removal (k : Int) (s : ByteArray) (h a b : Int) (w : World) :
    Calls Try.prog 195 #[.agg #[.int .i8 k, .string s, .int .i16 h, .int .u64 a, .int .u64 b]] w fun e w' => e = .returned (.agg #[.int .i8 1, .string s, .int .i16 h, .int .u64 a, .int .u64 b]) ∧ Below w.heap.size w w' := by
  have HB := Lib.hid (block_alloc2 w (.cells #[.int .i8 k, .string s, .int .i16 h, .int .u64 a, .int .u64 b] 159) (.cells #[.int .i8 0, .string ByteArray.empty, .int .i16 0, .int .u64 0, .int .u64 0] 86))
  have KK := Lib.hid (below_new (below_new (Below.refl w.heap.size w) (.cells #[.int .i8 k, .string s, .int .i16 h, .int .u64 a, .int .u64 b] 159)) (.cells #[.int .i8 0, .string ByteArray.empty, .int .i16 0, .int .u64 0, .int .u64 0] 86))
  go_enter Try.func195, Try.ntmps195
  go_wp2_with (go_at_call 193; refine (iAs_any _ _ _ _ _ _ _).mono ?_; rintro e w1 ⟨rfl, hB⟩; have B1 := Lib.hid (KK.out.trans (Below.mono hB KK.out.size)); have m1 := Ab.block hB HB.out.2; have x1 := cell_of_block m1; have f1 := free_of_block m1; clear hB m1)
  refine bodyPost_ret (by simp [results, Try.results195, go_sem, x1]; try rfl) rfl ?_
  exact ⟨rfl, ((((B1.out.setCell (by simp) _).setCell (by simp) _).setCell (by simp) _).setCell (by simp) _).setCell (by simp) _⟩

set_option maxHeartbeats 800000 in
theorem iUndone_notching (k : Int) (s : ByteArray) (h a b : Int) (w : World) :
    Calls Try.prog 197 #[.agg #[.int .i8 k, .string s, .int .i16 h, .int .u64 a, .int .u64 b]] w fun e w' => e = .returned (.agg #[.int .i8 4, .string s, .int .i16 h, .int .u64 a, .int .u64 b]) ∧ Below w.heap.size w w' := by
  have HB := Lib.hid (block_alloc2 w (.cells #[.int .i8 k, .string s, .int .i16 h, .int .u64 a, .int .u64 b] 160) (.cells #[.int .i8 0, .string ByteArray.empty, .int .i16 0, .int .u64 0, .int .u64 0] 86))
  have KK := Lib.hid (below_new (below_new (Below.refl w.heap.size w) (.cells #[.int .i8 k, .string s, .int .i16 h, .int .u64 a, .int .u64 b] 160)) (.cells #[.int .i8 0, .string ByteArray.empty, .int .i16 0, .int .u64 0, .int .u64 0] 86))
  go_enter Try.func197, Try.ntmps197
  go_wp2_with (go_at_call 193; refine (iAs_any _ _ _ _ _ _ _).mono ?_; rintro e w1 ⟨rfl, hB⟩; have B1 := Lib.hid (KK.out.trans (Below.mono hB KK.out.size)); have m1 := Ab.block hB HB.out.2; have x1 := cell_of_block m1; have f1 := free_of_block m1; clear hB m1)
  refine bodyPost_ret (by simp [results, Try.results197, go_sem, x1]; try rfl) rfl ?_
  exact ⟨rfl, ((((B1.out.setCell (by simp) _).setCell (by simp) _).setCell (by simp) _).setCell (by simp) _).setCell (by simp) _⟩

set_option maxHeartbeats 800000 in
theorem iUndone_filling (k : Int) (s : ByteArray) (h a b : Int) (w : World) :
    Calls Try.prog 199 #[.agg #[.int .i8 k, .string s, .int .i16 h, .int .u64 a, .int .u64 b]] w fun e w' => e = .returned (.agg #[.int .i8 3, .string s, .int .i16 h, .int .u64 a, .int .u64 b]) ∧ Below w.heap.size w w' := by
  have HB := Lib.hid (block_alloc2 w (.cells #[.int .i8 k, .string s, .int .i16 h, .int .u64 a, .int .u64 b] 161) (.cells #[.int .i8 0, .string ByteArray.empty, .int .i16 0, .int .u64 0, .int .u64 0] 86))
  have KK := Lib.hid (below_new (below_new (Below.refl w.heap.size w) (.cells #[.int .i8 k, .string s, .int .i16 h, .int .u64 a, .int .u64 b] 161)) (.cells #[.int .i8 0, .string ByteArray.empty, .int .i16 0, .int .u64 0, .int .u64 0] 86))
  go_enter Try.func199, Try.ntmps199
  go_wp2_with (go_at_call 193; refine (iAs_any _ _ _ _ _ _ _).mono ?_; rintro e w1 ⟨rfl, hB⟩; have B1 := Lib.hid (KK.out.trans (Below.mono hB KK.out.size)); have m1 := Ab.block hB HB.out.2; have x1 := cell_of_block m1; have f1 := free_of_block m1; clear hB m1)
  refine bodyPost_ret (by simp [results, Try.results199, go_sem, x1]; try rfl) rfl ?_
  exact ⟨rfl, ((((B1.out.setCell (by simp) _).setCell (by simp) _).setCell (by simp) _).setCell (by simp) _).setCell (by simp) _⟩
end Go.Proofs.Ytpgonfeobfefaaa
