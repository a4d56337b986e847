/- '==' between two cards. -/
import Derived.Test.YtpkpjkceiikakaaDoorBase
import Derived.Laws.StructEq
import Derived.KernelRfl
namespace Go.Proofs.YtpkpjkceiikakaaDoor
open Go.ChangeShapes Go.WideShapes Go.ChangeAt Go.RowKit

theorem eq_mask9 (a b c d : Int) (w : World) : (Op.equalIn 9999 31 (.agg #[.int .u64 a, .int .u64 b]) (.agg #[.int .u64 c, .int .u64 d])).run Tryd.prog w = .ok (a == c && b == d) w := by
  have u3 := Tryd.underlying29
  have a3 := Tryd.isAgg29
  have z3 := Tryd.sizeOf29
  rw [show (9999 : Nat) = 9998 + 1 from rfl, Op.equalIn]
  simp only [Sem.run_bind, run_underlying Tryd.underlying31, Result.andThen_ok]
  simp only [Std.Legacy.Range.forIn_eq_forIn_range', Std.Legacy.Range.size, Nat.sub_zero, Nat.add_sub_cancel, Nat.div_one, List.range'_succ, List.range'_zero, List.forIn_cons, List.forIn_nil]
  go_simp
  by_cases h1 : a = c <;> by_cases h2 : b = d <;> simp [h1, h2]

theorem eq_card (s t : ByteArray) (a b c d : Int) (w : World) : (Op.equalIn 10000 33 (.agg #[.string s, .int .u64 a, .int .u64 b]) (.agg #[.string t, .int .u64 c, .int .u64 d])).run Tryd.prog w = .ok (s == t && (a == c && b == d)) w := by
  have us := Tryd.underlying9
  have ag := Tryd.isAgg9
  have zs := Tryd.sizeOf9
  have am := Tryd.isAgg31
  have zm := Tryd.sizeOf31
  have em := eq_mask9
  have hS : Tryd.prog.underlying 33 = some (.struct (Tryd.prog.fieldsOf 33)) := by kernel_rfl
  rw [show (10000 : Nat) = 9999 + 1 from rfl, run_equalIn_struct w 9999 33 _ _ hS (by kernel_rfl)]
  simp only [Program.fieldsOf, Tryd.underlying33]
  go_simp
  rw [beq_toListBytes]
  by_cases h0 : s.toList = t.toList <;> by_cases h1 : a = c <;> by_cases h2 : b = d <;> simp [h0, h1, h2]
end Go.Proofs.YtpkpjkceiikakaaDoor
