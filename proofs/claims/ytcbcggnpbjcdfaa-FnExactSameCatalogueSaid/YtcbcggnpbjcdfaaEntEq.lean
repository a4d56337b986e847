/- '==' between two entries. -/
import Derived.Test.YtcbcggnpbjcdfaaBase
import Derived.Laws.StructEq
import Derived.KernelRfl
namespace Go.Proofs.Ytcbcggnpbjcdfaa
open Go.ChangeShapes Go.WideShapes Go.ChangeAt Go.RowKit

theorem eq_entry (s t : ByteArray) (a b c d : Int) (w : World) : (Op.equalIn 10000 31 (.agg #[.string s, .int .i64 a, .int .i64 b]) (.agg #[.string t, .int .i64 c, .int .i64 d])).run Try.prog w = .ok (s == t && (a == c && b == d)) w := by
  have us := Try.underlying9
  have ag := Try.isAgg9
  have zs := Try.sizeOf9
  have ui := Try.underlying2
  have ai := Try.isAgg2
  have zi := Try.sizeOf2
  have hS : Try.prog.underlying 31 = some (.struct (Try.prog.fieldsOf 31)) := by kernel_rfl
  rw [show (10000 : Nat) = 9999 + 1 from rfl, run_equalIn_struct w 9999 31 _ _ hS (by kernel_rfl)]
  simp only [Program.fieldsOf, Try.underlying31]
  go_simp
  rw [beq_toListBytes]
  by_cases h0 : s.toList = t.toList <;> by_cases h1 : a = c <;> by_cases h2 : b = d <;> simp [h0, h1, h2]
end Go.Proofs.Ytcbcggnpbjcdfaa
