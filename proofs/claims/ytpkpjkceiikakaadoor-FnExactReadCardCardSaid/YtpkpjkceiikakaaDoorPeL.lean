/- The two errors of the library's reader of numbers, as a row lists them. -/
import Derived.Test.YtpkpjkceiikakaaDoorSpt
import Derived.Stop.LaidErr
import Derived.RowKitTokens
namespace Go.Proofs.YtpkpjkceiikakaaDoor
open Go.ChangeShapes Go.WideShapes Go.ChangeAt Go.RowKit

theorem pe_star : "*" ++ "errors.errorString" = "*errors.errorString" := by decide
theorem pe_row (u : TypeId) (h : Tryd.prog.typeName? 3 u = some "*errors.errorString") : u = 156 :=
  typeName_ptr_named (nm := "errors.errorString") (by rw [pe_star]; kernel_rfl) (by kernel_rfl) (by decide) u (by rw [pe_star]; exact h)
theorem pe_of_laid {x0 x1 x2 x3 : String × DataW Unit} {r : List (String × DataW Unit)} {t1 t2 : List UInt8} {W : World}
    (h : laidMet Tryd.prog (x0 :: x1 :: x2 :: x3 :: ("strconv.ErrRange", .iface "*errors.errorString" (.ptr (.agg [.lit (.string t1)]))) :: ("strconv.ErrSyntax", .iface "*errors.errorString" (.ptr (.agg [.lit (.string t2)]))) :: r) W) : PE W := by
  have h4 := h.tail.tail.tail.tail
  obtain ⟨a, _, v1, _⟩ := laid_sentinel (g := 3) h4 (by kernel_rfl) (by kernel_rfl) Tryd.underlying57 pe_row Tryd.underlying156 Tryd.underlying158 rfl rfl Tryd.underlying9 (by kernel_rfl) (by kernel_rfl)
  obtain ⟨b, _, v2, _⟩ := laid_sentinel (g := 2) h4.tail (by kernel_rfl) (by kernel_rfl) Tryd.underlying57 pe_row Tryd.underlying156 Tryd.underlying158 rfl rfl Tryd.underlying9 (by kernel_rfl) (by kernel_rfl)
  exact ⟨⟨_, _, v2⟩, ⟨_, _, v1⟩⟩
end Go.Proofs.YtpkpjkceiikakaaDoor
