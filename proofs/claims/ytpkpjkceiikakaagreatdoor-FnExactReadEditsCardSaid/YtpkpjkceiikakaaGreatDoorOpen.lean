/- Arguments opened: queries. -/
import Derived.Test.YtpkpjkceiikakaaGreatDoorFrame
namespace Go.Proofs.YtpkpjkceiikakaaGreatDoor
open Go.ChangeShapes Go.WideShapes Go.ChangeAt Go.RowKit

theorem open_query {P : Program} {w : World} {r : Reach} {base : Nat} {t : TypeId} {v : Value} {f0 f1 : Field} {e : TypeId} (hu : P.underlying t = some (.struct #[f0, f1])) (he : P.underlying e = some (.int .u64)) (hts : P.cellTypes P.depth t = some [e, e, e, e]) (hc : P.cellsOf t = 4)
    (h : Value.okWide P w r base t v) : ∃ a b c d : Int, v = .agg #[.int .u64 a, .int .u64 b, .int .u64 c, .int .u64 d] ∧ U64 a ∧ U64 b ∧ U64 c ∧ U64 d := by
  obtain ⟨cs, rfl, hsz, hcell⟩ := open_cells ⟨_, hu, .inl ⟨_, rfl⟩⟩ hts hc h
  obtain ⟨c0, c1, c2, c3, rfl⟩ := Go.Joins.array4 hsz
  obtain ⟨a, rfl, ha⟩ := cell_u64 he (hcell 0 c0 e rfl rfl)
  obtain ⟨b, rfl, hb⟩ := cell_u64 he (hcell 1 c1 e rfl rfl)
  obtain ⟨c, rfl, hc⟩ := cell_u64 he (hcell 2 c2 e rfl rfl)
  obtain ⟨d, rfl, hd⟩ := cell_u64 he (hcell 3 c3 e rfl rfl)
  exact ⟨a, b, c, d, rfl, ⟨by omega, by omega⟩, ⟨by omega, by omega⟩, ⟨by omega, by omega⟩, ⟨by omega, by omega⟩⟩
end Go.Proofs.YtpkpjkceiikakaaGreatDoor
