/- Contracts: is a mix valid, as the program says and as the model does. -/
import Derived.Test.YtanocllpmjhblaaDoorMix
import Derived.Deep.DeepCutAuto
namespace Go.Proofs.YtanocllpmjhblaaDoor
open Go.ChangeShapes Go.WideShapes Go.ChangeAt Go.RowKit

theorem mostP_le {z p : Int} : p ≤ mostP z ↔ p ≤ 8 ∧ 2 * p ≤ z := by
  unfold mostP
  split <;> omega














end Go.Proofs.YtanocllpmjhblaaDoor