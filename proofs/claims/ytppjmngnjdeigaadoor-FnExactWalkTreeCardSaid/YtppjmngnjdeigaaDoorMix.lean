/- Contracts: mixes carried over; is a mix valid, as the program says and as the model does. -/
import Derived.Test.YtppjmngnjdeigaaDoorQuiet
import Derived.Test.YtppjmngnjdeigaaDoorFloat
namespace Go.Proofs.YtppjmngnjdeigaaDoor
open Go.ChangeShapes Go.WideShapes Go.ChangeAt Go.RowKit

theorem open_mix {P : Program} {w : World} {r : Reach} {base : Nat} {t : TypeId} {v : Value} {f0 f1 f2 : Field} {e : TypeId} (hu : P.underlying t = some (.struct #[f0, f1, f2])) (he : P.underlying e = some (.int .i16)) (hts : P.cellTypes P.depth t = some [e, e, e]) (hc : P.cellsOf t = 3)
    (h : Value.okWide P w r base t v) : ∃ a b c : Int, v = .agg #[.int .i16 a, .int .i16 b, .int .i16 c] ∧ I16 a ∧ I16 b ∧ I16 c := by
  obtain ⟨cs, rfl, hsz, hcell⟩ := open_cells ⟨_, hu, .inl ⟨_, rfl⟩⟩ hts hc h
  obtain ⟨c0, c1, c2, rfl⟩ := Go.Joins.array3 hsz
  obtain ⟨a, rfl, a1, a2⟩ := cell_int he (hcell 0 c0 e rfl rfl)
  obtain ⟨b, rfl, b1, b2⟩ := cell_int he (hcell 1 c1 e rfl rfl)
  obtain ⟨c, rfl, d1, d2⟩ := cell_int he (hcell 2 c2 e rfl rfl)
  simp [IntKind.min, IntKind.max, IntKind.signed, IntKind.bits] at a1 a2 b1 b2 d1 d2
  exact ⟨a, b, c, rfl, ⟨by omega, by omega⟩, ⟨by omega, by omega⟩, ⟨by omega, by omega⟩⟩


def mostP (z : Int) : Int := if 8 ≤ z / 2 then 8 else z / 2
def mixOk (t z p : Int) : Bool := decide (0 ≤ t ∧ 4 ≤ z ∧ t + z ≤ 96 ∧ 1 ≤ p ∧ p ≤ 8 ∧ 2 * p ≤ z)
theorem mix_yes {t z p : Int} (h : 0 ≤ t ∧ 4 ≤ z ∧ t + z ≤ 96 ∧ 1 ≤ p ∧ p ≤ 8 ∧ 2 * p ≤ z) : mixOk t z p = true := by unfold mixOk; simpa using h
theorem mix_no {t z p : Int} (h : ¬ (0 ≤ t ∧ 4 ≤ z ∧ t + z ≤ 96 ∧ 1 ≤ p ∧ p ≤ 8 ∧ 2 * p ≤ z)) : mixOk t z p = false := by unfold mixOk; exact decide_eq_false h
theorem mix_inv {t z p : Int} (h : mixOk t z p = true) : 0 ≤ t ∧ 4 ≤ z ∧ t + z ≤ 96 ∧ 1 ≤ p ∧ p ≤ 8 ∧ 2 * p ≤ z := by unfold mixOk at h; simpa using h
theorem ret_b {x y : Bool} (h : x = y) : Ending.returned (.bool y) = .returned (.bool x) := by rw [h]

theorem i16_in (n : Int) (h : -32768 ≤ n ∧ n ≤ 32767) : IntKind.i16.wrap n = n := by
  unfold IntKind.wrap
  simp [IntKind.bits, IntKind.signed]
  omega

theorem sInM_any (x lo hi : Int) (w : World) :
    Calls Tryd.prog 57 #[.int .i64 x, .int .i64 lo, .int .i64 hi] w fun e w' => e = .returned (.bool (decide (lo ≤ x ∧ x ≤ hi))) ∧ w = w' := by
  by_cases h : lo ≤ x
  · have d : decide (lo ≤ x) = true := by simp [h]
    have e : decide (lo ≤ x ∧ x ≤ hi) = decide (x ≤ hi) := by simp [h]
    rw [e]
    clear e
    go_enter Tryd.func57, Tryd.ntmps57
    go_wp2
    go_returns
    exact ⟨rfl, rfl⟩
  · have d : decide (lo ≤ x) = false := by simp [h]
    have e : decide (lo ≤ x ∧ x ≤ hi) = false := by simp [h]
    rw [e]
    clear e
    go_enter Tryd.func57, Tryd.ntmps57
    go_wp2
    go_returns
    exact ⟨rfl, rfl⟩
theorem sInM_t {x lo hi : Int} (h : lo ≤ x ∧ x ≤ hi) (w : World) :
    Calls Tryd.prog 57 #[.int .i64 x, .int .i64 lo, .int .i64 hi] w fun e w' => e = .returned (.bool true) ∧ w = w' := by
  have := sInM_any x lo hi w
  rwa [decide_eq_true h] at this
theorem sInM_f {x lo hi : Int} (h : ¬ (lo ≤ x ∧ x ≤ hi)) (w : World) :
    Calls Tryd.prog 57 #[.int .i64 x, .int .i64 lo, .int .i64 hi] w fun e w' => e = .returned (.bool false) ∧ w = w' := by
  have := sInM_any x lo hi w
  rwa [decide_eq_false h] at this
end Go.Proofs.YtppjmngnjdeigaaDoor
