/- The chance of a false drop: the program's way and the model's. -/
import Derived.Test.YtdbkplfkilaoeabMix
import Derived.Deep.DeepCutAuto
namespace Go.Proofs.Ytdbkplfkilaoeab
open Go.ChangeShapes Go.WideShapes Go.ChangeAt Go.RowKit

/-- The chance, in billionths, that what has the chance p in q comes k times, rounded down each time. -/
def ch (p q : Int) : Nat → Int
  | 0 => 1000000000
  | k + 1 => ch p q k * p / q
theorem ch_zero (p q : Int) : ch p q 0 = 1000000000 := by unfold ch; rfl
theorem ch_next (p q : Int) (k : Nat) : ch p q (k + 1) = ch p q k * p / q := by rw [ch]
theorem ch_in {p q : Int} (h0 : 0 ≤ p) (h1 : p ≤ q) (h2 : 0 < q) : ∀ k, 0 ≤ ch p q k ∧ ch p q k ≤ 1000000000
  | 0 => by rw [ch_zero]; omega
  | k + 1 => by
    obtain ⟨a, b⟩ := ch_in h0 h1 h2 k
    rw [ch_next]
    refine ⟨Int.ediv_nonneg (Int.mul_nonneg a h0) (by omega), ?_⟩
    have h3 : ch p q k * p ≤ ch p q k * q := Int.mul_le_mul_of_nonneg_left h1 a
    have h4 : ch p q k * p / q ≤ ch p q k := Int.ediv_le_of_le_mul h2 h3
    omega
theorem ch_mul {p q : Int} (h0 : 0 ≤ p) (h1 : p ≤ q) (h2 : 0 < q) (h3 : q ≤ 1000000000) (k : Nat) : 0 ≤ ch p q k * p ∧ ch p q k * p ≤ 1000000000000000000 := by
  obtain ⟨a, b⟩ := ch_in h0 h1 h2 k
  refine ⟨Int.mul_nonneg a h0, ?_⟩
  have h4 : ch p q k * p ≤ 1000000000 * 1000000000 := Int.mul_le_mul b (by omega) h0 (by decide)
  omega
/-- The chance of a false drop: z holes, p a word, W words kept, A asked. -/
def fcV (z : Int) (p W A : Nat) : Int := ch (1000000000 - ch (z - (p : Int)) z W) 1000000000 (p * A)

theorem iChance_any (p q n : Int) (k : Nat) (hn : n = k) (hk : k ≤ 1200) (h0 : 0 ≤ p) (h1 : p ≤ q) (h2 : 0 < q) (h3 : q ≤ 1000000000) (w : World) :
    Calls Try.prog 40 #[.int .i64 p, .int .i64 q, .int .i64 n] w fun e w' => e = .returned (.int .i64 (ch p q k)) ∧ Below w.heap.size w w' := by
  subst hn
  have IN := Lib.hid fun j => ch_mul h0 h1 h2 h3 j
  have Z := Lib.hid (ch_zero p q)
  have NX := Lib.hid fun j => ch_next p q j
  go_enter Try.func40, Try.ntmps40
  go_wp2
  go_loopw [7, 9] (fun x i wr => ∃ j : Nat, j ≤ k ∧ i = .int .i64 (j : Int) ∧ x = .int .i64 (ch p q j) ∧ Below w.heap.size w wr) (fun _ i _ => k - (intOf i).toNat)
  case atStart => exact ⟨0, Nat.zero_le _, rfl, by rw [Z.out], Below.refl _ _⟩
  case round =>
    obtain ⟨j, hj, rfl, rfl, hB⟩ := hrel
    have BB := Lib.hid hB
    clear hB
    by_cases hl : j < k
    · have d1 : decide ((j : Int) < (k : Int)) = true := decide_eq_true (by omega)
      obtain ⟨b0, b1⟩ := IN.out j
      have e := NX.out j
      have E := Lib.hid e
      have w1 : IntKind.i64.wrap (ch p q j * p) = ch p q j * p := IntWalk.i64_in _ (by omega)
      clear e
      generalize ch p q j = c at *
      generalize hm : c * p = m at *
      go_wp2
      exact ⟨⟨j + 1, by omega, by rw [Int.natCast_succ], by rw [E.out], BB.out⟩, by simp [intOf]; omega⟩
    · obtain rfl : j = k := by omega
      have d1 : decide ((j : Int) < (j : Int)) = false := by simp
      go_wp2
      go_returns
      exact ⟨rfl, BB.out⟩
end Go.Proofs.Ytdbkplfkilaoeab
