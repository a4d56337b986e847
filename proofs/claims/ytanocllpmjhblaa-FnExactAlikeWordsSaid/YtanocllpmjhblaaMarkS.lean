/- The laws' mark on a list of texts of the call's own: nothing lies otherwise afterwards but the list's own block. -/
import Derived.Test.YtanocllpmjhblaaMarkT
import Derived.Test.YtanocllpmjhblaaOth
import Derived.Deep.DeepCutAuto
namespace Go.Proofs.Ytanocllpmjhblaa
open Go.ChangeShapes Go.WideShapes Go.ChangeAt Go.RowKit

set_option maxRecDepth 100000 in
set_option maxHeartbeats 1600000 in
theorem markStrs_any (n g k c : Nat) (w : World) (hW0 : Wb w g n) (hg : g < w.heap.size) (hk : k + n ≤ 4000000) :
    Calls Try.prog 16 #[.slice (some ⟨g, 0, none⟩) n c, .int .i64 (k : Int)] w fun e w' => e = .returned (.int .i64 ((k + n : Nat) : Int)) ∧ Oth g w w' := by
  have W0 := Lib.hid hW0
  clear hW0
  go_enter Try.func16, Try.ntmps16
  go_wp2
  go_loopw [1, 5] (fun q i wr => ∃ j q0 : Nat, j ≤ n ∧ i = .int .i64 j ∧ q = .int .i64 (q0 : Int) ∧ q0 = k + j ∧ Wb wr g n ∧ Oth g w wr) (fun _ i _ => n - (intOf i).toNat)
  case atStart => exact ⟨0, k, Nat.zero_le _, rfl, rfl, rfl, W0.out, Oth.refl _ _⟩
  case round =>
    obtain ⟨j, q0, hj, rfl, rfl, hq, hW, hO⟩ := hrel
    have Q := Lib.hid hq
    have WW := Lib.hid hW
    have OO := Lib.hid hO
    have gl : g < wr.heap.size := Nat.lt_of_lt_of_le hg hO.size
    by_cases hkl : j < n
    · have hd : decide ((j : Int) < (n : Int)) = true := by simpa using hkl
      have qb : q0 ≤ 4000000 := by omega
      have i1 : (0 : Int) ≤ (j : Int) := by omega
      have i2 : (j : Int) < (n : Int) := by omega
      obtain ⟨y0, r0⟩ := hW.1 j hkl
      have FZ := Lib.hid (hW.2 j hkl)
      have R0 := Lib.hid r0
      have K := Lib.hid fun W => markText_any q0 qb W
      have x1 : IntKind.i64.wrap ((q0 : Int) + 1) = (q0 : Int) + 1 := IntWalk.i64_in _ (by omega)
      clear hq hW hO r0
      go_wp2_with (go_at_call 58; refine (K.out _).mono ?_; rintro e w2 ⟨⟨s, rfl⟩, hB⟩; have t0 := (hB.cell (p := ⟨g, j, none⟩) gl).trans R0.out; have u := (hB.frozen (p := ⟨g, j, none⟩) gl).trans FZ.out; have W2 := Lib.hid (WW.out.below hB gl); have O2 := Lib.hid (OO.out.trans (Oth.of hB)); clear hB)
      exact ⟨⟨j + 1, q0 + 1, hkl, by rw [Int.natCast_succ], by congr 1, by have := Q.out; omega, W2.out.set _ hkl _, O2.out.set _ _⟩, by (simp [intOf]) <;> omega⟩
    · have e : j = n := by omega
      subst e
      have hd : decide ((j : Int) < (j : Int)) = false := by simp
      clear hW hO
      have hq2 := hq
      subst hq2
      clear hq
      go_wp2
      go_ret
      exact ⟨rfl, OO.out⟩
end Go.Proofs.Ytanocllpmjhblaa
