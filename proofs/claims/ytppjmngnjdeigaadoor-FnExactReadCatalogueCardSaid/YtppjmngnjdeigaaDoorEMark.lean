/- The laws' mark on a deck of the call's own: nothing lies otherwise afterwards but the deck's own block. -/
import Derived.Test.YtppjmngnjdeigaaDoorMarkT
import Derived.Test.YtppjmngnjdeigaaDoorEnt3
import Derived.Test.YtppjmngnjdeigaaDoorOth
import Derived.Deep.DeepCutAuto
namespace Go.Proofs.YtppjmngnjdeigaaDoor
open Go.ChangeShapes Go.WideShapes Go.ChangeAt Go.RowKit

set_option maxRecDepth 100000 in
set_option maxHeartbeats 1600000 in
theorem markEnts_any (n g k c : Nat) (w : World) (hW0 : Wb w g (n * 3)) (hg : g < w.heap.size) (hk : k + 3 * n ≤ 4000000) :
    Calls Tryd.prog 22 #[.slice (some ⟨g, 0, none⟩) n c, .int .i64 (k : Int)] w fun e w' => e = .returned (.int .i64 ((k + 3 * n : Nat) : Int)) ∧ Oth g w w' := by
  have W0 := Lib.hid hW0
  clear hW0
  go_enter Tryd.func22, Tryd.ntmps22
  go_wp2
  go_loopw [1, 5] (fun q i wr => ∃ j q0 : Nat, j ≤ n ∧ i = .int .i64 j ∧ q = .int .i64 (q0 : Int) ∧ q0 = k + 3 * j ∧ Wb wr g (n * 3) ∧ Oth g w wr) (fun _ i _ => n - (intOf i).toNat)
  case atStart => exact ⟨0, k, Nat.zero_le _, rfl, rfl, by omega, W0.out, Oth.refl _ _⟩
  case round =>
    obtain ⟨j, q0, hj, rfl, rfl, hq, hW, hO⟩ := hrel
    have Q := Lib.hid hq
    have WW := Lib.hid hW
    have OO := Lib.hid hO
    have gl : g < wr.heap.size := Nat.lt_of_lt_of_le hg hO.size
    by_cases hkl : j < n
    · have hd : decide ((j : Int) < (n : Int)) = true := by simpa using hkl
      have qb : q0 ≤ 4000000 := by omega
      have i1 : (0 : Int) ≤ (j : Int) := by omega
      have i2 : (j : Int) < (n : Int) := by omega
      obtain ⟨y0, r0⟩ := hW.1 (j * 3) (by omega)
      obtain ⟨y1, r1⟩ := hW.1 (j * 3 + 1) (by omega)
      obtain ⟨y2, r2⟩ := hW.1 (j * 3 + 2) (by omega)
      have FZ := Lib.hid (fun j hj => (hW.2 j hj : wr.frozen? ⟨g, j, none⟩ = false))
      have R0 := Lib.hid r0
      have R1 := Lib.hid r1
      have R2 := Lib.hid r2
      have K := Lib.hid fun W => markText_any q0 qb W
      have x1 : IntKind.i64.wrap ((q0 : Int) + 1) = (q0 : Int) + 1 := IntWalk.i64_in _ (by omega)
      have x2 : IntKind.i64.wrap ((q0 : Int) + 1 + 1) = (q0 : Int) + 1 + 1 := IntWalk.i64_in _ (by omega)
      have x3 : IntKind.i64.wrap ((q0 : Int) + 1 + 1 + 1) = (q0 : Int) + 1 + 1 + 1 := IntWalk.i64_in _ (by omega)
      have x4 : IntKind.u64.wrap ((q0 : Int) + 1) = (q0 : Int) + 1 := IntWalk.u64_in _ (by omega)
      have x5 : IntKind.u64.wrap ((q0 : Int) + 1 + 1) = (q0 : Int) + 1 + 1 := IntWalk.u64_in _ (by omega)
      clear hq hW hO r0 r1 r2
      go_wp2_with (go_at_call 56; refine (K.out _).mono ?_; rintro e w2 ⟨⟨s, rfl⟩, hB⟩; have t0 := (hB.cell (p := ⟨g, j * 3, none⟩) gl).trans R0.out; have t1 := (hB.cell (p := ⟨g, j * 3 + 1, none⟩) gl).trans R1.out; have t2 := (hB.cell (p := ⟨g, j * 3 + 2, none⟩) gl).trans R2.out; have u0 := (hB.frozen (p := ⟨g, j * 3, none⟩) gl).trans (FZ.out _ (by omega)); have u1 := (hB.frozen (p := ⟨g, j * 3 + 1, none⟩) gl).trans (FZ.out _ (by omega)); have u2 := (hB.frozen (p := ⟨g, j * 3 + 2, none⟩) gl).trans (FZ.out _ (by omega)); have W2 := Lib.hid (WW.out.below hB gl); have O2 := Lib.hid (OO.out.trans (Oth.of hB)); clear hB)
      exact ⟨⟨j + 1, q0 + 3, hkl, by rw [Int.natCast_succ], by congr 1, by have := Q.out; omega, ((W2.out.set _ (by omega) _).set _ (by omega) _).set _ (by omega) _, ((O2.out.set _ _).set _ _).set _ _⟩, by (simp [intOf]) <;> omega⟩
    · have e : j = n := by omega
      subst e
      have hd : decide ((j : Int) < (j : Int)) = false := by simp
      clear hW hO
      have hq2 := hq
      subst hq2
      clear hq
      go_wp2
      go_ret
      exact ⟨rfl, OO.out⟩
end Go.Proofs.YtppjmngnjdeigaaDoor
