/- The laws' look at a marked deck (heldCardS). -/
import Derived.Test.YtppjmngnjdeigaaDoorEMarkC
import Derived.Test.YtppjmngnjdeigaaDoorQuiet
import Derived.Test.YtppjmngnjdeigaaDoorBoxes
namespace Go.Proofs.YtppjmngnjdeigaaDoor
open Go.ChangeShapes Go.WideShapes Go.ChangeAt Go.RowKit

set_option maxRecDepth 100000 in
set_option maxHeartbeats 3200000 in
theorem heldEnts_any (a : Option Addr) (ds : List Et) (c k : Nat) (w : World) (h : CellsE w a ds) (hm : EMarked k ds.length ds) (hk : k + 3 * ds.length ≤ 4000000) :
    Calls Tryd.prog 23 #[.slice a ds.length c, .int .i64 (k : Int)] w fun e w' => e = .returned (.int .i64 ((k + 3 * ds.length : Nat) : Int)) ∧ Below w.heap.size w w' := by
  have H := Lib.hid h
  have M := Lib.hid hm
  clear h hm
  have hbw := cell_bw
  go_enter Tryd.func23, Tryd.ntmps23
  go_wp2
  go_loopw [1, 5] (fun q i wr => ∃ j q0 : Nat, j ≤ ds.length ∧ i = .int .i64 j ∧ q = .int .i64 (q0 : Int) ∧ q0 = k + 3 * j ∧ Below w.heap.size w wr) (fun _ i _ => ds.length - (intOf i).toNat)
  case atStart => exact ⟨0, k, Nat.zero_le _, rfl, rfl, by omega, Below.refl _ _⟩
  case round =>
    obtain ⟨j, q0, hj, rfl, rfl, hq, hB⟩ := hrel
    have Q := Lib.hid hq
    have BB := Lib.hid hB
    by_cases hkl : j < ds.length
    · have hd : decide ((j : Int) < (ds.length : Int)) = true := by simpa using hkl
      have qb : q0 ≤ 4000000 := by omega
      have i1 : (0 : Int) ≤ (j : Int) := by omega
      have i2 : (j : Int) < (ds.length : Int) := by omega
      obtain ⟨b, o, rfl, hb, c0, c1, c2⟩ := H.out j hkl
      have e := M.out j hkl
      rw [← hq] at e
      rw [e] at c0 c1 c2
      have d0 := (hB.cell (p := ⟨b, o + j * 3, none⟩) hb).trans c0
      have d1 := (hB.cell (p := ⟨b, o + j * 3 + 1, none⟩) hb).trans c1
      have d2 := (hB.cell (p := ⟨b, o + j * 3 + 2, none⟩) hb).trans c2
      simp only [mkE] at d0 d1 d2
      have y : b < wr.heap.size := Nat.lt_of_lt_of_le hb hB.size
      have K := Lib.hid fun W => emarkText_is q0 qb W
      have x1 : IntKind.i64.wrap ((q0 : Int) + 1) = (q0 : Int) + 1 := IntWalk.i64_in _ (by omega)
      have x2 : IntKind.i64.wrap ((q0 : Int) + 1 + 1) = (q0 : Int) + 1 + 1 := IntWalk.i64_in _ (by omega)
      have x3 : IntKind.i64.wrap ((q0 : Int) + 1 + 1 + 1) = (q0 : Int) + 1 + 1 + 1 := IntWalk.i64_in _ (by omega)
      have x4 : IntKind.u64.wrap ((q0 : Int) + 1) = (q0 : Int) + 1 := IntWalk.u64_in _ (by omega)
      have x5 : IntKind.u64.wrap ((q0 : Int) + 1 + 1) = (q0 : Int) + 1 + 1 := IntWalk.u64_in _ (by omega)
      have n1 : ((q0 : Int) + 1 != (q0 : Int) + 1) = false := by simp
      have n2 : ((q0 : Int) + 1 + 1 != (q0 : Int) + 1 + 1) = false := by simp
      clear hq hB c0 c1 c2 e
      generalize emtext q0 = s at *
      have n3 : (s.toList != s.toList) = false := by simp
      go_wp2_with fail
      refine region_bw (by kernel_rfl) (by kernel_rfl) ?_
      repeat (go_big_quiet_step (first | (go_at_call 56; exact calls_bw (K.out _))))
      refine wpQuiet_nil ?_; intro wq hq; replace hq := below_of_bw hq; obtain ⟨qc, qf, qz⟩ := bcell hq
      have B2 := Lib.hid (BB.out.trans (hq.mono BB.out.size))
      have t1 := (Below.cell hq (p := ⟨b, o + j * 3 + 1, none⟩) y).trans d1
      have t2 := (Below.cell hq (p := ⟨b, o + j * 3 + 2, none⟩) y).trans d2
      clear d0 d1 d2 hq qc qf qz hbw
      go_wp2_with fail
      exact ⟨⟨j + 1, q0 + 3, hkl, by rw [Int.natCast_succ], by congr 1, by have := Q.out; omega, B2.out⟩, by (simp [intOf]) <;> omega⟩
    · have e : j = ds.length := by omega
      subst e
      have hd : decide ((ds.length : Int) < (ds.length : Int)) = false := by simp
      have hq2 := hq
      subst hq2
      clear hq hB
      go_wp2
      go_ret
      exact ⟨rfl, BB.out⟩
end Go.Proofs.YtppjmngnjdeigaaDoor
