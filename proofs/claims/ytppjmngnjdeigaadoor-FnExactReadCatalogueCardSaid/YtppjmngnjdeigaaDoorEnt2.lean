/- Contracts of the laws' own functions on slices of cards: carried over, compared. -/
import Derived.Test.YtppjmngnjdeigaaDoorEnt1
import Derived.Test.YtppjmngnjdeigaaDoorBoxes
namespace Go.Proofs.YtppjmngnjdeigaaDoor
open Go.ChangeShapes Go.WideShapes Go.ChangeAt Go.RowKit


theorem eqEntry_same (s : ByteArray) (a b : Int) (w : World) :
    Calls Tryd.prog 55 #[.agg #[.string s, .int .i64 a, .int .i64 b], .agg #[.string s, .int .i64 a, .int .i64 b]] w fun e w' => e = .returned (.bool true) ∧ Below w.heap.size w w' := by
  go_enter Tryd.func55, Tryd.ntmps55
  go_wp2
  all_goals go_returns
  all_goals exact ⟨rfl, (by repeat' (first | (with_reducible exact Below.refl _ _) | (with_reducible assumption) | (with_reducible refine below_drewN ?_ _) | (with_reducible refine Below.drew ?_) | (with_reducible refine below_new ?_ _) | (with_reducible refine below_next ?_ (by with_reducible assumption)) | (with_reducible refine Below.setCell ?_ ?_ _) | go_size))⟩

set_option maxHeartbeats 1600000 in
theorem eqEntryS_same (ad bd : Option Addr) (cs : List Et) (c d : Nat) (w : World) (ha : EntsIn w ad cs) (hb : EntsIn w bd cs) (hn : cs.length ≤ 1048576) :
    Calls Tryd.prog 21 #[.slice ad cs.length c, .slice bd cs.length d] w fun e w' => e = .returned (.bool true) ∧ Below w.heap.size w w' := by
  have A := Lib.hid ha
  have B := Lib.hid hb
  have hbw := cell_bw
  clear ha hb
  go_enter Tryd.func21, Tryd.ntmps21
  go_wp2
  go_loopw [5] (fun i wr => ∃ j : Nat, j ≤ cs.length ∧ i = .int .i64 j ∧ Below w.heap.size w wr) (fun i _ => cs.length - (intOf i).toNat)
  case atStart => exact ⟨0, Nat.zero_le _, rfl, Below.refl _ _⟩
  case round =>
    obtain ⟨j, hj, rfl, hB⟩ := hrel
    have BB := Lib.hid hB
    by_cases hjl : j < cs.length
    · have hd : decide ((j : Int) < (cs.length : Int)) = true := by simpa using hjl
      obtain ⟨_, b1, o1, rfl, hb1, p0, p1, p2⟩ := A.out j hjl
      obtain ⟨_, b2, o2, rfl, hb2, q0, q1, q2⟩ := B.out j hjl
      have d0 := (hB.cell (p := ⟨b1, o1 + j * 3, none⟩) hb1).trans p0
      have d1 := (hB.cell (p := ⟨b1, o1 + j * 3 + 1, none⟩) hb1).trans p1
      have d2 := (hB.cell (p := ⟨b1, o1 + j * 3 + 2, none⟩) hb1).trans p2
      have e0 := (hB.cell (p := ⟨b2, o2 + j * 3, none⟩) hb2).trans q0
      have e1 := (hB.cell (p := ⟨b2, o2 + j * 3 + 1, none⟩) hb2).trans q1
      have e2 := (hB.cell (p := ⟨b2, o2 + j * 3 + 2, none⟩) hb2).trans q2
      have y1 : b1 < wr.heap.size := Nat.lt_of_lt_of_le hb1 hB.size
      have y2 : b2 < wr.heap.size := Nat.lt_of_lt_of_le hb2 hB.size
      have i1 : (0 : Int) ≤ (j : Int) := by omega
      have i2 : (j : Int) < (cs.length : Int) := by omega
      generalize etAt cs j = x at *
      obtain ⟨s, a, b⟩ := x
      simp only at d0 d1 d2 e0 e1 e2
      have K := Lib.hid fun W => eqEntry_same s a b W
      clear hB p0 p1 p2 q0 q1 q2
      go_wp2_with fail
      refine region_bw (by kernel_rfl) (by kernel_rfl) ?_
      repeat (go_big_quiet_step (first | (go_at_call 55; exact calls_bw (K.out _))))
      refine wpQuiet_nil ?_; intro wq hq; replace hq := below_of_bw hq; obtain ⟨qc, qf, qz⟩ := bcell hq
      go_wp2_with fail
      exact ⟨⟨j + 1, hjl, by rw [Int.natCast_succ], BB.out.trans (hq.mono BB.out.size)⟩, by (simp [intOf]) <;> omega⟩
    · have e : j = cs.length := by omega
      subst e
      have hd : decide ((cs.length : Int) < (cs.length : Int)) = false := by simp
      clear hB
      go_wp2
      go_ret
      exact ⟨rfl, BB.out⟩
end Go.Proofs.YtppjmngnjdeigaaDoor
