/- Contracts of the laws' own functions on slices of cards: measured, carried over, compared. -/
import Derived.Test.YtllhglakihfjmaaDoorCrds
import Derived.Test.YtllhglakihfjmaaDoorQuiet
namespace Go.Proofs.YtllhglakihfjmaaDoor
open Go.ChangeShapes Go.WideShapes Go.ChangeAt Go.RowKit

def szc (l : Int) (n : Nat) : Int := if l - (n : Int) < 0 then -1 else l - (n : Int)
theorem szc_no {l : Int} {n : Nat} (h : l - (n : Int) < 0) : szc l n = -1 := by unfold szc; rw [if_pos h]
theorem szc_yes {l : Int} {n : Nat} (h : ¬ l - (n : Int) < 0) : szc l n = l - (n : Int) := by unfold szc; rw [if_neg h]

set_option maxHeartbeats 800000 in
theorem szCard_any (s : ByteArray) (a b l : Int) (hs : s.size ≤ maxLen) (l0 : 0 ≤ l) (l1 : l ≤ 1048576) (w : World) :
    Calls Tryd.prog 9 #[.agg #[.string s, .int .u64 a, .int .u64 b], .int .i64 l] w fun e w' => e = .returned (.int .i64 (szc l s.size)) ∧ Below w.heap.size w w' := by
  unfold maxLen at hs
  have d1 : IntKind.i64.wrap (l - (s.size : Int)) = l - (s.size : Int) := IntWalk.i64_in _ (by omega)
  by_cases h : l - (s.size : Int) < 0
  · have d2 : decide (l - (s.size : Int) < 0) = true := by simp; omega
    rw [szc_no h]
    go_enter Tryd.func9, Tryd.ntmps9
    go_wp2
    go_returns
    exact ⟨rfl, (by repeat' (first | (with_reducible exact Below.refl _ _) | (with_reducible assumption) | (with_reducible refine below_drewN ?_ _) | (with_reducible refine Below.drew ?_) | (with_reducible refine below_new ?_ _) | (with_reducible refine below_next ?_ (by with_reducible assumption)) | (with_reducible refine Below.setCell ?_ ?_ _) | go_size))⟩
  · have d2 : decide (l - (s.size : Int) < 0) = false := by simp; omega
    rw [szc_yes h]
    go_enter Tryd.func9, Tryd.ntmps9
    go_wp2
    go_returns
    exact ⟨rfl, (by repeat' (first | (with_reducible exact Below.refl _ _) | (with_reducible assumption) | (with_reducible refine below_drewN ?_ _) | (with_reducible refine Below.drew ?_) | (with_reducible refine below_new ?_ _) | (with_reducible refine below_next ?_ (by with_reducible assumption)) | (with_reducible refine Below.setCell ?_ ?_ _) | go_size))⟩

/-- What a measuring leaves: no more than there was, and no more cards than it. -/
def SzR (n : Nat) (w : World) (e : Ending) (w' : World) : Prop := ∃ z : Int, e = .returned (.int .i64 z) ∧ -1 ≤ z ∧ z ≤ 1048576 ∧ (0 ≤ z → n ≤ 1048576) ∧ Below w.heap.size w w'

set_option maxHeartbeats 1600000 in
theorem szCardS_any (ad : Option Addr) (cs : List Cd) (c : Nat) (l : Int) (w : World) (hc : CardsIn w ad cs) (l0 : 0 ≤ l) (l1 : l ≤ 1048576) (hn : cs.length ≤ 9223372036854775807) :
    Calls Tryd.prog 21 #[.slice ad cs.length c, .int .i64 l] w (SzR cs.length w) := by
  have C := Lib.hid hc
  clear hc
  have d1 : IntKind.i64.wrap (l - (cs.length : Int)) = l - (cs.length : Int) := IntWalk.i64_in _ (by omega)
  have HN := Lib.hid hn
  clear hn
  by_cases h : l - (cs.length : Int) < 0
  · have d2 : decide (l - (cs.length : Int) < 0) = true := by simp; omega
    go_enter Tryd.func21, Tryd.ntmps21
    go_wp2
    go_ret
    exact ⟨-1, rfl, by omega, by omega, by omega, (by repeat' (first | (with_reducible exact Below.refl _ _) | (with_reducible assumption) | (with_reducible refine below_drewN ?_ _) | (with_reducible refine Below.drew ?_) | (with_reducible refine below_new ?_ _) | (with_reducible refine below_next ?_ (by with_reducible assumption)) | (with_reducible refine Below.setCell ?_ ?_ _) | go_size))⟩
  · have d2 : decide (l - (cs.length : Int) < 0) = false := by simp; omega
    have hk : cs.length ≤ 1048576 := by omega
    go_enter Tryd.func21, Tryd.ntmps21
    go_wp2
    go_loopw [1, 5] (fun q i wr => ∃ (j : Nat) (m : Int), j ≤ cs.length ∧ i = .int .i64 j ∧ q = .int .i64 m ∧ 0 ≤ m ∧ m ≤ 1048576 ∧ Below w.heap.size w wr) (fun _ i _ => cs.length - (intOf i).toNat)
    case atStart => exact ⟨0, _, Nat.zero_le _, rfl, rfl, by omega, by omega, Below.refl _ _⟩
    case round =>
      obtain ⟨j, m, hj, rfl, rfl, m0, m1, hB⟩ := hrel
      have BB := Lib.hid hB
      clear d1 d2
      by_cases hjl : j < cs.length
      · have hd : decide ((j : Int) < (cs.length : Int)) = true := by simpa using hjl
        obtain ⟨⟨f0, _, _⟩, b1, o1, rfl, hb1, q0, q1, q2⟩ := C.out j hjl
        have e0 := (hB.cell (p := ⟨b1, o1 + j * 3, none⟩) hb1).trans q0
        have e1 := (hB.cell (p := ⟨b1, o1 + j * 3 + 1, none⟩) hb1).trans q1
        have e2 := (hB.cell (p := ⟨b1, o1 + j * 3 + 2, none⟩) hb1).trans q2
        have i1 : (0 : Int) ≤ (j : Int) := by omega
        have i2 : (j : Int) < (cs.length : Int) := by omega
        generalize cdAt cs j = x at *
        obtain ⟨s, a, b⟩ := x
        simp only at f0 e0 e1 e2
        have K := Lib.hid fun W => szCard_any s a b m f0 m0 m1 W
        clear hB q0 q1 q2
        by_cases hz : m - (s.size : Int) < 0
        · rw [szc_no hz] at K
          clear hz
          go_wp2_with (go_at_call 9; refine (K.out _).mono ?_; rintro e w2 ⟨rfl, hB2⟩; have B2 := Lib.hid hB2; clear hB2)
          go_ret
          exact ⟨-1, rfl, by omega, by omega, by omega, below_next BB.out B2.out⟩
        · rw [szc_yes hz] at K
          have y0 : 0 ≤ m - (s.size : Int) := by omega
          have y1 : m - (s.size : Int) ≤ 1048576 := by omega
          have y2 : decide (m - (s.size : Int) < 0) = false := by simp; omega
          clear hz
          generalize m - (s.size : Int) = m2 at *
          go_wp2_with (go_at_call 9; refine (K.out _).mono ?_; rintro e w2 ⟨rfl, hB2⟩; have B2 := Lib.hid hB2; clear hB2)
          exact ⟨⟨j + 1, m2, hjl, by rw [Int.natCast_succ], rfl, y0, y1, below_next BB.out B2.out⟩, by (simp [intOf]) <;> omega⟩
      · have e : j = cs.length := by omega
        subst e
        have hd : decide ((cs.length : Int) < (cs.length : Int)) = false := by simp
        clear hB
        go_wp2
        go_ret
        exact ⟨m, rfl, by omega, m1, fun _ => hk, BB.out⟩
end Go.Proofs.YtllhglakihfjmaaDoor
