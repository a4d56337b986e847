/- Contracts of the laws' own functions on slices of witnesses: measured, compared, carried over. -/
import Derived.Test.YtanocllpmjhblaaWts
import Derived.Test.YtanocllpmjhblaaQuiet
import Derived.Test.YtanocllpmjhblaaBoxes
namespace Go.Proofs.Ytanocllpmjhblaa
open Go.ChangeShapes Go.WideShapes Go.ChangeAt Go.RowKit

/-- What a measuring leaves. -/
def wtz (l : Int) (n : Nat) : Int := if l - (n : Int) < 0 then -1 else l - (n : Int)
theorem wtz_no {l : Int} {n : Nat} (h : l - (n : Int) < 0) : wtz l n = -1 := by unfold wtz; rw [if_pos h]
theorem wtz_yes {l : Int} {n : Nat} (h : ¬ l - (n : Int) < 0) : wtz l n = l - (n : Int) := by unfold wtz; rw [if_neg h]


set_option maxHeartbeats 800000 in
theorem eqWitness_same (c : Int) (h : Int) (w : World) :
    Calls Try.prog 119 #[.agg #[.int .i64 c, .int .i16 h], .agg #[.int .i64 c, .int .i16 h]] w fun e w' => e = .returned (.bool true) ∧ Below w.heap.size w w' := by
  go_enter Try.func119, Try.ntmps119
  go_wp2
  all_goals go_returns
  all_goals exact ⟨rfl, (by repeat' (first | (with_reducible exact Below.refl _ _) | (with_reducible assumption) | (with_reducible refine below_drewN ?_ _) | (with_reducible refine Below.drew ?_) | (with_reducible refine below_new ?_ _) | (with_reducible refine below_next ?_ (by with_reducible assumption)) | (with_reducible refine Below.setCell ?_ ?_ _) | go_size))⟩

set_option maxHeartbeats 1600000 in
theorem eqWitnessS_same (ad bd : Option Addr) (cs : List Wt) (c d : Nat) (w : World) (ha : WitsIn w ad cs) (hb : WitsIn w bd cs) (hn : cs.length ≤ 1048576) :
    Calls Try.prog 74 #[.slice ad cs.length c, .slice bd cs.length d] w fun e w' => e = .returned (.bool true) ∧ Below w.heap.size w w' := by
  have A := Lib.hid ha
  have B := Lib.hid hb
  have hbw := cell_bw
  clear ha hb
  go_enter Try.func74, Try.ntmps74
  go_wp2
  go_loopw [5] (fun i wr => ∃ j : Nat, j ≤ cs.length ∧ i = .int .i64 j ∧ Below w.heap.size w wr) (fun i _ => cs.length - (intOf i).toNat)
  case atStart => exact ⟨0, Nat.zero_le _, rfl, Below.refl _ _⟩
  case round =>
    obtain ⟨j, hj, rfl, hB⟩ := hrel
    have BB := Lib.hid hB
    by_cases hjl : j < cs.length
    · have hd : decide ((j : Int) < (cs.length : Int)) = true := by simpa using hjl
      obtain ⟨_, b1, o1, rfl, hb1, p0, p1⟩ := A.out j hjl
      obtain ⟨_, b2, o2, rfl, hb2, q0, q1⟩ := B.out j hjl
      have d0 := (hB.cell (p := ⟨b1, o1 + j * 2, none⟩) hb1).trans p0
      have d1 := (hB.cell (p := ⟨b1, o1 + j * 2 + 1, none⟩) hb1).trans p1
      have e0 := (hB.cell (p := ⟨b2, o2 + j * 2, none⟩) hb2).trans q0
      have e1 := (hB.cell (p := ⟨b2, o2 + j * 2 + 1, none⟩) hb2).trans q1
      have y1 : b1 < wr.heap.size := Nat.lt_of_lt_of_le hb1 hB.size
      have y2 : b2 < wr.heap.size := Nat.lt_of_lt_of_le hb2 hB.size
      have i1 : (0 : Int) ≤ (j : Int) := by omega
      have i2 : (j : Int) < (cs.length : Int) := by omega
      generalize wtAt cs j = x at *
      obtain ⟨c, h⟩ := x
      simp only at d0 d1 e0 e1
      have K := Lib.hid fun W => eqWitness_same c h W
      clear hB p0 p1 q0 q1
      go_wp2_with fail
      refine region_bw (by kernel_rfl) (by kernel_rfl) ?_
      repeat (go_big_quiet_step (first | (go_at_call 119; exact calls_bw (K.out _))))
      refine wpQuiet_nil ?_; intro wq hq; replace hq := below_of_bw hq; obtain ⟨qc, qf, qz⟩ := bcell hq
      go_wp2_with fail
      exact ⟨⟨j + 1, hjl, by rw [Int.natCast_succ], BB.out.trans (hq.mono BB.out.size)⟩, by (simp [intOf]) <;> omega⟩
    · have e : j = cs.length := by omega
      subst e
      have hd : decide ((cs.length : Int) < (cs.length : Int)) = false := by simp
      clear hB
      go_wp2
      go_ret
      exact ⟨rfl, BB.out⟩

def cellwt (x : Wt) (r : Nat) : Value := if r = 0 then .int .i64 x.c else .int .i16 x.h
/-- k of them carried over, empty ones behind. -/
def rwwt (xs : List Wt) (k : Nat) : List Value := (List.range (xs.length * 2)).map fun i => cellwt (if i / 2 < k then wtAt xs (i / 2) else default) (i % 2)
theorem rwwt_len (xs : List Wt) (k : Nat) : (rwwt xs k).length = xs.length * 2 := by unfold rwwt; simp
theorem rwwt_get (xs : List Wt) (k i : Nat) (h : i < xs.length * 2) : (rwwt xs k)[i]? = some (cellwt (if i / 2 < k then wtAt xs (i / 2) else default) (i % 2)) := by
  unfold rwwt; rw [List.getElem?_map, List.getElem?_range h]; rfl
theorem rwwt_next (xs : List Wt) (k : Nat) (h : k < xs.length) :
    (((rwwt xs k).set (k * 2) (.int .i64 (wtAt xs k).c)).set (k * 2 + 1) (.int .i16 (wtAt xs k).h)) = rwwt xs (k + 1) := by
  apply List.ext_getElem?
  intro i
  rw [List.getElem?_set, List.getElem?_set]
  simp only [List.length_set, rwwt_len]
  by_cases hi : i < xs.length * 2
  · rw [rwwt_get xs (k + 1) i hi]
    by_cases e1 : k * 2 + 1 = i
    · subst e1
      rw [if_pos rfl, if_pos hi, show (k * 2 + 1) / 2 = k by omega, show (k * 2 + 1) % 2 = 1 by omega, if_pos (Nat.lt_succ_self k)]; rfl
    · rw [if_neg e1]
      by_cases e0 : k * 2 = i
      · subst e0
        rw [if_pos rfl, if_pos hi, show (k * 2) / 2 = k by omega, show (k * 2) % 2 = 0 by omega, if_pos (Nat.lt_succ_self k)]; rfl
      · rw [if_neg e0]
        rw [rwwt_get xs k i hi]
        by_cases c : i / 2 < k
        · rw [if_pos c, if_pos (by omega)]
        · rw [if_neg c, if_neg (by omega)]
  · rw [List.getElem?_eq_none (by rw [rwwt_len]; omega), List.getElem?_eq_none (by rw [rwwt_len]; omega)]
    repeat (split; · first | omega | rfl)
    first | rfl | (split <;> first | omega | rfl)

theorem rwwt_zero (xs : List Wt) : (madeCells #[.int .i64 0, .int .i16 0] (xs.length * 2)).toList = rwwt xs 0 := by
  apply List.ext_getElem?
  intro i
  by_cases hi : i < xs.length * 2
  · rw [rwwt_get xs 0 i hi, if_neg (Nat.not_lt_zero _)]
    have h3 : i % 2 = 0 ∨ i % 2 = 1 := by omega
    rcases h3 with h | h <;> simp [madeCells, hi, h, cellwt] <;> rfl
  · rw [List.getElem?_eq_none (by simp [madeCells]; omega), List.getElem?_eq_none (by rw [rwwt_len]; omega)]

theorem info_wt : (Try.prog.info? 118).map (fun i => (i.zero, i.size, i.bytes)) = some (some (.agg #[.int .i64 0, .int .i16 0]), 2, 16) := by kernel_rfl

theorem ownwt_below {w w' : World} {B e size n : Nat} {v : Value} {xs : List Value} (h : w.ownsRow B e size v n xs) (hb : Below w.heap.size w w') : w'.ownsRow B e size v n xs := by
  obtain ⟨h1, h2⟩ := h
  refine ⟨h1, ?_⟩
  rcases h2 with hn | ⟨g, cap, cur, rfl, hB, hg, rest⟩
  · exact .inl hn
  · exact .inr ⟨g, cap, cur, rfl, hB, (hb.block g (Array.getElem?_eq_some_iff.1 hg).1).trans hg, rest⟩

def Newwt (cs : List Wt) (w : World) (e : Ending) (w' : World) : Prop := ∃ v, e = .returned v ∧ NewWits w.heap.size cs v w' ∧ Below w.heap.size w w'

end Go.Proofs.Ytanocllpmjhblaa
