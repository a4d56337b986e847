/- Contracts of the laws' own functions on slices of edits: measured, compared, carried over. -/
import Derived.Test.YtpkpjkceiikakaaGreatDoorEds
import Derived.Test.YtpkpjkceiikakaaGreatDoorQuiet
import Derived.Test.YtpkpjkceiikakaaGreatDoorBoxes
namespace Go.Proofs.YtpkpjkceiikakaaGreatDoor
open Go.ChangeShapes Go.WideShapes Go.ChangeAt Go.RowKit

def edz (l : Int) (n : Nat) : Int := if l - (n : Int) < 0 then -1 else l - (n : Int)
theorem edz_no {l : Int} {n : Nat} (h : l - (n : Int) < 0) : edz l n = -1 := by unfold edz; rw [if_pos h]
theorem edz_yes {l : Int} {n : Nat} (h : ¬ l - (n : Int) < 0) : edz l n = l - (n : Int) := by unfold edz; rw [if_neg h]


/-- What a measuring leaves: no more than there was, and no more of them than it. -/
def SzEdits (n : Nat) (w : World) (e : Ending) (w' : World) : Prop := ∃ z : Int, e = .returned (.int .i64 z) ∧ -1 ≤ z ∧ z ≤ 1048576 ∧ (0 ≤ z → n ≤ 1048576) ∧ Below w.heap.size w w'



set_option maxHeartbeats 800000 in
theorem eqEdit_same (k : Int) (s : ByteArray) (h : Int) (a : Int) (b : Int) (w : World) :
    Calls Tryz.prog 28 #[.agg #[.int .i8 k, .string s, .int .i16 h, .int .u64 a, .int .u64 b], .agg #[.int .i8 k, .string s, .int .i16 h, .int .u64 a, .int .u64 b]] w fun e w' => e = .returned (.bool true) ∧ Below w.heap.size w w' := by
  go_enter Tryz.func28, Tryz.ntmps28
  go_wp2_with (go_at_call 62; refine (eqMask_same _ _ _).mono ?_; rintro e w1 ⟨rfl, hB⟩; obtain ⟨hc, hf, hz⟩ := bcell hB)
  all_goals go_returns
  all_goals exact ⟨rfl, (by repeat' (first | (with_reducible exact Below.refl _ _) | (with_reducible assumption) | (with_reducible refine below_drewN ?_ _) | (with_reducible refine Below.drew ?_) | (with_reducible refine below_new ?_ _) | (with_reducible refine below_next ?_ (by with_reducible assumption)) | (with_reducible refine Below.setCell ?_ ?_ _) | go_size))⟩

set_option maxHeartbeats 1600000 in
theorem eqEditS_same (ad bd : Option Addr) (cs : List Ed) (c d : Nat) (w : World) (ha : EditsIn w ad cs) (hb : EditsIn w bd cs) (hn : cs.length ≤ 1048576) :
    Calls Tryz.prog 12 #[.slice ad cs.length c, .slice bd cs.length d] w fun e w' => e = .returned (.bool true) ∧ Below w.heap.size w w' := by
  have A := Lib.hid ha
  have B := Lib.hid hb
  have hbw := cell_bw
  clear ha hb
  go_enter Tryz.func12, Tryz.ntmps12
  go_wp2
  go_loopw [5] (fun i wr => ∃ j : Nat, j ≤ cs.length ∧ i = .int .i64 j ∧ Below w.heap.size w wr) (fun i _ => cs.length - (intOf i).toNat)
  case atStart => exact ⟨0, Nat.zero_le _, rfl, Below.refl _ _⟩
  case round =>
    obtain ⟨j, hj, rfl, hB⟩ := hrel
    have BB := Lib.hid hB
    by_cases hjl : j < cs.length
    · have hd : decide ((j : Int) < (cs.length : Int)) = true := by simpa using hjl
      obtain ⟨_, b1, o1, rfl, hb1, p0, p1, p2, p3, p4⟩ := A.out j hjl
      obtain ⟨_, b2, o2, rfl, hb2, q0, q1, q2, q3, q4⟩ := B.out j hjl
      have d0 := (hB.cell (p := ⟨b1, o1 + j * 5, none⟩) hb1).trans p0
      have d1 := (hB.cell (p := ⟨b1, o1 + j * 5 + 1, none⟩) hb1).trans p1
      have d2 := (hB.cell (p := ⟨b1, o1 + j * 5 + 2, none⟩) hb1).trans p2
      have d3 := (hB.cell (p := ⟨b1, o1 + j * 5 + 3, none⟩) hb1).trans p3
      have d4 := (hB.cell (p := ⟨b1, o1 + j * 5 + 4, none⟩) hb1).trans p4
      have e0 := (hB.cell (p := ⟨b2, o2 + j * 5, none⟩) hb2).trans q0
      have e1 := (hB.cell (p := ⟨b2, o2 + j * 5 + 1, none⟩) hb2).trans q1
      have e2 := (hB.cell (p := ⟨b2, o2 + j * 5 + 2, none⟩) hb2).trans q2
      have e3 := (hB.cell (p := ⟨b2, o2 + j * 5 + 3, none⟩) hb2).trans q3
      have e4 := (hB.cell (p := ⟨b2, o2 + j * 5 + 4, none⟩) hb2).trans q4
      have y1 : b1 < wr.heap.size := Nat.lt_of_lt_of_le hb1 hB.size
      have y2 : b2 < wr.heap.size := Nat.lt_of_lt_of_le hb2 hB.size
      have i1 : (0 : Int) ≤ (j : Int) := by omega
      have i2 : (j : Int) < (cs.length : Int) := by omega
      generalize edAt cs j = x at *
      obtain ⟨k, s, h, a, b⟩ := x
      simp only at d0 d1 d2 d3 d4 e0 e1 e2 e3 e4
      have K := Lib.hid fun W => eqEdit_same k s h a b W
      clear hB p0 p1 p2 p3 p4 q0 q1 q2 q3 q4
      go_wp2_with fail
      refine region_bw (by kernel_rfl) (by kernel_rfl) ?_
      repeat (go_big_quiet_step (first | (go_at_call 28; exact calls_bw (K.out _))))
      refine wpQuiet_nil ?_; intro wq hq; replace hq := below_of_bw hq; obtain ⟨qc, qf, qz⟩ := bcell hq
      go_wp2_with fail
      exact ⟨⟨j + 1, hjl, by rw [Int.natCast_succ], BB.out.trans (hq.mono BB.out.size)⟩, by (simp [intOf]) <;> omega⟩
    · have e : j = cs.length := by omega
      subst e
      have hd : decide ((cs.length : Int) < (cs.length : Int)) = false := by simp
      clear hB
      go_wp2
      go_ret
      exact ⟨rfl, BB.out⟩

def celled (x : Ed) (r : Nat) : Value := if r = 0 then .int .i8 x.k else if r = 1 then .string x.s else if r = 2 then .int .i16 x.h else if r = 3 then .int .u64 x.a else .int .u64 x.b
/-- k of them carried over, empty ones behind. -/
def rwed (xs : List Ed) (k : Nat) : List Value := (List.range (xs.length * 5)).map fun i => celled (if i / 5 < k then edAt xs (i / 5) else default) (i % 5)
theorem rwed_len (xs : List Ed) (k : Nat) : (rwed xs k).length = xs.length * 5 := by unfold rwed; simp
theorem rwed_get (xs : List Ed) (k i : Nat) (h : i < xs.length * 5) : (rwed xs k)[i]? = some (celled (if i / 5 < k then edAt xs (i / 5) else default) (i % 5)) := by
  unfold rwed; rw [List.getElem?_map, List.getElem?_range h]; rfl
theorem rwed_next (xs : List Ed) (k : Nat) (h : k < xs.length) :
    ((((((rwed xs k).set (k * 5) (.int .i8 (edAt xs k).k)).set (k * 5 + 1) (.string (edAt xs k).s)).set (k * 5 + 2) (.int .i16 (edAt xs k).h)).set (k * 5 + 3) (.int .u64 (edAt xs k).a)).set (k * 5 + 4) (.int .u64 (edAt xs k).b)) = rwed xs (k + 1) := by
  apply List.ext_getElem?
  intro i
  rw [List.getElem?_set, List.getElem?_set, List.getElem?_set, List.getElem?_set, List.getElem?_set]
  simp only [List.length_set, rwed_len]
  by_cases hi : i < xs.length * 5
  · rw [rwed_get xs (k + 1) i hi]
    by_cases e4 : k * 5 + 4 = i
    · subst e4
      rw [if_pos rfl, if_pos hi, show (k * 5 + 4) / 5 = k by omega, show (k * 5 + 4) % 5 = 4 by omega, if_pos (Nat.lt_succ_self k)]; rfl
    · rw [if_neg e4]
      by_cases e3 : k * 5 + 3 = i
      · subst e3
        rw [if_pos rfl, if_pos hi, show (k * 5 + 3) / 5 = k by omega, show (k * 5 + 3) % 5 = 3 by omega, if_pos (Nat.lt_succ_self k)]; rfl
      · rw [if_neg e3]
        by_cases e2 : k * 5 + 2 = i
        · subst e2
          rw [if_pos rfl, if_pos hi, show (k * 5 + 2) / 5 = k by omega, show (k * 5 + 2) % 5 = 2 by omega, if_pos (Nat.lt_succ_self k)]; rfl
        · rw [if_neg e2]
          by_cases e1 : k * 5 + 1 = i
          · subst e1
            rw [if_pos rfl, if_pos hi, show (k * 5 + 1) / 5 = k by omega, show (k * 5 + 1) % 5 = 1 by omega, if_pos (Nat.lt_succ_self k)]; rfl
          · rw [if_neg e1]
            by_cases e0 : k * 5 = i
            · subst e0
              rw [if_pos rfl, if_pos hi, show (k * 5) / 5 = k by omega, show (k * 5) % 5 = 0 by omega, if_pos (Nat.lt_succ_self k)]; rfl
            · rw [if_neg e0]
              rw [rwed_get xs k i hi]
              by_cases c : i / 5 < k
              · rw [if_pos c, if_pos (by omega)]
              · rw [if_neg c, if_neg (by omega)]
  · rw [List.getElem?_eq_none (by rw [rwed_len]; omega), List.getElem?_eq_none (by rw [rwed_len]; omega)]
    repeat (split; · first | omega | rfl)
    first | rfl | (split <;> first | omega | rfl)

theorem rwed_zero (xs : List Ed) : (madeCells #[.int .i8 0, .string ByteArray.empty, .int .i16 0, .int .u64 0, .int .u64 0] (xs.length * 5)).toList = rwed xs 0 := by
  apply List.ext_getElem?
  intro i
  by_cases hi : i < xs.length * 5
  · rw [rwed_get xs 0 i hi, if_neg (Nat.not_lt_zero _)]
    have h3 : i % 5 = 0 ∨ i % 5 = 1 ∨ i % 5 = 2 ∨ i % 5 = 3 ∨ i % 5 = 4 := by omega
    rcases h3 with h | h | h | h | h <;> simp [madeCells, hi, h, celled] <;> rfl
  · rw [List.getElem?_eq_none (by simp [madeCells]; omega), List.getElem?_eq_none (by rw [rwed_len]; omega)]

theorem info_ed : (Tryz.prog.info? 53).map (fun i => (i.zero, i.size, i.bytes)) = some (some (.agg #[.int .i8 0, .string ByteArray.empty, .int .i16 0, .int .u64 0, .int .u64 0]), 5, 48) := by kernel_rfl

theorem owned_below {w w' : World} {B e size n : Nat} {v : Value} {xs : List Value} (h : w.ownsRow B e size v n xs) (hb : Below w.heap.size w w') : w'.ownsRow B e size v n xs := by
  obtain ⟨h1, h2⟩ := h
  refine ⟨h1, ?_⟩
  rcases h2 with hn | ⟨g, cap, cur, rfl, hB, hg, rest⟩
  · exact .inl hn
  · exact .inr ⟨g, cap, cur, rfl, hB, (hb.block g (Array.getElem?_eq_some_iff.1 hg).1).trans hg, rest⟩

def Newed (cs : List Ed) (w : World) (e : Ending) (w' : World) : Prop := ∃ v, e = .returned v ∧ NewEdits w.heap.size cs v w' ∧ Below w.heap.size w w'

end Go.Proofs.YtpkpjkceiikakaaGreatDoor
