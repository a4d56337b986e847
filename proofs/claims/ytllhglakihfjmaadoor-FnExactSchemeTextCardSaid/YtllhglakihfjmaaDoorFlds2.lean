/- Contracts of the laws' own functions on slices of fields: measured, compared, carried over. -/
import Derived.Test.YtllhglakihfjmaaDoorFlds
import Derived.Test.YtllhglakihfjmaaDoorQuiet
import Derived.Test.YtllhglakihfjmaaDoorBoxes
namespace Go.Proofs.YtllhglakihfjmaaDoor
open Go.ChangeShapes Go.WideShapes Go.ChangeAt Go.RowKit

def szf (l : Int) (n : Nat) : Int := if l - (n : Int) < 0 then -1 else l - (n : Int)
theorem szf_no {l : Int} {n : Nat} (h : l - (n : Int) < 0) : szf l n = -1 := by unfold szf; rw [if_pos h]
theorem szf_yes {l : Int} {n : Nat} (h : ¬ l - (n : Int) < 0) : szf l n = l - (n : Int) := by unfold szf; rw [if_neg h]

set_option maxHeartbeats 800000 in
theorem szField_any (s : ByteArray) (k t z l : Int) (hs : s.size ≤ maxLen) (l0 : 0 ≤ l) (l1 : l ≤ 1048576) (w : World) :
    Calls Tryd.prog 45 #[.agg #[.string s, .int .i8 k, .int .i16 t, .int .i16 z], .int .i64 l] w fun e w' => e = .returned (.int .i64 (szf l s.size)) ∧ Below w.heap.size w w' := by
  unfold maxLen at hs
  have d1 : IntKind.i64.wrap (l - (s.size : Int)) = l - (s.size : Int) := IntWalk.i64_in _ (by omega)
  by_cases h : l - (s.size : Int) < 0
  · have d2 : decide (l - (s.size : Int) < 0) = true := by simp; omega
    rw [szf_no h]
    go_enter Tryd.func45, Tryd.ntmps45
    go_wp2
    go_returns
    exact ⟨rfl, (by repeat' (first | (with_reducible exact Below.refl _ _) | (with_reducible assumption) | (with_reducible refine below_drewN ?_ _) | (with_reducible refine Below.drew ?_) | (with_reducible refine below_new ?_ _) | (with_reducible refine below_next ?_ (by with_reducible assumption)) | (with_reducible refine Below.setCell ?_ ?_ _) | go_size))⟩
  · have d2 : decide (l - (s.size : Int) < 0) = false := by simp; omega
    rw [szf_yes h]
    go_enter Tryd.func45, Tryd.ntmps45
    go_wp2
    go_returns
    exact ⟨rfl, (by repeat' (first | (with_reducible exact Below.refl _ _) | (with_reducible assumption) | (with_reducible refine below_drewN ?_ _) | (with_reducible refine Below.drew ?_) | (with_reducible refine below_new ?_ _) | (with_reducible refine below_next ?_ (by with_reducible assumption)) | (with_reducible refine Below.setCell ?_ ?_ _) | go_size))⟩

/-- What a measuring leaves: no more than there was, and no more fields than it. -/
def SzF (n : Nat) (w : World) (e : Ending) (w' : World) : Prop := ∃ z : Int, e = .returned (.int .i64 z) ∧ -1 ≤ z ∧ z ≤ 1048576 ∧ (0 ≤ z → n ≤ 1048576) ∧ Below w.heap.size w w'

set_option maxHeartbeats 1600000 in
theorem szFieldS_any (ad : Option Addr) (cs : List Fd) (c : Nat) (l : Int) (w : World) (hc : FieldsIn w ad cs) (l0 : 0 ≤ l) (l1 : l ≤ 1048576) (hn : cs.length ≤ 9223372036854775807) :
    Calls Tryd.prog 16 #[.slice ad cs.length c, .int .i64 l] w (SzF cs.length w) := by
  have C := Lib.hid hc
  clear hc
  have d1 : IntKind.i64.wrap (l - (cs.length : Int)) = l - (cs.length : Int) := IntWalk.i64_in _ (by omega)
  have HN := Lib.hid hn
  clear hn
  by_cases h : l - (cs.length : Int) < 0
  · have d2 : decide (l - (cs.length : Int) < 0) = true := by simp; omega
    go_enter Tryd.func16, Tryd.ntmps16
    go_wp2
    go_ret
    exact ⟨-1, rfl, by omega, by omega, by omega, (by repeat' (first | (with_reducible exact Below.refl _ _) | (with_reducible assumption) | (with_reducible refine below_drewN ?_ _) | (with_reducible refine Below.drew ?_) | (with_reducible refine below_new ?_ _) | (with_reducible refine below_next ?_ (by with_reducible assumption)) | (with_reducible refine Below.setCell ?_ ?_ _) | go_size))⟩
  · have d2 : decide (l - (cs.length : Int) < 0) = false := by simp; omega
    have hk : cs.length ≤ 1048576 := by omega
    go_enter Tryd.func16, Tryd.ntmps16
    go_wp2
    go_loopw [1, 5] (fun q i wr => ∃ (j : Nat) (m : Int), j ≤ cs.length ∧ i = .int .i64 j ∧ q = .int .i64 m ∧ 0 ≤ m ∧ m ≤ 1048576 ∧ Below w.heap.size w wr) (fun _ i _ => cs.length - (intOf i).toNat)
    case atStart => exact ⟨0, _, Nat.zero_le _, rfl, rfl, by omega, by omega, Below.refl _ _⟩
    case round =>
      obtain ⟨j, m, hj, rfl, rfl, m0, m1, hB⟩ := hrel
      have BB := Lib.hid hB
      clear d1 d2
      by_cases hjl : j < cs.length
      · have hd : decide ((j : Int) < (cs.length : Int)) = true := by simpa using hjl
        obtain ⟨⟨f0, _, _, _⟩, b1, o1, rfl, hb1, q0, q1, q2, q3⟩ := C.out j hjl
        have e0 := (hB.cell (p := ⟨b1, o1 + j * 4, none⟩) hb1).trans q0
        have e1 := (hB.cell (p := ⟨b1, o1 + j * 4 + 1, none⟩) hb1).trans q1
        have e2 := (hB.cell (p := ⟨b1, o1 + j * 4 + 2, none⟩) hb1).trans q2
        have e3 := (hB.cell (p := ⟨b1, o1 + j * 4 + 3, none⟩) hb1).trans q3
        have i1 : (0 : Int) ≤ (j : Int) := by omega
        have i2 : (j : Int) < (cs.length : Int) := by omega
        generalize fdAt cs j = x at *
        obtain ⟨s, k, t, z9⟩ := x
        simp only at f0 e0 e1 e2 e3
        have K := Lib.hid fun W => szField_any s k t z9 m f0 m0 m1 W
        clear hB q0 q1 q2 q3
        by_cases hz : m - (s.size : Int) < 0
        · rw [szf_no hz] at K
          clear hz
          go_wp2_with (go_at_call 45; refine (K.out _).mono ?_; rintro e w2 ⟨rfl, hB2⟩; have B2 := Lib.hid hB2; clear hB2)
          go_ret
          exact ⟨-1, rfl, by omega, by omega, by omega, below_next BB.out B2.out⟩
        · rw [szf_yes hz] at K
          have y0 : 0 ≤ m - (s.size : Int) := by omega
          have y1 : m - (s.size : Int) ≤ 1048576 := by omega
          have y2 : decide (m - (s.size : Int) < 0) = false := by simp; omega
          clear hz
          generalize m - (s.size : Int) = m2 at *
          go_wp2_with (go_at_call 45; refine (K.out _).mono ?_; rintro e w2 ⟨rfl, hB2⟩; have B2 := Lib.hid hB2; clear hB2)
          exact ⟨⟨j + 1, m2, hjl, by rw [Int.natCast_succ], rfl, y0, y1, below_next BB.out B2.out⟩, by (simp [intOf]) <;> omega⟩
      · have e : j = cs.length := by omega
        subst e
        have hd : decide ((cs.length : Int) < (cs.length : Int)) = false := by simp
        clear hB
        go_wp2
        go_ret
        exact ⟨m, rfl, by omega, m1, fun _ => hk, BB.out⟩

set_option maxHeartbeats 800000 in
theorem toField_b (s : ByteArray) (k t z : Int) (w : World) :
    Calls Tryd.prog 48 #[.agg #[.string s, .int .i8 k, .int .i16 t, .int .i16 z]] w fun e w' => e = .returned (.agg #[.string s, .int .i8 k, .int .i16 t, .int .i16 z]) ∧ Below w.heap.size w w' := by
  go_enter Tryd.func48, Tryd.ntmps48
  go_wp2
  go_returns
  exact ⟨rfl, (by repeat' (first | (with_reducible exact Below.refl _ _) | (with_reducible assumption) | (with_reducible refine below_drewN ?_ _) | (with_reducible refine Below.drew ?_) | (with_reducible refine below_new ?_ _) | (with_reducible refine below_next ?_ (by with_reducible assumption)) | (with_reducible refine Below.setCell ?_ ?_ _) | go_size))⟩

set_option maxHeartbeats 800000 in
theorem eqField_same (s : ByteArray) (k t z : Int) (w : World) :
    Calls Tryd.prog 50 #[.agg #[.string s, .int .i8 k, .int .i16 t, .int .i16 z], .agg #[.string s, .int .i8 k, .int .i16 t, .int .i16 z]] w fun e w' => e = .returned (.bool true) ∧ Below w.heap.size w w' := by
  go_enter Tryd.func50, Tryd.ntmps50
  go_wp2
  all_goals go_returns
  all_goals exact ⟨rfl, (by repeat' (first | (with_reducible exact Below.refl _ _) | (with_reducible assumption) | (with_reducible refine below_drewN ?_ _) | (with_reducible refine Below.drew ?_) | (with_reducible refine below_new ?_ _) | (with_reducible refine below_next ?_ (by with_reducible assumption)) | (with_reducible refine Below.setCell ?_ ?_ _) | go_size))⟩

set_option maxHeartbeats 1600000 in
theorem eqFieldS_same (ad bd : Option Addr) (cs : List Fd) (c d : Nat) (w : World) (ha : FieldsIn w ad cs) (hb : FieldsIn w bd cs) (hn : cs.length ≤ 1048576) :
    Calls Tryd.prog 20 #[.slice ad cs.length c, .slice bd cs.length d] w fun e w' => e = .returned (.bool true) ∧ Below w.heap.size w w' := by
  have A := Lib.hid ha
  have B := Lib.hid hb
  have hbw := cell_bw
  clear ha hb
  go_enter Tryd.func20, Tryd.ntmps20
  go_wp2
  go_loopw [5] (fun i wr => ∃ j : Nat, j ≤ cs.length ∧ i = .int .i64 j ∧ Below w.heap.size w wr) (fun i _ => cs.length - (intOf i).toNat)
  case atStart => exact ⟨0, Nat.zero_le _, rfl, Below.refl _ _⟩
  case round =>
    obtain ⟨j, hj, rfl, hB⟩ := hrel
    have BB := Lib.hid hB
    by_cases hjl : j < cs.length
    · have hd : decide ((j : Int) < (cs.length : Int)) = true := by simpa using hjl
      obtain ⟨_, b1, o1, rfl, hb1, p0, p1, p2, p3⟩ := A.out j hjl
      obtain ⟨_, b2, o2, rfl, hb2, q0, q1, q2, q3⟩ := B.out j hjl
      have d0 := (hB.cell (p := ⟨b1, o1 + j * 4, none⟩) hb1).trans p0
      have d1 := (hB.cell (p := ⟨b1, o1 + j * 4 + 1, none⟩) hb1).trans p1
      have d2 := (hB.cell (p := ⟨b1, o1 + j * 4 + 2, none⟩) hb1).trans p2
      have e0 := (hB.cell (p := ⟨b2, o2 + j * 4, none⟩) hb2).trans q0
      have e1 := (hB.cell (p := ⟨b2, o2 + j * 4 + 1, none⟩) hb2).trans q1
      have e2 := (hB.cell (p := ⟨b2, o2 + j * 4 + 2, none⟩) hb2).trans q2
      have d3 := (hB.cell (p := ⟨b1, o1 + j * 4 + 3, none⟩) hb1).trans p3
      have e3 := (hB.cell (p := ⟨b2, o2 + j * 4 + 3, none⟩) hb2).trans q3
      have y1 : b1 < wr.heap.size := Nat.lt_of_lt_of_le hb1 hB.size
      have y2 : b2 < wr.heap.size := Nat.lt_of_lt_of_le hb2 hB.size
      have i1 : (0 : Int) ≤ (j : Int) := by omega
      have i2 : (j : Int) < (cs.length : Int) := by omega
      generalize fdAt cs j = x at *
      obtain ⟨s, k, t, z⟩ := x
      simp only at d0 d1 d2 d3 e0 e1 e2 e3
      have K := Lib.hid fun W => eqField_same s k t z W
      clear hB p0 p1 p2 p3 q0 q1 q2 q3
      go_wp2_with fail
      refine region_bw (by kernel_rfl) (by kernel_rfl) ?_
      repeat (go_big_quiet_step (first | (go_at_call 50; exact calls_bw (K.out _))))
      refine wpQuiet_nil ?_; intro wq hq; replace hq := below_of_bw hq; obtain ⟨qc, qf, qz⟩ := bcell hq
      go_wp2_with fail
      exact ⟨⟨j + 1, hjl, by rw [Int.natCast_succ], BB.out.trans (hq.mono BB.out.size)⟩, by (simp [intOf]) <;> omega⟩
    · have e : j = cs.length := by omega
      subst e
      have hd : decide ((cs.length : Int) < (cs.length : Int)) = false := by simp
      clear hB
      go_wp2
      go_ret
      exact ⟨rfl, BB.out⟩

def cell4 (c : Fd) (r : Nat) : Value := if r = 0 then .string c.s else if r = 1 then .int .i8 c.k else if r = 2 then .int .i16 c.t else .int .i16 c.z
/-- k fields carried over, empty ones behind. -/
def rowF (cs : List Fd) (k : Nat) : List Value := (List.range (cs.length * 4)).map fun i => cell4 (if i / 4 < k then fdAt cs (i / 4) else default) (i % 4)
theorem rowF_len (cs : List Fd) (k : Nat) : (rowF cs k).length = cs.length * 4 := by unfold rowF; simp
theorem rowF_get (cs : List Fd) (k i : Nat) (h : i < cs.length * 4) : (rowF cs k)[i]? = some (cell4 (if i / 4 < k then fdAt cs (i / 4) else default) (i % 4)) := by
  unfold rowF; rw [List.getElem?_map, List.getElem?_range h]; rfl
theorem rowF_next (cs : List Fd) (k : Nat) (h : k < cs.length) :
    ((((rowF cs k).set (k * 4) (.string (fdAt cs k).s)).set (k * 4 + 1) (.int .i8 (fdAt cs k).k)).set (k * 4 + 2) (.int .i16 (fdAt cs k).t)).set (k * 4 + 3) (.int .i16 (fdAt cs k).z) = rowF cs (k + 1) := by
  apply List.ext_getElem?
  intro i
  rw [List.getElem?_set, List.getElem?_set, List.getElem?_set, List.getElem?_set]
  simp only [List.length_set, rowF_len]
  by_cases hi : i < cs.length * 4
  · rw [rowF_get cs (k + 1) i hi]
    by_cases e3 : k * 4 + 3 = i
    · subst e3
      rw [if_pos rfl, if_pos hi, show (k * 4 + 3) / 4 = k by omega, show (k * 4 + 3) % 4 = 3 by omega, if_pos (Nat.lt_succ_self k)]; rfl
    · rw [if_neg e3]
      by_cases e2 : k * 4 + 2 = i
      · subst e2
        rw [if_pos rfl, if_pos hi, show (k * 4 + 2) / 4 = k by omega, show (k * 4 + 2) % 4 = 2 by omega, if_pos (Nat.lt_succ_self k)]; rfl
      · rw [if_neg e2]
        by_cases e1 : k * 4 + 1 = i
        · subst e1
          rw [if_pos rfl, if_pos hi, show (k * 4 + 1) / 4 = k by omega, show (k * 4 + 1) % 4 = 1 by omega, if_pos (Nat.lt_succ_self k)]; rfl
        · rw [if_neg e1]
          by_cases e0 : k * 4 = i
          · subst e0
            rw [if_pos rfl, if_pos hi, show k * 4 / 4 = k by omega, show k * 4 % 4 = 0 by omega, if_pos (Nat.lt_succ_self k)]; rfl
          · rw [if_neg e0, rowF_get cs k i hi]
            by_cases c : i / 4 < k
            · rw [if_pos c, if_pos (by omega)]
            · rw [if_neg c, if_neg (by omega)]
  · rw [List.getElem?_eq_none (by rw [rowF_len]; omega), List.getElem?_eq_none (by rw [rowF_len]; omega)]
    repeat (split; · first | omega | rfl)
    first | rfl | (split <;> first | omega | rfl)

theorem rowF_zero (cs : List Fd) : (madeCells #[.string ByteArray.empty, .int .i8 0, .int .i16 0, .int .i16 0] (cs.length * 4)).toList = rowF cs 0 := by
  apply List.ext_getElem?
  intro i
  by_cases hi : i < cs.length * 4
  · rw [rowF_get cs 0 i hi, if_neg (Nat.not_lt_zero _)]
    have h3 : i % 4 = 0 ∨ i % 4 = 1 ∨ i % 4 = 2 ∨ i % 4 = 3 := by omega
    rcases h3 with h | h | h | h <;> simp [madeCells, hi, h, cell4] <;> rfl
  · rw [List.getElem?_eq_none (by simp [madeCells]; omega), List.getElem?_eq_none (by rw [rowF_len]; omega)]

theorem info_field : (Tryd.prog.info? 88).map (fun i => (i.zero, i.size, i.bytes)) = some (some (.agg #[.string ByteArray.empty, .int .i8 0, .int .i16 0, .int .i16 0]), 4, 24) := by kernel_rfl

theorem ownsRowF_below {w w' : World} {B e size n : Nat} {v : Value} {xs : List Value} (h : w.ownsRow B e size v n xs) (hb : Below w.heap.size w w') : w'.ownsRow B e size v n xs := by
  obtain ⟨h1, h2⟩ := h
  refine ⟨h1, ?_⟩
  rcases h2 with hn | ⟨g, cap, cur, rfl, hB, hg, rest⟩
  · exact .inl hn
  · exact .inr ⟨g, cap, cur, rfl, hB, (hb.block g (Array.getElem?_eq_some_iff.1 hg).1).trans hg, rest⟩

def NewF (cs : List Fd) (w : World) (e : Ending) (w' : World) : Prop := ∃ v, e = .returned v ∧ NewFields w.heap.size cs v w' ∧ Below w.heap.size w w'

set_option maxHeartbeats 1600000 in
theorem toFieldS_any (ad : Option Addr) (cs : List Fd) (c : Nat) (w : World) (hc : FieldsIn w ad cs) (hn : cs.length ≤ 1048576) :
    Calls Tryd.prog 18 #[.slice ad cs.length c] w (NewF cs w) := by
  obtain ⟨i0, hi, hz0, hz1, hz2⟩ := info_parts info_field
  have C := Lib.hid hc
  clear hc
  go_enter Tryd.func18, Tryd.ntmps18
  go_wp2_with (at_make; refine wpList_make_full _ rfl _ _ 43 rfl w.heap.size 88 i0 (.agg #[.string ByteArray.empty, .int .i8 0, .int .i16 0, .int .i16 0]) 4 Tryd.underlying43 hi hz0 hz1 _ _ _ _ cs.length rfl rfl rfl rfl (by rw [hz2]; omega) (by unfold maxLen; omega) (Nat.le_refl _) ?_; intro w1 hown hgrow; have M := Lib.hid hown; have G := Lib.hid hgrow; clear hown hgrow)
  have O : w1.ownsRow w.heap.size 88 4 (.slice (some ⟨w.heap.size, 0, none⟩) cs.length cs.length) cs.length (rowF cs 0) := by rw [← rowF_zero]; exact M.out
  have B1 := Lib.hid (Below.grown (Below.refl w.heap.size w) G.out (Nat.le_refl _) (fun j hj => by cases hj))
  have OO := Lib.hid O
  clear M G O hi hz0 hz1 hz2
  go_loopw [4] (fun i wr => ∃ k : Nat, k ≤ cs.length ∧ i = .int .i64 k ∧ wr.ownsRow w.heap.size 88 4 (.slice (some ⟨w.heap.size, 0, none⟩) cs.length cs.length) cs.length (rowF cs k) ∧ Below w.heap.size w wr) (fun i _ => cs.length - (intOf i).toNat)
  case atStart => exact ⟨0, Nat.zero_le _, rfl, OO.out, B1.out⟩
  case round =>
    obtain ⟨k, hk, rfl, O2, hB⟩ := hrel
    have O3 := Lib.hid O2
    have BB := Lib.hid hB
    have gl := (O2.lt w.heap.size rfl).2
    by_cases hkl : k < cs.length
    · have hd : decide ((k : Int) < (cs.length : Int)) = true := by simpa using hkl
      obtain ⟨_, b1, o1, rfl, hb1, p0, p1, p2, p3⟩ := C.out k hkl
      have d0 := (hB.cell (p := ⟨b1, o1 + k * 4, none⟩) hb1).trans p0
      have d1 := (hB.cell (p := ⟨b1, o1 + k * 4 + 1, none⟩) hb1).trans p1
      have d2 := (hB.cell (p := ⟨b1, o1 + k * 4 + 2, none⟩) hb1).trans p2
      have d3 := (hB.cell (p := ⟨b1, o1 + k * 4 + 3, none⟩) hb1).trans p3
      have nx := Lib.hid (rowF_next cs k hkl)
      have i1 : (0 : Int) ≤ (k : Int) := by omega
      have i2 : (k : Int) < (cs.length : Int) := by omega
      have r0 := O2.cellAt (k * 4) (by omega)
      have r1 := O2.cellAt (k * 4 + 1) (by omega)
      have r2 := O2.cellAt (k * 4 + 2) (by omega)
      have r3 := O2.cellAt (k * 4 + 3) (by omega)
      rw [rowF_get cs k _ (by omega)] at r0 r1 r2 r3
      have fz := fun j => O2.frozenAt j
      generalize fdAt cs k = x at *
      obtain ⟨s, k9, t, z⟩ := x
      simp only at d0 d1 d2 d3
      have K := Lib.hid fun W => toField_b s k9 t z W
      have R0 := Lib.hid r0
      have R1 := Lib.hid r1
      have R2 := Lib.hid r2
      have R3 := Lib.hid r3
      have FZ := Lib.hid fz
      clear hB p0 p1 p2 p3 O2 r0 r1 r2 r3 fz
      go_wp2_with (go_at_call 48; refine (K.out _).mono ?_; rintro e w2 ⟨rfl, hB2⟩; have t0 := (hB2.cell (p := ⟨w.heap.size, k * 4, none⟩) gl).trans R0.out; have t1 := (hB2.cell (p := ⟨w.heap.size, k * 4 + 1, none⟩) gl).trans R1.out; have t2 := (hB2.cell (p := ⟨w.heap.size, k * 4 + 2, none⟩) gl).trans R2.out; have t3 := (hB2.cell (p := ⟨w.heap.size, k * 4 + 3, none⟩) gl).trans R3.out; have u : ∀ j, w2.frozen? ⟨w.heap.size, j, none⟩ = false := (fun j => (hB2.frozen (p := ⟨w.heap.size, j, none⟩) gl).trans (FZ.out j)); have O4 := Lib.hid (ownsRowF_below O3.out hB2); have B2 := Lib.hid (below_next BB.out hB2); clear hB2)
      have s0 := O4.out.stored (k * 4) (.string s)
      have s1 := s0.1.stored (k * 4 + 1) (.int .i8 k9)
      have s2 := s1.1.stored (k * 4 + 2) (.int .i16 t)
      have s3 := s2.1.stored (k * 4 + 3) (.int .i16 z)
      have o := s3.1
      have n := nx.out
      rw [n] at o
      exact ⟨⟨k + 1, hkl, by rw [Int.natCast_succ], o, (((B2.out.setCell (Nat.le_refl _) _).setCell (Nat.le_refl _) _).setCell (Nat.le_refl _) _).setCell (Nat.le_refl _) _⟩, by (simp [intOf]) <;> omega⟩
    · have e : k = cs.length := by omega
      subst e
      have hd : decide ((cs.length : Int) < (cs.length : Int)) = false := by simp
      clear O2 hB
      go_wp2
      go_ret
      refine ⟨_, rfl, ⟨w.heap.size, rfl, Nat.le_refl _, gl, fun i hi => ⟨(C.out i hi).1, w.heap.size, 0, rfl, gl, ?_, ?_, ?_, ?_⟩, fun j => O3.out.frozenAt j⟩, BB.out⟩
      · rw [Nat.zero_add, O3.out.cellAt _ (by omega), rowF_get cs _ _ (by omega), show i * 4 / 4 = i by omega, if_pos hi, show i * 4 % 4 = 0 by omega]; rfl
      · rw [Nat.zero_add, O3.out.cellAt _ (by omega), rowF_get cs _ _ (by omega), show (i * 4 + 1) / 4 = i by omega, if_pos hi, show (i * 4 + 1) % 4 = 1 by omega]; rfl
      · rw [Nat.zero_add, O3.out.cellAt _ (by omega), rowF_get cs _ _ (by omega), show (i * 4 + 2) / 4 = i by omega, if_pos hi, show (i * 4 + 2) % 4 = 2 by omega]; rfl
      · rw [Nat.zero_add, O3.out.cellAt _ (by omega), rowF_get cs _ _ (by omega), show (i * 4 + 3) / 4 = i by omega, if_pos hi, show (i * 4 + 3) % 4 = 3 by omega]; rfl
end Go.Proofs.YtllhglakihfjmaaDoor
