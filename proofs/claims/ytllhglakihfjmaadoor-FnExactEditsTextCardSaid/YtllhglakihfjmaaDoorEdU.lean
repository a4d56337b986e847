/- Contracts: are several edits valid, the program's (a code) and the model's; what UndoEdits answers; the model's UndoEdits. -/
import Derived.Test.YtllhglakihfjmaaDoorEdX
import Derived.Test.YtllhglakihfjmaaDoorEdsOwn
import Derived.Deep.AppendLies
namespace Go.Proofs.YtllhglakihfjmaaDoor
open Go.ChangeShapes Go.WideShapes Go.ChangeAt Go.RowKit

/-- Are the first n valid. -/
def edTil (cs : List Ed) : Nat → Bool
  | 0 => true
  | n + 1 => edTil cs n && edOk (edAt cs n)
theorem edTil_no {cs : List Ed} {j : Nat} (h : edOk (edAt cs j) = false) : ∀ n, j < n → edTil cs n = false
  | 0, hj => absurd hj (Nat.not_lt_zero _)
  | n + 1, hj => by
    unfold edTil
    by_cases e : j = n
    · subst e; rw [h, Bool.and_false]
    · rw [edTil_no h n (by omega), Bool.false_and]
theorem edTil_next {cs : List Ed} {j : Nat} (h : edTil cs j = true) (k : edOk (edAt cs j) = true) : edTil cs (j + 1) = true := by unfold edTil; rw [h, k]; rfl
theorem edTil_at {cs : List Ed} : ∀ {n j : Nat}, edTil cs n = true → j < n → edOk (edAt cs j) = true
  | 0, _, _, hj => absurd hj (Nat.not_lt_zero _)
  | n + 1, j, h, hj => by
    unfold edTil at h
    rw [Bool.and_eq_true] at h
    by_cases e : j = n
    · subst e; exact h.2
    · exact edTil_at h.1 (by omega)
/-- The code of what is wrong with several edits. -/
def edsC (cs : List Ed) : Int := if edTil cs cs.length then (if cs.length ≤ 200 then 0 else 3) else 1
theorem edsC_1 {cs : List Ed} (h : edTil cs cs.length = false) : edsC cs = 1 := by unfold edsC; rw [h]; rfl
theorem edsC_3 {cs : List Ed} (h : edTil cs cs.length = true) (k : ¬ cs.length ≤ 200) : edsC cs = 3 := by unfold edsC; rw [if_pos h, if_neg k]
theorem edsC_0 {cs : List Ed} (h : edTil cs cs.length = true) (k : cs.length ≤ 200) : edsC cs = 0 := by unfold edsC; rw [if_pos h, if_pos k]

set_option maxRecDepth 100000 in
set_option maxHeartbeats 3200000 in
theorem iChk_any (ad : Option Addr) (cs : List Ed) (c : Nat) (w : World) (hc : EditsIn w ad cs) (hn : cs.length ≤ 1048576) :
    Calls Tryd.prog 62 #[.slice ad cs.length c] w fun e w' => e = .returned (.int .i64 (edsC cs)) ∧ Below w.heap.size w w' := by
  have C := Lib.hid hc
  clear hc
  go_enter Tryd.func62, Tryd.ntmps62
  go_wp2
  go_loopw [7] (fun i wr => ∃ j : Nat, j ≤ cs.length ∧ i = .int .i64 j ∧ edTil cs j = true ∧ Below w.heap.size w wr) (fun i _ => cs.length - (intOf i).toNat)
  case atStart => exact ⟨0, Nat.zero_le _, rfl, rfl, Below.refl _ _⟩
  case round =>
    obtain ⟨j, hj, rfl, hT, hB⟩ := hrel
    have BB := Lib.hid hB
    have TT := Lib.hid hT
    clear hT
    by_cases hjl : j < cs.length
    · have hd : decide ((j : Int) < (cs.length : Int)) = true := by simpa using hjl
      obtain ⟨hf, b1, o1, rfl, hb1, p0, p1, p2, p3, p4⟩ := C.out j hjl
      have d0 := (hB.cell (p := ⟨b1, o1 + j * 5, none⟩) hb1).trans p0
      have d1 := (hB.cell (p := ⟨b1, o1 + j * 5 + 1, none⟩) hb1).trans p1
      have d2 := (hB.cell (p := ⟨b1, o1 + j * 5 + 2, none⟩) hb1).trans p2
      have d3 := (hB.cell (p := ⟨b1, o1 + j * 5 + 3, none⟩) hb1).trans p3
      have d4 := (hB.cell (p := ⟨b1, o1 + j * 5 + 4, none⟩) hb1).trans p4
      have i1 : (0 : Int) ≤ (j : Int) := by omega
      have i2 : (j : Int) < (cs.length : Int) := by omega
      have K := fun W => iValid_any (edAt cs j) hf W
      have NO := Lib.hid fun h => edTil_no (cs := cs) (j := j) h cs.length hjl
      have YE := Lib.hid fun h => edTil_next TT.out (j := j) h
      have AA := Lib.hid (show Ab wr (wr.alloc (.cells #[.int .i8 (edAt cs j).k, .string (edAt cs j).s, .int .i16 (edAt cs j).h, .int .u64 (edAt cs j).a, .int .u64 (edAt cs j).b] 108)) from below_new (Below.refl _ _) _)
      clear hB p0 p1 p2 p3 p4 hf
      cases hk : edOk (edAt cs j)
      · rw [hk] at K
        have K := Lib.hid K
        have N := Lib.hid (edsC_1 (NO.out hk))
        clear hk YE NO
        generalize edAt cs j = x at *
        obtain ⟨k, s, h, a, b⟩ := x
        simp only at d0 d1 d2 d3 d4 K AA
        go_wp2_with (go_at_call 94; refine (K.out _).mono ?_; rintro e w3 ⟨rfl, hB3⟩; have B3 := Lib.hid (BB.out.trans (Below.mono (AA.out.trans hB3) BB.out.size)); clear hB3)
        go_returns
        exact ⟨by rw [N.out]; rfl, B3.out⟩
      · rw [hk] at K
        have K := Lib.hid K
        have Y := Lib.hid (YE.out hk)
        clear hk YE NO
        generalize edAt cs j = x at *
        obtain ⟨k, s, h, a, b⟩ := x
        simp only at d0 d1 d2 d3 d4 K AA
        go_wp2_with (go_at_call 94; refine (K.out _).mono ?_; rintro e w3 ⟨rfl, hB3⟩; have B3 := Lib.hid (BB.out.trans (Below.mono (AA.out.trans hB3) BB.out.size)); clear hB3)
        exact ⟨⟨j + 1, hjl, by rw [Int.natCast_succ], Y.out, B3.out⟩, by (simp [intOf]) <;> omega⟩
    · have e : j = cs.length := by omega
      subst e
      have hd : decide ((cs.length : Int) < (cs.length : Int)) = false := by simp
      clear hB
      by_cases hl : cs.length ≤ 200
      · have E0 := Lib.hid (edsC_0 TT.out hl)
        have dl : decide ((200 : Int) < (cs.length : Int)) = false := by simp; omega
        go_wp2
        go_returns
        exact ⟨by rw [E0.out]; rfl, BB.out⟩
      · have E0 := Lib.hid (edsC_3 TT.out hl)
        have dl : decide ((200 : Int) < (cs.length : Int)) = true := by simp; omega
        go_wp2
        go_returns
        exact ⟨by rw [E0.out]; rfl, BB.out⟩

set_option maxRecDepth 100000 in
set_option maxHeartbeats 3200000 in
theorem sChk_any (ad : Option Addr) (cs : List Ed) (c : Nat) (w : World) (hc : EditsIn w ad cs) (hn : cs.length ≤ 1048576) :
    Calls Tryd.prog 59 #[.slice ad cs.length c] w fun e w' => e = .returned (.bool (edTil cs cs.length)) ∧ Below w.heap.size w w' := by
  have C := Lib.hid hc
  clear hc
  go_enter Tryd.func59, Tryd.ntmps59
  go_wp2
  go_loopw [3] (fun i wr => ∃ j : Nat, j ≤ cs.length ∧ i = .int .i64 j ∧ edTil cs j = true ∧ Below w.heap.size w wr) (fun i _ => cs.length - (intOf i).toNat)
  case atStart => exact ⟨0, Nat.zero_le _, rfl, rfl, Below.refl _ _⟩
  case round =>
    obtain ⟨j, hj, rfl, hT, hB⟩ := hrel
    have BB := Lib.hid hB
    have TT := Lib.hid hT
    clear hT
    by_cases hjl : j < cs.length
    · have hd : decide ((j : Int) < (cs.length : Int)) = true := by simpa using hjl
      obtain ⟨hf, b1, o1, rfl, hb1, p0, p1, p2, p3, p4⟩ := C.out j hjl
      have d0 := (hB.cell (p := ⟨b1, o1 + j * 5, none⟩) hb1).trans p0
      have d1 := (hB.cell (p := ⟨b1, o1 + j * 5 + 1, none⟩) hb1).trans p1
      have d2 := (hB.cell (p := ⟨b1, o1 + j * 5 + 2, none⟩) hb1).trans p2
      have d3 := (hB.cell (p := ⟨b1, o1 + j * 5 + 3, none⟩) hb1).trans p3
      have d4 := (hB.cell (p := ⟨b1, o1 + j * 5 + 4, none⟩) hb1).trans p4
      have i1 : (0 : Int) ≤ (j : Int) := by omega
      have i2 : (j : Int) < (cs.length : Int) := by omega
      have z1 : b1 < wr.heap.size := Nat.lt_of_lt_of_le hb1 hB.size
      have K := sEdit_any (edAt cs j) hf b1 (o1 + j * 5) wr d0 d1 d2 d3 d4
      have NO := Lib.hid fun h => edTil_no (cs := cs) (j := j) h cs.length hjl
      have YE := Lib.hid fun h => edTil_next TT.out (j := j) h
      clear hB p0 p1 p2 p3 p4 hf d0 d1 d2 d3 d4
      cases hk : edOk (edAt cs j)
      · rw [hk] at K
        have K := Lib.hid K
        have N := Lib.hid (NO.out hk)
        clear hk YE NO
        go_wp2_with (go_at_call 92; refine K.out.mono ?_; rintro e w3 ⟨rfl, hB3⟩; have B3 := Lib.hid (BB.out.trans (Below.mono hB3 BB.out.size)); clear hB3)
        go_returns
        exact ⟨by rw [N.out]; rfl, B3.out⟩
      · rw [hk] at K
        have K := Lib.hid K
        have Y := Lib.hid (YE.out hk)
        clear hk YE NO
        go_wp2_with (go_at_call 92; refine K.out.mono ?_; rintro e w3 ⟨rfl, hB3⟩; have B3 := Lib.hid (BB.out.trans (Below.mono hB3 BB.out.size)); clear hB3)
        exact ⟨⟨j + 1, hjl, by rw [Int.natCast_succ], Y.out, B3.out⟩, by (simp [intOf]) <;> omega⟩
    · have e : j = cs.length := by omega
      subst e
      have hd : decide ((cs.length : Int) < (cs.length : Int)) = false := by simp
      clear hB
      go_wp2
      go_returns
      exact ⟨by rw [TT.out]; rfl, BB.out⟩
end Go.Proofs.YtllhglakihfjmaaDoor
