/- Is a deck valid, in plain words; the model's contract. -/
import Derived.Test.YtpkpjkceiikakaaDoorNames
import Derived.Test.YtpkpjkceiikakaaDoorCard
import Derived.Test.YtpkpjkceiikakaaDoorSame
import Derived.Deep.DeepCutAuto
namespace Go.Proofs.YtpkpjkceiikakaaDoor
open Go.ChangeShapes Go.WideShapes Go.ChangeAt Go.RowKit

def namesTo (cs : List Cd) (i : Nat) : List ByteArray := (List.range i).map fun j => (cdAt cs j).s
def okTo (cs : List Cd) : Nat → Bool
  | 0 => true
  | i + 1 => okTo cs i && (cardOk (cdAt cs i).s (cdAt cs i).b && !hasN (namesTo cs i) (cdAt cs i).s)
def deckOk (cs : List Cd) : Bool := decide (cs.length ≤ 80) && okTo cs cs.length
theorem namesTo_next (cs : List Cd) (i : Nat) : namesTo cs (i + 1) = namesTo cs i ++ [(cdAt cs i).s] := by unfold namesTo; rw [List.range_succ, List.map_append]; rfl
theorem namesTo_len (cs : List Cd) (i : Nat) : (namesTo cs i).length = i := by unfold namesTo; simp
theorem bytes_beq (t s : ByteArray) : (t == s) = (t.data.toList == s.data.toList) := by rw [beq_toListBytes, ByteArray.toList_eq, ByteArray.toList_eq]
theorem hasN_next (cs : List Cd) (k : Nat) (s : ByteArray) : hasN (namesTo cs (k + 1)) s = (hasN (namesTo cs k) s || ((cdAt cs k).s == s)) := by
  rw [namesTo_next, bytes_beq]; unfold hasN; simp
theorem hasN_mono {cs : List Cd} {k : Nat} {s : ByteArray} (h : ((cdAt cs k).s == s) = true) : ∀ n, k < n → hasN (namesTo cs n) s = true
  | 0, hk => absurd hk (Nat.not_lt_zero _)
  | n + 1, hk => by
    rw [hasN_next]
    by_cases e : k = n
    · subst e; rw [h, Bool.or_true]
    · rw [hasN_mono h n (by omega)]; rfl
theorem okTo_no {cs : List Cd} {i : Nat} (h : okTo cs (i + 1) = false) : ∀ n, i < n → okTo cs n = false
  | 0, hk => absurd hk (Nat.not_lt_zero _)
  | n + 1, hk => by
    by_cases e : i = n
    · subst e; exact h
    · unfold okTo; rw [okTo_no h n (by omega)]; rfl
theorem deckOk_long {cs : List Cd} (h : ¬ cs.length ≤ 80) : deckOk cs = false := by unfold deckOk; simp [h]
theorem deckOk_no {cs : List Cd} {i : Nat} (hi : i < cs.length) (h : okTo cs (i + 1) = false) : deckOk cs = false := by unfold deckOk; rw [okTo_no h _ hi, Bool.and_false]
theorem deckOk_yes {cs : List Cd} (h : cs.length ≤ 80) (h1 : okTo cs cs.length = true) : deckOk cs = true := by unfold deckOk; rw [h1, decide_eq_true h]; rfl
theorem okTo_card {cs : List Cd} {i : Nat} (h : cardOk (cdAt cs i).s (cdAt cs i).b = false) : okTo cs (i + 1) = false := by unfold okTo; rw [h]; simp
theorem okTo_name {cs : List Cd} {i : Nat} (h : hasN (namesTo cs i) (cdAt cs i).s = true) : okTo cs (i + 1) = false := by unfold okTo; rw [h]; simp
theorem okTo_yes {cs : List Cd} {i : Nat} (h0 : okTo cs i = true) (h1 : cardOk (cdAt cs i).s (cdAt cs i).b = true) (h2 : hasN (namesTo cs i) (cdAt cs i).s = false) : okTo cs (i + 1) = true := by unfold okTo; rw [h0, h1, h2]; rfl

set_option maxHeartbeats 1600000 in
theorem sDeckOk_any (ad : Option Addr) (cs : List Cd) (c : Nat) (w : World) (hc : CardsIn w ad cs) :
    Calls Tryd.prog 34 #[.slice ad cs.length c] w fun e w' => e = .returned (.bool (deckOk cs)) ∧ Below w.heap.size w w' := by
  have C := Lib.hid hc
  have hbw := cell_bw
  clear hc
  by_cases hl : cs.length ≤ 80
  · have HL := Lib.hid hl
    have hg : decide ((80 : Int) < (cs.length : Int)) = false := by simp; omega
    go_enter Tryd.func34, Tryd.ntmps34
    go_wp2
    go_loopw [3, 4] (fun i k wr => ∃ j : Nat, j ≤ cs.length ∧ i = .int .i64 j ∧ okTo cs j = true ∧ Below w.heap.size w wr) (fun i _ _ => cs.length - (intOf i).toNat)
    case atStart => exact ⟨0, Nat.zero_le _, rfl, rfl, Below.refl _ _⟩
    case round =>
      obtain ⟨j, hj, rfl, hs, hB⟩ := hrel
      have BB := Lib.hid hB
      have S := Lib.hid hs
      clear hs hg
      by_cases hjl : j < cs.length
      · have hd : decide ((j : Int) < (cs.length : Int)) = true := by simpa using hjl
        obtain ⟨⟨hfit, _⟩, b1, o1, rfl, hb1, p0, p1, p2⟩ := C.out j hjl
        have d0 := (hB.cell (p := ⟨b1, o1 + j * 3, none⟩) hb1).trans p0
        have d1 := (hB.cell (p := ⟨b1, o1 + j * 3 + 1, none⟩) hb1).trans p1
        have d2 := (hB.cell (p := ⟨b1, o1 + j * 3 + 2, none⟩) hb1).trans p2
        have i1 : (0 : Int) ≤ (j : Int) := by omega
        have i2 : (j : Int) < (cs.length : Int) := by omega
        have no1 : Hid (cardOk (cdAt cs j).s (cdAt cs j).b = false → deckOk cs = false) := Lib.hid fun h => deckOk_no hjl (okTo_card h)
        have no2 : Hid (hasN (namesTo cs j) (cdAt cs j).s = true → deckOk cs = false) := Lib.hid fun h => deckOk_no hjl (okTo_name h)
        have nx : Hid (cardOk (cdAt cs j).s (cdAt cs j).b = true → hasN (namesTo cs j) (cdAt cs j).s = false → okTo cs (j + 1) = true) := Lib.hid fun h1 h2 => okTo_yes S.out h1 h2
        have P0 := Lib.hid p0
        have V := Lib.hid (sOk_any (cdAt cs j).s (cdAt cs j).b hfit b1 (o1 + j * 3) wr (cdAt cs j).a d0 d1 d2)
        clear hB p0 p1 p2 d0 d1 d2 S hfit
        cases hz : cardOk (cdAt cs j).s (cdAt cs j).b
        · rw [hz] at V
          go_wp2_with (go_at_call 51; refine V.out.mono ?_; rintro e w1 ⟨rfl, hB⟩; have B1 := Lib.hid (BB.out.trans (Below.mono hB BB.out.size)); clear hB)
          go_ret
          exact ⟨retB (no1.out hz), B1.out⟩
        · rw [hz] at V
          go_wp2_with (go_at_call 51; refine V.out.mono ?_; rintro e w1 ⟨rfl, hB⟩; have B1 := Lib.hid (BB.out.trans (Below.mono hB BB.out.size)); clear hB)
          have NX := Lib.hid (nx.out hz)
          clear nx no1 V BB hd
          go_loopw [4] (fun u wr => ∃ k : Nat, k ≤ j ∧ u = .int .i64 k ∧ hasN (namesTo cs k) (cdAt cs j).s = false ∧ Below w.heap.size w wr) (fun u _ => j - (intOf u).toNat)
          case atStart => exact ⟨0, Nat.zero_le _, rfl, rfl, B1.out⟩
          case round =>
            obtain ⟨k, hk, rfl, hs, hB⟩ := hrel
            have BB := Lib.hid hB
            have S := Lib.hid hs
            clear hs
            by_cases hkl : k < j
            · have hd : decide ((k : Int) < (j : Int)) = true := by simpa using hkl
              obtain ⟨_, b2, o2, he, hb2, q0, _, _⟩ := C.out k (Nat.lt_trans hkl hjl)
              cases he
              have e0 := (hB.cell (p := ⟨b1, o1 + j * 3, none⟩) hb1).trans P0.out
              have e1 := (hB.cell (p := ⟨b1, o1 + k * 3, none⟩) hb1).trans q0
              have y1 : b1 < wr.heap.size := Nat.lt_of_lt_of_le hb1 hB.size
              have i3 : (0 : Int) ≤ (k : Int) := by omega
              have i4 : (k : Int) < (cs.length : Int) := by omega
              have n2 : Hid (((cdAt cs k).s == (cdAt cs j).s) = true → deckOk cs = false) := Lib.hid fun h => no2.out (hasN_mono h j hkl)
              have n3 : Hid (((cdAt cs k).s == (cdAt cs j).s) = false → hasN (namesTo cs (k + 1)) (cdAt cs j).s = false) := Lib.hid fun h => by rw [hasN_next, S.out, h]; rfl
              clear hB q0 hb2
              cases hx : ((cdAt cs k).s == (cdAt cs j).s)
              · have ht : ((cdAt cs k).s.toList == (cdAt cs j).s.toList) = false := by rw [← beq_toListBytes]; exact hx
                go_wp2_with fail
                refine region_bw (by kernel_rfl) (by kernel_rfl) ?_
                repeat (go_big_quiet_step (fail))
                refine wpQuiet_nil ?_; intro wq hq; replace hq := below_of_bw hq; obtain ⟨qc, qf, qz⟩ := bcell hq
                go_wp2_with fail
                exact ⟨⟨k + 1, hkl, by rw [Int.natCast_succ], n3.out hx, BB.out.trans (hq.mono BB.out.size)⟩, by (simp [intOf]) <;> omega⟩
              · have ht : ((cdAt cs k).s.toList == (cdAt cs j).s.toList) = true := by rw [← beq_toListBytes]; exact hx
                go_wp2_with fail
                refine region_bw (by kernel_rfl) (by kernel_rfl) ?_
                repeat (go_big_quiet_step (fail))
                refine wpQuiet_nil ?_; intro wq hq; replace hq := below_of_bw hq; obtain ⟨qc, qf, qz⟩ := bcell hq
                go_wp2_with fail
                go_ret
                exact ⟨retB (n2.out hx), BB.out.trans (hq.mono BB.out.size)⟩
            · have e : k = j := by omega
              subst e
              have hd : decide ((k : Int) < (k : Int)) = false := by simp
              clear hB
              go_wp2
              exact ⟨⟨k + 1, hjl, by rw [Int.natCast_succ], NX.out S.out, BB.out⟩, by (simp [intOf]) <;> omega⟩
      · have e : j = cs.length := by omega
        subst e
        have hd : decide ((cs.length : Int) < (cs.length : Int)) = false := by simp
        clear hB
        go_wp2
        go_ret
        exact ⟨retB (deckOk_yes HL.out S.out), BB.out⟩
  · have hg : decide ((80 : Int) < (cs.length : Int)) = true := by simp; omega
    go_enter Tryd.func34, Tryd.ntmps34
    go_wp2
    go_ret
    exact ⟨retB (deckOk_long hl), Below.refl _ _⟩
end Go.Proofs.YtpkpjkceiikakaaDoor
