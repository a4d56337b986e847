/- Contracts: are two decks the same; the program's (slices.Equal) and the model's. -/
import Derived.Test.YtdohlcopamckjabCardEq
import Derived.Test.YtdohlcopamckjabDeck3
namespace Go.Proofs.Ytdohlcopamckjab
open Go.ChangeShapes Go.WideShapes Go.ChangeAt Go.RowKit

def Cd.eqb (x y : Cd) : Bool := x.s == y.s && (x.a == y.a && x.b == y.b)
def sameTo (cs ds : List Cd) : Nat → Bool
  | 0 => true
  | k + 1 => sameTo cs ds k && (cdAt cs k).eqb (cdAt ds k)
def sameC (cs ds : List Cd) : Bool := decide (cs.length = ds.length) && sameTo cs ds cs.length
theorem sameC_len {cs ds : List Cd} (h : ¬ cs.length = ds.length) : sameC cs ds = false := by unfold sameC; simp [h]
theorem sameTo_no {cs ds : List Cd} {k : Nat} (h : (cdAt cs k).eqb (cdAt ds k) = false) : ∀ n, k < n → sameTo cs ds n = false
  | 0, hk => absurd hk (Nat.not_lt_zero _)
  | n + 1, hk => by
    unfold sameTo
    by_cases e : k = n
    · subst e; simp [h]
    · rw [sameTo_no h n (by omega)]; rfl
theorem sameC_no {cs ds : List Cd} {k : Nat} (hk : k < cs.length) (h : (cdAt cs k).eqb (cdAt ds k) = false) : sameC cs ds = false := by unfold sameC; rw [sameTo_no h _ hk]; simp
theorem sameC_yes {cs ds : List Cd} (hl : cs.length = ds.length) (h : sameTo cs ds cs.length = true) : sameC cs ds = true := by unfold sameC; rw [h, decide_eq_true hl]; rfl
theorem retB {x y : Bool} (h : y = x) : Ending.returned (.bool x) = Ending.returned (.bool y) := by rw [h]

set_option maxHeartbeats 1600000 in
theorem sSame_any (ad bd : Option Addr) (cs ds : List Cd) (c d : Nat) (w : World) (ha : CardsIn w ad cs) (hb : CardsIn w bd ds) (hn : cs.length ≤ 1048576) :
    Calls Try.prog 74 #[.slice ad cs.length c, .slice bd ds.length d] w fun e w' => e = .returned (.bool (sameC cs ds)) ∧ Below w.heap.size w w' := by
  have A := Lib.hid ha
  have B := Lib.hid hb
  have hbw := cell_bw
  clear ha hb
  by_cases hl : cs.length = ds.length
  · have hne : ((cs.length : Int) != (ds.length : Int)) = false := by simp [hl]
    have HL := Lib.hid hl
    clear hl
    go_enter Try.func74, Try.ntmps74
    go_wp2
    go_loopw [5] (fun i wr => ∃ j : Nat, j ≤ cs.length ∧ i = .int .i64 j ∧ sameTo cs ds j = true ∧ Below w.heap.size w wr) (fun i _ => cs.length - (intOf i).toNat)
    case atStart => exact ⟨0, Nat.zero_le _, rfl, rfl, Below.refl _ _⟩
    case round =>
      obtain ⟨j, hj, rfl, hs, hB⟩ := hrel
      have BB := Lib.hid hB
      have S := Lib.hid hs
      clear hs hne
      by_cases hjl : j < cs.length
      · have hd : decide ((j : Int) < (cs.length : Int)) = true := by simpa using hjl
        obtain ⟨_, b1, o1, rfl, hb1, p0, p1, p2⟩ := A.out j hjl
        obtain ⟨_, b2, o2, rfl, hb2, q0, q1, q2⟩ := B.out j (HL.out ▸ hjl)
        have d0 := (hB.cell (p := ⟨b1, o1 + j * 3, none⟩) hb1).trans p0
        have d1 := (hB.cell (p := ⟨b1, o1 + j * 3 + 1, none⟩) hb1).trans p1
        have d2 := (hB.cell (p := ⟨b1, o1 + j * 3 + 2, none⟩) hb1).trans p2
        have e0 := (hB.cell (p := ⟨b2, o2 + j * 3, none⟩) hb2).trans q0
        have e1 := (hB.cell (p := ⟨b2, o2 + j * 3 + 1, none⟩) hb2).trans q1
        have e2 := (hB.cell (p := ⟨b2, o2 + j * 3 + 2, none⟩) hb2).trans q2
        have y1 : b1 < wr.heap.size := Nat.lt_of_lt_of_le hb1 hB.size
        have y2 : b2 < wr.heap.size := Nat.lt_of_lt_of_le hb2 hB.size
        have i1 : (0 : Int) ≤ (j : Int) := by omega
        have i2 : (j : Int) < (cs.length : Int) := by omega
        have i3 : (j : Int) < (ds.length : Int) := by have := HL.out; omega
        have K := Lib.hid fun (z : Bool) (h : (cdAt cs j).eqb (cdAt ds j) = z) => h
        have no : Hid ((cdAt cs j).eqb (cdAt ds j) = false → sameC cs ds = false) := Lib.hid fun h => sameC_no hjl h
        have nx : Hid ((cdAt cs j).eqb (cdAt ds j) = true → sameTo cs ds (j + 1) = true) := Lib.hid fun h => by unfold sameTo; rw [S.out, h]; rfl
        clear K
        generalize cdAt cs j = x at *
        generalize cdAt ds j = y at *
        obtain ⟨s, a, b⟩ := x
        obtain ⟨t, m, n⟩ := y
        simp only at d0 d1 d2 e0 e1 e2
        have he := eq_card s t a b m n
        unfold Cd.eqb at no nx
        simp only at no nx
        generalize (s == t && (a == m && b == n)) = z at *
        clear hB p0 p1 p2 q0 q1 q2 S
        cases z
        · go_wp2_with fail
          refine region_bw (by kernel_rfl) (by kernel_rfl) ?_
          repeat (go_big_quiet_step (fail))
          refine wpQuiet_nil ?_; intro wq hq; replace hq := below_of_bw hq; obtain ⟨qc, qf, qz⟩ := bcell hq
          go_wp2_with fail
          go_ret
          exact ⟨retB (no.out (by trivial)), BB.out.trans (hq.mono BB.out.size)⟩
        · go_wp2_with fail
          refine region_bw (by kernel_rfl) (by kernel_rfl) ?_
          repeat (go_big_quiet_step (fail))
          refine wpQuiet_nil ?_; intro wq hq; replace hq := below_of_bw hq; obtain ⟨qc, qf, qz⟩ := bcell hq
          go_wp2_with fail
          exact ⟨⟨j + 1, hjl, by rw [Int.natCast_succ], nx.out (by trivial), BB.out.trans (hq.mono BB.out.size)⟩, by (simp [intOf]) <;> omega⟩
      · have e : j = cs.length := by omega
        subst e
        have hd : decide ((cs.length : Int) < (cs.length : Int)) = false := by simp
        clear hB
        go_wp2
        go_ret
        exact ⟨retB (sameC_yes HL.out S.out), BB.out⟩
  · have hne : ((cs.length : Int) != (ds.length : Int)) = true := by simp; omega
    go_enter Try.func74, Try.ntmps74
    go_wp2
    go_ret
    exact ⟨retB (sameC_len hl), Below.refl _ _⟩

set_option maxHeartbeats 1600000 in
theorem iSame_any (ad bd : Option Addr) (cs ds : List Cd) (c d : Nat) (w : World) (ha : CardsIn w ad cs) (hb : CardsIn w bd ds) (hn : cs.length ≤ 1048576) :
    Calls Try.prog 75 #[.slice ad cs.length c, .slice bd ds.length d] w fun e w' => e = .returned (.bool (sameC cs ds)) ∧ Below w.heap.size w w' := by
  have A := Lib.hid ha
  have B := Lib.hid hb
  have hbw := cell_bw
  clear ha hb
  by_cases hl : cs.length = ds.length
  · have hne : ((cs.length : Int) != (ds.length : Int)) = false := by simp [hl]
    have HL := Lib.hid hl
    clear hl
    go_enter Try.func75, Try.ntmps75
    go_wp2
    go_loopw [13] (fun i wr => ∃ j : Nat, j ≤ cs.length ∧ i = .int .i64 j ∧ sameTo cs ds j = true ∧ Below w.heap.size w wr) (fun i _ => cs.length - (intOf i).toNat)
    case atStart => exact ⟨0, Nat.zero_le _, rfl, rfl, Below.refl _ _⟩
    case round =>
      obtain ⟨j, hj, rfl, hs, hB⟩ := hrel
      have BB := Lib.hid hB
      have S := Lib.hid hs
      clear hs hne
      by_cases hjl : j < cs.length
      · have hd : decide ((j : Int) < (cs.length : Int)) = true := by simpa using hjl
        obtain ⟨_, b1, o1, rfl, hb1, p0, p1, p2⟩ := A.out j hjl
        obtain ⟨_, b2, o2, rfl, hb2, q0, q1, q2⟩ := B.out j (HL.out ▸ hjl)
        have d0 := (hB.cell (p := ⟨b1, o1 + j * 3, none⟩) hb1).trans p0
        have d1 := (hB.cell (p := ⟨b1, o1 + j * 3 + 1, none⟩) hb1).trans p1
        have d2 := (hB.cell (p := ⟨b1, o1 + j * 3 + 2, none⟩) hb1).trans p2
        have e0 := (hB.cell (p := ⟨b2, o2 + j * 3, none⟩) hb2).trans q0
        have e1 := (hB.cell (p := ⟨b2, o2 + j * 3 + 1, none⟩) hb2).trans q1
        have e2 := (hB.cell (p := ⟨b2, o2 + j * 3 + 2, none⟩) hb2).trans q2
        have y1 : b1 < wr.heap.size := Nat.lt_of_lt_of_le hb1 hB.size
        have y2 : b2 < wr.heap.size := Nat.lt_of_lt_of_le hb2 hB.size
        have i1 : (0 : Int) ≤ (j : Int) := by omega
        have i2 : (j : Int) < (cs.length : Int) := by omega
        have i3 : (j : Int) < (ds.length : Int) := by have := HL.out; omega
        have K := Lib.hid fun (z : Bool) (h : (cdAt cs j).eqb (cdAt ds j) = z) => h
        have no : Hid ((cdAt cs j).eqb (cdAt ds j) = false → sameC cs ds = false) := Lib.hid fun h => sameC_no hjl h
        have nx : Hid ((cdAt cs j).eqb (cdAt ds j) = true → sameTo cs ds (j + 1) = true) := Lib.hid fun h => by unfold sameTo; rw [S.out, h]; rfl
        clear K
        generalize cdAt cs j = x at *
        generalize cdAt ds j = y at *
        obtain ⟨s, a, b⟩ := x
        obtain ⟨t, m, n⟩ := y
        simp only at d0 d1 d2 e0 e1 e2
        have he := eq_card s t a b m n
        unfold Cd.eqb at no nx
        simp only at no nx
        generalize (s == t && (a == m && b == n)) = z at *
        clear hB p0 p1 p2 q0 q1 q2 S
        cases z
        · go_wp2_with fail
          refine region_bw (by kernel_rfl) (by kernel_rfl) ?_
          repeat (go_big_quiet_step (fail))
          refine wpQuiet_nil ?_; intro wq hq; replace hq := below_of_bw hq; obtain ⟨qc, qf, qz⟩ := bcell hq
          go_wp2_with fail
          go_ret
          exact ⟨retB (no.out (by trivial)), BB.out.trans (hq.mono BB.out.size)⟩
        · go_wp2_with fail
          refine region_bw (by kernel_rfl) (by kernel_rfl) ?_
          repeat (go_big_quiet_step (fail))
          refine wpQuiet_nil ?_; intro wq hq; replace hq := below_of_bw hq; obtain ⟨qc, qf, qz⟩ := bcell hq
          go_wp2_with fail
          exact ⟨⟨j + 1, hjl, by rw [Int.natCast_succ], nx.out (by trivial), BB.out.trans (hq.mono BB.out.size)⟩, by (simp [intOf]) <;> omega⟩
      · have e : j = cs.length := by omega
        subst e
        have hd : decide ((cs.length : Int) < (cs.length : Int)) = false := by simp
        clear hB
        go_wp2
        go_ret
        exact ⟨retB (sameC_yes HL.out S.out), BB.out⟩
  · have hne : ((cs.length : Int) != (ds.length : Int)) = true := by simp; omega
    go_enter Try.func75, Try.ntmps75
    go_wp2
    go_ret
    exact ⟨retB (sameC_len hl), Below.refl _ _⟩

theorem sSameDeck_any (ad bd : Option Addr) (cs ds : List Cd) (c d : Nat) (w : World) (ha : CardsIn w ad cs) (hb : CardsIn w bd ds) (hn : cs.length ≤ 1048576) :
    Calls Try.prog 31 #[.slice ad cs.length c, .slice bd ds.length d] w fun e w' => e = .returned (.bool (sameC cs ds)) ∧ Below w.heap.size w w' := by
  have S := Lib.hid (sSame_any ad bd cs ds c d w ha hb hn)
  clear ha hb hn
  go_enter Try.func31, Try.ntmps31
  go_wp2_with (go_at_call 74; refine S.out.mono ?_; rintro e w1 ⟨rfl, hB⟩; have B := Lib.hid hB; clear hB)
  go_returns
  exact ⟨rfl, B.out⟩

theorem iSameDeck_any (ad bd : Option Addr) (cs ds : List Cd) (c d : Nat) (w : World) (ha : CardsIn w ad cs) (hb : CardsIn w bd ds) (hn : cs.length ≤ 1048576) :
    Calls Try.prog 32 #[.slice ad cs.length c, .slice bd ds.length d] w fun e w' => e = .returned (.bool (sameC cs ds)) ∧ Below w.heap.size w w' := by
  have S := Lib.hid (iSame_any ad bd cs ds c d w ha hb hn)
  clear ha hb hn
  go_enter Try.func32, Try.ntmps32
  go_wp2_with (go_at_call 75; refine S.out.mono ?_; rintro e w1 ⟨rfl, hB⟩; have B := Lib.hid hB; clear hB)
  go_returns
  exact ⟨rfl, B.out⟩
end Go.Proofs.Ytdohlcopamckjab
