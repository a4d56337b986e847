/- Contracts: are two decks the same; the program's (slices.Equal) and the model's. -/
import Derived.Test.YtcbcggnpbjcdfaaEntEq
import Derived.Test.YtcbcggnpbjcdfaaEnt3
namespace Go.Proofs.Ytcbcggnpbjcdfaa
open Go.ChangeShapes Go.WideShapes Go.ChangeAt Go.RowKit

def Et.eqb (x y : Et) : Bool := x.s == y.s && (x.a == y.a && x.b == y.b)
def esameTo (cs ds : List Et) : Nat → Bool
  | 0 => true
  | k + 1 => esameTo cs ds k && (etAt cs k).eqb (etAt ds k)
def sameE (cs ds : List Et) : Bool := decide (cs.length = ds.length) && esameTo cs ds cs.length
theorem sameE_len {cs ds : List Et} (h : ¬ cs.length = ds.length) : sameE cs ds = false := by unfold sameE; simp [h]
theorem esameTo_no {cs ds : List Et} {k : Nat} (h : (etAt cs k).eqb (etAt ds k) = false) : ∀ n, k < n → esameTo cs ds n = false
  | 0, hk => absurd hk (Nat.not_lt_zero _)
  | n + 1, hk => by
    unfold esameTo
    by_cases e : k = n
    · subst e; simp [h]
    · rw [esameTo_no h n (by omega)]; rfl
theorem sameE_no {cs ds : List Et} {k : Nat} (hk : k < cs.length) (h : (etAt cs k).eqb (etAt ds k) = false) : sameE cs ds = false := by unfold sameE; rw [esameTo_no h _ hk]; simp
theorem sameE_yes {cs ds : List Et} (hl : cs.length = ds.length) (h : esameTo cs ds cs.length = true) : sameE cs ds = true := by unfold sameE; rw [h, decide_eq_true hl]; rfl
theorem eretB {x y : Bool} (h : y = x) : Ending.returned (.bool x) = Ending.returned (.bool y) := by rw [h]

set_option maxHeartbeats 1600000 in
theorem sSameCat_any (ad bd : Option Addr) (cs ds : List Et) (c d : Nat) (w : World) (ha : EntsIn w ad cs) (hb : EntsIn w bd ds) (hn : cs.length ≤ 1048576) :
    Calls Try.prog 5 #[.slice ad cs.length c, .slice bd ds.length d] w fun e w' => e = .returned (.bool (sameE cs ds)) ∧ Below w.heap.size w w' := by
  have A := Lib.hid ha
  have B := Lib.hid hb
  have hbw := cell_bw
  clear ha hb
  by_cases hl : cs.length = ds.length
  · have hne : ((cs.length : Int) != (ds.length : Int)) = false := by simp [hl]
    have HL := Lib.hid hl
    clear hl
    go_enter Try.func5, Try.ntmps5
    go_wp2
    go_loopw [5] (fun i wr => ∃ j : Nat, j ≤ cs.length ∧ i = .int .i64 j ∧ esameTo cs ds j = true ∧ Below w.heap.size w wr) (fun i _ => cs.length - (intOf i).toNat)
    case atStart => exact ⟨0, Nat.zero_le _, rfl, rfl, Below.refl _ _⟩
    case round =>
      obtain ⟨j, hj, rfl, hs, hB⟩ := hrel
      have BB := Lib.hid hB
      have S := Lib.hid hs
      clear hs hne
      by_cases hjl : j < cs.length
      · have hd : decide ((j : Int) < (cs.length : Int)) = true := by simpa using hjl
        obtain ⟨_, b1, o1, rfl, hb1, p0, p1, p2⟩ := A.out j hjl
        obtain ⟨_, b2, o2, rfl, hb2, q0, q1, q2⟩ := B.out j (HL.out ▸ hjl)
        have d0 := (hB.cell (p := ⟨b1, o1 + j * 3, none⟩) hb1).trans p0
        have d1 := (hB.cell (p := ⟨b1, o1 + j * 3 + 1, none⟩) hb1).trans p1
        have d2 := (hB.cell (p := ⟨b1, o1 + j * 3 + 2, none⟩) hb1).trans p2
        have e0 := (hB.cell (p := ⟨b2, o2 + j * 3, none⟩) hb2).trans q0
        have e1 := (hB.cell (p := ⟨b2, o2 + j * 3 + 1, none⟩) hb2).trans q1
        have e2 := (hB.cell (p := ⟨b2, o2 + j * 3 + 2, none⟩) hb2).trans q2
        have y1 : b1 < wr.heap.size := Nat.lt_of_lt_of_le hb1 hB.size
        have y2 : b2 < wr.heap.size := Nat.lt_of_lt_of_le hb2 hB.size
        have i1 : (0 : Int) ≤ (j : Int) := by omega
        have i2 : (j : Int) < (cs.length : Int) := by omega
        have i3 : (j : Int) < (ds.length : Int) := by have := HL.out; omega
        have K := Lib.hid fun (z : Bool) (h : (etAt cs j).eqb (etAt ds j) = z) => h
        have no : Hid ((etAt cs j).eqb (etAt ds j) = false → sameE cs ds = false) := Lib.hid fun h => sameE_no hjl h
        have nx : Hid ((etAt cs j).eqb (etAt ds j) = true → esameTo cs ds (j + 1) = true) := Lib.hid fun h => by unfold esameTo; rw [S.out, h]; rfl
        clear K
        generalize etAt cs j = x at *
        generalize etAt ds j = y at *
        obtain ⟨s, a, b⟩ := x
        obtain ⟨t, m, n⟩ := y
        simp only at d0 d1 d2 e0 e1 e2
        have he := eq_entry s t a b m n
        unfold Et.eqb at no nx
        simp only at no nx
        generalize (s == t && (a == m && b == n)) = z at *
        clear hB p0 p1 p2 q0 q1 q2 S
        cases z
        · go_wp2_with fail
          refine region_bw (by kernel_rfl) (by kernel_rfl) ?_
          repeat (go_big_quiet_step (fail))
          refine wpQuiet_nil ?_; intro wq hq; replace hq := below_of_bw hq; obtain ⟨qc, qf, qz⟩ := bcell hq
          go_wp2_with fail
          go_ret
          exact ⟨eretB (no.out (by trivial)), BB.out.trans (hq.mono BB.out.size)⟩
        · go_wp2_with fail
          refine region_bw (by kernel_rfl) (by kernel_rfl) ?_
          repeat (go_big_quiet_step (fail))
          refine wpQuiet_nil ?_; intro wq hq; replace hq := below_of_bw hq; obtain ⟨qc, qf, qz⟩ := bcell hq
          go_wp2_with fail
          exact ⟨⟨j + 1, hjl, by rw [Int.natCast_succ], nx.out (by trivial), BB.out.trans (hq.mono BB.out.size)⟩, by (simp [intOf]) <;> omega⟩
      · have e : j = cs.length := by omega
        subst e
        have hd : decide ((cs.length : Int) < (cs.length : Int)) = false := by simp
        clear hB
        go_wp2
        go_ret
        exact ⟨eretB (sameE_yes HL.out S.out), BB.out⟩
  · have hne : ((cs.length : Int) != (ds.length : Int)) = true := by simp; omega
    go_enter Try.func5, Try.ntmps5
    go_wp2
    go_ret
    exact ⟨eretB (sameE_len hl), Below.refl _ _⟩

set_option maxHeartbeats 1600000 in
theorem eiSame_any (ad bd : Option Addr) (cs ds : List Et) (c d : Nat) (w : World) (ha : EntsIn w ad cs) (hb : EntsIn w bd ds) (hn : cs.length ≤ 1048576) :
    Calls Try.prog 11 #[.slice ad cs.length c, .slice bd ds.length d] w fun e w' => e = .returned (.bool (sameE cs ds)) ∧ Below w.heap.size w w' := by
  have A := Lib.hid ha
  have B := Lib.hid hb
  have hbw := cell_bw
  clear ha hb
  by_cases hl : cs.length = ds.length
  · have hne : ((cs.length : Int) != (ds.length : Int)) = false := by simp [hl]
    have HL := Lib.hid hl
    clear hl
    go_enter Try.func11, Try.ntmps11
    go_wp2
    go_loopw [13] (fun i wr => ∃ j : Nat, j ≤ cs.length ∧ i = .int .i64 j ∧ esameTo cs ds j = true ∧ Below w.heap.size w wr) (fun i _ => cs.length - (intOf i).toNat)
    case atStart => exact ⟨0, Nat.zero_le _, rfl, rfl, Below.refl _ _⟩
    case round =>
      obtain ⟨j, hj, rfl, hs, hB⟩ := hrel
      have BB := Lib.hid hB
      have S := Lib.hid hs
      clear hs hne
      by_cases hjl : j < cs.length
      · have hd : decide ((j : Int) < (cs.length : Int)) = true := by simpa using hjl
        obtain ⟨_, b1, o1, rfl, hb1, p0, p1, p2⟩ := A.out j hjl
        obtain ⟨_, b2, o2, rfl, hb2, q0, q1, q2⟩ := B.out j (HL.out ▸ hjl)
        have d0 := (hB.cell (p := ⟨b1, o1 + j * 3, none⟩) hb1).trans p0
        have d1 := (hB.cell (p := ⟨b1, o1 + j * 3 + 1, none⟩) hb1).trans p1
        have d2 := (hB.cell (p := ⟨b1, o1 + j * 3 + 2, none⟩) hb1).trans p2
        have e0 := (hB.cell (p := ⟨b2, o2 + j * 3, none⟩) hb2).trans q0
        have e1 := (hB.cell (p := ⟨b2, o2 + j * 3 + 1, none⟩) hb2).trans q1
        have e2 := (hB.cell (p := ⟨b2, o2 + j * 3 + 2, none⟩) hb2).trans q2
        have y1 : b1 < wr.heap.size := Nat.lt_of_lt_of_le hb1 hB.size
        have y2 : b2 < wr.heap.size := Nat.lt_of_lt_of_le hb2 hB.size
        have i1 : (0 : Int) ≤ (j : Int) := by omega
        have i2 : (j : Int) < (cs.length : Int) := by omega
        have i3 : (j : Int) < (ds.length : Int) := by have := HL.out; omega
        have K := Lib.hid fun (z : Bool) (h : (etAt cs j).eqb (etAt ds j) = z) => h
        have no : Hid ((etAt cs j).eqb (etAt ds j) = false → sameE cs ds = false) := Lib.hid fun h => sameE_no hjl h
        have nx : Hid ((etAt cs j).eqb (etAt ds j) = true → esameTo cs ds (j + 1) = true) := Lib.hid fun h => by unfold esameTo; rw [S.out, h]; rfl
        clear K
        generalize etAt cs j = x at *
        generalize etAt ds j = y at *
        obtain ⟨s, a, b⟩ := x
        obtain ⟨t, m, n⟩ := y
        simp only at d0 d1 d2 e0 e1 e2
        have he := eq_entry s t a b m n
        unfold Et.eqb at no nx
        simp only at no nx
        generalize (s == t && (a == m && b == n)) = z at *
        clear hB p0 p1 p2 q0 q1 q2 S
        cases z
        · go_wp2_with fail
          refine region_bw (by kernel_rfl) (by kernel_rfl) ?_
          repeat (go_big_quiet_step (fail))
          refine wpQuiet_nil ?_; intro wq hq; replace hq := below_of_bw hq; obtain ⟨qc, qf, qz⟩ := bcell hq
          go_wp2_with fail
          go_ret
          exact ⟨eretB (no.out (by trivial)), BB.out.trans (hq.mono BB.out.size)⟩
        · go_wp2_with fail
          refine region_bw (by kernel_rfl) (by kernel_rfl) ?_
          repeat (go_big_quiet_step (fail))
          refine wpQuiet_nil ?_; intro wq hq; replace hq := below_of_bw hq; obtain ⟨qc, qf, qz⟩ := bcell hq
          go_wp2_with fail
          exact ⟨⟨j + 1, hjl, by rw [Int.natCast_succ], nx.out (by trivial), BB.out.trans (hq.mono BB.out.size)⟩, by (simp [intOf]) <;> omega⟩
      · have e : j = cs.length := by omega
        subst e
        have hd : decide ((cs.length : Int) < (cs.length : Int)) = false := by simp
        clear hB
        go_wp2
        go_ret
        exact ⟨eretB (sameE_yes HL.out S.out), BB.out⟩
  · have hne : ((cs.length : Int) != (ds.length : Int)) = true := by simp; omega
    go_enter Try.func11, Try.ntmps11
    go_wp2
    go_ret
    exact ⟨eretB (sameE_len hl), Below.refl _ _⟩

theorem iSameCat_any (ad bd : Option Addr) (cs ds : List Et) (c d : Nat) (w : World) (ha : EntsIn w ad cs) (hb : EntsIn w bd ds) (hn : cs.length ≤ 1048576) :
    Calls Try.prog 7 #[.slice ad cs.length c, .slice bd ds.length d] w fun e w' => e = .returned (.bool (sameE cs ds)) ∧ Below w.heap.size w w' := by
  have S := Lib.hid (eiSame_any ad bd cs ds c d w ha hb hn)
  clear ha hb hn
  go_enter Try.func7, Try.ntmps7
  go_wp2_with (go_at_call 11; refine S.out.mono ?_; rintro e w1 ⟨rfl, hB⟩; have B := Lib.hid hB; clear hB)
  go_returns
  exact ⟨rfl, B.out⟩
end Go.Proofs.Ytcbcggnpbjcdfaa
