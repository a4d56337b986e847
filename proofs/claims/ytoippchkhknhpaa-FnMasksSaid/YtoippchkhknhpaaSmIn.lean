/- Two lists of numbers compared, a list asked for a number: the model's. -/
import Derived.Test.YtoippchkhknhpaaOwns
import Derived.Test.YtoippchkhknhpaaQuiet
namespace Go.Proofs.Ytoippchkhknhpaa
open Go.ChangeShapes Go.WideShapes Go.ChangeAt Go.RowKit

def eqTo (zs ys : List Int) : Nat → Bool
  | 0 => true
  | k + 1 => eqTo zs ys k && zs.getD k 0 == ys.getD k 0
def eqL (zs ys : List Int) : Bool := decide (zs.length = ys.length) && eqTo zs ys zs.length
theorem eqL_len {zs ys : List Int} (h : ¬ zs.length = ys.length) : eqL zs ys = false := by unfold eqL; simp [h]
theorem eqTo_no {zs ys : List Int} {k : Nat} (h : ¬ zs.getD k 0 = ys.getD k 0) : ∀ n, k < n → eqTo zs ys n = false
  | 0, hk => absurd hk (Nat.not_lt_zero _)
  | n + 1, hk => by
    unfold eqTo
    by_cases e : k = n
    · subst e; rw [beq_eq_false_iff_ne.2 h]; simp
    · rw [eqTo_no h n (by omega)]; rfl
theorem eqL_no {zs ys : List Int} {k : Nat} (hk : k < zs.length) (h : ¬ zs.getD k 0 = ys.getD k 0) : eqL zs ys = false := by unfold eqL; rw [eqTo_no h _ hk]; simp
theorem eqL_yes {zs ys : List Int} (hl : zs.length = ys.length) (h : eqTo zs ys zs.length = true) : eqL zs ys = true := by unfold eqL; rw [h, decide_eq_true hl]; rfl
theorem eqTo_next {zs ys : List Int} {k : Nat} (h : eqTo zs ys k = true) (e : zs.getD k 0 = ys.getD k 0) : eqTo zs ys (k + 1) = true := by unfold eqTo; rw [h, e]; simp
theorem kretB {x y : Bool} (h : y = x) : Ending.returned (.bool x) = Ending.returned (.bool y) := by rw [h]


theorem getD_mem {zs : List Int} {j : Nat} (h : j < zs.length) : zs.getD j 0 ∈ zs := by
  rw [List.getD_eq_getElem?_getD, List.getElem?_eq_getElem h]; exact List.getElem_mem h
theorem mem_getD {zs : List Int} {x : Int} (h : x ∈ zs) : ∃ j, j < zs.length ∧ zs.getD j 0 = x := by
  obtain ⟨j, hj, e⟩ := List.mem_iff_getElem.1 h
  exact ⟨j, hj, by rw [List.getD_eq_getElem?_getD, List.getElem?_eq_getElem hj]; exact e⟩
set_option maxHeartbeats 1600000 in
theorem sIn_any (a : Option Addr) (zs : List Int) (c : Nat) (x : Int) (w : World) (h : IntsIn w a zs) (hl : zs.length ≤ 17592186044404) :
    Calls Try.prog 109 #[.slice a zs.length c, .int .i64 x] w fun e w' => e = .returned (.bool (decide (x ∈ zs))) ∧ Below w.heap.size w w' := by
  have H := Lib.hid h
  clear h
  go_enter Try.func109, Try.ntmps109
  go_wp2
  go_loopw [5] (fun i wr => wr = w ∧ ∃ j : Nat, j ≤ zs.length ∧ i = .int .i64 j ∧ ∀ k, k < j → zs.getD k 0 ≠ x) (fun i _ => zs.length - (intOf i).toNat)
  case atStart => exact ⟨rfl, 0, Nat.zero_le _, rfl, fun k hk => absurd hk (Nat.not_lt_zero _)⟩
  case round =>
    obtain ⟨rfl, j, hj, rfl, hno⟩ := hrel
    have NO := Lib.hid hno
    clear hno
    by_cases hjl : j < zs.length
    · have hd : decide ((j : Int) < (zs.length : Int)) = true := by simpa using hjl
      obtain ⟨b, off, rfl, hb, hc⟩ := H.out j hjl
      have i1 : (0 : Int) ≤ (j : Int) := by omega
      have i2 : (j : Int) < (zs.length : Int) := by omega
      have hw : IntKind.i64.wrap ((j : Int) + 1) = (j : Int) + 1 := IntWalk.i64_in _ (by omega)
      obtain ⟨y, hy⟩ : ∃ y, zs.getD j 0 = y := ⟨_, rfl⟩
      rw [hy] at hc
      by_cases e : y = x
      · have d1 : (y == x) = true := by simpa using e
        have M := Lib.hid (show x ∈ zs by rw [← e, ← hy]; exact getD_mem hjl)
        clear e hy
        go_wp2
        go_ret
        exact ⟨by rw [decide_eq_true M.out]; rfl, Below.refl _ _⟩
      · have d1 : (y == x) = false := by simpa using e
        have E := Lib.hid (show zs.getD j 0 ≠ x by rw [hy]; exact e)
        clear e hy
        go_wp2
        exact ⟨⟨trivial, j + 1, hjl, by rw [Int.natCast_succ], fun k hk => by
          by_cases ek : k = j
          · subst ek; exact E.out
          · exact NO.out k (by omega)⟩, by (simp [intOf]) <;> omega⟩
    · have e : j = zs.length := by omega
      subst e
      have hd : decide ((zs.length : Int) < (zs.length : Int)) = false := by simp
      have M : ¬ x ∈ zs := fun hm => by obtain ⟨k, hk, e⟩ := mem_getD hm; exact NO.out k hk e
      have M := Lib.hid M
      go_wp2
      go_ret
      exact ⟨by rw [decide_eq_false M.out]; rfl, Below.refl _ _⟩


set_option maxHeartbeats 1600000 in
theorem sSame_any (a b : Option Addr) (zs ys : List Int) (c d : Nat) (w : World) (ha : IntsIn w a zs) (hb : IntsIn w b ys) (hn : zs.length ≤ 1048576) :
    Calls Try.prog 108 #[.slice a zs.length c, .slice b ys.length d] w fun e w' => e = .returned (.bool (eqL zs ys)) ∧ Below w.heap.size w w' := by
  have A := Lib.hid ha
  have B := Lib.hid hb
  have hbw := cell_bw
  clear ha hb
  by_cases hl : zs.length = ys.length
  · have hne : ((zs.length : Int) != (ys.length : Int)) = false := by simp [hl]
    have HL := Lib.hid hl
    clear hl
    go_enter Try.func108, Try.ntmps108
    go_wp2
    go_loopw [5] (fun i wr => ∃ j : Nat, j ≤ zs.length ∧ i = .int .i64 j ∧ eqTo zs ys j = true ∧ Below w.heap.size w wr) (fun i _ => zs.length - (intOf i).toNat)
    case atStart => exact ⟨0, Nat.zero_le _, rfl, rfl, Below.refl _ _⟩
    case round =>
      obtain ⟨j, hj, rfl, hs, hB⟩ := hrel
      have BB := Lib.hid hB
      have S := Lib.hid hs
      clear hs hne
      by_cases hjl : j < zs.length
      · have hd : decide ((j : Int) < (zs.length : Int)) = true := by simpa using hjl
        obtain ⟨b1, o1, rfl, hb1, p0⟩ := A.out j hjl
        obtain ⟨b2, o2, rfl, hb2, q0⟩ := B.out j (HL.out ▸ hjl)
        have d0 := (hB.cell (p := ⟨b1, o1 + j, none⟩) hb1).trans p0
        have e0 := (hB.cell (p := ⟨b2, o2 + j, none⟩) hb2).trans q0
        have y1 : b1 < wr.heap.size := Nat.lt_of_lt_of_le hb1 hB.size
        have y2 : b2 < wr.heap.size := Nat.lt_of_lt_of_le hb2 hB.size
        have i1 : (0 : Int) ≤ (j : Int) := by omega
        have i2 : (j : Int) < (zs.length : Int) := by omega
        have i3 : (j : Int) < (ys.length : Int) := by have := HL.out; omega
        have no : Hid (¬ zs.getD j 0 = ys.getD j 0 → eqL zs ys = false) := Lib.hid fun h => eqL_no hjl h
        have nx : Hid (zs.getD j 0 = ys.getD j 0 → eqTo zs ys (j + 1) = true) := Lib.hid fun h => eqTo_next S.out h
        generalize zs.getD j 0 = x at *
        generalize ys.getD j 0 = y at *
        clear hB p0 q0 S
        by_cases hxy : x = y
        · have ne : (x != y) = false := by simp [hxy]
          have N := Lib.hid (nx.out hxy)
          clear hxy no nx
          go_wp2_with fail
          refine region_bw (by kernel_rfl) (by kernel_rfl) ?_
          repeat (go_big_quiet_step (fail))
          refine wpQuiet_nil ?_; intro wq hq; replace hq := below_of_bw hq; obtain ⟨qc, qf, qz⟩ := bcell hq
          go_wp2_with fail
          exact ⟨⟨j + 1, hjl, by rw [Int.natCast_succ], N.out, BB.out.trans (hq.mono BB.out.size)⟩, by (simp [intOf]) <;> omega⟩
        · have ne : (x != y) = true := by simp [hxy]
          have N := Lib.hid (no.out hxy)
          clear hxy no nx
          go_wp2_with fail
          refine region_bw (by kernel_rfl) (by kernel_rfl) ?_
          repeat (go_big_quiet_step (fail))
          refine wpQuiet_nil ?_; intro wq hq; replace hq := below_of_bw hq; obtain ⟨qc, qf, qz⟩ := bcell hq
          go_wp2_with fail
          go_ret
          exact ⟨kretB N.out, BB.out.trans (hq.mono BB.out.size)⟩
      · have e : j = zs.length := by omega
        subst e
        have hd : decide ((zs.length : Int) < (zs.length : Int)) = false := by simp
        clear hB
        go_wp2
        go_ret
        exact ⟨kretB (eqL_yes HL.out S.out), BB.out⟩
  · have hne : ((zs.length : Int) != (ys.length : Int)) = true := by simp; omega
    go_enter Try.func108, Try.ntmps108
    go_wp2
    go_ret
    exact ⟨kretB (eqL_len hl), Below.refl _ _⟩

end Go.Proofs.Ytoippchkhknhpaa
