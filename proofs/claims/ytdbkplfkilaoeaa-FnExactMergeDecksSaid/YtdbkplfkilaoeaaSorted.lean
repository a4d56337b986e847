/- Contracts: is a deck in order, by the model. -/
import Derived.Test.YtdbkplfkilaoeaaKeyOf
import Derived.Test.YtdbkplfkilaoeaaDeckI
import Derived.Test.YtdbkplfkilaoeaaOrd
import Derived.Deep.DeepCutAuto
namespace Go.Proofs.Ytdbkplfkilaoeaa
open Go.ChangeShapes Go.WideShapes Go.ChangeAt Go.RowKit

/-- The key of the card with index i. -/
def kyAt (k st sz : Int) (cs : List Cd) (i : Nat) : Int := ((kv (hasB (cdAt cs i).a (cdAt cs i).b) (srt k st sz) : Nat) : Int)
def ordC (k st sz : Int) (cs : List Cd) : Bool := ordB (kyAt k st sz cs) cs.length

set_option maxHeartbeats 1600000 in
theorem sSorted_any (s : ByteArray) (k st sz : Int) (hf : fieldOk s k st sz = true) (ad : Option Addr) (cs : List Cd) (c : Nat) (g o : Nat) (w : World) (hc : CardsIn w ad cs) (hn : cs.length ≤ 80)
    (h1 : w.cell? ⟨g, o + 1, none⟩ = some (.int .i8 k)) (h2 : w.cell? ⟨g, o + 2, none⟩ = some (.int .i16 st)) (h3 : w.cell? ⟨g, o + 3, none⟩ = some (.int .i16 sz)) :
    Calls Try.prog 35 #[.slice ad cs.length c, .pointer (some ⟨g, o, none⟩)] w fun e w' => e = .returned (.bool (ordC k st sz cs)) ∧ Below w.heap.size w w' := by
  have C := Lib.hid hc
  have hg := World.block_lt_of_cell? _ _ h1
  have K : Hid (∀ i, i < cs.length → ∀ W : World, W.cell? ⟨g, o + 1, none⟩ = some (.int .i8 k) → W.cell? ⟨g, o + 2, none⟩ = some (.int .i16 st) → W.cell? ⟨g, o + 3, none⟩ = some (.int .i16 sz) →
      Calls Try.prog 36 #[.pointer (some ⟨g, o, none⟩), .agg #[.int .u64 (cdAt cs i).a, .int .u64 (cdAt cs i).b]] W fun e w' => e = .returned (.int .i64 (kyAt k st sz cs i)) ∧ Below W.heap.size W w') :=
    Lib.hid fun i hi W c1 c2 c3 => sKey_any s k st sz hf _ _ (hc i hi).1.2.1 (hc i hi).1.2.2 g o W c1 c2 c3
  have no : Hid (∀ i, i + 1 < cs.length → kyAt k st sz cs (i + 1) < kyAt k st sz cs i → ordC k st sz cs = false) := Lib.hid fun i h1 h2 => ordB_no h1 h2
  have yes : Hid ((∀ i, i + 1 < cs.length → kyAt k st sz cs i ≤ kyAt k st sz cs (i + 1)) → ordC k st sz cs = true) := Lib.hid fun h => ordB_yes fun i hi => Int.not_lt.2 (h i hi)
  have hbw := cell_bw
  have H1 := Lib.hid h1
  have H2 := Lib.hid h2
  have H3 := Lib.hid h3
  clear hc hf h1 h2 h3
  generalize ordC k st sz cs = q at *
  generalize kyAt k st sz cs = ky at *
  go_enter Try.func35, Try.ntmps35
  go_wp2
  go_loopw [5] (fun i wr => ∃ m : Nat, i = .int .i64 ((m : Int) + 1) ∧ m ≤ cs.length ∧ (∀ l, l < m → ky l ≤ ky (l + 1)) ∧ Below w.heap.size w wr) (fun i _ => cs.length + 1 - (intOf i).toNat)
  case atStart => exact ⟨0, rfl, Nat.zero_le _, fun l hl => absurd hl (Nat.not_lt_zero _), Below.refl _ _⟩
  case round =>
    obtain ⟨m, rfl, hm, hs, hB⟩ := hrel
    have BB := Lib.hid hB
    have S := Lib.hid hs
    clear hs
    by_cases hjl : m + 1 < cs.length
    · have hd : decide ((m : Int) + 1 < (cs.length : Int)) = true := by simp; omega
      obtain ⟨_, b1, o1, rfl, hb1, _, p1, p2⟩ := C.out (m + 1) hjl
      obtain ⟨_, b2, o2, he, hb2, _, q1, q2⟩ := C.out m (by omega)
      cases he
      have d1 := (hB.cell (p := ⟨b1, o1 + (m + 1) * 3 + 1, none⟩) hb1).trans p1
      have d2 := (hB.cell (p := ⟨b1, o1 + (m + 1) * 3 + 2, none⟩) hb1).trans p2
      have e1 := (hB.cell (p := ⟨b1, o1 + m * 3 + 1, none⟩) hb1).trans q1
      have e2 := (hB.cell (p := ⟨b1, o1 + m * 3 + 2, none⟩) hb1).trans q2
      have f1 := (hB.cell (p := ⟨g, o + 1, none⟩) hg).trans H1.out
      have f2 := (hB.cell (p := ⟨g, o + 2, none⟩) hg).trans H2.out
      have f3 := (hB.cell (p := ⟨g, o + 3, none⟩) hg).trans H3.out
      have y1 : b1 < wr.heap.size := Nat.lt_of_lt_of_le hb1 hB.size
      have yg : g < wr.heap.size := Nat.lt_of_lt_of_le hg hB.size
      have i1 : (0 : Int) ≤ (m : Int) := by omega
      have i2 : (m : Int) < (cs.length : Int) := by omega
      have i3 : (0 : Int) ≤ (m : Int) + 1 := by omega
      have i4 : (m : Int) + 1 < (cs.length : Int) := by omega
      have t1 : ((m : Int) + 1).toNat = m + 1 := by omega
      have v1 : IntKind.i64.wrap ((m : Int) + 1 - 1) = (m : Int) := by rw [Int.add_sub_cancel]; exact IntWalk.i64_in _ (by omega)
      have K1 := Lib.hid (K.out (m + 1) hjl)
      have K2 := Lib.hid (K.out m (by omega))
      have no1 := Lib.hid (no.out m hjl)
      have nx : Hid (ky m ≤ ky (m + 1) → ∀ l, l < m + 1 → ky l ≤ ky (l + 1)) := Lib.hid fun h l hl => by
        by_cases e : l = m
        · subst e; exact h
        · exact S.out l (by omega)
      clear hB p1 p2 q1 q2 hb2 S
      generalize cdAt cs (m + 1) = x at *
      generalize cdAt cs m = y at *
      obtain ⟨xs, xa, xb⟩ := x
      obtain ⟨ys, ya, yb⟩ := y
      simp only at d1 d2 e1 e2
      generalize hX : ky (m + 1) = X at *
      generalize hY : ky m = Y at *
      have nx : Hid (Y ≤ X → ∀ l, l < m + 1 → ky l ≤ ky (l + 1)) := nx
      go_wp2_with fail
      by_cases hxy : X < Y
      · have hd2 : decide (X < Y) = true := decide_eq_true hxy
        refine region_bw (by kernel_rfl) (by kernel_rfl) ?_
        repeat (go_big_quiet_step (first | (go_at_call_of 36 (Value.int IntKind.u64 xa); refine calls_bw (K1.out _ ?_ ?_ ?_); exact (hbw _ _ _ _ yg).trans f1; exact (hbw _ _ _ _ yg).trans f2; exact (hbw _ _ _ _ yg).trans f3) | (go_at_call_of 36 (Value.int IntKind.u64 ya); refine calls_bw (K2.out _ ?_ ?_ ?_); exact (hbw _ _ _ _ yg).trans f1; exact (hbw _ _ _ _ yg).trans f2; exact (hbw _ _ _ _ yg).trans f3)))
        refine wpQuiet_nil ?_; intro wq hq; replace hq := below_of_bw hq; obtain ⟨qc, qf, qz⟩ := bcell hq
        go_wp2_with fail
        go_ret
        exact ⟨retB (no1.out hxy), BB.out.trans (hq.mono BB.out.size)⟩
      · have hd2 : decide (X < Y) = false := decide_eq_false hxy
        refine region_bw (by kernel_rfl) (by kernel_rfl) ?_
        repeat (go_big_quiet_step (first | (go_at_call_of 36 (Value.int IntKind.u64 xa); refine calls_bw (K1.out _ ?_ ?_ ?_); exact (hbw _ _ _ _ yg).trans f1; exact (hbw _ _ _ _ yg).trans f2; exact (hbw _ _ _ _ yg).trans f3) | (go_at_call_of 36 (Value.int IntKind.u64 ya); refine calls_bw (K2.out _ ?_ ?_ ?_); exact (hbw _ _ _ _ yg).trans f1; exact (hbw _ _ _ _ yg).trans f2; exact (hbw _ _ _ _ yg).trans f3)))
        refine wpQuiet_nil ?_; intro wq hq; replace hq := below_of_bw hq; obtain ⟨qc, qf, qz⟩ := bcell hq
        go_wp2_with fail
        exact ⟨⟨m + 1, by rw [Int.natCast_succ], Nat.le_of_lt hjl, nx.out (Int.not_lt.1 hxy), BB.out.trans (hq.mono BB.out.size)⟩, by (simp [intOf]) <;> omega⟩
    · have hd : decide ((m : Int) + 1 < (cs.length : Int)) = false := by simp; omega
      have fin := Lib.hid (yes.out fun i hi => S.out i (by omega))
      clear hB
      go_wp2
      go_ret
      exact ⟨retB fin.out, BB.out⟩
end Go.Proofs.Ytdbkplfkilaoeaa
