/- Decks of the call's own that lie at the front of a block, perhaps with other cards behind them; they are written into. -/
import Derived.Test.YtdbkplfkilaoeaaMarkC
import Derived.Test.YtdbkplfkilaoeaaHeldC
import Derived.Test.YtdbkplfkilaoeaaSplit
import Derived.Deep.DeepCutAuto
namespace Go.Proofs.Ytdbkplfkilaoeaa
open Go.ChangeShapes Go.WideShapes Go.ChangeAt Go.RowKit

/-- Cards at the front of a block of the call's own. -/
def RC (B : Nat) (xs : List Cd) (v : Value) (w : World) : Prop := (v = .slice none 0 0 ∧ xs = []) ∨ ∃ g c cs cap, v = .slice (some ⟨g, 0, none⟩) xs.length c ∧ B ≤ g ∧ xs.length ≤ cs.length ∧ cs.take xs.length = xs ∧ OwnCards B cs (.slice (some ⟨g, 0, none⟩) cs.length cap) w
theorem rc_own {B : Nat} {xs : List Cd} {v : Value} {w : World} (h : OwnCards B xs v w) : RC B xs v w := by
  have h0 := h
  rcases h.2 with ⟨rfl, hn⟩ | ⟨g, cap, cur, rfl, hb, _⟩
  · exact .inl ⟨rfl, List.length_eq_zero_iff.1 hn⟩
  · exact .inr ⟨g, cap, xs, cap, rfl, hb, Nat.le_refl _, List.take_of_length_le (Nat.le_refl _), h0⟩
theorem cd_take {cs : List Cd} {m i : Nat} (h : i < m) : cdAt (cs.take m) i = cdAt cs i := by
  unfold cdAt; rw [List.getD, List.getD, List.getElem?_take, if_pos h]
theorem rc_in {B : Nat} {xs : List Cd} {v : Value} {w : World} (h : RC B xs v w) : ∃ a c, v = .slice a xs.length c ∧ CellsC w a xs := by
  rcases h with ⟨rfl, rfl⟩ | ⟨g, c, cs, cap, rfl, _, hl, ht, ho⟩
  · exact ⟨none, 0, rfl, fun i hi => absurd hi (Nat.not_lt_zero _)⟩
  · refine ⟨_, c, rfl, fun i hi => ?_⟩
    obtain ⟨a, c', hv, hc⟩ := ownCards_in ho
    cases hv
    obtain ⟨b, off, ha, hb, h0, h1, h2⟩ := hc i (Nat.lt_of_lt_of_le hi hl)
    have e : cdAt xs i = cdAt cs i := by rw [← ht]; exact cd_take hi
    exact ⟨b, off, ha, hb, by rw [e]; exact h0, by rw [e]; exact h1, by rw [e]; exact h2⟩
theorem rc_kept {B : Nat} {xs : List Cd} {v : Value} {w w' : World} {row : Option Nat} (h : RC B xs v w) (hg : w.grownBy w' row) (hne : v.ownBlock = none ∨ v.ownBlock ≠ row) : RC B xs v w' := by
  rcases h with h | ⟨g, c, cs, cap, rfl, hb, hl, ht, ho⟩
  · exact .inl h
  · exact .inr ⟨g, c, cs, cap, rfl, hb, hl, ht, World.ownsRow.kept ho hg hne⟩
theorem rc_below {B : Nat} {xs : List Cd} {v : Value} {w w' : World} (h : RC B xs v w) (hb : Below w.heap.size w w') : RC B xs v w' := by
  rcases h with h | ⟨g, c, cs, cap, rfl, hg, hl, ht, ho⟩
  · exact .inl h
  · exact .inr ⟨g, c, cs, cap, rfl, hg, hl, ht, ownCards_kept ho hb⟩
theorem rc_oth {B g : Nat} {xs : List Cd} {v : Value} {w w' : World} (h : RC B xs v w) (hb : Oth g w w') (hg : g < B) : RC B xs v w' := by
  rcases h with h | ⟨g', c, cs, cap, rfl, hg', hl, ht, ho⟩
  · exact .inl h
  · exact .inr ⟨g', c, cs, cap, rfl, hg', hl, ht, ownCards_oth ho hb hg⟩
theorem rc_less {B C : Nat} {xs : List Cd} {v : Value} {w : World} (h : RC B xs v w) (hc : C ≤ B) : RC C xs v w := by
  rcases h with h | ⟨g, c, cs, cap, rfl, hg, hl, ht, ho⟩
  · exact .inl h
  · exact .inr ⟨g, c, cs, cap, rfl, Nat.le_trans hc hg, hl, ht, ownCards_weaken ho hc⟩
theorem rc_lt {B : Nat} {xs : List Cd} {v : Value} {w : World} (h : RC B xs v w) : ∀ j, v.ownBlock = some j → B ≤ j := by
  rcases h with ⟨rfl, _⟩ | ⟨g, c, cs, cap, rfl, hg, _⟩
  · intro j hj; cases hj
  · intro j hj; cases hj; exact hg

set_option maxRecDepth 100000 in
set_option maxHeartbeats 3200000 in
theorem markFront_any (B g cap c n : Nat) (cs : List Cd) (k : Nat) (w : World) (O : OwnCards B cs (.slice (some ⟨g, 0, none⟩) cs.length cap) w) (hm : n ≤ cs.length) (hk : k + 3 * n ≤ 4000000) :
    Calls Try.prog 12 #[.slice (some ⟨g, 0, none⟩) n c, .int .i64 (k : Int)] w fun e w' => e = .returned (.int .i64 ((k + 3 * n : Nat) : Int)) ∧ (∃ ds, ds.length = cs.length ∧ Marked k n ds ∧ OwnCards B ds (.slice (some ⟨g, 0, none⟩) ds.length cap) w') ∧ Oth g w w' := by
  have OW := Lib.hid O
  clear O
  obtain ⟨N, hn⟩ : ∃ N, cs.length = N := ⟨_, rfl⟩
  have NM := Lib.hid (show n ≤ N by omega)
  rw [hn]
  have NN := Lib.hid hn
  clear hn hm
  go_enter Try.func12, Try.ntmps12
  go_wp2
  go_loopw [1, 5] (fun q i wr => ∃ (j q0 : Nat) (ds : List Cd), j ≤ n ∧ i = .int .i64 j ∧ q = .int .i64 (q0 : Int) ∧ q0 = k + 3 * j ∧ ds.length = N ∧ Marked k j ds ∧ OwnCards B ds (.slice (some ⟨g, 0, none⟩) ds.length cap) wr ∧ Oth g w wr) (fun _ i _ => n - (intOf i).toNat)
  case atStart => exact ⟨0, k, cs, Nat.zero_le _, rfl, rfl, by omega, NN.out, fun l hl => absurd hl (Nat.not_lt_zero _), OW.out, Oth.refl _ _⟩
  case round =>
    obtain ⟨j, q0, ds, hj, rfl, rfl, hq, hds, hM, hO, hB⟩ := hrel
    have Q := Lib.hid hq
    have DS := Lib.hid hds
    have MM := Lib.hid hM
    have OO := Lib.hid hO
    have BB := Lib.hid hB
    have gl : g < wr.heap.size := (World.ownsRow.lt hO g rfl).2
    by_cases hkl : j < n
    · have hd : decide ((j : Int) < (n : Int)) = true := by simpa using hkl
      have qb : q0 ≤ 4000000 := by omega
      have i1 : (0 : Int) ≤ (j : Int) := by omega
      have i2 : (j : Int) < (n : Int) := by omega
      have hjd : j < ds.length := by have := NM.out; omega
      have g3 := flatC_get ds j hjd
      have r0 := (World.ownsRow.cellAt hO (j * 3) (by omega)).trans g3.1
      have r1 := (World.ownsRow.cellAt hO (j * 3 + 1) (by omega)).trans g3.2.1
      have r2 := (World.ownsRow.cellAt hO (j * 3 + 2) (by omega)).trans g3.2.2
      have FZ := Lib.hid (fun j => World.ownsRow.frozenAt hO j)
      have R0 := Lib.hid r0
      have R1 := Lib.hid r1
      have R2 := Lib.hid r2
      have JD := Lib.hid hjd
      have K := Lib.hid fun W => markText_is q0 qb W
      have NX := Lib.hid (marked_next hM hjd)
      have ST := Lib.hid (flatC_set ds j (mkC (k + 3 * j)))
      have QM := Lib.hid (show mkC (k + 3 * j) = ⟨mtext q0, (q0 : Int) + 1, (q0 : Int) + 1 + 1⟩ by rw [← hq]; rfl)
      have x1 : IntKind.i64.wrap ((q0 : Int) + 1) = (q0 : Int) + 1 := IntWalk.i64_in _ (by omega)
      have x2 : IntKind.i64.wrap ((q0 : Int) + 1 + 1) = (q0 : Int) + 1 + 1 := IntWalk.i64_in _ (by omega)
      have x3 : IntKind.i64.wrap ((q0 : Int) + 1 + 1 + 1) = (q0 : Int) + 1 + 1 + 1 := IntWalk.i64_in _ (by omega)
      have x4 : IntKind.u64.wrap ((q0 : Int) + 1) = (q0 : Int) + 1 := IntWalk.u64_in _ (by omega)
      have x5 : IntKind.u64.wrap ((q0 : Int) + 1 + 1) = (q0 : Int) + 1 + 1 := IntWalk.u64_in _ (by omega)
      clear hq hds hM hO hB r0 r1 r2 g3 hjd
      generalize mtext q0 = s at *
      go_wp2_with (go_at_call 32; refine (K.out _).mono ?_; rintro e w2 ⟨rfl, hB⟩; have t0 := (hB.cell (p := ⟨g, j * 3, none⟩) gl).trans R0.out; have t1 := (hB.cell (p := ⟨g, j * 3 + 1, none⟩) gl).trans R1.out; have t2 := (hB.cell (p := ⟨g, j * 3 + 2, none⟩) gl).trans R2.out; have u : ∀ j, w2.frozen? ⟨g, j, none⟩ = false := (fun j => (hB.frozen (p := ⟨g, j, none⟩) gl).trans (FZ.out j)); have O2 := Lib.hid (ownCards_kept OO.out hB); have B2 := Lib.hid (BB.out.trans (Oth.of hB)); clear hB)
      refine wp_loop_rounds 3 ?_
      rw [rounds_succ]; go_wp2
      rw [rounds_succ]; go_wp2
      rw [rounds_succ]; go_wp2
      have s0 := World.ownsRow.stored O2.out (j * 3) (.string s)
      have s1 := s0.1.stored (j * 3 + 1) (.int .u64 ((q0 : Int) + 1))
      have s2 := s1.1.stored (j * 3 + 2) (.int .u64 ((q0 : Int) + 1 + 1))
      have o := s2.1
      have st := ST.out
      rw [QM.out] at st
      simp only at st
      rw [st, ← QM.out] at o
      refine ⟨⟨j + 1, q0 + 3, ds.set j (mkC (k + 3 * j)), hkl, by rw [Int.natCast_succ], by congr 1, by have := Q.out; omega, by rw [List.length_set]; exact DS.out, NX.out, ?_, ((B2.out.set _ _).set _ _).set _ _⟩, by (simp [intOf]) <;> omega⟩
      unfold OwnCards
      rw [List.length_set]
      exact o
    · have e : j = n := by omega
      subst e
      have hd : decide ((j : Int) < (j : Int)) = false := by simp
      clear hds hM hO hB
      have hq2 := hq
      subst hq2
      clear hq
      go_wp2
      go_ret
      exact ⟨rfl, ⟨ds, DS.out, MM.out, OO.out⟩, BB.out⟩

theorem markRC_any (B : Nat) (xs : List Cd) (v : Value) (k : Nat) (w : World) (h : RC B xs v w) (hk : k + 3 * xs.length ≤ 4000000) :
    Calls Try.prog 12 #[v, .int .i64 (k : Int)] w fun e w' => e = .returned (.int .i64 ((k + 3 * xs.length : Nat) : Int)) ∧ (∃ ds, ds.length = xs.length ∧ Marked k ds.length ds ∧ RC B ds v w') ∧ w.grownBy w' v.ownBlock := by
  rcases h with ⟨rfl, rfl⟩ | ⟨g, c, cs, cap, rfl, hg, hl, ht, ho⟩
  · go_enter Try.func12, Try.ntmps12
    go_wp2
    refine wp_loop_rounds 1 ?_
    rw [rounds_succ]; go_wp2
    go_ret
    exact ⟨rfl, ⟨[], rfl, fun l hl => absurd hl (Nat.not_lt_zero _), .inl ⟨rfl, rfl⟩⟩, ⟨rfl, rfl, rfl, Nat.le_refl _, fun _ _ _ => rfl⟩⟩
  · refine (markFront_any B g cap c xs.length cs k w ho hl hk).mono ?_
    rintro e w' ⟨rfl, ⟨ds, hd, hM, hO⟩, hB⟩
    have e : (ds.take xs.length).length = xs.length := by rw [List.length_take]; omega
    refine ⟨rfl, ⟨ds.take xs.length, e, fun l hl' => ?_, .inr ⟨g, c, ds, cap, by rw [e], hg, by rw [e, hd]; exact hl, by rw [e], hO⟩⟩, ⟨hB.os, hB.tape, hB.output, hB.size, fun j hj hne => hB.block j (by intro e; subst e; exact hne rfl) hj⟩⟩
    rw [e] at hl'
    rw [cd_take hl']
    exact hM l hl'
end Go.Proofs.Ytdbkplfkilaoeaa
