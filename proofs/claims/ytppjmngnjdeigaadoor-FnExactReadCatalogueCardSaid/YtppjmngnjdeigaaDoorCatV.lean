/- The program's ValidCatalogue: its contract. -/
import Derived.Test.YtppjmngnjdeigaaDoorEndl
import Derived.Test.YtppjmngnjdeigaaDoorENameS
import Derived.Carry
namespace Go.Proofs.YtppjmngnjdeigaaDoor
open Go.ChangeShapes Go.WideShapes Go.ChangeAt Go.RowKit

theorem run_makeMapE {P : Program} {t k e : TypeId} (ht : P.underlying t = some (.map k e)) (n : Int) (w : World) : (Instr.makeMap t (some (.int .i64 n))).run P w = .ok (.map (some w.heap.size)) (w.alloc (.map #[] 0)) := by
  unfold Instr.makeMap
  simp [go_sem, run_underlying ht]
  try rfl
theorem zero_boolE (w : World) : (zeroValue 4).run Tryd.prog w = .ok (.bool false) w := by kernel_rfl

set_option maxRecDepth 100000 in
set_option maxHeartbeats 3200000 in
theorem iCat_any (ad : Option Addr) (cs : List Et) (c : Nat) (w : World) (hc : EntsIn w ad cs) :
    Calls Tryd.prog 86 #[.slice ad cs.length c] w fun e w' => e = .returned (.bool (catOk cs)) ∧ Below w.heap.size w w' := by
  have C := Lib.hid hc
  clear hc
  by_cases hl : cs.length ≤ 40
  · have hg : decide ((40 : Int) < (cs.length : Int)) = false := by simp; omega
    have hmm := fun n W => run_makeMapE Tryd.underlying155 n W
    have NM := Lib.hid (namesIn_made Tryd.prog 9 4 w)
    have b0 := Lib.hid (below_new (Below.refl w.heap.size w) (.map #[] 0))
    go_enter Tryd.func86, Tryd.ntmps86
    go_wp2
    go_loopw [15] (fun i wr => ∃ j : Nat, j ≤ cs.length ∧ i = .int .i64 j ∧ eTo cs j = true ∧ NamesIn Tryd.prog 9 4 wr w.heap.size (enTo cs j) ∧ w.heap.size < wr.heap.size ∧ Below w.heap.size w wr) (fun i _ => cs.length - (intOf i).toNat)
    case atStart => exact ⟨0, Nat.zero_le _, rfl, rfl, NM.out, by simp, b0.out⟩
    case round =>
      obtain ⟨j, hj, rfl, hs, hN, hz, hB⟩ := hrel
      have BB := Lib.hid hB
      have S := Lib.hid hs
      have N := Lib.hid hN
      clear hs hg hN hmm NM b0
      by_cases hjl : j < cs.length
      · have hd : decide ((j : Int) < (cs.length : Int)) = true := by simpa using hjl
        obtain ⟨⟨hfit, _⟩, b1, o1, rfl, hb1, p0, p1, p2⟩ := C.out j hjl
        have d0 := (hB.cell (p := ⟨b1, o1 + j * 3, none⟩) hb1).trans p0
        have d1 := (hB.cell (p := ⟨b1, o1 + j * 3 + 1, none⟩) hb1).trans p1
        have d2 := (hB.cell (p := ⟨b1, o1 + j * 3 + 2, none⟩) hb1).trans p2
        have i1 : (0 : Int) ≤ (j : Int) := by omega
        have i2 : (j : Int) < (cs.length : Int) := by omega
        have no1 : Hid (ename (etAt cs j).s = false → catOk cs = false) := Lib.hid fun h => cat_bad hjl (eTo_name h)
        have no2 : Hid (hasN (enTo cs j) (etAt cs j).s = true → catOk cs = false) := Lib.hid fun h => cat_bad hjl (eTo_twice h)
        have no3 : Hid (entOk cs (etAt cs j) = false → catOk cs = false) := Lib.hid fun h => cat_bad hjl (eTo_ent h)
        have nx : Hid (ename (etAt cs j).s = true → entOk cs (etAt cs j) = true → hasN (enTo cs j) (etAt cs j).s = false → eTo cs (j + 1) = true) := Lib.hid fun h1 h2 h3 => eTo_yes S.out h1 h2 h3
        have nn := Lib.hid (enTo_next cs j)
        have J := Lib.hid (show (enTo cs j).length < maxLen by rw [enTo_len]; unfold maxLen; omega)
        have V := Lib.hid fun W => iEName_any (etAt cs j).s hfit W
        have F := Lib.hid hfit
        have M := Lib.hid fun W (h : EntsIn W (some ⟨b1, o1, none⟩) cs) => mayHave_any (some ⟨b1, o1, none⟩) cs c (etAt cs j).s (etAt cs j).a (etAt cs j).b W h (by omega)
        clear hB p0 p1 p2 hfit S
        cases hz1 : ename (etAt cs j).s
        · rw [hz1] at V
          go_wp2_with (go_at_call 110; refine (V.out _).mono ?_; rintro e w1 ⟨rfl, hB⟩; have B1 := Lib.hid ((below_new BB.out _).trans (Below.mono hB (by have := BB.out.size; simp; omega))); clear hB)
          go_ret
          exact ⟨retB9 (no1.out hz1), B1.out⟩
        · rw [hz1] at V
          have NX := Lib.hid (nx.out hz1)
          clear nx no1 hz1
          cases hn : hasN (enTo cs j) (etAt cs j).s
          · cases hm : entOk cs (etAt cs j)
            · have M : Hid (∀ W, EntsIn W (some ⟨b1, o1, none⟩) cs → Calls Tryd.prog 111 #[.slice (some ⟨b1, o1, none⟩) cs.length c, .agg #[.string (etAt cs j).s, .int .i64 (etAt cs j).a, .int .i64 (etAt cs j).b]] W fun e w' => e = .returned (.bool false) ∧ Below W.heap.size W w') := Lib.hid fun W h => by rw [← hm]; exact M.out W h
              go_wp2_with (first
                | (go_at_call 110; refine (V.out _).mono ?_; rintro e w1 ⟨rfl, hB⟩; have B0 : Below wr.heap.size wr w1 := (below_new (Below.refl _ _) _).trans (hB.mono (by simp)); have B1 := Lib.hid (BB.out.trans (B0.mono BB.out.size)); have N1 := Lib.hid (N.out.below B0); have L := N1.out.asked Tryd.underlying155 Tryd.underlying9 Tryd.underlying4 (zero_boolE w1) _ F.out; rw [hn] at L; have k0 : w1.cell? ⟨wr.heap.size, 0, none⟩ = some (.string (etAt cs j).s) := (hB.cell (p := ⟨wr.heap.size, 0, none⟩) (by simp)).trans (by simp); have k1 : w1.cell? ⟨wr.heap.size, 1, none⟩ = some (.int .i64 (etAt cs j).a) := (hB.cell (p := ⟨wr.heap.size, 1, none⟩) (by simp)).trans (by simp); have k2 : w1.cell? ⟨wr.heap.size, 2, none⟩ = some (.int .i64 (etAt cs j).b) := (hB.cell (p := ⟨wr.heap.size, 2, none⟩) (by simp)).trans (by simp); have s1 := hB.size; simp at s1; have E1 := Lib.hid (entsIn_below C.out B1.out); clear B0 hB)
                | (go_at_call 111; refine (M.out _ E1.out).mono ?_; rintro e w2 ⟨rfl, hB⟩; have B2 := Lib.hid (B1.out.trans (hB.mono B1.out.size)); have N2 := Lib.hid (N1.out.below hB); have m0 := (hB.cell (p := ⟨wr.heap.size, 0, none⟩) (by simp; omega)).trans k0; have s2 := hB.size; clear hB))
              go_ret
              exact ⟨retB9 (no3.out hm), B2.out⟩
            · have M : Hid (∀ W, EntsIn W (some ⟨b1, o1, none⟩) cs → Calls Tryd.prog 111 #[.slice (some ⟨b1, o1, none⟩) cs.length c, .agg #[.string (etAt cs j).s, .int .i64 (etAt cs j).a, .int .i64 (etAt cs j).b]] W fun e w' => e = .returned (.bool true) ∧ Below W.heap.size W w') := Lib.hid fun W h => by rw [← hm]; exact M.out W h
              go_wp2_with (first
                | (go_at_call 110; refine (V.out _).mono ?_; rintro e w1 ⟨rfl, hB⟩; have B0 : Below wr.heap.size wr w1 := (below_new (Below.refl _ _) _).trans (hB.mono (by simp)); have B1 := Lib.hid (BB.out.trans (B0.mono BB.out.size)); have N1 := Lib.hid (N.out.below B0); have L := N1.out.asked Tryd.underlying155 Tryd.underlying9 Tryd.underlying4 (zero_boolE w1) _ F.out; rw [hn] at L; have k0 : w1.cell? ⟨wr.heap.size, 0, none⟩ = some (.string (etAt cs j).s) := (hB.cell (p := ⟨wr.heap.size, 0, none⟩) (by simp)).trans (by simp); have k1 : w1.cell? ⟨wr.heap.size, 1, none⟩ = some (.int .i64 (etAt cs j).a) := (hB.cell (p := ⟨wr.heap.size, 1, none⟩) (by simp)).trans (by simp); have k2 : w1.cell? ⟨wr.heap.size, 2, none⟩ = some (.int .i64 (etAt cs j).b) := (hB.cell (p := ⟨wr.heap.size, 2, none⟩) (by simp)).trans (by simp); have s1 := hB.size; simp at s1; have E1 := Lib.hid (entsIn_below C.out B1.out); clear B0 hB)
                | (go_at_call 111; refine (M.out _ E1.out).mono ?_; rintro e w2 ⟨rfl, hB⟩; have B2 := Lib.hid (B1.out.trans (hB.mono B1.out.size)); have N2 := N1.out.below hB; have m0 := (hB.cell (p := ⟨wr.heap.size, 0, none⟩) (by simp; omega)).trans k0; have s2 := hB.size; obtain ⟨w3, U, N3, hg⟩ := N2.added Tryd.underlying155 Tryd.underlying9 Tryd.underlying4 _ F.out J.out; clear hB N2))
              rw [← nn.out] at N3
              exact ⟨⟨j + 1, hjl, by rw [Int.natCast_succ], NX.out hm hn, N3, by have := hg.size; omega, Below.grown B2.out hg B2.out.size (fun k hk => by cases hk; exact Nat.le_refl _)⟩, by (simp [intOf]) <;> omega⟩
          · go_wp2_with (go_at_call 110; refine (V.out _).mono ?_; rintro e w1 ⟨rfl, hB⟩; have B0 : Below wr.heap.size wr w1 := (below_new (Below.refl _ _) _).trans (hB.mono (by simp)); have B1 := Lib.hid (BB.out.trans (B0.mono BB.out.size)); have N1 := Lib.hid (N.out.below B0); have L := N1.out.asked Tryd.underlying155 Tryd.underlying9 Tryd.underlying4 (zero_boolE w1) _ F.out; rw [hn] at L; have k0 : w1.cell? ⟨wr.heap.size, 0, none⟩ = some (.string (etAt cs j).s) := (hB.cell (p := ⟨wr.heap.size, 0, none⟩) (by simp)).trans (by simp); have k1 : w1.cell? ⟨wr.heap.size, 1, none⟩ = some (.int .i64 (etAt cs j).a) := (hB.cell (p := ⟨wr.heap.size, 1, none⟩) (by simp)).trans (by simp); have k2 : w1.cell? ⟨wr.heap.size, 2, none⟩ = some (.int .i64 (etAt cs j).b) := (hB.cell (p := ⟨wr.heap.size, 2, none⟩) (by simp)).trans (by simp); have s1 := hB.size; simp at s1; have E1 := Lib.hid (entsIn_below C.out B1.out); clear B0 hB)
            go_ret
            exact ⟨retB9 (no2.out hn), B1.out⟩
      · have e : j = cs.length := by omega
        subst e
        have hd : decide ((cs.length : Int) < (cs.length : Int)) = false := by simp
        have ED := Lib.hid fun j hj W (h : EntsIn W ad cs) => endless_any ad cs c j hj (by omega) S.out W h
        have RG := Lib.hid fun j (hj : j < cs.length) (h : up cs cs.length (firstE cs j) ≠ -1) => cat_ringI S.out hj h
        have YS := Lib.hid fun (h : endI cs cs.length) => cat_yesI hl S.out h
        clear hB S N
        go_wp2
        go_loopw [41] (fun i wr2 => ∃ j : Nat, j ≤ cs.length ∧ i = .int .i64 j ∧ endI cs j ∧ Below w.heap.size w wr2) (fun i _ => cs.length - (intOf i).toNat)
        case atStart => exact ⟨0, Nat.zero_le _, rfl, fun _ h => absurd h (Nat.not_lt_zero _), BB.out⟩
        case round =>
          obtain ⟨j, hj, rfl, hI, hB⟩ := hrel
          have B3 := Lib.hid hB
          have I0 := Lib.hid hI
          clear hB hI BB
          by_cases hjl : j < cs.length
          · have hd : decide ((j : Int) < (cs.length : Int)) = true := by simpa using hjl
            have K := fun W h => ED.out j hjl W h
            by_cases hr : up cs cs.length (firstE cs j) = -1
            · rw [decide_eq_true hr] at K
              have K := Lib.hid K
              go_wp2_with (go_at_call 112; refine (K.out _ (entsIn_below C.out B3.out)).mono ?_; rintro e w4 ⟨rfl, hB⟩; have B4 := Lib.hid (B3.out.trans (hB.mono B3.out.size)); clear hB)
              exact ⟨⟨j + 1, hjl, by rw [Int.natCast_succ], fun k hk => by
                by_cases e : k = j
                · subst e; exact hr
                · exact I0.out k (by omega), B4.out⟩, by (simp [intOf]) <;> omega⟩
            · rw [decide_eq_false hr] at K
              have K := Lib.hid K
              have R0 := Lib.hid (RG.out j hjl hr)
              clear hr
              go_wp2_with (go_at_call 112; refine (K.out _ (entsIn_below C.out B3.out)).mono ?_; rintro e w4 ⟨rfl, hB⟩; have B4 := Lib.hid (B3.out.trans (hB.mono B3.out.size)); clear hB)
              go_ret
              exact ⟨retB9 R0.out, B4.out⟩
          · have e : j = cs.length := by omega
            subst e
            have hd : decide ((cs.length : Int) < (cs.length : Int)) = false := by simp
            go_wp2
            go_ret
            exact ⟨retB9 (YS.out I0.out), B3.out⟩
  · have hg : decide ((40 : Int) < (cs.length : Int)) = true := by simp; omega
    go_enter Tryd.func86, Tryd.ntmps86
    go_wp2
    go_ret
    exact ⟨retB9 (cat_long hl), Below.refl _ _⟩
end Go.Proofs.YtppjmngnjdeigaaDoor
