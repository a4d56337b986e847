/- The program's ValidDeck: its contract. -/
import Derived.Test.YtpkpjkceiikakaaDoorDeckS
import Derived.Carry
namespace Go.Proofs.YtpkpjkceiikakaaDoor
open Go.ChangeShapes Go.WideShapes Go.ChangeAt Go.RowKit

theorem run_makeMapN {P : Program} {t k e : TypeId} (ht : P.underlying t = some (.map k e)) (n : Int) (w : World) : (Instr.makeMap t (some (.int .i64 n))).run P w = .ok (.map (some w.heap.size)) (w.alloc (.map #[] 0)) := by
  unfold Instr.makeMap
  simp [go_sem, run_underlying ht]
  try rfl

theorem namesTo_zero (cs : List Cd) : namesTo cs 0 = [] := rfl
theorem zero_bool (w : World) : (zeroValue 4).run Tryd.prog w = .ok (.bool false) w := by kernel_rfl

set_option maxHeartbeats 1600000 in
theorem iDeckOk_any (ad : Option Addr) (cs : List Cd) (c : Nat) (w : World) (hc : CardsIn w ad cs) :
    Calls Tryd.prog 37 #[.slice ad cs.length c] w fun e w' => e = .returned (.bool (deckOk cs)) ∧ Below w.heap.size w w' := by
  have C := Lib.hid hc
  clear hc
  by_cases hl : cs.length ≤ 80
  · have hg : decide ((80 : Int) < (cs.length : Int)) = false := by simp; omega
    have hmm := fun n W => run_makeMapN Tryd.underlying91 n W
    have NM := Lib.hid (namesIn_made Tryd.prog 9 4 w)
    go_enter Tryd.func37, Tryd.ntmps37
    go_wp2
    go_loopw [14] (fun i wr => ∃ j : Nat, j ≤ cs.length ∧ i = .int .i64 j ∧ okTo cs j = true ∧ NamesIn Tryd.prog 9 4 wr w.heap.size (namesTo cs j) ∧ Below w.heap.size w wr) (fun i _ => cs.length - (intOf i).toNat)
    case atStart => exact ⟨0, Nat.zero_le _, rfl, rfl, NM.out, below_new (Below.refl _ _) _⟩
    case round =>
      obtain ⟨j, hj, rfl, hs, hN, hB⟩ := hrel
      have BB := Lib.hid hB
      have S := Lib.hid hs
      have N := Lib.hid hN
      clear hs hg hN hmm NM
      by_cases hjl : j < cs.length
      · have hd : decide ((j : Int) < (cs.length : Int)) = true := by simpa using hjl
        obtain ⟨⟨hfit, _⟩, b1, o1, rfl, hb1, p0, p1, p2⟩ := C.out j hjl
        have d0 := (hB.cell (p := ⟨b1, o1 + j * 3, none⟩) hb1).trans p0
        have d1 := (hB.cell (p := ⟨b1, o1 + j * 3 + 1, none⟩) hb1).trans p1
        have d2 := (hB.cell (p := ⟨b1, o1 + j * 3 + 2, none⟩) hb1).trans p2
        have y1 : b1 < wr.heap.size := Nat.lt_of_lt_of_le hb1 hB.size
        have i1 : (0 : Int) ≤ (j : Int) := by omega
        have i2 : (j : Int) < (cs.length : Int) := by omega
        have no1 : Hid (cardOk (cdAt cs j).s (cdAt cs j).b = false → deckOk cs = false) := Lib.hid fun h => deckOk_no hjl (okTo_card h)
        have no2 : Hid (hasN (namesTo cs j) (cdAt cs j).s = true → deckOk cs = false) := Lib.hid fun h => deckOk_no hjl (okTo_name h)
        have nx : Hid (cardOk (cdAt cs j).s (cdAt cs j).b = true → hasN (namesTo cs j) (cdAt cs j).s = false → okTo cs (j + 1) = true) := Lib.hid fun h1 h2 => okTo_yes S.out h1 h2
        have V := Lib.hid fun W => iValidCard_any (cdAt cs j).s (cdAt cs j).a (cdAt cs j).b hfit W
        have F := Lib.hid hfit
        clear hB p0 p1 p2 S hfit
        cases hz : cardOk (cdAt cs j).s (cdAt cs j).b
        · rw [hz] at V
          go_wp2_with (go_at_call 31; refine (V.out _).mono ?_; rintro e w1 ⟨rfl, hB⟩; obtain ⟨hc, hf, hz9⟩ := bcell hB; have B0 : Below wr.heap.size wr w1 := (by repeat' (first | (with_reducible exact Below.refl _ _) | (with_reducible assumption) | (with_reducible refine below_drewN ?_ _) | (with_reducible refine Below.drew ?_) | (with_reducible refine below_new ?_ _) | (with_reducible refine below_next ?_ (by with_reducible assumption)) | (with_reducible refine Below.setCell ?_ ?_ _) | go_size)); have B1 := Lib.hid (BB.out.trans (Below.mono B0 BB.out.size)); clear B0)
          go_ret
          exact ⟨retB (no1.out hz), B1.out⟩
        · rw [hz] at V
          have NX := Lib.hid (nx.out hz)
          have J := Lib.hid (show (namesTo cs j).length < maxLen by rw [namesTo_len]; unfold maxLen; omega)
          clear nx no1
          cases hn : hasN (namesTo cs j) (cdAt cs j).s
          · go_wp2_with (go_at_call 31; refine (V.out _).mono ?_; rintro e w1 ⟨rfl, hB⟩; obtain ⟨hc, hf, hz9⟩ := bcell hB; have B0 : Below wr.heap.size wr w1 := (by repeat' (first | (with_reducible exact Below.refl _ _) | (with_reducible assumption) | (with_reducible refine below_drewN ?_ _) | (with_reducible refine Below.drew ?_) | (with_reducible refine below_new ?_ _) | (with_reducible refine below_next ?_ (by with_reducible assumption)) | (with_reducible refine Below.setCell ?_ ?_ _) | go_size)); have B1 := Lib.hid (BB.out.trans (Below.mono B0 BB.out.size)); have N1 := N.out.below B0; have L := N1.asked Tryd.underlying91 Tryd.underlying9 Tryd.underlying4 (zero_bool w1) _ F.out; rw [hn] at L; obtain ⟨w3, U, N3, hg⟩ := N1.added Tryd.underlying91 Tryd.underlying9 Tryd.underlying4 _ F.out J.out; clear B0 N1)
            rw [← namesTo_next] at N3
            exact ⟨⟨j + 1, hjl, by rw [Int.natCast_succ], NX.out hn, N3, Below.grown B1.out hg B1.out.size (fun k hk => by cases hk; exact Nat.le_refl _)⟩, by (simp [intOf]) <;> omega⟩
          · go_wp2_with (go_at_call 31; refine (V.out _).mono ?_; rintro e w1 ⟨rfl, hB⟩; obtain ⟨hc, hf, hz9⟩ := bcell hB; have B0 : Below wr.heap.size wr w1 := (by repeat' (first | (with_reducible exact Below.refl _ _) | (with_reducible assumption) | (with_reducible refine below_drewN ?_ _) | (with_reducible refine Below.drew ?_) | (with_reducible refine below_new ?_ _) | (with_reducible refine below_next ?_ (by with_reducible assumption)) | (with_reducible refine Below.setCell ?_ ?_ _) | go_size)); have B1 := Lib.hid (BB.out.trans (Below.mono B0 BB.out.size)); have N1 := N.out.below B0; have L := N1.asked Tryd.underlying91 Tryd.underlying9 Tryd.underlying4 (zero_bool w1) _ F.out; rw [hn] at L; clear B0 N1)
            go_ret
            exact ⟨retB (no2.out hn), B1.out⟩
      · have e : j = cs.length := by omega
        subst e
        have hd : decide ((cs.length : Int) < (cs.length : Int)) = false := by simp
        clear hB
        go_wp2
        go_ret
        exact ⟨retB (deckOk_yes hl S.out), BB.out⟩
  · have hg : decide ((80 : Int) < (cs.length : Int)) = true := by simp; omega
    go_enter Tryd.func37, Tryd.ntmps37
    go_wp2
    go_ret
    exact ⟨retB (deckOk_long hl), Below.refl _ _⟩
end Go.Proofs.YtpkpjkceiikakaaDoor
