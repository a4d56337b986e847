/- Contracts on lists of cards: are all valid, by the program and by the model; the notches of each. -/
import Derived.Test.YtanocllpmjhblaaDoorTb0
namespace Go.Proofs.YtanocllpmjhblaaDoor
open Go.ChangeShapes Go.WideShapes Go.ChangeAt Go.RowKit

theorem retBt {x y : Bool} (h : y = x) : Ending.returned (.bool x) = Ending.returned (.bool y) := by rw [h]
def csTo (cs : List Cd) : Nat → Bool
  | 0 => true
  | i + 1 => csTo cs i && cardOk (cdAt cs i).s (cdAt cs i).b
def csOk (cs : List Cd) : Bool := csTo cs cs.length
theorem csTo_no {cs : List Cd} {i : Nat} (h : csTo cs (i + 1) = false) : ∀ n, i < n → csTo cs n = false
  | 0, hk => absurd hk (Nat.not_lt_zero _)
  | n + 1, hk => by
    by_cases e : i = n
    · subst e; exact h
    · unfold csTo; rw [csTo_no h n (by omega)]; rfl
theorem csTo_bad {cs : List Cd} {i : Nat} (hi : i < cs.length) (h : cardOk (cdAt cs i).s (cdAt cs i).b = false) : csOk cs = false := csTo_no (i := i) (by unfold csTo; rw [h, Bool.and_false]) _ hi
theorem csTo_yes {cs : List Cd} {i : Nat} (h0 : csTo cs i = true) (h1 : cardOk (cdAt cs i).s (cdAt cs i).b = true) : csTo cs (i + 1) = true := by unfold csTo; rw [h0, h1]; rfl

set_option maxHeartbeats 1600000 in
theorem iAreCards_any (ad : Option Addr) (cs : List Cd) (c : Nat) (w : World) (hc : CardsIn w ad cs) (hl : cs.length ≤ 9223372036854775807) :
    Calls Tryd.prog 63 #[.slice ad cs.length c] w fun e w' => e = .returned (.bool (csOk cs)) ∧ Below w.heap.size w w' := by
  have C := Lib.hid hc
  clear hc
  go_enter Tryd.func63, Tryd.ntmps63
  go_wp2
  go_loopw [7] (fun i wr => ∃ j : Nat, j ≤ cs.length ∧ i = .int .i64 j ∧ csTo cs j = true ∧ Below w.heap.size w wr) (fun i _ => cs.length - (intOf i).toNat)
  case atStart => exact ⟨0, Nat.zero_le _, rfl, rfl, Below.refl _ _⟩
  case round =>
    obtain ⟨j, hj, rfl, hs, hB⟩ := hrel
    have BB := Lib.hid hB
    have S := Lib.hid hs
    clear hs
    by_cases hjl : j < cs.length
    · have hd : decide ((j : Int) < (cs.length : Int)) = true := by simpa using hjl
      obtain ⟨⟨hfit, _⟩, b1, o1, rfl, hb1, p0, p1, p2⟩ := C.out j hjl
      have d0 := (hB.cell (p := ⟨b1, o1 + j * 3, none⟩) hb1).trans p0
      have d1 := (hB.cell (p := ⟨b1, o1 + j * 3 + 1, none⟩) hb1).trans p1
      have d2 := (hB.cell (p := ⟨b1, o1 + j * 3 + 2, none⟩) hb1).trans p2
      have y1 : b1 < wr.heap.size := Nat.lt_of_lt_of_le hb1 hB.size
      have i1 : (0 : Int) ≤ (j : Int) := by omega
      have i2 : (j : Int) < (cs.length : Int) := by omega
      have no1 : Hid (cardOk (cdAt cs j).s (cdAt cs j).b = false → csOk cs = false) := Lib.hid fun h => csTo_bad hjl h
      have nx : Hid (cardOk (cdAt cs j).s (cdAt cs j).b = true → csTo cs (j + 1) = true) := Lib.hid fun h1 => csTo_yes S.out h1
      have V := Lib.hid fun W => iValidCard_any (cdAt cs j).s (cdAt cs j).a (cdAt cs j).b hfit W
      clear hB p0 p1 p2 S hfit
      cases hz : cardOk (cdAt cs j).s (cdAt cs j).b
      · rw [hz] at V
        go_wp2_with (go_at_call 80; refine (V.out _).mono ?_; rintro e w1 ⟨rfl, hB⟩; obtain ⟨hc, hf, hz9⟩ := bcell hB; have B0 : Below wr.heap.size wr w1 := (by repeat' (first | (with_reducible exact Below.refl _ _) | (with_reducible assumption) | (with_reducible refine below_drewN ?_ _) | (with_reducible refine Below.drew ?_) | (with_reducible refine below_new ?_ _) | (with_reducible refine below_next ?_ (by with_reducible assumption)) | (with_reducible refine Below.setCell ?_ ?_ _) | go_size)); have B1 := Lib.hid (BB.out.trans (Below.mono B0 BB.out.size)); clear B0)
        go_ret
        exact ⟨retBt (no1.out hz), B1.out⟩
      · rw [hz] at V
        have NX := Lib.hid (nx.out hz)
        clear nx no1
        go_wp2_with (go_at_call 80; refine (V.out _).mono ?_; rintro e w1 ⟨rfl, hB⟩; obtain ⟨hc, hf, hz9⟩ := bcell hB; have B0 : Below wr.heap.size wr w1 := (by repeat' (first | (with_reducible exact Below.refl _ _) | (with_reducible assumption) | (with_reducible refine below_drewN ?_ _) | (with_reducible refine Below.drew ?_) | (with_reducible refine below_new ?_ _) | (with_reducible refine below_next ?_ (by with_reducible assumption)) | (with_reducible refine Below.setCell ?_ ?_ _) | go_size)); have B1 := Lib.hid (BB.out.trans (Below.mono B0 BB.out.size)); clear B0)
        exact ⟨⟨j + 1, hjl, by rw [Int.natCast_succ], NX.out, B1.out⟩, by (simp [intOf]) <;> omega⟩
    · have e : j = cs.length := by omega
      subst e
      have hd : decide ((cs.length : Int) < (cs.length : Int)) = false := by simp
      clear hB
      go_wp2
      go_ret
      exact ⟨retBt S.out, BB.out⟩

set_option maxHeartbeats 1600000 in
theorem sCards_any (ad : Option Addr) (cs : List Cd) (c : Nat) (w : World) (hc : CardsIn w ad cs) (hl : cs.length ≤ 9223372036854775807) :
    Calls Tryd.prog 92 #[.slice ad cs.length c] w fun e w' => e = .returned (.bool (csOk cs)) ∧ Below w.heap.size w w' := by
  have C := Lib.hid hc
  clear hc
  go_enter Tryd.func92, Tryd.ntmps92
  go_wp2
  go_loopw [3] (fun i wr => ∃ j : Nat, j ≤ cs.length ∧ i = .int .i64 j ∧ csTo cs j = true ∧ Below w.heap.size w wr) (fun i _ => cs.length - (intOf i).toNat)
  case atStart => exact ⟨0, Nat.zero_le _, rfl, rfl, Below.refl _ _⟩
  case round =>
    obtain ⟨j, hj, rfl, hs, hB⟩ := hrel
    have BB := Lib.hid hB
    have S := Lib.hid hs
    clear hs
    by_cases hjl : j < cs.length
    · have hd : decide ((j : Int) < (cs.length : Int)) = true := by simpa using hjl
      obtain ⟨⟨hfit, _⟩, b1, o1, rfl, hb1, p0, p1, p2⟩ := C.out j hjl
      have d0 := (hB.cell (p := ⟨b1, o1 + j * 3, none⟩) hb1).trans p0
      have d1 := (hB.cell (p := ⟨b1, o1 + j * 3 + 1, none⟩) hb1).trans p1
      have d2 := (hB.cell (p := ⟨b1, o1 + j * 3 + 2, none⟩) hb1).trans p2
      have i1 : (0 : Int) ≤ (j : Int) := by omega
      have i2 : (j : Int) < (cs.length : Int) := by omega
      have no1 : Hid (cardOk (cdAt cs j).s (cdAt cs j).b = false → csOk cs = false) := Lib.hid fun h => csTo_bad hjl h
      have nx : Hid (cardOk (cdAt cs j).s (cdAt cs j).b = true → csTo cs (j + 1) = true) := Lib.hid fun h1 => csTo_yes S.out h1
      have V := Lib.hid (sOk_any (cdAt cs j).s (cdAt cs j).b hfit b1 (o1 + j * 3) wr (cdAt cs j).a d0 d1 d2)
      have x1 : IntKind.i64.wrap ((j : Int) + 1) = (j : Int) + 1 := IntWalk.i64_in _ (by omega)
      clear hB p0 p1 p2 d0 d1 d2 S hfit
      cases hz : cardOk (cdAt cs j).s (cdAt cs j).b
      · rw [hz] at V
        go_wp2_with (go_at_call 73; refine V.out.mono ?_; rintro e w1 ⟨rfl, hB⟩; have B1 := Lib.hid (BB.out.trans (Below.mono hB BB.out.size)); clear hB)
        go_ret
        exact ⟨retBt (no1.out hz), B1.out⟩
      · rw [hz] at V
        have NX := Lib.hid (nx.out hz)
        clear nx no1
        go_wp2_with (go_at_call 73; refine V.out.mono ?_; rintro e w1 ⟨rfl, hB⟩; have B1 := Lib.hid (BB.out.trans (Below.mono hB BB.out.size)); clear hB)
        exact ⟨⟨j + 1, hjl, by rw [Int.natCast_succ], NX.out, B1.out⟩, by (simp [intOf]) <;> omega⟩
    · have e : j = cs.length := by omega
      subst e
      have hd : decide ((cs.length : Int) < (cs.length : Int)) = false := by simp
      clear hB
      go_wp2
      go_ret
      exact ⟨retBt S.out, BB.out⟩

/-! ### The notches -/
def nmOf (cs : List Cd) (k : Nat) : List (Int × Int) := (List.range k).map fun i => ((cdAt cs i).a, (cdAt cs i).b)
theorem nmOf_next (cs : List Cd) (k : Nat) : nmOf cs (k + 1) = nmOf cs k ++ [((cdAt cs k).a, (cdAt cs k).b)] := by unfold nmOf; rw [List.range_succ, List.map_append]; rfl
theorem nmOf_len (cs : List Cd) (k : Nat) : (nmOf cs k).length = k := by unfold nmOf; simp
theorem nmOf_at {cs : List Cd} {k i : Nat} (h : i < k) : (nmOf cs k).getD i (0, 0) = ((cdAt cs i).a, (cdAt cs i).b) := by unfold nmOf; simp [List.getD, h]

set_option maxRecDepth 100000 in
set_option maxHeartbeats 3200000 in
theorem iNotches_any (ad : Option Addr) (cs : List Cd) (c : Nat) (w : World) (hc : CardsIn w ad cs) (hn : cs.length ≤ 80) :
    Calls Tryd.prog 40 #[.slice ad cs.length c] w (MsR (nmOf cs cs.length) w) := by
  obtain ⟨i0, hi, hz0, hz1, hz2⟩ := info_parts info_maskW
  have C := Lib.hid hc
  clear hc
  go_enter Tryd.func40, Tryd.ntmps40
  go_wp2_with (at_make; refine wpList_make_own _ rfl _ _ 77 rfl w.heap.size 26 i0 (.agg #[.int .u64 0, .int .u64 0]) 2 Tryd.underlying77 hi hz0 hz1 .i64 .i64 _ cs.length rfl rfl rfl (by rw [hz2]; omega) (by unfold maxLen; omega) (by simp) ?_; intro w1 hown hgrow; have O1 := Lib.hid hown; have B1 := Lib.hid (Below.grown (Below.refl w.heap.size w) hgrow (by simp) (fun j hj => by cases hj)); clear hown hgrow)
  have OO1 : Hid (OwnMs w.heap.size (nmOf cs 0) (.slice (some ⟨w.heap.size, 0, none⟩) 0 cs.length) w1) := Lib.hid O1.out
  clear O1
  go_loopw [3, 11] (fun v i wr => ∃ j : Nat, j ≤ cs.length ∧ i = .int .i64 j ∧ OwnMs w.heap.size (nmOf cs j) v wr ∧ Below w.heap.size w wr) (fun _ i _ => cs.length - (intOf i).toNat)
  case atStart => exact ⟨0, Nat.zero_le _, rfl, OO1.out, B1.out⟩
  case round =>
    obtain ⟨j, hj, rfl, O, hB⟩ := hrel
    have BB := Lib.hid hB
    have OO := Lib.hid O
    have LE := Lib.hid (nmOf_len cs j)
    clear O OO1 B1
    by_cases hjl : j < cs.length
    · have hd : decide ((j : Int) < (cs.length : Int)) = true := by simpa using hjl
      obtain ⟨_, b1, o1, rfl, hb1, p0, p1, p2⟩ := C.out j hjl
      have d0 := (hB.cell (p := ⟨b1, o1 + j * 3, none⟩) hb1).trans p0
      have d1 := (hB.cell (p := ⟨b1, o1 + j * 3 + 1, none⟩) hb1).trans p1
      have d2 := (hB.cell (p := ⟨b1, o1 + j * 3 + 2, none⟩) hb1).trans p2
      have y1 : b1 < wr.heap.size := Nat.lt_of_lt_of_le hb1 hB.size
      have s1 := hB.size
      have i3 : (0 : Int) ≤ (j : Int) := by omega
      have i4 : (j : Int) < (cs.length : Int) := by omega
      have nx : Hid (nmOf cs (j + 1) = nmOf cs j ++ [((cdAt cs j).a, (cdAt cs j).b)]) := Lib.hid (nmOf_next cs j)
      clear hB p0 p1 p2
      generalize (cdAt cs j).a = X at *
      generalize (cdAt cs j).b = Y at *
      generalize (cdAt cs j).s = s at *
      generalize nmOf cs j = xs at *
      have lx := LE.out
      have R1 := Lib.hid (ownMs_kept OO.out (ab_new wr (.cells #[.string s, .int .u64 X, .int .u64 Y] 70)))
      go_wp2_with (at_builtin; refine wpList_append_own _ rfl _ _ 77 rfl w.heap.size 26 i0 (.agg #[.int .u64 0, .int .u64 0]) 2 16 Tryd.underlying77 hi hz0 hz1 hz2 rfl (by decide) _ _ _ rfl (World.ownsRow.alloc R1.out _) ⟨wr.heap.size + 1, 0, none⟩ 1 1 [.int .u64 X, .int .u64 Y] rfl rfl (fun j u h => by have := m_new (wr.alloc (.cells #[.string s, .int .u64 X, .int .u64 Y] 70)) (.int .u64 X) (.int .u64 Y) 26 j u h; rwa [World.size_alloc] at this) (fun x hx => by simp at hx; rcases hx with rfl | rfl <;> rfl) (by unfold maxLen; omega) (by omega) (by simp; omega) ?_; intro v' w4 hown hgrow _; have P := Lib.hid (ownMs_push hown); have G := Lib.hid hgrow; clear hown hgrow)
      exact ⟨⟨j + 1, hjl, by rw [Int.natCast_succ], by rw [nx.out]; exact P.out, Below.grown ((BB.out.alloc s1 _).alloc (by simp; omega) _) G.out (by simp; omega) (fun k hk => ownMs_lt R1.out k hk)⟩, by (simp [intOf]) <;> omega⟩
    · have e : j = cs.length := by omega
      subst e
      have hd : decide ((cs.length : Int) < (cs.length : Int)) = false := by simp
      clear hB
      go_wp2
      go_ret
      exact ⟨_, rfl, OO.out, BB.out⟩
end Go.Proofs.YtanocllpmjhblaaDoor
