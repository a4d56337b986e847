/- Contract: the program's SplitDeck. -/
import Derived.Test.YtdbkplfkilaoeaaRc
import Derived.Test.YtdbkplfkilaoeaaPassO
import Derived.Test.YtdbkplfkilaoeaaDeckI
import Derived.Test.YtdbkplfkilaoeaaSplitS
import Derived.Deep.RegionWith
import Derived.Deep.DeepCutAuto
namespace Go.Proofs.Ytdbkplfkilaoeaa
open Go.ChangeShapes Go.WideShapes Go.ChangeAt Go.RowKit

theorem flatC_cells {w : World} {g o : Nat} {cs : List Cd} (h : CellsC w (some ⟨g, o, none⟩) cs) (ob : Obj) : ∀ j u, (flatC cs)[j]? = some u → (w.alloc ob).cell? ((⟨g, o, none⟩ : Addr).add j) = some u := by
  intro j u hu
  have hj : j < cs.length * 3 := by rw [← flatC_len]; exact (List.getElem?_eq_some_iff.1 hu).1
  obtain ⟨b, off, ha, hb, h0, h1, h2⟩ := h (j / 3) (by omega)
  cases ha
  have g3 := flatC_get cs (j / 3) (by omega)
  have ea : (⟨g, o, none⟩ : Addr).add j = ⟨g, o + j, none⟩ := by unfold Addr.add; split <;> simp_all
  rw [ea, World.cell?_alloc_past (hn := hb)]
  rcases (show j % 3 = 0 ∨ j % 3 = 1 ∨ j % 3 = 2 by omega) with e | e | e
  · have : j / 3 * 3 = j := by omega
    rw [this] at h0 g3; rw [g3.1] at hu; rw [← hu]; exact h0
  · have : j / 3 * 3 + 1 = j := by omega
    rw [Nat.add_assoc, this] at h1; rw [this] at g3; rw [g3.2.1] at hu; rw [← hu]; exact h1
  · have : j / 3 * 3 + 2 = j := by omega
    rw [Nat.add_assoc, this] at h2; rw [this] at g3; rw [g3.2.2] at hu; rw [← hu]; exact h2

set_option maxRecDepth 100000 in
set_option maxHeartbeats 1600000 in
theorem iCloneC_any (g o : Nat) (cs : List Cd) (c : Nat) (w : World) (hc : CellsC w (some ⟨g, o, none⟩) cs) (hn : cs.length ≤ 1048576) :
    Calls Try.prog 30 #[.slice (some ⟨g, o, none⟩) cs.length c] w fun e w' => ∃ v, e = .returned v ∧ OwnCards w.heap.size cs v w' ∧ Below w.heap.size w w' := by
  obtain ⟨i0, hi, hz0, hz1, hz2⟩ := info_parts info_card
  have q : ∀ (w : World) (a : Option Addr) (n c : Nat), (binOp .eql 24 (.slice a n c) (.slice none 0 0)).run Try.prog w = .ok (.bool a.isNone) w := fun w a n c => Lib.run_eql_slice_nil w _ _ a n c 0 0 Try.underlying24
  have F := Lib.hid (flatC_cells hc (.cells #[] 50))
  clear hc
  go_enter Try.func30, Try.ntmps30
  go_wp2_with (at_builtin; go_loud (refine wpList_append_own _ rfl _ _ 24 rfl w.heap.size 50 i0 (.agg #[.string ByteArray.empty, .int .u64 0, .int .u64 0]) 3 32 Try.underlying24 hi hz0 hz1 hz2 rfl (by decide) _ _ _ rfl (World.ownsRow_made w #[] 0 (Nat.le_refl _) (Nat.zero_le _) rfl) ⟨g, o, none⟩ cs.length c (flatC cs) rfl (flatC_len cs) F.out (flatC_one cs) (by unfold maxLen; omega) (by omega) (by simp) ?_; intro v' w1 hown hgrow _; have P := Lib.hid hown; have G := Lib.hid (Below.grown ((Below.refl w.heap.size w).alloc (Nat.le_refl _) _) hgrow (by simp) (fun j hj => by cases hj; exact Nat.le_refl _)); clear hown hgrow))
  go_ret
  have PO := P.out
  rw [Nat.zero_add, List.nil_append] at PO
  exact ⟨_, rfl, PO, G.out⟩
/-- Two decks, a code. -/
def SqR (xs ys : List Cd) (c : Int) (w : World) (e : Ending) (w' : World) : Prop := ∃ v u, e = .returned (.tuple #[v, u, .int .i64 c]) ∧ RC w.heap.size xs v w' ∧ RC w.heap.size ys u w' ∧ Apart v u ∧ Below w.heap.size w w'
theorem sq_nil (c : Int) {w w1 : World} (hB : Below w.heap.size w w1) : SqR [] [] c w (.returned (.tuple #[.slice none 0 0, .slice none 0 0, .int .i64 c])) w1 := ⟨_, _, rfl, .inl ⟨rfl, rfl⟩, .inl ⟨rfl, rfl⟩, fun k hk => (by cases hk), hB⟩
theorem cells_tail {w : World} {g : Nat} {xs ys : List Cd} (h : CellsC w (some ⟨g, 0, none⟩) (xs ++ ys)) : CellsC w (some ⟨g, xs.length * 3, none⟩) ys := fun i hi => by
  obtain ⟨b, off, ha, hb, h0, h1, h2⟩ := h (xs.length + i) (by rw [List.length_append]; omega)
  cases ha
  have e : cdAt (xs ++ ys) (xs.length + i) = cdAt ys i := by unfold cdAt; rw [List.getD, List.getD, List.getElem?_append_right (by omega), Nat.add_sub_cancel_left]
  have o : 0 + (xs.length + i) * 3 = xs.length * 3 + i * 3 := by omega
  rw [e, o] at h0 h1 h2
  exact ⟨g, xs.length * 3, rfl, hb, h0, h1, h2⟩

set_option maxRecDepth 100000 in
set_option maxHeartbeats 1600000 in
theorem iSplitDeck_any (ad : Option Addr) (cs : List Cd) (c : Nat) (h : Int) (w : World) (hc : CardsIn w ad cs) :
    Calls Try.prog 10 #[.slice ad cs.length c, .int .i64 h] w (SqR (spS h cs (psC (deckOk cs) h)) (spD h cs (psC (deckOk cs) h)) (psC (deckOk cs) h) w) := by
  have D := Lib.hid (iDeckOk_any ad cs c w hc)
  cases hd : deckOk cs
  · rw [hd] at D
    rw [ps_1, (sp_no (h := h) (cs := cs) (show (1 : Int) ≠ 0 by decide)).1, (sp_no (h := h) (cs := cs) (show (1 : Int) ≠ 0 by decide)).2]
    clear hd hc
    go_enter Try.func10, Try.ntmps10
    go_wp2_with (go_at_call 27; refine D.out.mono ?_; rintro e w1 ⟨rfl, hB⟩; have B1 := Lib.hid hB; clear hB)
    go_returns
    exact sq_nil _ B1.out
  · have hn := deckOk_80 hd
    rw [hd] at D
    clear hd
    cases hh : isHo h
    · have S := iHoleP hh
      rw [ps_2 hh, (sp_no (h := h) (cs := cs) (show (2 : Int) ≠ 0 by decide)).1, (sp_no (h := h) (cs := cs) (show (2 : Int) ≠ 0 by decide)).2]
      clear hh hc
      go_enter Try.func10, Try.ntmps10
      go_wp2_with (first
        | (go_at_call 27; refine D.out.mono ?_; rintro e w1 ⟨rfl, hB⟩; have B1 := Lib.hid hB; clear hB)
        | (go_at_call 28; refine (S.out _).mono ?_; rintro e w2 ⟨rfl, rfl⟩))
      go_returns
      exact sq_nil _ B1.out
    · have S := iHoleP hh
      have P := Lib.hid fun W hW => iPassOnce_any ad cs c h (isHo_in hh).1 (isHo_in hh).2 W hW hn
      rw [ps_0 hh, (sp_yes h cs).1, (sp_yes h cs).2]
      have tot := len_both h cs cs.length (Nat.le_refl _)
      have C := Lib.hid hc
      have v1 : IntKind.i64.wrap ((cs.length : Int) - ((stayTo h cs cs.length).length : Int)) = ((dropTo h cs cs.length).length : Int) := by rw [IntWalk.i64_in _ (by omega)]; omega
      clear hh hc
      generalize dropTo h cs cs.length = ys at *
      generalize stayTo h cs cs.length = xs at *
      go_enter Try.func10, Try.ntmps10
      go_upto_region 6 with (first
        | (go_at_call 27; refine D.out.mono ?_; rintro e w1 ⟨rfl, hB⟩; have B1 := Lib.hid hB; have C1 := Lib.hid (cardsIn_below C.out hB); clear hB)
        | (go_at_call 28; refine (S.out _).mono ?_; rintro e w2 ⟨rfl, rfl⟩)
        | (go_at_call 29; refine (P.out _ C1.out).mono ?_; rintro e w3 ⟨g, rfl, hO, hB⟩; have O := Lib.hid hO; have B3 := Lib.hid hB; clear hO hB))
      have CL := O.out
      obtain ⟨a9, c9, hv, hcl⟩ := ownCards_in (show OwnCards _ (xs ++ ys) (.slice (some ⟨g, 0, none⟩) (xs ++ ys).length cs.length) _ by rw [List.length_append, tot]; exact CL)
      cases hv
      have K := Lib.hid fun W hW => iCloneC_any g (xs.length * 3) ys ys.length W hW (by omega)
      have T := Lib.hid (cells_tail hcl)
      clear hcl CL
      have OL := Lib.hid (show g < w3.heap.size from (World.ownsRow.lt O.out g rfl).2)
      have OB := Lib.hid (show w1.heap.size ≤ g from (World.ownsRow.lt O.out g rfl).1)
      have i1 : xs.length ≤ cs.length := by omega
      have i2 : cs.length - xs.length = ys.length := by omega
      have K0 := Lib.hid fun W (hy : ys = []) => (hy ▸ iCloneC_any g 0 [] 0 W (fun i hi => absurd hi (Nat.not_lt_zero _)) (Nat.zero_le _) : Calls Try.prog 30 #[.slice (some ⟨g, 0, none⟩) 0 0] W fun e w' => ∃ v, e = .returned v ∧ OwnCards W.heap.size ys v w' ∧ Below W.heap.size W w')
      have CY := Lib.hid fun W (hW : Ab w3 W) => K.out W (cellsC_below T.out hW)
      clear K T
      generalize hN : cs.length = N at *
      clear hN
      by_cases hz : N = xs.length
      · subst hz
        have hy : ys = [] := List.length_eq_zero_iff.1 (by omega)
        have K9 := Lib.hid fun W (_ : Ab w3 W) => K0.out W hy
        subst hy
        clear CY K0
        go_region_with (go_at_call 30; refine (K9.out _ ?_).mono ?_; exact (Below.refl w3.heap.size w3).drew; rintro e w4 ⟨v, rfl, hO, hB⟩; have OY := Lib.hid (ownCards_weaken hO (show w3.heap.size ≤ _ from Nat.le_refl _)); have OX := Lib.hid (ownCards_kept (show OwnCards w1.heap.size _ _ w3.drew from O.out) hB); have B4 := Lib.hid (show Below w3.heap.size w3 w4 from ⟨hB.os, hB.tape, hB.output, hB.size, hB.block⟩); clear hO hB)
        all_goals go_wp2
        all_goals go_returns
        all_goals
          have e1 : (xs ++ []).take xs.length = xs := List.take_left' rfl
          have e2 : (xs ++ []).length = xs.length := by rw [List.length_append, tot]
          exact ⟨_, _, rfl, .inr ⟨g, _, xs ++ [], _, rfl, Nat.le_trans B1.out.size OB.out, by omega, e1, by rw [e2]; exact ownCards_weaken OX.out B1.out.size⟩, rc_own (ownCards_weaken OY.out (Nat.le_trans B1.out.size B3.out.size)), fun k hk hu => (by
              cases hk
              have := (World.ownsRow.lt OY.out g hu).1
              have := OL.out
              omega), (B1.out.trans (Below.mono B3.out B1.out.size)).trans (Below.mono B4.out (Nat.le_trans B1.out.size B3.out.size))⟩
      · clear K0
        go_region_with (go_at_call 30; refine (CY.out _ ?_).mono ?_; exact (Below.refl w3.heap.size w3).drew; rintro e w4 ⟨v, rfl, hO, hB⟩; have OY := Lib.hid (ownCards_weaken hO (show w3.heap.size ≤ _ from Nat.le_refl _)); have OX := Lib.hid (ownCards_kept (show OwnCards w1.heap.size _ _ w3.drew from O.out) hB); have B4 := Lib.hid (show Below w3.heap.size w3 w4 from ⟨hB.os, hB.tape, hB.output, hB.size, hB.block⟩); clear hO hB)
        all_goals go_wp2
        all_goals go_returns
        all_goals
          have e1 : (xs ++ ys).take xs.length = xs := List.take_left' rfl
          have e2 : (xs ++ ys).length = N := by rw [List.length_append, tot]
          exact ⟨_, _, rfl, .inr ⟨g, _, xs ++ ys, _, rfl, Nat.le_trans B1.out.size OB.out, by omega, e1, by rw [e2]; exact ownCards_weaken OX.out B1.out.size⟩, rc_own (ownCards_weaken OY.out (Nat.le_trans B1.out.size B3.out.size)), fun k hk hu => (by
              cases hk
              have := (World.ownsRow.lt OY.out g hu).1
              have := OL.out
              omega), (B1.out.trans (Below.mono B3.out B1.out.size)).trans (Below.mono B4.out (Nat.le_trans B1.out.size B3.out.size))⟩
end Go.Proofs.Ytdbkplfkilaoeaa
