/- Contract: is a tree valid, by the model. -/
import Derived.Test.YtppjmngnjdeigaaDoorVtA
namespace Go.Proofs.YtppjmngnjdeigaaDoor
open Go.ChangeShapes Go.WideShapes Go.ChangeAt Go.RowKit

theorem nx_len {ks : List Kn} (h : ∀ i, i < ks.length → KnSmall (knAt ks i)) : ∀ i, i ≤ ks.length → (nx ks i).length ≤ i * 1048576
  | 0, _ => by rw [nx_zero]; simp
  | i + 1, hi => by
    have := nx_len h i (by omega)
    have := (h i (by omega)).2.1
    rw [nx_next (by omega), List.length_append]
    omega
theorem cnt_start {w1 : World} {g n : Nat} (h : w1.ownsRow g 2 1 (.slice (some ⟨g, 0, none⟩) n n) n (List.replicate n (.int .i64 0))) : CntRow (w1.setCell ⟨g, 0, none⟩ (.int .i64 1)) g n [] := by
  have s := h.stored 0 (.int .i64 1)
  rw [cntV_nil] at s
  exact s.1
theorem ask_true {P : Program} {f : FuncId} {args : Array Value} {w w0 : World} {n i : Nat} {k : Kn} {L : List Int} (h : AskOk k ∧ NxTo n i k k.ns.length) (K : Calls P f args w (AskR w0 n i k L)) : Calls P f args w fun e w' => e = .returned (.bool true) ∧ Below w0.heap.size w0 w' ∧ CntRow w' w0.heap.size n (L ++ k.ns) :=
  K.mono fun e w' ⟨b, he, hB, hy, hno⟩ => by
    cases b
    · exact absurd h (hno rfl)
    · exact ⟨he, hB, (hy rfl).2.2⟩
theorem ask_false {P : Program} {f : FuncId} {args : Array Value} {w w0 : World} {n i : Nat} {k : Kn} {L : List Int} (h : ¬ (AskOk k ∧ NxTo n i k k.ns.length)) (K : Calls P f args w (AskR w0 n i k L)) : Calls P f args w fun e w' => e = .returned (.bool false) ∧ Below w0.heap.size w0 w' :=
  K.mono fun e w' ⟨b, he, hB, hy, hno⟩ => by
    cases b
    · exact ⟨he, hB⟩
    · exact absurd ⟨(hy rfl).1, (hy rfl).2.1⟩ h
theorem ret_e {b : Bool} {e : Ending} (h : e = .returned (.bool b)) : e = .returned (.bool b) := h

set_option maxRecDepth 100000 in
set_option maxHeartbeats 6400000 in
theorem sTreeOk_any (ad : Option Addr) (ks : List Kn) (c : Nat) (w : World) (hc : KnotsIn w ad ks) (hn : KsSmall ks) :
    Calls Tryd.prog 37 #[.slice ad ks.length c] w fun e w' => e = .returned (.bool (treeOk ks)) ∧ Below w.heap.size w w' := by
  obtain ⟨i0, hi, hz0, hz1, hz2⟩ := info_parts info_i64
  have C := Lib.hid hc
  have SM := Lib.hid hn.2
  have NL := Lib.hid (nx_len hn.2)
  clear hc hn
  by_cases hl : (1 : Int) ≤ (ks.length : Int) ∧ (ks.length : Int) ≤ 120
  rotate_left
  · have K := Lib.hid fun W => sInM_f hl W
    have T := Lib.hid (tree_len (ks := ks) (by omega))
    clear hl
    go_enter Tryd.func37, Tryd.ntmps37
    go_wp2_with (go_at_call 57; refine (K.out _).mono ?_; rintro e w1 ⟨rfl, rfl⟩)
    all_goals go_returns
    all_goals exact ⟨kretB T.out, Below.refl _ _⟩
  have K := Lib.hid fun W => sInM_t hl W
  have l1 : 1 ≤ ks.length := by omega
  have l2 : ks.length ≤ 120 := by omega
  clear hl
  go_enter Tryd.func37, Tryd.ntmps37
  go_wp2_with (first
    | (go_at_call 57; refine (K.out _).mono ?_; rintro e w1 ⟨rfl, rfl⟩)
    | (at_make; refine wpList_make_full _ rfl _ _ 32 rfl w.heap.size 2 i0 (.int .i64 0) 1 Tryd.underlying32 hi hz0 hz1 _ _ _ _ ks.length rfl rfl rfl rfl (by rw [hz2]; omega) (by unfold maxLen; omega) (Nat.le_refl _) ?_; intro w1 hown hgrow; have M := hown; rw [show (Value.int IntKind.i64 0).cells = #[Value.int IntKind.i64 0] from rfl, Nat.mul_one, ← Nat.mul_one ks.length, toList_madeCells_one, Nat.mul_one] at M; have m0 := M.cellAt 0 (by omega); rw [List.getElem?_replicate, if_pos (by omega)] at m0; have f0 := M.frozenAt 0; have g0 := (M.lt w.heap.size rfl).2; have B1 := Lib.hid (Below.grown (Below.refl w.heap.size w) hgrow (Nat.le_refl _) (fun j hj => by cases hj)); have M1 := Lib.hid M; clear hown hgrow M))
  have R1 := Lib.hid (cnt_start M1.out)
  have B2 := Lib.hid (B1.out.setCell (p := ⟨w.heap.size, 0, none⟩) (Nat.le_refl _) (.int .i64 1))
  clear M1 B1 m0 f0 g0 hi hz0 hz1 hz2
  go_loopw [4] (fun ix wr => ∃ i : Nat, i ≤ ks.length ∧ ix = .int .i64 i ∧ TrTo ks i ∧ CntRow wr w.heap.size ks.length (nx ks i) ∧ Below w.heap.size w wr) (fun ix _ => ks.length - (intOf ix).toNat)
  case atStart => exact ⟨0, Nat.zero_le _, rfl, fun j hj => absurd hj (Nat.not_lt_zero _), by rw [nx_zero]; exact R1.out, B2.out⟩
  case round =>
    obtain ⟨i, hi, rfl, hT, hR, hB⟩ := hrel
    have BB := Lib.hid hB
    have RR := Lib.hid hR
    have TT := Lib.hid hT
    clear hT hR R1 B2
    by_cases hil : i < ks.length
    · have hd : decide ((i : Int) < (ks.length : Int)) = true := by simpa using hil
      obtain ⟨b1, o1, rfl, hkn⟩ := C.out i hil
      have i1 : (0 : Int) ≤ (i : Int) := by omega
      have i2 : (i : Int) < (ks.length : Int) := by omega
      have SMK := SM.out i hil
      have TX := Lib.hid fun h => trTo_next (ks := ks) (i := i) TT.out h
      have NN := Lib.hid (nx_next hil)
      have NOL := Lib.hid fun h => tree_loc (ks := ks) hil h
      have NOX := Lib.hid fun t h1 h2 => tree_nxt (ks := ks) (i := i) (t := t) hil h1 h2
      have hL := NL.out i hi
      have KA := Lib.hid (knAt_below hkn hB)
      have d0 : wr.cell? ⟨b1, o1 + i * 4, none⟩ = some (.int .i16 (knAt ks i).f) := by obtain ⟨_, va, vc, na, nc, ca, cc, _, d0, _⟩ := KA.out; exact d0
      have y1 : b1 < wr.heap.size := by obtain ⟨_, va, vc, na, nc, ca, cc, y, _⟩ := KA.out; exact y
      generalize hk : knAt ks i = k at *
      by_cases hkf : k.f = -1
      · have K1 := sLeaf_any k b1 (o1 + i * 4) wr SMK KA.out
        have e1 : (k.f == -1) = true := by simp [hkf]
        cases hb : leafB k
        · have T := Lib.hid (NOL.out (by unfold LocOk; rw [if_pos hkf]; simpa [leafB] using hb))
          rw [hb] at K1
          have K1 := Lib.hid K1
          clear hb hkf hB
          generalize k.f = f at *
          go_wp2_with (go_at_call 71; refine K1.out.mono ?_; rintro e w2 ⟨rfl, hB2⟩; have B3 := Lib.hid (BB.out.trans (Below.mono hB2 BB.out.size)); clear hB2)
          all_goals go_returns
          all_goals exact ⟨kretB T.out, B3.out⟩
        · have lo : LeafOk k := by simpa [leafB] using hb
          have T := Lib.hid (TX.out ⟨by unfold LocOk; rw [if_pos hkf]; exact lo, fun t ht => by have := lo.2.1; omega⟩)
          have E := Lib.hid (show nx ks (i + 1) = nx ks i by rw [NN.out, List.length_eq_zero_iff.1 lo.2.1, List.append_nil])
          rw [hb] at K1
          have K1 := Lib.hid K1
          clear hb hkf hB lo
          generalize k.f = f at *
          go_wp2_with (go_at_call 71; refine K1.out.mono ?_; rintro e w2 ⟨rfl, hB2⟩; have B3 := Lib.hid (BB.out.trans (Below.mono hB2 BB.out.size)); have R3 := Lib.hid (cntRow_below RR.out hB2); clear hB2)
          exact ⟨⟨i + 1, hil, by rw [Int.natCast_succ], T.out, by rw [E.out]; exact R3.out, B3.out⟩, by (simp [intOf]) <;> omega⟩
      · have K1 := Lib.hid (sAsker_any w wr ks.length i k b1 (o1 + i * 4) (nx ks i) SMK hkn hB RR.out (by omega) l2 hil)
        have e1 : (k.f == -1) = false := by simp [hkf]
        have YES := Lib.hid fun (h : AskOk k ∧ NxTo ks.length i k k.ns.length) => TX.out ⟨by unfold LocOk; rw [if_neg hkf]; exact h.1, h.2⟩
        have NO := Lib.hid fun (h : ¬ (AskOk k ∧ NxTo ks.length i k k.ns.length)) => (show treeOk ks = false by
          by_cases ha : AskOk k
          · by_cases hx : NxTo ks.length i k k.ns.length
            · exact absurd ⟨ha, hx⟩ h
            · unfold NxTo at hx
              simp only [Classical.not_forall] at hx
              obtain ⟨t, ht, hx⟩ := hx
              exact NOX.out t ht hx
          · exact NOL.out (by unfold LocOk; rw [if_neg hkf]; exact ha))
        by_cases hA : AskOk k ∧ NxTo ks.length i k k.ns.length
        · have K2 := Lib.hid (ask_true hA K1.out)
          have T := Lib.hid (YES.out hA)
          clear hkf hB hkn hA
          generalize k.f = f at *
          go_wp2_with (go_at_call 72; refine K2.out.mono ?_; rintro e w2 ⟨rfl, hB2, hy⟩; have B3 := Lib.hid hB2; have R3 := Lib.hid hy; clear hB2 hy)
          exact ⟨⟨i + 1, hil, by rw [Int.natCast_succ], T.out, by rw [NN.out]; exact R3.out, B3.out⟩, by (simp [intOf]) <;> omega⟩
        · have K2 := Lib.hid (ask_false hA K1.out)
          have T := Lib.hid (NO.out hA)
          clear hkf hB hkn hA
          generalize k.f = f at *
          go_wp2_with (go_at_call 72; refine K2.out.mono ?_; rintro e w2 ⟨rfl, hB2⟩; have B3 := Lib.hid hB2; clear hB2)
          all_goals go_returns
          all_goals exact ⟨kretB T.out, B3.out⟩
    · have e : i = ks.length := by omega
      subst e
      have hd : decide ((ks.length : Int) < (ks.length : Int)) = false := by simp
      have CN := Lib.hid (count_none TT.out)
      have TC := Lib.hid fun h => tree_count l1 l2 TT.out h
      have TN := Lib.hid fun j h1 h2 h3 => tree_nocount (ks := ks) (j := j) h1 h2 h3
      clear hB
      generalize hLL : nx ks ks.length = L at *
      clear hLL
      go_wp2
      go_loopw [5] (fun ix wr => ∃ m : Nat, m ≤ ks.length ∧ ix = .int .i64 m ∧ (∀ j, j < m → cv L j = 1) ∧ CntRow wr w.heap.size ks.length L ∧ Below w.heap.size w wr) (fun ix _ => ks.length - (intOf ix).toNat)
      case atStart => exact ⟨0, Nat.zero_le _, rfl, fun j hj => absurd hj (Nat.not_lt_zero _), RR.out, BB.out⟩
      case round =>
        obtain ⟨m, hm, rfl, hA, hR, hB⟩ := hrel
        have B3 := Lib.hid hB
        have R3 := Lib.hid hR
        have AA := Lib.hid hA
        by_cases hml : m < ks.length
        · have hd3 : decide ((m : Int) < (ks.length : Int)) = true := by simpa using hml
          have i1 : (0 : Int) ≤ (m : Int) := by omega
          have i2 : (m : Int) < (ks.length : Int) := by omega
          have r0 := hR.cellAt m (by omega)
          rw [cntV_get _ _ _ hml] at r0
          clear hA hR hB
          by_cases h1 : cv L m = 1
          · have e1 : (cv L m != 1) = false := by simp [h1]
            have A4 := Lib.hid (show ∀ j, j < m + 1 → cv L j = 1 from fun j hj => by
              by_cases e : j = m
              · subst e; exact h1
              · exact AA.out j (by omega))
            clear h1
            generalize cv L m = x at *
            go_wp2
            exact ⟨⟨m + 1, hml, by rw [Int.natCast_succ], A4.out, R3.out, B3.out⟩, by (simp [intOf]) <;> omega⟩
          · have e1 : (cv L m != 1) = true := by simp [h1]
            have T := Lib.hid (show treeOk ks = false by
              unfold cv at h1
              by_cases e : m = 0
              · subst e; rw [CN.out] at h1; exact absurd (by decide) h1
              · rw [if_neg e] at h1; exact TN.out m hml (by omega) (by omega))
            clear h1
            generalize cv L m = x at *
            go_wp2
            all_goals go_returns
            all_goals exact ⟨kretB T.out, B3.out⟩
        · have e : m = ks.length := by omega
          subst e
          have hd3 : decide ((ks.length : Int) < (ks.length : Int)) = false := by simp
          have T := Lib.hid (TC.out fun j h1 h2 => by
            have := hA j h1
            unfold cv at this
            rw [if_neg (by omega)] at this
            omega)
          clear hA hR hB
          go_wp2
          all_goals go_returns
          all_goals exact ⟨kretB T.out, B3.out⟩
end Go.Proofs.YtppjmngnjdeigaaDoor
