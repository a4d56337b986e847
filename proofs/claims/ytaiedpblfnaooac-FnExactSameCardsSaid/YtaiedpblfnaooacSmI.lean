/- Contracts: SameCards, the program's and the model's. -/
import Derived.Test.YtaiedpblfnaooacSmE
import Derived.Deep.DeepCutAuto
namespace Go.Proofs.Ytaiedpblfnaooac
open Go.ChangeShapes Go.WideShapes Go.ChangeAt Go.RowKit

def scV (cs ds : List Cd) : Value := if deckOk cs = true then (if deckOk ds = true then .tuple #[.bool (sameS cs ds), .int .i64 0] else .tuple #[.bool false, .int .i64 1]) else .tuple #[.bool false, .int .i64 1]
theorem scV_1 {cs ds : List Cd} (h : deckOk cs = false) : scV cs ds = .tuple #[.bool false, .int .i64 1] := by unfold scV; rw [if_neg (by rw [h]; simp)]
theorem scV_2 {cs ds : List Cd} (h1 : deckOk cs = true) (h : deckOk ds = false) : scV cs ds = .tuple #[.bool false, .int .i64 1] := by unfold scV; rw [if_pos h1, if_neg (by rw [h]; simp)]
theorem scV_3 {cs ds : List Cd} (h1 : deckOk cs = true) (h : deckOk ds = true) : scV cs ds = .tuple #[.bool (sameS cs ds), .int .i64 0] := by unfold scV; rw [if_pos h1, if_pos h]
theorem all_no {cs ds : List Cd} {i : Nat} (hi : i < cs.length) (h : wiC ds (cdAt cs i) = false) : ((List.range cs.length).all fun i => wiC ds (cdAt cs i)) = false := by
  rw [List.all_eq_false]
  exact ⟨i, List.mem_range.2 hi, by rw [h]; simp⟩
theorem ret_scV {x y : Value} (h : x = y) : Ending.returned y = Ending.returned x := by rw [h]

set_option maxRecDepth 100000 in
set_option maxHeartbeats 1600000 in
theorem iSameCards_any (ad bd : Option Addr) (cs ds : List Cd) (c d : Nat) (w : World) (ha : CardsIn w ad cs) (hb : CardsIn w bd ds) (n1 : cs.length ≤ 1048576) (n2 : ds.length ≤ 1048576) :
    Calls Try.prog 27 #[.slice ad cs.length c, .slice bd ds.length d] w fun e w' => e = .returned (scV cs ds) ∧ Below w.heap.size w w' := by
  have HA := Lib.hid ha
  have HB := Lib.hid hb
  have V1 := Lib.hid fun W h => iDeckOk_any ad cs c W h
  have V2 := Lib.hid fun W h => iDeckOk_any bd ds d W h
  have S1 := Lib.hid fun W h => iStates_any ad cs c W h n1
  have S2 := Lib.hid fun W h => iStates_any bd ds d W h n2
  clear ha hb n1 n2
  have tk1 : True := trivial
  have tk2 : True := trivial
  have tk3 : True := trivial
  have tk4 : True := trivial
  cases o1 : deckOk cs
  · have f := Lib.hid (scV_1 (ds := ds) o1)
    rw [o1] at V1
    clear o1
    go_enter Try.func27, Try.ntmps27
    go_wp2_with (go_at_call 59; refine (V1.out _ HA.out).mono ?_; rintro e w1 ⟨rfl, hB⟩; have b1 := Lib.hid (show Below w.heap.size w w1 from hB); clear hB)
    go_returns
    exact ⟨ret_scV f.out, b1.out⟩
  cases o2 : deckOk ds
  · have f := Lib.hid (scV_2 o1 o2)
    rw [o1] at V1
    rw [o2] at V2
    clear o1 o2
    go_enter Try.func27, Try.ntmps27
    go_wp2_with (first
      | (go_at_call 59; have _t := tk1; clear _t tk1; refine (V1.out _ HA.out).mono ?_; rintro e w1 ⟨rfl, hB⟩; have b1 := Lib.hid (show Below w.heap.size w w1 from hB); clear hB)
      | (go_at_call 59; have _t := tk2; clear _t tk2; refine (V2.out _ (cardsIn_below HB.out b1.out)).mono ?_; rintro e w2 ⟨rfl, hB⟩; have b2 := Lib.hid (b1.out.trans (Below.mono hB b1.out.size)); clear hB))
    go_returns
    exact ⟨ret_scV f.out, b2.out⟩
  · have f := Lib.hid (scV_3 o1 o2)
    have E := Lib.hid fun g h W p q => eqSts_any cs ds g h W o1 o2 p q
    rw [o1] at V1
    rw [o2] at V2
    clear o1 o2
    generalize sameS cs ds = q at *
    go_enter Try.func27, Try.ntmps27
    go_wp2_with (first
      | (go_at_call 59; have _t := tk1; clear _t tk1; refine (V1.out _ HA.out).mono ?_; rintro e w1 ⟨rfl, hB⟩; have b1 := Lib.hid (show Below w.heap.size w w1 from hB); clear hB)
      | (go_at_call 59; have _t := tk2; clear _t tk2; refine (V2.out _ (cardsIn_below HB.out b1.out)).mono ?_; rintro e w2 ⟨rfl, hB⟩; have b2 := Lib.hid (b1.out.trans (Below.mono hB b1.out.size)); clear hB)
      | (go_at_call 72; have _t := tk3; clear _t tk3; refine (S1.out _ (cardsIn_below HA.out b2.out)).mono ?_; rintro e w3 ⟨g3, rfl, hO, hB⟩; have b3 := Lib.hid (b2.out.trans (Below.mono hB b2.out.size)); have M3 := Lib.hid hO; clear hB hO)
      | (go_at_call 72; have _t := tk4; clear _t tk4; refine (S2.out _ (cardsIn_below HB.out b3.out)).mono ?_; rintro e w4 ⟨g4, rfl, hO, hB⟩; have b4 := Lib.hid (b3.out.trans (Below.mono hB b3.out.size)); have M4 := Lib.hid (M3.out.below hB); have N4 := Lib.hid hO; clear hB hO)
      | (go_at_call 71; refine (E.out g3 g4 _ M4.out N4.out).mono ?_; rintro e w5 ⟨rfl, hB⟩; have b5 := Lib.hid (b4.out.trans (Below.mono hB b4.out.size)); clear hB))
    go_returns
    exact ⟨ret_scV f.out, b5.out⟩

set_option maxRecDepth 100000 in
set_option maxHeartbeats 1600000 in
theorem sWithinC_any (ad bd : Option Addr) (cs ds : List Cd) (c d : Nat) (w : World) (ha : CardsIn w ad cs) (hb : CardsIn w bd ds) (n1 : cs.length ≤ 1048576) (ok : deckOk ds = true) :
    Calls Try.prog 70 #[.slice ad cs.length c, .slice bd ds.length d] w fun e w' => e = .returned (.bool ((List.range cs.length).all fun i => wiC ds (cdAt cs i))) ∧ Below w.heap.size w w' := by
  have C := Lib.hid ha
  have D := Lib.hid hb
  have eqc := eq_card
  have F := Lib.hid fun s W h => sFind_any bd ds d s W h (deckOk_80 ok)
  have OK := Lib.hid ok
  clear ha hb ok
  have hbw := cell_bw
  go_enter Try.func70, Try.ntmps70
  go_wp2
  go_loopw [5] (fun i wr => ∃ j : Nat, j ≤ cs.length ∧ i = .int .i64 j ∧ (∀ k, k < j → wiC ds (cdAt cs k) = true) ∧ Below w.heap.size w wr) (fun i _ => cs.length - (intOf i).toNat)
  case atStart => exact ⟨0, Nat.zero_le _, rfl, fun k hk => absurd hk (Nat.not_lt_zero _), Below.refl _ _⟩
  case round =>
    obtain ⟨j, hj, rfl, hM, hB⟩ := hrel
    have BB := Lib.hid hB
    have M := Lib.hid hM
    clear hM
    by_cases hjl : j < cs.length
    · have hd : decide ((j : Int) < (cs.length : Int)) = true := by simpa using hjl
      obtain ⟨_, b1, o1, rfl, hb1, p0, p1, p2⟩ := C.out j hjl
      have d0 := (hB.cell (p := ⟨b1, o1 + j * 3, none⟩) hb1).trans p0
      have y1 : b1 < wr.heap.size := Nat.lt_of_lt_of_le hb1 hB.size
      have z1 := Lib.hid hb1
      have P012 := Lib.hid (And.intro p0 (And.intro p1 p2))
      have i1 : (0 : Int) ≤ (j : Int) := by omega
      have i2 : (j : Int) < (cs.length : Int) := by omega
      clear hB p0 p1 p2 hb1
      rcases st_find OK.out (cdAt cs j).s with ⟨hf, hs, _⟩ | ⟨k, hk, hf, hn, hs, _⟩
      · have FV := Lib.hid fun W h => F.out (cdAt cs j).s W h
        rw [hf] at FV
        have NO := Lib.hid (wiC_no (c := cdAt cs j) hs rfl)
        clear hf hs
        go_wp2_with (go_at_call 104; refine (FV.out _ (cardsIn_below D.out BB.out)).mono ?_; rintro e w1 ⟨rfl, hB⟩; have B1 := Lib.hid (BB.out.trans (Below.mono hB BB.out.size)); clear hB d0 y1)
        refine region_bw (by kernel_rfl) (by kernel_rfl) ?_
        repeat (go_big_quiet_step (fail))
        refine wpQuiet_nil ?_; intro wq hq; replace hq := below_of_bw hq; obtain ⟨qc, qf, qz⟩ := bcell hq
        have B2 := Lib.hid (B1.out.trans (Below.mono hq B1.out.size))
        go_wp2_with fail
        go_returns
        exact ⟨ret_boolE (all_no hjl NO.out), B2.out⟩
      · have FV := Lib.hid fun W h => F.out (cdAt cs j).s W h
        rw [hf] at FV
        clear hf
        have dk : decide ((k : Int) < 0) = false := by simp
        have k1 : (0 : Int) ≤ (k : Int) := by omega
        have k2 : (k : Int) < (ds.length : Int) := by omega
        obtain ⟨_, b2, o2, rfl, hb2, q0, q1, q2⟩ := D.out k hk
        have z2 := Lib.hid hb2
        have Q012 := Lib.hid (And.intro q0 (And.intro q1 q2))
        have hn1 : ((cdAt ds k).s == (cdAt cs j).s) = true := by rw [hn]; exact bytes_self _
        have HS := Lib.hid hs
        clear q0 q1 q2 hb2 hs hn hk
        cases he : ((cdAt ds k).a == (cdAt cs j).a && (cdAt ds k).b == (cdAt cs j).b)
        · go_wp2_with (go_at_call 104; refine (FV.out _ (cardsIn_below D.out BB.out)).mono ?_; rintro e w1 ⟨rfl, hB⟩; have B1 := Lib.hid (BB.out.trans (Below.mono hB BB.out.size)); have c0 := (B1.out.cell z1.out).trans P012.out.1; have c1 := (B1.out.cell z1.out).trans P012.out.2.1; have c2 := (B1.out.cell z1.out).trans P012.out.2.2; have e0 := (B1.out.cell z2.out).trans Q012.out.1; have e1 := (B1.out.cell z2.out).trans Q012.out.2.1; have e2 := (B1.out.cell z2.out).trans Q012.out.2.2; have y2 := Nat.lt_of_lt_of_le z2.out B1.out.size; have y3 := Nat.lt_of_lt_of_le z1.out B1.out.size; clear hB d0 y1)
          refine region_bw (by kernel_rfl) (by kernel_rfl) ?_
          repeat (go_big_quiet_step (fail))
          refine wpQuiet_nil ?_; intro wq hq; replace hq := below_of_bw hq; obtain ⟨qc, qf, qz⟩ := bcell hq
          have B2 := Lib.hid (B1.out.trans (Below.mono hq B1.out.size))
          go_wp2_with fail
          go_returns
          exact ⟨ret_boolE (all_no hjl (wiC_no (c := cdAt cs j) HS.out he)), B2.out⟩
        · go_wp2_with (go_at_call 104; refine (FV.out _ (cardsIn_below D.out BB.out)).mono ?_; rintro e w1 ⟨rfl, hB⟩; have B1 := Lib.hid (BB.out.trans (Below.mono hB BB.out.size)); have c0 := (B1.out.cell z1.out).trans P012.out.1; have c1 := (B1.out.cell z1.out).trans P012.out.2.1; have c2 := (B1.out.cell z1.out).trans P012.out.2.2; have e0 := (B1.out.cell z2.out).trans Q012.out.1; have e1 := (B1.out.cell z2.out).trans Q012.out.2.1; have e2 := (B1.out.cell z2.out).trans Q012.out.2.2; have y2 := Nat.lt_of_lt_of_le z2.out B1.out.size; have y3 := Nat.lt_of_lt_of_le z1.out B1.out.size; clear hB d0 y1)
          refine region_bw (by kernel_rfl) (by kernel_rfl) ?_
          repeat (go_big_quiet_step (fail))
          refine wpQuiet_nil ?_; intro wq hq; replace hq := below_of_bw hq; obtain ⟨qc, qf, qz⟩ := bcell hq
          have B2 := Lib.hid (B1.out.trans (Below.mono hq B1.out.size))
          go_wp2_with fail
          have pq : (cdAt ds k).a = (cdAt cs j).a ∧ (cdAt ds k).b = (cdAt cs j).b := by simpa using he
          exact ⟨⟨j + 1, hjl, by rw [Int.natCast_succ], fun i hi => (by
            by_cases hij : i = j
            · subst hij
              exact wiC_of (by rw [HS.out, pq.1, pq.2])
            · exact M.out i (by omega)), B2.out⟩, by (simp [intOf]) <;> omega⟩
    · have e : j = cs.length := by omega
      subst e
      have hd : decide ((cs.length : Int) < (cs.length : Int)) = false := by simp
      clear hB
      go_wp2
      go_ret
      exact ⟨ret_boolE (List.all_eq_true.2 fun i hi => M.out i (List.mem_range.1 hi)), BB.out⟩

theorem sameS_eq {cs ds : List Cd} (hl : cs.length = ds.length) : ((List.range cs.length).all fun i => wiC ds (cdAt cs i)) = sameS cs ds := by unfold sameS; rw [decide_eq_true hl, Bool.true_and]

set_option maxRecDepth 100000 in
set_option maxHeartbeats 1600000 in
theorem sSameCards_any (ad bd : Option Addr) (cs ds : List Cd) (c d : Nat) (w : World) (ha : CardsIn w ad cs) (hb : CardsIn w bd ds) (n1 : cs.length ≤ 1048576) (n2 : ds.length ≤ 1048576) :
    Calls Try.prog 26 #[.slice ad cs.length c, .slice bd ds.length d] w fun e w' => e = .returned (scV cs ds) ∧ Below w.heap.size w w' := by
  have HA := Lib.hid ha
  have HB := Lib.hid hb
  have V1 := Lib.hid fun W h => sDeckOk_any ad cs c W h
  have V2 := Lib.hid fun W h => sDeckOk_any bd ds d W h
  clear ha hb n2
  have tk1 : True := trivial
  have tk2 : True := trivial
  cases o1 : deckOk cs
  · have f := Lib.hid (scV_1 (ds := ds) o1)
    rw [o1] at V1
    clear o1
    go_enter Try.func26, Try.ntmps26
    go_wp2_with (go_at_call 53; refine (V1.out _ HA.out).mono ?_; rintro e w1 ⟨rfl, hB⟩; have b1 := Lib.hid (show Below w.heap.size w w1 from hB); clear hB)
    go_returns
    exact ⟨ret_scV f.out, b1.out⟩
  cases o2 : deckOk ds
  · have f := Lib.hid (scV_2 o1 o2)
    rw [o1] at V1
    rw [o2] at V2
    clear o1 o2
    go_enter Try.func26, Try.ntmps26
    go_wp2_with (first
      | (go_at_call 53; have _t := tk1; clear _t tk1; refine (V1.out _ HA.out).mono ?_; rintro e w1 ⟨rfl, hB⟩; have b1 := Lib.hid (show Below w.heap.size w w1 from hB); clear hB)
      | (go_at_call 53; have _t := tk2; clear _t tk2; refine (V2.out _ (cardsIn_below HB.out b1.out)).mono ?_; rintro e w2 ⟨rfl, hB⟩; have b2 := Lib.hid (b1.out.trans (Below.mono hB b1.out.size)); clear hB))
    go_returns
    exact ⟨ret_scV f.out, b2.out⟩
  have f := Lib.hid (scV_3 o1 o2)
  have E := Lib.hid fun W p q => sWithinC_any ad bd cs ds c d W p q n1 o2
  rw [o1] at V1
  rw [o2] at V2
  clear o1 o2
  by_cases hl : cs.length = ds.length
  · have hd : ((cs.length : Int) == (ds.length : Int)) = true := by simp [hl]
    rw [sameS_eq hl] at E
    clear hl
    generalize sameS cs ds = q at *
    go_enter Try.func26, Try.ntmps26
    go_wp2_with (first
      | (go_at_call 53; have _t := tk1; clear _t tk1; refine (V1.out _ HA.out).mono ?_; rintro e w1 ⟨rfl, hB⟩; have b1 := Lib.hid (show Below w.heap.size w w1 from hB); clear hB)
      | (go_at_call 53; have _t := tk2; clear _t tk2; refine (V2.out _ (cardsIn_below HB.out b1.out)).mono ?_; rintro e w2 ⟨rfl, hB⟩; have b2 := Lib.hid (b1.out.trans (Below.mono hB b1.out.size)); clear hB)
      | (go_at_call 70; refine (E.out _ (cardsIn_below HA.out b2.out) (cardsIn_below HB.out b2.out)).mono ?_; rintro e w5 ⟨rfl, hB⟩; have b5 := Lib.hid (b2.out.trans (Below.mono hB b2.out.size)); clear hB))
    go_returns
    exact ⟨ret_scV f.out, b5.out⟩
  · have hd : ((cs.length : Int) == (ds.length : Int)) = false := by simp; omega
    rw [sameS_len hl] at f
    clear hl E
    go_enter Try.func26, Try.ntmps26
    go_wp2_with (first
      | (go_at_call 53; have _t := tk1; clear _t tk1; refine (V1.out _ HA.out).mono ?_; rintro e w1 ⟨rfl, hB⟩; have b1 := Lib.hid (show Below w.heap.size w w1 from hB); clear hB)
      | (go_at_call 53; have _t := tk2; clear _t tk2; refine (V2.out _ (cardsIn_below HB.out b1.out)).mono ?_; rintro e w2 ⟨rfl, hB⟩; have b2 := Lib.hid (b1.out.trans (Below.mono hB b1.out.size)); clear hB))
    go_returns
    exact ⟨ret_scV f.out, b2.out⟩
end Go.Proofs.Ytaiedpblfnaooac
