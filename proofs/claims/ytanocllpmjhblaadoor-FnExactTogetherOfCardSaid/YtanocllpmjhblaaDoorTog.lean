/- How many cards are notched at both holes: the program's and the model's contract. -/
import Derived.Test.YtanocllpmjhblaaDoorIdM
import Derived.Test.YtanocllpmjhblaaDoorMakeX
import Derived.Shelf.Abstract
import Derived.Deep.DeepCutAuto
namespace Go.Proofs.YtanocllpmjhblaaDoor
open Go.ChangeShapes Go.WideShapes Go.ChangeAt Go.RowKit
attribute [local go_sem] Oper.semAt_some

/-- Is it a hole? -/
def isHT (h : Int) : Bool := decide (0 ≤ h) && decide (h ≤ 95)
def bothB (cs : List Cd) (h o : Int) (k : Nat) : Bool := hasB (cdAt cs k).a (cdAt cs k).b h && hasB (cdAt cs k).a (cdAt cs k).b o
def tgN (cs : List Cd) (h o : Int) (n : Nat) : Nat := (idx (bothB cs h o) n).length
theorem tg_yes {cs : List Cd} {h o : Int} {k : Nat} (q : bothB cs h o k = true) : tgN cs h o (k + 1) = tgN cs h o k + 1 := by unfold tgN; rw [idx_yes q, List.length_append]; rfl
theorem tg_no {cs : List Cd} {h o : Int} {k : Nat} (q : bothB cs h o k = false) : tgN cs h o (k + 1) = tgN cs h o k := by unfold tgN; rw [idx_no q]
def tgV (cs : List Cd) (h o : Int) : Value := if cdC cs = 0 then (if (isHT h && isHT o) = true then .tuple #[.int .i64 (tgN cs h o cs.length : Int), .int .i64 0] else .tuple #[.int .i64 0, .int .i64 2]) else .tuple #[.int .i64 0, .int .i64 (cdC cs)]
theorem tgV_bad {cs : List Cd} (h o : Int) (q : cdC cs ≠ 0) : tgV cs h o = .tuple #[.int .i64 0, .int .i64 (cdC cs)] := if_neg q
theorem tgV_out {cs : List Cd} {h o : Int} (q : cdC cs = 0) (r : (isHT h && isHT o) = false) : tgV cs h o = .tuple #[.int .i64 0, .int .i64 2] := by unfold tgV; rw [if_pos q, if_neg (by rw [r]; decide)]
theorem tgV_ok {cs : List Cd} {h o : Int} (q : cdC cs = 0) (r : (isHT h && isHT o) = true) : tgV cs h o = .tuple #[.int .i64 (tgN cs h o cs.length : Int), .int .i64 0] := by unfold tgV; rw [if_pos q, if_pos r]
theorem cdC_60 {cs : List Cd} (h : cdC cs = 0) : cs.length ≤ 60 := by
  unfold cdC at h
  by_cases a : csOk cs = true
  · rw [if_pos a] at h
    by_cases b : cs.length ≤ 60
    · exact b
    · rw [if_neg b] at h; exact absurd h (by decide)
  · rw [if_neg a] at h; exact absurd h (by decide)
theorem cards_u64T {w : World} {ad : Option Addr} {cs : List Cd} (h : CardsIn w ad cs) : ∀ j, j < cs.length → U64 (cdAt cs j).a ∧ U64 (cdAt cs j).b := fun j hj => (h j hj).1.2
theorem cdC_12 {cs : List Cd} (h0 : cdC cs ≠ 0) : cdC cs = 1 ∨ cdC cs = 2 := by
  unfold cdC at h0 ⊢
  by_cases a : csOk cs = true
  · rw [if_pos a] at h0 ⊢
    by_cases b : cs.length ≤ 60
    · rw [if_pos b] at h0; exact absurd rfl h0
    · rw [if_neg b]; exact .inr rfl
  · rw [if_neg a]; exact .inl rfl

/-! ### The masks of two holes, bit by bit -/
theorem sub_or {x y a : Nat} : ((x ||| y) &&& a = x ||| y) ↔ (x &&& a = x ∧ y &&& a = y) := by
  constructor
  · intro h
    constructor <;> apply Nat.eq_of_testBit_eq <;> intro i
    · have := congrArg (fun z => z.testBit i) h
      simp only [Nat.testBit_and, Nat.testBit_or] at this
      rw [Nat.testBit_and]
      cases hx : x.testBit i <;> cases ha : a.testBit i <;> simp_all
    · have := congrArg (fun z => z.testBit i) h
      simp only [Nat.testBit_and, Nat.testBit_or] at this
      rw [Nat.testBit_and]
      cases hx : y.testBit i <;> cases ha : a.testBit i <;> simp_all
  · rintro ⟨h1, h2⟩
    apply Nat.eq_of_testBit_eq
    intro i
    have e1 := congrArg (fun z => z.testBit i) h1
    have e2 := congrArg (fun z => z.testBit i) h2
    simp only [Nat.testBit_and] at e1 e2
    rw [Nat.testBit_and, Nat.testBit_or]
    cases hx : x.testBit i <;> cases hy : y.testBit i <;> cases ha : a.testBit i <;> simp_all
theorem F0_sub (z : Int) (h0 : 0 ≤ z) (a : Nat) : (F0 z &&& a = F0 z) ↔ (z < 64 → a.testBit z.toNat = true) := by
  constructor
  · intro h hz
    have := congrArg (fun x => x.testBit z.toNat) h
    simp only [Nat.testBit_and, F0_bit, decide_eq_true hz] at this
    simpa using this
  · intro h
    apply Nat.eq_of_testBit_eq
    intro i
    rw [Nat.testBit_and, F0_bit]
    by_cases hz : z < 64
    · by_cases e : z.toNat = i
      · subst e; rw [h hz]; simp
      · rw [decide_eq_false e]; simp
    · rw [decide_eq_false hz]; rfl
theorem F1_sub (z : Int) (h0 : 0 ≤ z) (b : Nat) : (F1 z &&& b = F1 z) ↔ (¬ z < 64 → b.testBit (z - 64).toNat = true) := by
  constructor
  · intro h hz
    have := congrArg (fun x => x.testBit (z - 64).toNat) h
    simp only [Nat.testBit_and, F1_bit, decide_eq_false hz] at this
    simpa using this
  · intro h
    apply Nat.eq_of_testBit_eq
    intro i
    rw [Nat.testBit_and, F1_bit]
    by_cases hz : z < 64
    · rw [decide_eq_true hz]; rfl
    · by_cases e : (z - 64).toNat = i
      · subst e; rw [h hz]; simp
      · rw [decide_eq_false e]; simp
theorem hasB_at (x y : Nat) {z : Int} (h0 : 0 ≤ z) : hasB (x : Int) (y : Int) z = if z < 64 then x.testBit z.toNat else y.testBit (z - 64).toNat := by
  by_cases hz : z < 64
  · rw [if_pos hz]
    have := hasB_low x y (i := z.toNat) (by omega)
    rwa [Int.toNat_of_nonneg h0] at this
  · rw [if_neg hz]
    have := hasB_high x y (z - 64).toNat
    rwa [show ((64 + (z - 64).toNat : Nat) : Int) = z from by omega] at this
theorem has_sub (x y : Nat) {z : Int} (h0 : 0 ≤ z) : hasB (x : Int) (y : Int) z = true ↔ (F0 z &&& x = F0 z ∧ F1 z &&& y = F1 z) := by
  rw [hasB_at x y h0, F0_sub z h0, F1_sub z h0]
  by_cases hz : z < 64
  · rw [if_pos hz]; exact ⟨fun h => ⟨fun _ => h, fun h2 => absurd hz h2⟩, fun h => h.1 hz⟩
  · rw [if_neg hz]; exact ⟨fun h => ⟨fun h2 => absurd h2 hz, fun _ => h⟩, fun h => h.2 hz⟩
/-- The mask of two holes. -/
theorem mo_two {h o : Int} (h0 : 0 ≤ h) (h1 : h ≤ 95) (o0 : 0 ≤ o) (o1 : o ≤ 95) : moV [h, o] = .tuple #[.agg #[.int .u64 ((F0 h ||| F0 o : Nat) : Int), .int .u64 ((F1 h ||| F1 o : Nat) : Int)], .int .i64 0] := by
  have inr : inR [h, o] [h, o].length := fun i hi => by
    match i, hi with
    | 0, _ => exact ⟨h0, h1⟩
    | 1, _ => exact ⟨o0, o1⟩
  rw [moV_in inr]
  have z0 : ∀ n : Nat, n < 18446744073709551616 → bits .or .u64 0 (n : Int) = (n : Int) := fun n hn => by
    have := Go.u64_or_nat 0 n (by omega) hn
    simpa using this
  have l0 := F0_lt h
  have l1 := F0_lt o
  have l2 := F1_lt h1
  have l3 := F1_lt o1
  have e0 : mo b0 [h, o] [h, o].length = ((F0 h ||| F0 o : Nat) : Int) := by
    show bits .or .u64 (bits .or .u64 0 (b0 h)) (b0 o) = _
    rw [b0_nat, b0_nat, z0 _ l0, Go.u64_or_nat _ _ l0 l1]
  have e1 : mo b1 [h, o] [h, o].length = ((F1 h ||| F1 o : Nat) : Int) := by
    show bits .or .u64 (bits .or .u64 0 (b1 h)) (b1 o) = _
    rw [b1_nat, b1_nat, z0 _ (by omega), Go.u64_or_nat _ _ (by omega) (by omega)]
  rw [e0, e1]
theorem mo_out {h o : Int} (hq : (isHT h && isHT o) = false) : moV [h, o] = .tuple #[.agg #[.int .u64 0, .int .u64 0], .int .i64 2] := by
  by_cases a : 0 ≤ h ∧ h ≤ 95
  · refine moV_out (k := 1) (by simp) (fun b => ?_)
    have b : 0 ≤ o ∧ o ≤ 95 := b
    unfold isHT at hq
    rw [decide_eq_true a.1, decide_eq_true a.2, decide_eq_true b.1, decide_eq_true b.2] at hq
    cases hq
  · exact moV_out (k := 0) (by simp) a
theorem isHT_in {h : Int} (q : isHT h = true) : 0 ≤ h ∧ h ≤ 95 := by
  unfold isHT at q
  rw [Bool.and_eq_true, decide_eq_true_eq, decide_eq_true_eq] at q
  exact q
theorem both_drops {cs : List Cd} (hc : ∀ j, j < cs.length → U64 (cdAt cs j).a ∧ U64 (cdAt cs j).b) {h o : Int} (h0 : 0 ≤ h) (h1 : h ≤ 95) (o0 : 0 ≤ o) (o1 : o ≤ 95) {k : Nat} (hk : k < cs.length) :
    dropsAt ((F0 h ||| F0 o : Nat) : Int) ((F1 h ||| F1 o : Nat) : Int) (nmOf cs cs.length) k = bothB cs h o k := by
  obtain ⟨⟨a0, a1⟩, ⟨c0, c1⟩⟩ := hc k hk
  unfold dropsAt wm bothB
  rw [nmOf_at hk]
  obtain ⟨x, hx⟩ := Int.eq_ofNat_of_zero_le a0
  obtain ⟨y, hy⟩ := Int.eq_ofNat_of_zero_le c0
  rw [hx] at a1 ⊢
  rw [hy] at c1 ⊢
  have l0 : F0 h ||| F0 o < 18446744073709551616 := by
    have : F0 h ||| F0 o < 2 ^ 64 := Nat.or_lt_two_pow (by have := F0_lt h; omega) (by have := F0_lt o; omega)
    omega
  have l1 : F1 h ||| F1 o < 18446744073709551616 := by
    have : F1 h ||| F1 o < 2 ^ 64 := Nat.or_lt_two_pow (by have := F1_lt h1; omega) (by have := F1_lt o1; omega)
    omega
  show (bits .and .u64 ((F0 h ||| F0 o : Nat) : Int) (x : Int) == _ && bits .and .u64 ((F1 h ||| F1 o : Nat) : Int) (y : Int) == _) = _
  rw [Go.u64_and_nat _ _ l0 (by omega), Go.u64_and_nat _ _ l1 (by omega), Bool.eq_iff_iff]
  simp only [Bool.and_eq_true, beq_iff_eq, Int.natCast_inj]
  rw [sub_or, sub_or, has_sub x y h0, has_sub x y o0]
  constructor
  · rintro ⟨⟨p, q⟩, r, s⟩; exact ⟨⟨p, r⟩, q, s⟩
  · rintro ⟨⟨p, r⟩, q, s⟩; exact ⟨⟨p, q⟩, r, s⟩
theorem tgN_is {cs : List Cd} (hc : ∀ j, j < cs.length → U64 (cdAt cs j).a ∧ U64 (cdAt cs j).b) {h o : Int} (h0 : 0 ≤ h) (h1 : h ≤ 95) (o0 : 0 ≤ o) (o1 : o ≤ 95) :
    idx (dropsAt ((F0 h ||| F0 o : Nat) : Int) ((F1 h ||| F1 o : Nat) : Int) (nmOf cs cs.length)) cs.length = idx (bothB cs h o) cs.length := idx_congr fun j hj => both_drops hc h0 h1 o0 o1 hj

/-! ### The model -/
set_option maxHeartbeats 1600000 in
theorem sHoleT_any (h : Int) (w : World) : Calls Tryd.prog 43 #[.int .i64 h] w fun e w' => e = .returned (.bool (isHT h)) ∧ w = w' := by
  by_cases a : 0 ≤ h
  · by_cases b : h ≤ 95
    · have d1 : decide (0 ≤ h) = true := decide_eq_true a
      have d2 : decide (h ≤ 95) = true := decide_eq_true b
      have e : isHT h = true := by unfold isHT; rw [d1, d2]; rfl
      rw [e]
      go_enter Tryd.func43, Tryd.ntmps43
      go_wp2_with go_in
      go_returns
      exact ⟨rfl, rfl⟩
    · have d1 : decide (0 ≤ h) = true := decide_eq_true a
      have d2 : decide (h ≤ 95) = false := decide_eq_false b
      have e : isHT h = false := by unfold isHT; rw [d1, d2]; rfl
      rw [e]
      go_enter Tryd.func43, Tryd.ntmps43
      go_wp2_with go_in
      go_returns
      exact ⟨rfl, rfl⟩
  · have d1 : decide (0 ≤ h) = false := decide_eq_false a
    have e : isHT h = false := by unfold isHT; rw [d1]; rfl
    rw [e]
    go_enter Tryd.func43, Tryd.ntmps43
    go_wp2_with go_in
    go_returns
    exact ⟨rfl, rfl⟩

set_option maxRecDepth 100000 in
set_option maxHeartbeats 1600000 in
theorem sTog_any (ad : Option Addr) (cs : List Cd) (c : Nat) (h o : Int) (w : World) (hc : CardsIn w ad cs) (hl : cs.length ≤ 9223372036854775807) :
    Calls Tryd.prog 14 #[.slice ad cs.length c, .int .i64 h, .int .i64 o] w fun e w' => e = .returned (tgV cs h o) ∧ Below w.heap.size w w' := by
  have D := Lib.hid (sDeckC_any ad cs c w hc hl)
  have C := Lib.hid hc
  have HH := fun W => sHoleT_any h W
  have HO := fun W => sHoleT_any o W
  clear hc
  by_cases h0 : cdC cs = 0
  · rw [h0] at D
    have hn := cdC_60 h0
    cases q1 : isHT h
    · rw [q1] at HH
      have HH := Lib.hid HH
      rw [tgV_out h0 (by rw [q1]; rfl)]
      clear h0 HO
      go_enter Tryd.func14, Tryd.ntmps14
      go_wp2_with (first | (go_at_call 42; refine D.out.mono ?_; rintro e w1 ⟨rfl, hB⟩; have B1 := Lib.hid hB; clear hB) | (go_at_call 43; refine (HH.out _).mono ?_; rintro e w2 ⟨rfl, rfl⟩))
      go_ret2
      exact ⟨rfl, B1.out⟩
    · rw [q1] at HH
      have HH := Lib.hid HH
      cases q2 : isHT o
      · rw [q2] at HO
        have HO := Lib.hid HO
        rw [tgV_out h0 (by rw [q1, q2]; rfl)]
        clear h0
        have tk : True := trivial
        go_enter Tryd.func14, Tryd.ntmps14
        go_wp2_with (first | (go_at_call 42; refine D.out.mono ?_; rintro e w1 ⟨rfl, hB⟩; have B1 := Lib.hid hB; clear hB) | (go_at_call 43; have _t := tk; clear _t tk; refine (HH.out _).mono ?_; rintro e w2 ⟨rfl, rfl⟩) | (go_at_call 43; refine (HO.out _).mono ?_; rintro e w2 ⟨rfl, rfl⟩))
        go_ret2
        exact ⟨rfl, B1.out⟩
      · rw [q2] at HO
        have HO := Lib.hid HO
        rw [tgV_ok h0 (by rw [q1, q2]; rfl)]
        obtain ⟨h1, h2⟩ := isHT_in q1
        obtain ⟨o1, o2⟩ := isHT_in q2
        clear h0 q1 q2
        have tk : True := trivial
        go_enter Tryd.func14, Tryd.ntmps14
        go_wp2_with (first | (go_at_call 42; refine D.out.mono ?_; rintro e w1 ⟨rfl, hB⟩; have B1 := Lib.hid hB; clear hB) | (go_at_call 43; have _t := tk; clear _t tk; refine (HH.out _).mono ?_; rintro e w2 ⟨rfl, rfl⟩) | (go_at_call 43; refine (HO.out _).mono ?_; rintro e w2 ⟨rfl, rfl⟩))
        clear HH HO
        go_loopw [9, 10] (fun n i wr => ∃ j : Nat, j ≤ cs.length ∧ i = .int .i64 j ∧ n = .int .i64 (tgN cs h o j : Int) ∧ Below w.heap.size w wr) (fun _ i _ => cs.length - (intOf i).toNat)
        case atStart => exact ⟨0, Nat.zero_le _, rfl, rfl, B1.out⟩
        case round =>
          obtain ⟨j, hj, rfl, rfl, hB⟩ := hrel
          have BB := Lib.hid hB
          by_cases hjl : j < cs.length
          · have hd2 : decide ((j : Int) < (cs.length : Int)) = true := by simpa using hjl
            obtain ⟨⟨_, u0, u1⟩, b1, o9, rfl, hb1, _, p1, p2⟩ := C.out j hjl
            have d1 := (hB.cell (p := ⟨b1, o9 + j * 3 + 1, none⟩) hb1).trans p1
            have d2 := (hB.cell (p := ⟨b1, o9 + j * 3 + 2, none⟩) hb1).trans p2
            have i3 : (0 : Int) ≤ (j : Int) := by omega
            have i4 : (j : Int) < (cs.length : Int) := by omega
            have H1 := fun W => sHas_any (cdAt cs j).a (cdAt cs j).b h u0 u1 h1 h2 W
            have H2 := fun W => sHas_any (cdAt cs j).a (cdAt cs j).b o u0 u1 o1 o2 W
            have le := idx_len (bothB cs h o) j
            have le : tgN cs h o j ≤ j := le
            have YE := Lib.hid fun q => tg_yes (cs := cs) (h := h) (o := o) (k := j) q
            have NO := Lib.hid fun q => tg_no (cs := cs) (h := h) (o := o) (k := j) q
            have BQ : Hid (bothB cs h o j = (hasB (cdAt cs j).a (cdAt cs j).b h && hasB (cdAt cs j).a (cdAt cs j).b o)) := Lib.hid rfl
            have KC : ∀ (W : World), Below wr.heap.size wr W → W.cell? ⟨b1, o9 + j * 3 + 1, none⟩ = some (.int .u64 (cdAt cs j).a) ∧ W.cell? ⟨b1, o9 + j * 3 + 2, none⟩ = some (.int .u64 (cdAt cs j).b) := fun _ hb => ⟨(hb.cell (p := ⟨b1, o9 + j * 3 + 1, none⟩) (Nat.lt_of_lt_of_le hb1 hB.size)).trans d1, (hb.cell (p := ⟨b1, o9 + j * 3 + 2, none⟩) (Nat.lt_of_lt_of_le hb1 hB.size)).trans d2⟩
            have KC := Lib.hid KC
            clear hB p1 p2 u0 u1
            generalize hasB (cdAt cs j).a (cdAt cs j).b h = x at *
            generalize hasB (cdAt cs j).a (cdAt cs j).b o = y at *
            generalize tgN cs h o j = n at *
            generalize (cdAt cs j).a = A at *
            generalize (cdAt cs j).b = B at *
            have H1 := Lib.hid H1
            have H2 := Lib.hid H2
            have tk : True := trivial
            cases x
            · have N := Lib.hid (NO.out (by rw [BQ.out]; rfl))
              clear YE NO BQ
              go_wp2_with (go_at_call 44; refine (H1.out _).mono ?_; rintro e w3 ⟨rfl, hB⟩; have B3 := Lib.hid (BB.out.trans (Below.mono hB BB.out.size)); clear hB)
              exact ⟨⟨j + 1, hjl, by rw [Int.natCast_succ], by rw [N.out], B3.out⟩, by (simp [intOf]) <;> omega⟩
            · cases y
              · have N := Lib.hid (NO.out (by rw [BQ.out]; rfl))
                clear YE NO BQ
                go_wp2_with (first | (go_at_call 44; have _t := tk; clear _t tk; refine (H1.out _).mono ?_; rintro e w3 ⟨rfl, hB⟩; have B3 := Lib.hid (BB.out.trans (Below.mono hB BB.out.size)); have k1 := (KC.out _ hB).1; have k2 := (KC.out _ hB).2; clear hB) | (go_at_call 44; refine (H2.out _).mono ?_; rintro e w4 ⟨rfl, hB⟩; have B4 := Lib.hid (B3.out.trans (Below.mono hB B3.out.size)); clear hB))
                exact ⟨⟨j + 1, hjl, by rw [Int.natCast_succ], by rw [N.out], B4.out⟩, by (simp [intOf]) <;> omega⟩
              · have N := Lib.hid (YE.out (by rw [BQ.out]; rfl))
                clear YE NO BQ
                go_wp2_with (first | (go_at_call 44; have _t := tk; clear _t tk; refine (H1.out _).mono ?_; rintro e w3 ⟨rfl, hB⟩; have B3 := Lib.hid (BB.out.trans (Below.mono hB BB.out.size)); have k1 := (KC.out _ hB).1; have k2 := (KC.out _ hB).2; clear hB) | (go_at_call 44; refine (H2.out _).mono ?_; rintro e w4 ⟨rfl, hB⟩; have B4 := Lib.hid (B3.out.trans (Below.mono hB B3.out.size)); clear hB))
                exact ⟨⟨j + 1, hjl, by rw [Int.natCast_succ], by rw [N.out, Int.natCast_succ], B4.out⟩, by (simp [intOf]) <;> omega⟩
          · have e : j = cs.length := by omega
            subst e
            have hd2 : decide ((cs.length : Int) < (cs.length : Int)) = false := by simp
            clear hB
            go_wp2
            go_ret2
            exact ⟨rfl, BB.out⟩
  · have hd : (cdC cs != 0) = true := by simp [h0]
    rw [tgV_bad h o h0]
    clear h0 HH HO
    generalize cdC cs = q at *
    go_enter Tryd.func14, Tryd.ntmps14
    go_wp2_with (go_at_call 42; refine D.out.mono ?_; rintro e w1 ⟨rfl, hB⟩; have B1 := Lib.hid hB; clear hB)
    go_ret2
    exact ⟨rfl, B1.out⟩

/-! ### The program -/
theorem two_ints (w : World) (h o : Int) (t : TypeId) : IntsIn (w.alloc (.cells #[.int .i64 h, .int .i64 o] t)) (some ⟨w.heap.size, 0, none⟩) [h, o] := fun i hi => by
  match i, hi with
  | 0, _ => exact ⟨w.heap.size, 0, rfl, by simp, by simp⟩
  | 1, _ => exact ⟨w.heap.size, 0, rfl, by simp, by simp⟩
set_option maxRecDepth 100000 in
set_option maxHeartbeats 1600000 in
theorem iTogNo (a0 a1 a2 : Addr) (ad : Option Addr) (cs : List Cd) (c : Nat) (h o : Int) (w : World) (hS : Sen w a0 a1 a2) (hc : CardsIn w ad cs) (hl : cs.length ≤ 9223372036854775807) (hno : ¬ (cdC cs = 0 ∧ (isHT h && isHT o) = true)) :
    Calls Tryd.prog 15 #[.slice ad cs.length c, .int .i64 h, .int .i64 o] w fun e w' => e = .returned (tgV cs h o) ∧ Below w.heap.size w w' := by
  have T := Lib.hid (iCheckTable_any a0 a1 a2 ad cs c _ hS hc hl)
  have SS := Lib.hid hS
  clear hS hc
  by_cases h0 : cdC cs = 0
  · rw [h0, show eV a0 a1 0 = .nilIface from rfl] at T
    cases q : (isHT h && isHT o)
    · rw [tgV_out h0 q]
      have MV := Lib.hid (mo_out q)
      have MO := Lib.hid fun a cc W hi => iMaskOf_any a [h, o] cc W hi (by simp)
      rw [MV.out] at MO
      clear h0 q hno
      go_enter Tryd.func15, Tryd.ntmps15
      go_wp2_with (first
        | (go_at_call 35; refine T.out.mono ?_; rintro e w1 ⟨rfl, hB⟩; have B1 := Lib.hid hB; clear hB)
        | (go_at_call 45; refine (MO.out _ _ _ (two_ints w1 h o _)).mono ?_; rintro e w2 ⟨rfl, hB⟩; have B2 := Lib.hid (Ab.trans (Ab.trans B1.out (ab_new _ _)) hB); clear hB))
      go_ret2
      exact ⟨rfl, Ab.trans B2.out (ab_new _ _)⟩
    · exact absurd ⟨h0, q⟩ hno
  · rw [tgV_bad h o h0]
    rcases cdC_12 h0 with hq | hq
    · rw [hq, show eV a0 a1 1 = .iface 182 (.pointer (some a0)) from rfl] at T
      rw [hq]
      clear h0 hq hno
      go_enter Tryd.func15, Tryd.ntmps15
      go_wp2_with (first
        | (go_at_call 35; refine T.out.mono ?_; rintro e w1 ⟨rfl, hB⟩; have B1 := Lib.hid hB; have S1 := Lib.hid (SS.out.below hB); clear hB)
        | (go_at_call 36; refine (iCode_1 a0 a1 a2 _ S1.out).mono ?_; rintro e w2 ⟨rfl, rfl⟩))
      go_ret2
      exact ⟨rfl, B1.out⟩
    · rw [hq, show eV a0 a1 2 = .iface 182 (.pointer (some a1)) from rfl] at T
      rw [hq]
      clear h0 hq hno
      go_enter Tryd.func15, Tryd.ntmps15
      go_wp2_with (first
        | (go_at_call 35; refine T.out.mono ?_; rintro e w1 ⟨rfl, hB⟩; have B1 := Lib.hid hB; have S1 := Lib.hid (SS.out.below hB); clear hB)
        | (go_at_call 36; refine (iCode_2 a0 a1 a2 _ S1.out).mono ?_; rintro e w2 ⟨rfl, rfl⟩))
      go_ret2
      exact ⟨rfl, B1.out⟩

set_option maxRecDepth 100000 in
set_option maxHeartbeats 4000000 in
theorem iTogYes (a0 a1 a2 : Addr) (ad : Option Addr) (cs : List Cd) (c : Nat) (h o : Int) (w : World) (hS : Sen w a0 a1 a2) (hc : CardsIn w ad cs) (hl : cs.length ≤ 9223372036854775807) (h0 : cdC cs = 0) (q : (isHT h && isHT o) = true) :
    Calls Tryd.prog 15 #[.slice ad cs.length c, .int .i64 h, .int .i64 o] w fun e w' => e = .returned (tgV cs h o) ∧ Below w.heap.size w w' := by
  have T := iCheckTable_any a0 a1 a2 ad cs c _ hS hc hl
  rw [h0, show eV a0 a1 0 = .nilIface from rfl] at T
  have T := Lib.hid T
  have hn := cdC_60 h0
  rw [tgV_ok h0 q]
  rw [Bool.and_eq_true] at q
  obtain ⟨h1, h2⟩ := isHT_in q.1
  obtain ⟨o1, o2⟩ := isHT_in q.2
  have MV := mo_two h1 h2 o1 o2
  have MO := fun a cc W hi => iMaskOf_any a [h, o] cc W hi (by simp)
  rw [MV] at MO
  have MO := Lib.hid MO
  have TN := tgN_is (cards_u64T hc) h1 h2 o1 o2
  have C := Lib.hid hc
  have NO := Lib.hid fun W hh => iNotches_any ad cs c W hh (by omega)
  have LE := Lib.hid (nmOf_len cs cs.length)
  unfold tgN
  rw [← TN]
  clear hS hc TN MV h0 q
  generalize ((F0 h ||| F0 o : Nat) : Int) = X at *
  generalize ((F1 h ||| F1 o : Nat) : Int) = Y at *
  generalize nmOf cs cs.length = ms at *
  have DR := Lib.hid fun am cm W => dropping_any am cs.length cm X Y W
  have DB := Lib.hid fun bm bh am cm W h1 h2 h3 h4 h5 h6 => dropping_by bm bh am ms cm X Y (by have := LE.out; omega) W h1 h2 h3 h4 h5 h6
  refine (callsIn_wide (n := 0)).1 (callsIn_of_wp_marks Tryd.func15 rfl trivial ?_ rfl)
  simp only [Tryd.ntmps15, List.size_toArray, List.length_cons, List.length_nil, Nat.reduceAdd, Nat.reduceSub, Array.replicate_succ, Array.replicate_zero, List.push_toArray, List.append_toArray, List.nil_append, List.cons_append]
  refine wpIn_wide.2 ?_
  go_upto_region 8 with (first
    | (go_at_call 35; refine T.out.mono ?_; rintro e w1 ⟨rfl, hB⟩; have B1 := Lib.hid hB; clear hB)
    | (go_at_call 45; refine (MO.out _ _ _ (two_ints w1 h o _)).mono ?_; rintro e w2 ⟨rfl, hB⟩; have B2 := Lib.hid (Ab.trans (Ab.trans B1.out (ab_new _ _)) hB); clear hB))
  have M8 := Lib.hid (block_alloc2 w2 (.cells #[.int .u64 X, .int .u64 Y] 26) (.cells #[.int .i64 0] 2))
  have B8 := Lib.hid (Ab.trans (Ab.trans B2.out (ab_new _ (.cells #[.int .u64 X, .int .u64 Y] 26))) (ab_new _ (.cells #[.int .i64 0] 2)))
  have s8 : Hid (((w2.alloc (.cells #[.int .u64 X, .int .u64 Y] 26)).alloc (.cells #[.int .i64 0] 2)).heap.size = w2.heap.size + 2) := Lib.hid (by simp)
  clear T MO
  generalize (w2.alloc (.cells #[.int .u64 X, .int .u64 Y] 26)).alloc (.cells #[.int .i64 0] 2) = W8 at *
  refine wp_region_makeX_at (XX := Option Addr × Nat) (Y := Nat × Option Addr × Nat) 1 0 0 (fun y W => MasksIn W y.1 ms ∧ ∀ b f, y.1 = some ⟨b, f, none⟩ → 0 < ms.length → W8.heap.size ≤ b) (fun _ _ => True)
    (fun r W => W.cell? ⟨r.1, 0, none⟩ = some (.slice r.2.1 cs.length r.2.2) ∧ W.cell? ⟨r.1 + 1, 0, none⟩ = some (.int .u64 X) ∧ W.cell? ⟨r.1 + 1, 1, none⟩ = some (.int .u64 Y) ∧ W8.heap.size ≤ r.1 ∧ r.1 + 1 < W.heap.size ∧ MasksIn W r.2.1 ms ∧ ∀ b f, r.2.1 = some ⟨b, f, none⟩ → 0 < ms.length → W8.heap.size ≤ b)
    (fun y _ _ hy hb => ⟨masksIn_below hy.1 hb, hy.2⟩) (fun _ _ _ _ _ => trivial) (fun r _ _ hr hb => ⟨(hb.cell (p := ⟨r.1, 0, none⟩) (by have := hr.2.2.2.2.1; show r.1 < _; omega)).trans hr.1, (hb.cell (p := ⟨r.1 + 1, 0, none⟩) hr.2.2.2.2.1).trans hr.2.1, (hb.cell (p := ⟨r.1 + 1, 1, none⟩) hr.2.2.2.2.1).trans hr.2.2.1, hr.2.2.2.1, Nat.lt_of_lt_of_le hr.2.2.2.2.1 hb.size, masksIn_below hr.2.2.2.2.2.1 hb, hr.2.2.2.2.2.2⟩)
    (fun y => .slice y.1 cs.length y.2) (fun _ => .agg #[.int .u64 X, .int .u64 Y]) (fun r => .func (.func 71) #[] #[.pointer (some ⟨r.1, 0, none⟩), .pointer (some ⟨r.1 + 1, 0, none⟩)]) (by kernel_rfl) rfl rfl rfl rfl (by kernel_rfl) rfl rfl rfl (none, 0) (0, none, 0) ?_
  simp only [Nat.reduceAdd, List.take_succ_cons, List.take_zero, List.drop_succ_cons, List.drop_zero]
  have hbw := cell_bw
  intro v1 hv1
  repeat (go_big_quiet_step (fail))
  refine wpQuiet_nil ?_
  refine ⟨?_, ?_⟩
  · intro v2 hv2
    go_simp
    simp only [Yld]
    refine ⟨trivial, (NO.out v2 (cardsIn_below C.out (Ab.trans B8.out hv2))).mono ?_⟩
    rintro e v3 ⟨v, rfl, hO, hb⟩
    obtain ⟨ay, cy, rfl, hi⟩ := ownMs_in hO
    rw [LE.out]
    refine ⟨_, rfl, ay, ⟨cy, rfl⟩, hb, hi, fun b f he _ => ?_⟩
    subst he
    have := ownMs_lt hO b
    exact Nat.le_trans hv2.size (this (by simp [Value.ownBlock]))
  rintro ⟨ay, cy⟩ v2 hv2
  simp only [Act.put, List.setIfInBounds_toArray, List.set_cons_succ, List.set_cons_zero]
  refine wpQuiet_nil ?_
  refine ⟨?_, ?_⟩
  · intro v3 hv3
    have k := cell_of_block (hv3.block M8.out.1)
    go_simp
    exact ⟨rfl, Below.refl _ _⟩
  rintro ⟨_, _⟩ v3 hv3
  simp only [Act.put, List.setIfInBounds_toArray, List.set_cons_succ, List.set_cons_zero]
  refine wpQuiet_nil ?_
  refine ⟨?_, ?_⟩
  · intro v4 hv4 hC _
    go_simp
    simp only [Yld]
    refine ⟨trivial, (DR.out ay cy v4).mono ?_⟩
    rintro e v5 ⟨rfl, p1, p2, hz, hB⟩
    exact ⟨_, rfl, v4.heap.size, rfl, hB, ay, ⟨cy, p1⟩, p2.1, p2.2, hv4.size, by omega, masksIn_below hC.1 hB, hC.2⟩
  rintro ⟨r1, r2, r3⟩
  simp only [List.setIfInBounds_toArray, List.set_cons_succ, List.set_cons_zero]
  intro w5 hw5 _ _ ⟨u1, u2, u3, u4, u5, u6, u7⟩
  have hq := DB.out r1 (r1 + 1) r2 r3 w5 (by omega) u5 (by rw [LE.out]; exact u1) u2 u3 u6
  have c9 := cell_of_block (hw5.block M8.out.2) 0
  have f9 := free_of_block (hw5.block M8.out.2) 0
  have l9 := lt_of_block (hw5.block M8.out.2)
  have B5 := Lib.hid (Ab.trans B8.out hw5)
  have S8 := s8.out
  have hsz : W8.heap.size ≤ w5.heap.size := hw5.size
  have U6 := Lib.hid u6
  clear DB DR NO M8 C u1 u2 u3 u6 hv1 hv2 hv3 hw5 s8 hbw
  go_wp2_with fail
  refine wp_range rfl (enters_of Tryd.func71 (by kernel_rfl) rfl) hq (fun _ => rfl) KpD.trans
    (fun A B hAB => ⟨hAB.size, hAB.block _ (by omega), hAB.block _ (by omega), fun b o _ hb => hAB.block b hb⟩) (fun A B hAB k _ hk2 => hAB.block k hk2)
    (fun pre W => W.cell? ⟨w2.heap.size + 1, 0, none⟩ = some (.int .i64 (pre.length : Int)) ∧ W.frozen? ⟨w2.heap.size + 1, 0, none⟩ = false ∧ w5.heap.size ≤ W.heap.size ∧ Below w.heap.size w W)
    (fun _ _ _ => False)
    ?i1 (fun _ _ _ _ h => h.elim) ?i3 (fun _ _ _ _ h => h.elim) (fun _ _ _ => trivial) ⟨c9, f9, Nat.le_refl _, B5.out⟩
    (fun q => { tmps := #[.slice ad cs.length c, .int .i64 h, .int .i64 o, undef, undef, undef, .int .i64 0, .int .i64 0, .nilIface, .pointer (some ⟨w2.heap.size, 0, none⟩), .int .i64 0, .pointer (some ⟨w2.heap.size + 1, 0, none⟩), .slice ad cs.length c, .nilIface, .nilIface, .bool false, undef, undef, .tuple #[.agg #[.int .u64 X, .int .u64 Y], .int .i64 0], .int .i64 h, .int .i64 o, .slice (some ⟨w1.heap.size, 0, none⟩) 2 2, .tuple #[.agg #[.int .u64 X, .int .u64 Y], .int .i64 0], .agg #[.int .u64 X, .int .u64 Y], .int .i64 0, .int .i64 0, .bool false, undef, .slice ad cs.length c, .slice ay cs.length cy, .agg #[.int .u64 X, .int .u64 Y], .func (.func 71) #[] #[.pointer (some ⟨r1, 0, none⟩), .pointer (some ⟨r1 + 1, 0, none⟩)], .int .i64 q, undef, undef, undef], defers := [] }) ?assign ?body ?done (fun _ _ _ _ h => h.elim)
  case i1 =>
    rintro pre A B ⟨h2, h4, h7, h8⟩ hs
    exact ⟨(hs.cell (p := ⟨w2.heap.size + 1, 0, none⟩) (by simp; omega)).trans h2, (hs.frozen (p := ⟨w2.heap.size + 1, 0, none⟩) (by simp; omega)).trans h4, Nat.le_trans h7 hs.size, h8.trans (hs.mono (Nat.le_trans B5.out.size h7))⟩
  case i3 =>
    rintro pre A B ⟨h2, h4, h7, h8⟩ hs
    exact ⟨(hs.cell (p := ⟨w2.heap.size + 1, 0, none⟩) (by simp; omega)).trans h2, (hs.frozen (p := ⟨w2.heap.size + 1, 0, none⟩) (by simp; omega)).trans h4, Nat.le_trans h7 hs.size, h8.trans (hs.mono B5.out.size)⟩
  case assign =>
    intro l x W K hK
    gi_wp2
    first | exact hK | (go_simp; exact hK) | (simp; exact hK)
  case body =>
    rintro l pre x W ⟨h2, h4, h7, h8⟩ ⟨k, hk, _, hp, rfl⟩ hlt
    have hpl := idx_len (dropsAt X Y ms) k
    rw [← hp] at hpl
    have hk60 : k ≤ 60 := by have := LE.out; omega
    have BW := Lib.hid h8
    clear hq hp h8
    gi_wp2
    have bk : ∀ j, j ≠ w2.heap.size + 1 → (W.setCell ⟨w2.heap.size + 1, 0, none⟩ (.int .i64 ((pre.length : Int) + 1))).heap[j]? = W.heap[j]? := fun j hj => Below.heap_setCell _ _ _ _ (by simp; omega)
    refine ⟨Kept.set _ _ _ (by omega), ⟨by simp, bk _ (by omega), bk _ (by omega), fun b f e hb => bk b ?_⟩, by rw [World.cell?_setCell_same (h := h2), List.length_append]; simp, by rw [World.frozen?_setCell]; exact h4, by simpa using h7, BW.out.setCell (p := ⟨w2.heap.size + 1, 0, none⟩) (by have := B2.out.size; simp; omega) _⟩
    have := u7 b f e (by omega)
    omega
  case done =>
    rintro xs W rfl ⟨h2, h4, h7, h8⟩ hK
    go_wp2
    refine ⟨by simp, .inl ⟨_, _, rfl, run_takeDeferred hK, ?_⟩⟩
    refine ⟨.tuple #[.int .i64 ((idx (dropsAt X Y ms) ms.length).length : Int), .int .i64 0], ?_, by rw [LE.out], h8.trans (below_put B5.out.size)⟩
    simp [results, Tryd.results15, go_sem]

theorem iTog_any (a0 a1 a2 : Addr) (ad : Option Addr) (cs : List Cd) (c : Nat) (h o : Int) (w : World) (hS : Sen w a0 a1 a2) (hc : CardsIn w ad cs) (hl : cs.length ≤ 9223372036854775807) :
    Calls Tryd.prog 15 #[.slice ad cs.length c, .int .i64 h, .int .i64 o] w fun e w' => e = .returned (tgV cs h o) ∧ Below w.heap.size w w' := by
  by_cases hy : cdC cs = 0 ∧ (isHT h && isHT o) = true
  · exact iTogYes a0 a1 a2 ad cs c h o w hS hc hl hy.1 hy.2
  · exact iTogNo a0 a1 a2 ad cs c h o w hS hc hl hy
end Go.Proofs.YtanocllpmjhblaaDoor
