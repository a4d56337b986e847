/- Contracts: BestSize, the program's and the model's. -/
import Derived.Test.YtdbkplfkilaoeabFcM
namespace Go.Proofs.Ytdbkplfkilaoeab
open Go.ChangeShapes Go.WideShapes Go.ChangeAt Go.RowKit

/-- The first of n numbers from s on that is good, or none. -/
def fsX (f : Int → Bool) : Int → Nat → Int
  | _, 0 => 0
  | s, n + 1 => if f s = true then s else fsX f (s + 1) n
def fsC (f : Int → Bool) : Int → Nat → Int
  | _, 0 => 6
  | s, n + 1 => if f s = true then 0 else fsC f (s + 1) n
def lowS (p : Int) : Int := if 4 ≤ 2 * p then 2 * p else 4
def bsF (p n a c : Int) (s : Int) : Bool := decide (fcV s p.toNat n.toNat a.toNat ≤ c)
def BsIn (p n a m c : Int) : Prop := 1 ≤ p ∧ p ≤ 8 ∧ 0 ≤ n ∧ n ≤ 100 ∧ 0 ≤ a ∧ a ≤ 12 ∧ 4 ≤ m ∧ m ≤ 96 ∧ 0 ≤ c ∧ c ≤ 1000000000
instance (p n a m c : Int) : Decidable (BsIn p n a m c) := by unfold BsIn; infer_instance
def bsX (p n a m c : Int) : Int := if BsIn p n a m c then fsX (bsF p n a c) (lowS p) (m + 1 - lowS p).toNat else 0
def bsC (p n a m c : Int) : Int := if BsIn p n a m c then fsC (bsF p n a c) (lowS p) (m + 1 - lowS p).toNat else 2
def bsR (p n a m c : Int) : Value := .tuple #[.int .i64 (bsX p n a m c), .int .i64 (bsC p n a m c)]
theorem bsR_no {p n a m c : Int} (h : ¬ BsIn p n a m c) : bsR p n a m c = .tuple #[.int .i64 0, .int .i64 2] := by unfold bsR bsX bsC; simp [h]
theorem bsR_yes {p n a m c : Int} (h : BsIn p n a m c) : bsR p n a m c = .tuple #[.int .i64 (fsX (bsF p n a c) (lowS p) (m + 1 - lowS p).toNat), .int .i64 (fsC (bsF p n a c) (lowS p) (m + 1 - lowS p).toNat)] := by unfold bsR bsX bsC; simp [h]
theorem bret_v {x y : Value} (h : x = y) : Ending.returned y = Ending.returned x := by rw [h]
/-- What is searched from s on is what is searched from the beginning. -/
def Srch (f : Int → Bool) (lo m s : Int) : Prop := fsX f lo (m + 1 - lo).toNat = fsX f s (m + 1 - s).toNat ∧ fsC f lo (m + 1 - lo).toNat = fsC f s (m + 1 - s).toNat
theorem srch_start (f : Int → Bool) (lo m : Int) : Srch f lo m lo := ⟨rfl, rfl⟩
theorem srch_next {f : Int → Bool} {lo m s : Int} (h : Srch f lo m s) (hs : s ≤ m) (hf : f s = false) : Srch f lo m (s + 1) := by
  have e : (m + 1 - s).toNat = (m + 1 - (s + 1)).toNat + 1 := by omega
  obtain ⟨h1, h2⟩ := h
  rw [e, fsX, if_neg (by rw [hf]; decide)] at h1
  rw [e, fsC, if_neg (by rw [hf]; decide)] at h2
  exact ⟨h1, h2⟩
theorem srch_hit {f : Int → Bool} {lo m s : Int} (h : Srch f lo m s) (hs : s ≤ m) (hf : f s = true) : fsX f lo (m + 1 - lo).toNat = s ∧ fsC f lo (m + 1 - lo).toNat = 0 := by
  have e : (m + 1 - s).toNat = (m + 1 - (s + 1)).toNat + 1 := by omega
  obtain ⟨h1, h2⟩ := h
  rw [e, fsX, if_pos hf] at h1
  rw [e, fsC, if_pos hf] at h2
  exact ⟨h1, h2⟩
theorem srch_none {f : Int → Bool} {lo m s : Int} (h : Srch f lo m s) (hs : m < s) : fsX f lo (m + 1 - lo).toNat = 0 ∧ fsC f lo (m + 1 - lo).toNat = 6 := by
  have e : (m + 1 - s).toNat = 0 := by omega
  obtain ⟨h1, h2⟩ := h
  rw [e, fsX] at h1
  rw [e, fsC] at h2
  exact ⟨h1, h2⟩
theorem bsR_parts (p n a m c : Int) : ∃ x k : Int, bsR p n a m c = .tuple #[.int .i64 x, .int .i64 k] := ⟨_, _, rfl⟩

theorem sMax_any (x y : Int) (w : World) : Calls Try.prog 35 #[.int .i64 x, .int .i64 y] w fun e w' => e = .returned (.int .i64 (if y < x then x else y)) ∧ w = w' := by
  by_cases h : y < x
  · have d : decide (y < x) = true := decide_eq_true h
    rw [if_pos h]
    go_enter Try.func35, Try.ntmps35
    go_wp2
    go_returns
    exact ⟨rfl, rfl⟩
  · have d : decide (y < x) = false := decide_eq_false h
    rw [if_neg h]
    go_enter Try.func35, Try.ntmps35
    go_wp2
    go_returns
    exact ⟨rfl, rfl⟩

set_option maxHeartbeats 3200000 in
theorem iBest_any (p n a m c : Int) (w : World) :
    Calls Try.prog 19 #[.int .i64 p, .int .i64 n, .int .i64 a, .int .i64 m, .int .i64 c] w fun e w' => e = .returned (bsR p n a m c) ∧ Below w.heap.size w w' := by
  by_cases g1 : p < 1
  · have dg1 : decide (p < 1) = true := decide_eq_true g1
    rw [bsR_no (by unfold BsIn; omega)]
    clear g1
    go_enter Try.func19, Try.ntmps19
    go_wp2
    all_goals go_returns
    all_goals exact ⟨rfl, (by repeat' (first | (with_reducible exact Below.refl _ _) | (with_reducible assumption) | (with_reducible refine below_drewN ?_ _) | (with_reducible refine Below.drew ?_) | (with_reducible refine below_new ?_ _) | (with_reducible refine below_next ?_ (by with_reducible assumption)) | (with_reducible refine Below.setCell ?_ ?_ _) | go_size))⟩
  have dg1 : decide (p < 1) = false := decide_eq_false g1
  by_cases g2 : 8 < p
  · have dg2 : decide (8 < p) = true := decide_eq_true g2
    rw [bsR_no (by unfold BsIn; omega)]
    clear g2
    go_enter Try.func19, Try.ntmps19
    go_wp2
    all_goals go_returns
    all_goals exact ⟨rfl, (by repeat' (first | (with_reducible exact Below.refl _ _) | (with_reducible assumption) | (with_reducible refine below_drewN ?_ _) | (with_reducible refine Below.drew ?_) | (with_reducible refine below_new ?_ _) | (with_reducible refine below_next ?_ (by with_reducible assumption)) | (with_reducible refine Below.setCell ?_ ?_ _) | go_size))⟩
  have dg2 : decide (8 < p) = false := decide_eq_false g2
  by_cases hK : 0 ≤ n ∧ n ≤ 100
  rotate_left
  · have KK := Lib.hid fun W => (by have h := iKept_any n W; rwa [decide_eq_false hK] at h : Calls Try.prog 27 #[.int .i64 n] W fun e w' => e = .returned (.bool false) ∧ W = w')
    rw [bsR_no (by unfold BsIn; omega)]
    clear hK
    go_enter Try.func19, Try.ntmps19
    go_wp2_with (first | (go_at_call 27; refine (KK.out _).mono ?_; rintro e w1 ⟨rfl, rfl⟩))
    all_goals go_returns
    all_goals exact ⟨rfl, (by repeat' (first | (with_reducible exact Below.refl _ _) | (with_reducible assumption) | (with_reducible refine below_drewN ?_ _) | (with_reducible refine Below.drew ?_) | (with_reducible refine below_new ?_ _) | (with_reducible refine below_next ?_ (by with_reducible assumption)) | (with_reducible refine Below.setCell ?_ ?_ _) | go_size))⟩
  have KK := Lib.hid fun W => (by have h := iKept_any n W; rwa [decide_eq_true hK] at h : Calls Try.prog 27 #[.int .i64 n] W fun e w' => e = .returned (.bool true) ∧ W = w')
  by_cases hA : 0 ≤ a ∧ a ≤ 12
  rotate_left
  · have AA := Lib.hid fun W => (by have h := iAsked_any a W; rwa [decide_eq_false hA] at h : Calls Try.prog 28 #[.int .i64 a] W fun e w' => e = .returned (.bool false) ∧ W = w')
    rw [bsR_no (by unfold BsIn; omega)]
    clear hA
    go_enter Try.func19, Try.ntmps19
    go_wp2_with (first | (go_at_call 27; refine (KK.out _).mono ?_; rintro e w1 ⟨rfl, rfl⟩) | (go_at_call 28; refine (AA.out _).mono ?_; rintro e w1 ⟨rfl, rfl⟩))
    all_goals go_returns
    all_goals exact ⟨rfl, (by repeat' (first | (with_reducible exact Below.refl _ _) | (with_reducible assumption) | (with_reducible refine below_drewN ?_ _) | (with_reducible refine Below.drew ?_) | (with_reducible refine below_new ?_ _) | (with_reducible refine below_next ?_ (by with_reducible assumption)) | (with_reducible refine Below.setCell ?_ ?_ _) | go_size))⟩
  have AA := Lib.hid fun W => (by have h := iAsked_any a W; rwa [decide_eq_true hA] at h : Calls Try.prog 28 #[.int .i64 a] W fun e w' => e = .returned (.bool true) ∧ W = w')
  by_cases g3 : m < 4
  · have dg3 : decide (m < 4) = true := decide_eq_true g3
    rw [bsR_no (by unfold BsIn; omega)]
    clear g3
    go_enter Try.func19, Try.ntmps19
    go_wp2_with (first | (go_at_call 27; refine (KK.out _).mono ?_; rintro e w1 ⟨rfl, rfl⟩) | (go_at_call 28; refine (AA.out _).mono ?_; rintro e w1 ⟨rfl, rfl⟩))
    all_goals go_returns
    all_goals exact ⟨rfl, (by repeat' (first | (with_reducible exact Below.refl _ _) | (with_reducible assumption) | (with_reducible refine below_drewN ?_ _) | (with_reducible refine Below.drew ?_) | (with_reducible refine below_new ?_ _) | (with_reducible refine below_next ?_ (by with_reducible assumption)) | (with_reducible refine Below.setCell ?_ ?_ _) | go_size))⟩
  have dg3 : decide (m < 4) = false := decide_eq_false g3
  by_cases g4 : 96 < m
  · have dg4 : decide (96 < m) = true := decide_eq_true g4
    rw [bsR_no (by unfold BsIn; omega)]
    clear g4
    go_enter Try.func19, Try.ntmps19
    go_wp2_with (first | (go_at_call 27; refine (KK.out _).mono ?_; rintro e w1 ⟨rfl, rfl⟩) | (go_at_call 28; refine (AA.out _).mono ?_; rintro e w1 ⟨rfl, rfl⟩))
    all_goals go_returns
    all_goals exact ⟨rfl, (by repeat' (first | (with_reducible exact Below.refl _ _) | (with_reducible assumption) | (with_reducible refine below_drewN ?_ _) | (with_reducible refine Below.drew ?_) | (with_reducible refine below_new ?_ _) | (with_reducible refine below_next ?_ (by with_reducible assumption)) | (with_reducible refine Below.setCell ?_ ?_ _) | go_size))⟩
  have dg4 : decide (96 < m) = false := decide_eq_false g4
  by_cases g5 : c < 0
  · have dg5 : decide (c < 0) = true := decide_eq_true g5
    rw [bsR_no (by unfold BsIn; omega)]
    clear g5
    go_enter Try.func19, Try.ntmps19
    go_wp2_with (first | (go_at_call 27; refine (KK.out _).mono ?_; rintro e w1 ⟨rfl, rfl⟩) | (go_at_call 28; refine (AA.out _).mono ?_; rintro e w1 ⟨rfl, rfl⟩))
    all_goals go_returns
    all_goals exact ⟨rfl, (by repeat' (first | (with_reducible exact Below.refl _ _) | (with_reducible assumption) | (with_reducible refine below_drewN ?_ _) | (with_reducible refine Below.drew ?_) | (with_reducible refine below_new ?_ _) | (with_reducible refine below_next ?_ (by with_reducible assumption)) | (with_reducible refine Below.setCell ?_ ?_ _) | go_size))⟩
  have dg5 : decide (c < 0) = false := decide_eq_false g5
  by_cases g6 : 1000000000 < c
  · have dg6 : decide (1000000000 < c) = true := decide_eq_true g6
    rw [bsR_no (by unfold BsIn; omega)]
    clear g6
    go_enter Try.func19, Try.ntmps19
    go_wp2_with (first | (go_at_call 27; refine (KK.out _).mono ?_; rintro e w1 ⟨rfl, rfl⟩) | (go_at_call 28; refine (AA.out _).mono ?_; rintro e w1 ⟨rfl, rfl⟩))
    all_goals go_returns
    all_goals exact ⟨rfl, (by repeat' (first | (with_reducible exact Below.refl _ _) | (with_reducible assumption) | (with_reducible refine below_drewN ?_ _) | (with_reducible refine Below.drew ?_) | (with_reducible refine below_new ?_ _) | (with_reducible refine below_next ?_ (by with_reducible assumption)) | (with_reducible refine Below.setCell ?_ ?_ _) | go_size))⟩
  have dg6 : decide (1000000000 < c) = false := decide_eq_false g6
  rw [bsR_yes ⟨by omega, by omega, by omega, by omega, by omega, by omega, by omega, by omega, by omega, by omega⟩]
  obtain ⟨P, rfl⟩ := Int.eq_ofNat_of_zero_le (show 0 ≤ p by omega)
  obtain ⟨N, rfl⟩ := Int.eq_ofNat_of_zero_le hK.1
  obtain ⟨A, rfl⟩ := Int.eq_ofNat_of_zero_le hA.1
  have F := Lib.hid fun (s : Int) (h4 : 4 ≤ s) (h96 : s ≤ 96) (h2 : 2 * (P : Int) ≤ s) W => iFc_any 0 s P N A h4 h96 (by omega) (by omega) h2 (by omega) (by omega) W
  have BF := Lib.hid fun (s : Int) => (show bsF (P : Int) (N : Int) (A : Int) c s = decide (fcV s P N A ≤ c) by simp [bsF])
  have lw : 4 ≤ lowS (P : Int) ∧ 2 * (P : Int) ≤ lowS (P : Int) ∧ lowS (P : Int) ≤ 16 := by unfold lowS; split <;> omega
  have HL := Lib.hid (show lowS (P : Int) = if 4 ≤ 2 * (P : Int) then 2 * (P : Int) else 4 from rfl)
  have P1 : 1 ≤ P := by omega
  have P8 : P ≤ 8 := by omega
  generalize bsF (P : Int) (N : Int) (A : Int) c = f at *
  obtain ⟨lw1, lw2, lw3⟩ := lw
  by_cases h4 : 4 ≤ 2 * (P : Int)
  all_goals (first | rw [if_pos h4] at HL | rw [if_neg h4] at HL)
  all_goals generalize lowS (P : Int) = lo at *
  all_goals
    go_enter Try.func19, Try.ntmps19
    go_wp2_with (first | (go_at_call 27; refine (KK.out _).mono ?_; rintro e w1 ⟨rfl, rfl⟩) | (go_at_call 28; refine (AA.out _).mono ?_; rintro e w1 ⟨rfl, rfl⟩))
  all_goals
    go_loopw [12] (fun x wr => ∃ s : Int, x = .int .i64 s ∧ lo ≤ s ∧ (s ≤ m + 1 ∨ s = lo) ∧ Srch f lo m s ∧ Below w.heap.size w wr) (fun x _ => (m + 1 - intOf x).toNat)
    case atStart => exact ⟨lo, by first | (rw [HL.out]; done) | (rw [HL.out]; rfl) | (congr 1; have := HL.out; omega), by omega, .inr rfl, srch_start _ _ _, (by repeat' (first | (with_reducible exact Below.refl _ _) | (with_reducible assumption) | (with_reducible refine below_drewN ?_ _) | (with_reducible refine Below.drew ?_) | (with_reducible refine below_new ?_ _) | (with_reducible refine below_next ?_ (by with_reducible assumption)) | (with_reducible refine Below.setCell ?_ ?_ _) | go_size))⟩
    case round =>
      obtain ⟨s, rfl, hl, hm, hs, hB⟩ := hrel
      have BB := Lib.hid hB
      have SS := Lib.hid hs
      clear hB hs
      by_cases hsm : s ≤ m
      · have d1 : decide (s ≤ m) = true := decide_eq_true hsm
        have K := Lib.hid fun W => F.out s (by omega) (by omega) (by omega) W
        have nx : Hid (f s = false → Srch f lo m (s + 1)) := Lib.hid fun h => srch_next SS.out hsm h
        have hit : Hid (f s = true → fsX f lo (m + 1 - lo).toNat = s ∧ fsC f lo (m + 1 - lo).toNat = 0) := Lib.hid fun h => srch_hit SS.out hsm h
        rw [BF.out s] at nx hit
        generalize fcV s P N A = v at *
        by_cases hv : v ≤ c
        · have d2 : decide (v ≤ c) = true := decide_eq_true hv
          have H := Lib.hid (hit.out d2)
          clear hit nx
          go_wp2_with (go_at_call 29; refine (K.out _).mono ?_; rintro e w3 ⟨rfl, hB⟩; have B3 := Lib.hid (BB.out.trans (Below.mono ((below_new (Below.refl _ _) _).trans (Below.mono hB (by simp))) BB.out.size)); clear hB)
          all_goals go_returns
          all_goals exact ⟨by rw [H.out.1, H.out.2]; rfl, B3.out⟩
        · have d2 : decide (v ≤ c) = false := decide_eq_false hv
          have H := Lib.hid (nx.out d2)
          clear hit nx
          go_wp2_with (go_at_call 29; refine (K.out _).mono ?_; rintro e w3 ⟨rfl, hB⟩; have B3 := Lib.hid (BB.out.trans (Below.mono ((below_new (Below.refl _ _) _).trans (Below.mono hB (by simp))) BB.out.size)); clear hB)
          exact ⟨⟨s + 1, rfl, by omega, by omega, H.out, B3.out⟩, by (simp [intOf]) <;> omega⟩
      · have d1 : decide (s ≤ m) = false := decide_eq_false hsm
        have H := Lib.hid (srch_none SS.out (by omega))
        go_wp2
        all_goals go_returns
        all_goals exact ⟨by rw [H.out.1, H.out.2]; rfl, BB.out⟩

set_option maxHeartbeats 3200000 in
theorem sBest_any (p n a m c : Int) (w : World) :
    Calls Try.prog 18 #[.int .i64 p, .int .i64 n, .int .i64 a, .int .i64 m, .int .i64 c] w fun e w' => e = .returned (bsR p n a m c) ∧ Below w.heap.size w w' := by
  have tkP : True := trivial
  have tkK : True := trivial
  have tkA : True := trivial
  have tkM : True := trivial
  have tkC : True := trivial
  by_cases hP : 1 ≤ p ∧ p ≤ 8
  rotate_left
  · have PP := Lib.hid fun W => sInM_f hP W
    rw [bsR_no (by unfold BsIn; omega)]
    clear hP
    go_enter Try.func18, Try.ntmps18
    go_wp2_with (first | (go_at_call 24; have _t := tkP; clear _t tkP; refine (PP.out _).mono ?_; rintro e w1 ⟨rfl, rfl⟩))
    all_goals go_returns
    all_goals exact ⟨rfl, (by repeat' (first | (with_reducible exact Below.refl _ _) | (with_reducible assumption) | (with_reducible refine below_drewN ?_ _) | (with_reducible refine Below.drew ?_) | (with_reducible refine below_new ?_ _) | (with_reducible refine below_next ?_ (by with_reducible assumption)) | (with_reducible refine Below.setCell ?_ ?_ _) | go_size))⟩
  have PP := Lib.hid fun W => sInM_t hP W
  by_cases hK : 0 ≤ n ∧ n ≤ 100
  rotate_left
  · have KK := Lib.hid fun W => sInM_f hK W
    rw [bsR_no (by unfold BsIn; omega)]
    clear hK
    go_enter Try.func18, Try.ntmps18
    go_wp2_with (first | (go_at_call 24; have _t := tkP; clear _t tkP; refine (PP.out _).mono ?_; rintro e w1 ⟨rfl, rfl⟩) | (go_at_call 24; have _t := tkK; clear _t tkK; refine (KK.out _).mono ?_; rintro e w1 ⟨rfl, rfl⟩))
    all_goals go_returns
    all_goals exact ⟨rfl, (by repeat' (first | (with_reducible exact Below.refl _ _) | (with_reducible assumption) | (with_reducible refine below_drewN ?_ _) | (with_reducible refine Below.drew ?_) | (with_reducible refine below_new ?_ _) | (with_reducible refine below_next ?_ (by with_reducible assumption)) | (with_reducible refine Below.setCell ?_ ?_ _) | go_size))⟩
  have KK := Lib.hid fun W => sInM_t hK W
  by_cases hA : 0 ≤ a ∧ a ≤ 12
  rotate_left
  · have AA := Lib.hid fun W => sInM_f hA W
    rw [bsR_no (by unfold BsIn; omega)]
    clear hA
    go_enter Try.func18, Try.ntmps18
    go_wp2_with (first | (go_at_call 24; have _t := tkP; clear _t tkP; refine (PP.out _).mono ?_; rintro e w1 ⟨rfl, rfl⟩) | (go_at_call 24; have _t := tkK; clear _t tkK; refine (KK.out _).mono ?_; rintro e w1 ⟨rfl, rfl⟩) | (go_at_call 24; have _t := tkA; clear _t tkA; refine (AA.out _).mono ?_; rintro e w1 ⟨rfl, rfl⟩))
    all_goals go_returns
    all_goals exact ⟨rfl, (by repeat' (first | (with_reducible exact Below.refl _ _) | (with_reducible assumption) | (with_reducible refine below_drewN ?_ _) | (with_reducible refine Below.drew ?_) | (with_reducible refine below_new ?_ _) | (with_reducible refine below_next ?_ (by with_reducible assumption)) | (with_reducible refine Below.setCell ?_ ?_ _) | go_size))⟩
  have AA := Lib.hid fun W => sInM_t hA W
  by_cases hM : 4 ≤ m ∧ m ≤ 96
  rotate_left
  · have MM := Lib.hid fun W => sInM_f hM W
    rw [bsR_no (by unfold BsIn; omega)]
    clear hM
    go_enter Try.func18, Try.ntmps18
    go_wp2_with (first | (go_at_call 24; have _t := tkP; clear _t tkP; refine (PP.out _).mono ?_; rintro e w1 ⟨rfl, rfl⟩) | (go_at_call 24; have _t := tkK; clear _t tkK; refine (KK.out _).mono ?_; rintro e w1 ⟨rfl, rfl⟩) | (go_at_call 24; have _t := tkA; clear _t tkA; refine (AA.out _).mono ?_; rintro e w1 ⟨rfl, rfl⟩) | (go_at_call 24; have _t := tkM; clear _t tkM; refine (MM.out _).mono ?_; rintro e w1 ⟨rfl, rfl⟩))
    all_goals go_returns
    all_goals exact ⟨rfl, (by repeat' (first | (with_reducible exact Below.refl _ _) | (with_reducible assumption) | (with_reducible refine below_drewN ?_ _) | (with_reducible refine Below.drew ?_) | (with_reducible refine below_new ?_ _) | (with_reducible refine below_next ?_ (by with_reducible assumption)) | (with_reducible refine Below.setCell ?_ ?_ _) | go_size))⟩
  have MM := Lib.hid fun W => sInM_t hM W
  by_cases hC : 0 ≤ c ∧ c ≤ 1000000000
  rotate_left
  · have CC := Lib.hid fun W => sInM_f hC W
    rw [bsR_no (by unfold BsIn; omega)]
    clear hC
    go_enter Try.func18, Try.ntmps18
    go_wp2_with (first | (go_at_call 24; have _t := tkP; clear _t tkP; refine (PP.out _).mono ?_; rintro e w1 ⟨rfl, rfl⟩) | (go_at_call 24; have _t := tkK; clear _t tkK; refine (KK.out _).mono ?_; rintro e w1 ⟨rfl, rfl⟩) | (go_at_call 24; have _t := tkA; clear _t tkA; refine (AA.out _).mono ?_; rintro e w1 ⟨rfl, rfl⟩) | (go_at_call 24; have _t := tkM; clear _t tkM; refine (MM.out _).mono ?_; rintro e w1 ⟨rfl, rfl⟩) | (go_at_call 24; have _t := tkC; clear _t tkC; refine (CC.out _).mono ?_; rintro e w1 ⟨rfl, rfl⟩))
    all_goals go_returns
    all_goals exact ⟨rfl, (by repeat' (first | (with_reducible exact Below.refl _ _) | (with_reducible assumption) | (with_reducible refine below_drewN ?_ _) | (with_reducible refine Below.drew ?_) | (with_reducible refine below_new ?_ _) | (with_reducible refine below_next ?_ (by with_reducible assumption)) | (with_reducible refine Below.setCell ?_ ?_ _) | go_size))⟩
  have CC := Lib.hid fun W => sInM_t hC W
  rw [bsR_yes ⟨by omega, by omega, by omega, by omega, by omega, by omega, by omega, by omega, by omega, by omega⟩]
  obtain ⟨P, rfl⟩ := Int.eq_ofNat_of_zero_le (show 0 ≤ p by omega)
  obtain ⟨N, rfl⟩ := Int.eq_ofNat_of_zero_le hK.1
  obtain ⟨A, rfl⟩ := Int.eq_ofNat_of_zero_le hA.1
  have F := Lib.hid fun (s : Int) (h4 : 4 ≤ s) (h96 : s ≤ 96) (h2 : 2 * (P : Int) ≤ s) W => sFc_any s P N A h4 h96 (by omega) (by omega) h2 (by omega) (by omega) W
  have BF := Lib.hid fun (s : Int) => (show bsF (P : Int) (N : Int) (A : Int) c s = decide (fcV s P N A ≤ c) by simp [bsF])
  have lw : 4 ≤ lowS (P : Int) ∧ 2 * (P : Int) ≤ lowS (P : Int) ∧ lowS (P : Int) ≤ 16 := by unfold lowS; split <;> omega
  have HL := Lib.hid (show lowS (P : Int) = if 4 ≤ 2 * (P : Int) then 2 * (P : Int) else 4 from rfl)
  have P1 : 1 ≤ P := by omega
  have P8 : P ≤ 8 := by omega
  generalize bsF (P : Int) (N : Int) (A : Int) c = f at *
  obtain ⟨lw1, lw2, lw3⟩ := lw
  by_cases h4 : 4 ≤ 2 * (P : Int)
  all_goals (first | rw [if_pos h4] at HL | rw [if_neg h4] at HL)
  all_goals generalize lowS (P : Int) = lo at *
  all_goals
    go_enter Try.func18, Try.ntmps18
    go_wp2_with (first | (go_at_call 24; have _t := tkP; clear _t tkP; refine (PP.out _).mono ?_; rintro e w1 ⟨rfl, rfl⟩) | (go_at_call 24; have _t := tkK; clear _t tkK; refine (KK.out _).mono ?_; rintro e w1 ⟨rfl, rfl⟩) | (go_at_call 24; have _t := tkA; clear _t tkA; refine (AA.out _).mono ?_; rintro e w1 ⟨rfl, rfl⟩) | (go_at_call 24; have _t := tkM; clear _t tkM; refine (MM.out _).mono ?_; rintro e w1 ⟨rfl, rfl⟩) | (go_at_call 24; have _t := tkC; clear _t tkC; refine (CC.out _).mono ?_; rintro e w1 ⟨rfl, rfl⟩) | (go_at_call 35; refine (sMax_any _ _ _).mono ?_; rintro e w1 ⟨rfl, rfl⟩))
  all_goals
    go_loopw [12] (fun x wr => ∃ s : Int, x = .int .i64 s ∧ lo ≤ s ∧ (s ≤ m + 1 ∨ s = lo) ∧ Srch f lo m s ∧ Below w.heap.size w wr) (fun x _ => (m + 1 - intOf x).toNat)
    case atStart => exact ⟨lo, by first | (rw [HL.out]; done) | (rw [HL.out]; rfl) | (congr 1; have := HL.out; omega), by omega, .inr rfl, srch_start _ _ _, (by repeat' (first | (with_reducible exact Below.refl _ _) | (with_reducible assumption) | (with_reducible refine below_drewN ?_ _) | (with_reducible refine Below.drew ?_) | (with_reducible refine below_new ?_ _) | (with_reducible refine below_next ?_ (by with_reducible assumption)) | (with_reducible refine Below.setCell ?_ ?_ _) | go_size))⟩
    case round =>
      obtain ⟨s, rfl, hl, hm, hs, hB⟩ := hrel
      have BB := Lib.hid hB
      have SS := Lib.hid hs
      clear hB hs
      by_cases hsm : s ≤ m
      · have d1 : decide (s ≤ m) = true := decide_eq_true hsm
        have K := Lib.hid fun W => F.out s (by omega) (by omega) (by omega) W
        have nx : Hid (f s = false → Srch f lo m (s + 1)) := Lib.hid fun h => srch_next SS.out hsm h
        have hit : Hid (f s = true → fsX f lo (m + 1 - lo).toNat = s ∧ fsC f lo (m + 1 - lo).toNat = 0) := Lib.hid fun h => srch_hit SS.out hsm h
        rw [BF.out s] at nx hit
        generalize fcV s P N A = v at *
        by_cases hv : v ≤ c
        · have d2 : decide (v ≤ c) = true := decide_eq_true hv
          have H := Lib.hid (hit.out d2)
          clear hit nx
          go_wp2_with (go_at_call 25; refine (K.out _).mono ?_; rintro e w3 ⟨rfl, hB⟩; have B3 := Lib.hid (BB.out.trans (Below.mono hB BB.out.size)); clear hB)
          all_goals go_returns
          all_goals exact ⟨by rw [H.out.1, H.out.2]; rfl, B3.out⟩
        · have d2 : decide (v ≤ c) = false := decide_eq_false hv
          have H := Lib.hid (nx.out d2)
          clear hit nx
          go_wp2_with (go_at_call 25; refine (K.out _).mono ?_; rintro e w3 ⟨rfl, hB⟩; have B3 := Lib.hid (BB.out.trans (Below.mono hB BB.out.size)); clear hB)
          exact ⟨⟨s + 1, rfl, by omega, by omega, H.out, B3.out⟩, by (simp [intOf]) <;> omega⟩
      · have d1 : decide (s ≤ m) = false := decide_eq_false hsm
        have H := Lib.hid (srch_none SS.out (by omega))
        go_wp2
        all_goals go_returns
        all_goals exact ⟨by rw [H.out.1, H.out.2]; rfl, BB.out⟩
end Go.Proofs.Ytdbkplfkilaoeab
