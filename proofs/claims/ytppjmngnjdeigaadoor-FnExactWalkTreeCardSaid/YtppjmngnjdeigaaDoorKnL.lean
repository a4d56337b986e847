/- Contracts of the laws' own functions on slices of knots: measured, compared. -/
import Derived.Test.YtppjmngnjdeigaaDoorI16
import Derived.Test.YtppjmngnjdeigaaDoorQuiet
import Derived.Deep.DeepCutAuto
namespace Go.Proofs.YtppjmngnjdeigaaDoor
open Go.ChangeShapes Go.WideShapes Go.ChangeAt Go.RowKit

/-- What is left behind n numbers, or -1. -/
def szn (l : Int) (n : Nat) : Int := if l - (n : Int) < 0 then -1 else l - (n : Int)
theorem szn_no {l : Int} {n : Nat} (h : l - (n : Int) < 0) : szn l n = -1 := by unfold szn; rw [if_pos h]
theorem szn_yes {l : Int} {n : Nat} (h : ¬ l - (n : Int) < 0) : szn l n = l - (n : Int) := by unfold szn; rw [if_neg h]

set_option maxHeartbeats 800000 in
theorem szInts_any (a : Option Addr) (n c : Nat) (l : Int) (hn : n ≤ maxLen) (l0 : 0 ≤ l) (l1 : l ≤ 1048576) (w : World) :
    Calls Tryd.prog 69 #[.slice a n c, .int .i64 l] w fun e w' => e = .returned (.int .i64 (szn l n)) ∧ w = w' := by
  unfold maxLen at hn
  have d1 : IntKind.i64.wrap (l - (n : Int)) = l - (n : Int) := IntWalk.i64_in _ (by omega)
  by_cases h : l - (n : Int) < 0
  · have d2 : decide (l - (n : Int) < 0) = true := by simp; omega
    rw [szn_no h]
    go_enter Tryd.func69, Tryd.ntmps69
    go_wp2
    go_returns
    exact ⟨rfl, rfl⟩
  · have d2 : decide (l - (n : Int) < 0) = false := by simp; omega
    rw [szn_yes h]
    go_enter Tryd.func69, Tryd.ntmps69
    go_wp2
    go_returns
    exact ⟨rfl, rfl⟩

set_option maxHeartbeats 800000 in
theorem szI16s_any (a : Option Addr) (n c : Nat) (l : Int) (hn : n ≤ maxLen) (l0 : 0 ≤ l) (l1 : l ≤ 1048576) (w : World) :
    Calls Tryd.prog 70 #[.slice a n c, .int .i64 l] w fun e w' => e = .returned (.int .i64 (szn l n)) ∧ w = w' := by
  unfold maxLen at hn
  have d1 : IntKind.i64.wrap (l - (n : Int)) = l - (n : Int) := IntWalk.i64_in _ (by omega)
  by_cases h : l - (n : Int) < 0
  · have d2 : decide (l - (n : Int) < 0) = true := by simp; omega
    rw [szn_no h]
    go_enter Tryd.func70, Tryd.ntmps70
    go_wp2
    go_returns
    exact ⟨rfl, rfl⟩
  · have d2 : decide (l - (n : Int) < 0) = false := by simp; omega
    rw [szn_yes h]
    go_enter Tryd.func70, Tryd.ntmps70
    go_wp2
    go_returns
    exact ⟨rfl, rfl⟩

/-- What a measuring leaves of a knot: no more than there was; none of its slices is longer than it. -/
def KnSmall (k : Kn) : Prop := k.vs.length ≤ 1048576 ∧ k.ns.length ≤ 1048576 ∧ k.cs.length ≤ 1048576
def SzK1 (k : Kn) (w : World) (e : Ending) (w' : World) : Prop := ∃ z : Int, e = .returned (.int .i64 z) ∧ -1 ≤ z ∧ z ≤ 1048576 ∧ (0 ≤ z → KnSmall k) ∧ Below w.heap.size w w'

set_option maxHeartbeats 1600000 in
theorem szKnot_any (k : Kn) (va na ca : Option Addr) (vc nc cc : Nat) (l : Int) (hk : k.fits) (l0 : 0 ≤ l) (l1 : l ≤ 1048576) (w : World) :
    Calls Tryd.prog 36 #[.agg #[.int .i16 k.f, .slice va k.vs.length vc, .slice na k.ns.length nc, .slice ca k.cs.length cc], .int .i64 l] w (SzK1 k w) := by
  obtain ⟨_, _, _, _, n1, n2, n3⟩ := hk
  have m1 := n1
  have m2 := n2
  have m3 := n3
  unfold maxLen at m1 m2 m3
  obtain ⟨f, vs, ns, cs⟩ := k
  simp only at n1 n2 n3 m1 m2 m3 ⊢
  have K1 := Lib.hid fun W => szInts_any va vs.length vc l n1 l0 l1 W
  by_cases h1 : l - (vs.length : Int) < 0
  · rw [szn_no h1] at K1
    clear n1 n2 n3 m1 m2 m3 h1
    go_enter Tryd.func36, Tryd.ntmps36
    go_wp2_with (go_at_call 69; refine (K1.out _).mono ?_; rintro e w2 ⟨rfl, rfl⟩)
    go_ret
    exact ⟨-1, rfl, by omega, by omega, by omega, (by repeat' (first | (with_reducible exact Below.refl _ _) | (with_reducible assumption) | (with_reducible refine below_drewN ?_ _) | (with_reducible refine Below.drew ?_) | (with_reducible refine below_new ?_ _) | (with_reducible refine below_next ?_ (by with_reducible assumption)) | (with_reducible refine Below.setCell ?_ ?_ _) | go_size))⟩
  rw [szn_yes h1] at K1
  have p1 : 0 ≤ l - (vs.length : Int) := by omega
  have q1 : l - (vs.length : Int) ≤ 1048576 := by omega
  have r1 : vs.length ≤ 1048576 := by omega
  have d1 : decide (l - (vs.length : Int) < 0) = false := by simp; omega
  generalize l - (vs.length : Int) = x at *
  have K2 := Lib.hid fun W => szI16s_any na ns.length nc x n2 p1 q1 W
  by_cases h2 : x - (ns.length : Int) < 0
  · rw [szn_no h2] at K2
    clear n1 n2 n3 m1 m2 m3 h1 h2 r1
    go_enter Tryd.func36, Tryd.ntmps36
    go_wp2_with (first | (go_at_call 69; refine (K1.out _).mono ?_; rintro e w2 ⟨rfl, rfl⟩) | (go_at_call 70; refine (K2.out _).mono ?_; rintro e w2 ⟨rfl, rfl⟩))
    go_ret
    exact ⟨-1, rfl, by omega, by omega, by omega, (by repeat' (first | (with_reducible exact Below.refl _ _) | (with_reducible assumption) | (with_reducible refine below_drewN ?_ _) | (with_reducible refine Below.drew ?_) | (with_reducible refine below_new ?_ _) | (with_reducible refine below_next ?_ (by with_reducible assumption)) | (with_reducible refine Below.setCell ?_ ?_ _) | go_size))⟩
  rw [szn_yes h2] at K2
  have p2 : 0 ≤ x - (ns.length : Int) := by omega
  have q2 : x - (ns.length : Int) ≤ 1048576 := by omega
  have r2 : ns.length ≤ 1048576 := by omega
  have d2 : decide (x - (ns.length : Int) < 0) = false := by simp; omega
  generalize x - (ns.length : Int) = y at *
  have K3 := Lib.hid fun W => szInts_any ca cs.length cc y n3 p2 q2 W
  have tok1 : True := trivial
  by_cases h3 : y - (cs.length : Int) < 0
  · rw [szn_no h3] at K3
    clear n1 n2 n3 m1 m2 m3 h1 h2 h3 r1 r2
    go_enter Tryd.func36, Tryd.ntmps36
    go_wp2_with (first | (go_at_call 69; have _t := tok1; clear _t tok1; refine (K1.out _).mono ?_; rintro e w2 ⟨rfl, rfl⟩) | (go_at_call 70; refine (K2.out _).mono ?_; rintro e w2 ⟨rfl, rfl⟩) | (go_at_call 69; refine (K3.out _).mono ?_; rintro e w2 ⟨rfl, rfl⟩))
    go_ret
    exact ⟨-1, rfl, by omega, by omega, by omega, (by repeat' (first | (with_reducible exact Below.refl _ _) | (with_reducible assumption) | (with_reducible refine below_drewN ?_ _) | (with_reducible refine Below.drew ?_) | (with_reducible refine below_new ?_ _) | (with_reducible refine below_next ?_ (by with_reducible assumption)) | (with_reducible refine Below.setCell ?_ ?_ _) | go_size))⟩
  rw [szn_yes h3] at K3
  have p3 : 0 ≤ y - (cs.length : Int) := by omega
  have q3 : y - (cs.length : Int) ≤ 1048576 := by omega
  have r3 : cs.length ≤ 1048576 := by omega
  have d3 : decide (y - (cs.length : Int) < 0) = false := by simp; omega
  generalize y - (cs.length : Int) = z at *
  have R := Lib.hid (And.intro r1 (And.intro r2 r3))
  clear n1 n2 n3 m1 m2 m3 h1 h2 h3 r1 r2 r3
  go_enter Tryd.func36, Tryd.ntmps36
  go_wp2_with (first | (go_at_call 69; have _t := tok1; clear _t tok1; refine (K1.out _).mono ?_; rintro e w2 ⟨rfl, rfl⟩) | (go_at_call 70; refine (K2.out _).mono ?_; rintro e w2 ⟨rfl, rfl⟩) | (go_at_call 69; refine (K3.out _).mono ?_; rintro e w2 ⟨rfl, rfl⟩))
  go_ret
  exact ⟨z, rfl, by omega, by omega, fun _ => R.out, (by repeat' (first | (with_reducible exact Below.refl _ _) | (with_reducible assumption) | (with_reducible refine below_drewN ?_ _) | (with_reducible refine Below.drew ?_) | (with_reducible refine below_new ?_ _) | (with_reducible refine below_next ?_ (by with_reducible assumption)) | (with_reducible refine Below.setCell ?_ ?_ _) | go_size))⟩

/-- What a measuring leaves: no more than there was, and no more knots than it. -/
def KsSmall (ks : List Kn) : Prop := ks.length ≤ 1048576 ∧ ∀ i, i < ks.length → KnSmall (knAt ks i)
def SzKs (ks : List Kn) (w : World) (e : Ending) (w' : World) : Prop := ∃ z : Int, e = .returned (.int .i64 z) ∧ -1 ≤ z ∧ z ≤ 1048576 ∧ (0 ≤ z → KsSmall ks) ∧ Below w.heap.size w w'
def SmTo (ks : List Kn) (n : Nat) : Prop := ∀ i, i < n → KnSmall (knAt ks i)
theorem smTo_next {ks : List Kn} {n : Nat} (h : SmTo ks n) (k : KnSmall (knAt ks n)) : SmTo ks (n + 1) := fun i hi => by
  by_cases e : i = n
  · subst e; exact k
  · exact h i (by omega)

set_option maxHeartbeats 1600000 in
theorem szKnotS_any (ad : Option Addr) (ks : List Kn) (c : Nat) (l : Int) (w : World) (hc : KnotsIn w ad ks) (l0 : 0 ≤ l) (l1 : l ≤ 1048576) (hn : ks.length ≤ 9223372036854775807) :
    Calls Tryd.prog 9 #[.slice ad ks.length c, .int .i64 l] w (SzKs ks w) := by
  have C := Lib.hid hc
  clear hc
  have d1 : IntKind.i64.wrap (l - (ks.length : Int)) = l - (ks.length : Int) := IntWalk.i64_in _ (by omega)
  have HN := Lib.hid hn
  clear hn
  by_cases h : l - (ks.length : Int) < 0
  · have d2 : decide (l - (ks.length : Int) < 0) = true := by simp; omega
    go_enter Tryd.func9, Tryd.ntmps9
    go_wp2
    go_ret
    exact ⟨-1, rfl, by omega, by omega, by omega, (by repeat' (first | (with_reducible exact Below.refl _ _) | (with_reducible assumption) | (with_reducible refine below_drewN ?_ _) | (with_reducible refine Below.drew ?_) | (with_reducible refine below_new ?_ _) | (with_reducible refine below_next ?_ (by with_reducible assumption)) | (with_reducible refine Below.setCell ?_ ?_ _) | go_size))⟩
  · have d2 : decide (l - (ks.length : Int) < 0) = false := by simp; omega
    have hk : ks.length ≤ 1048576 := by omega
    go_enter Tryd.func9, Tryd.ntmps9
    go_wp2
    go_loopw [1, 5] (fun q i wr => ∃ (j : Nat) (m : Int), j ≤ ks.length ∧ i = .int .i64 j ∧ q = .int .i64 m ∧ 0 ≤ m ∧ m ≤ 1048576 ∧ SmTo ks j ∧ Below w.heap.size w wr) (fun _ i _ => ks.length - (intOf i).toNat)
    case atStart => exact ⟨0, _, Nat.zero_le _, rfl, rfl, by omega, by omega, fun i hi => absurd hi (Nat.not_lt_zero _), Below.refl _ _⟩
    case round =>
      obtain ⟨j, m, hj, rfl, rfl, m0, m1, hs, hB⟩ := hrel
      have BB := Lib.hid hB
      have SS := Lib.hid hs
      clear d1 d2 hs
      by_cases hjl : j < ks.length
      · have hd : decide ((j : Int) < (ks.length : Int)) = true := by simpa using hjl
        obtain ⟨b1, o1, rfl, hkn⟩ := C.out j hjl
        obtain ⟨hft, va, vc, na, nc, ca, cc, hb1, q0, q1, q2, q3, _⟩ := knAt_below hkn hB
        have i1 : (0 : Int) ≤ (j : Int) := by omega
        have i2 : (j : Int) < (ks.length : Int) := by omega
        have nx : Hid (KnSmall (knAt ks j) → SmTo ks (j + 1)) := Lib.hid fun h => smTo_next SS.out h
        generalize knAt ks j = x at *
        have K := Lib.hid fun W => szKnot_any x va na ca vc nc cc m hft m0 m1 W
        obtain ⟨f, vs, ns, cs⟩ := x
        simp only at q0 q1 q2 q3 K
        clear hB hkn hft
        go_upto_region 8 with (go_at_call 36; refine (K.out _).mono ?_; rintro e w2 ⟨z, rfl, z0, z1, z2, hB2⟩; have B2 := Lib.hid hB2; have Z2 := Lib.hid z2; clear hB2 z2)
        by_cases hz : z < 0
        · have d3 : decide (z < 0) = true := decide_eq_true hz
          go_wp2
          go_ret
          exact ⟨-1, rfl, by omega, by omega, by omega, below_next BB.out B2.out⟩
        · have d3 : decide (z < 0) = false := decide_eq_false hz
          have y0 : 0 ≤ z := by omega
          have S3 := Lib.hid (nx.out (Z2.out y0))
          go_wp2
          exact ⟨⟨j + 1, z, hjl, by rw [Int.natCast_succ], rfl, y0, z1, S3.out, below_next BB.out B2.out⟩, by (simp [intOf]) <;> omega⟩
      · have e : j = ks.length := by omega
        subst e
        have hd : decide ((ks.length : Int) < (ks.length : Int)) = false := by simp
        clear hB
        go_wp2
        go_ret
        exact ⟨m, rfl, by omega, m1, fun _ => ⟨hk, SS.out⟩, BB.out⟩
end Go.Proofs.YtppjmngnjdeigaaDoor
