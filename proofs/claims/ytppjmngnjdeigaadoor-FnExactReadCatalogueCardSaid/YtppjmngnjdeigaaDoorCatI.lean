/- Contracts: the program's small functions on catalogues. -/
import Derived.Test.YtppjmngnjdeigaaDoorCat
import Derived.Test.YtppjmngnjdeigaaDoorEnt3
import Derived.Deep.DeepCutAuto
namespace Go.Proofs.YtppjmngnjdeigaaDoor
open Go.ChangeShapes Go.WideShapes Go.ChangeAt Go.RowKit

def etVal (e : Et) : Value := .agg #[.string e.s, .int .i64 e.a, .int .i64 e.b]
def hasX (n : Nat) (x : Int) : Bool := decide (0 ≤ x) && decide (x < n)
theorem hasX_yes {n : Nat} {x : Int} (h : hasX n x = true) : 0 ≤ x ∧ x < n := by unfold hasX at h; simpa using h
theorem has_any (ad : Option Addr) (n c : Nat) (x : Int) (w : World) :
    Calls Tryd.prog 151 #[.slice ad n c, .int .i64 x] w fun e w' => e = .returned (.bool (hasX n x)) ∧ Below w.heap.size w w' := by
  unfold hasX
  by_cases h1 : 0 ≤ x
  · have d1 : decide (0 ≤ x) = true := decide_eq_true h1
    by_cases h2 : x < n
    · have d2 : decide (x < (n : Int)) = true := decide_eq_true h2
      go_enter Tryd.func151, Tryd.ntmps151
      go_wp2
      go_returns
      exact ⟨by rw [d1, d2]; rfl, Below.refl _ _⟩
    · have d2 : decide (x < (n : Int)) = false := decide_eq_false h2
      go_enter Tryd.func151, Tryd.ntmps151
      go_wp2
      go_returns
      exact ⟨rfl, Below.refl _ _⟩
  · have d1 : decide (0 ≤ x) = false := decide_eq_false h1
    go_enter Tryd.func151, Tryd.ntmps151
    go_wp2
    go_returns
    exact ⟨rfl, Below.refl _ _⟩

theorem isPref_any (s : ByteArray) (a b : Int) (w : World) :
    Calls Tryd.prog 137 #[.agg #[.string s, .int .i64 a, .int .i64 b]] w fun e w' => e = .returned (.bool (a == -1)) ∧ Below w.heap.size w w' := by
  go_enter Tryd.func137, Tryd.ntmps137
  go_wp2
  go_returns
  exact ⟨rfl, (by repeat' (first | (with_reducible exact Below.refl _ _) | (with_reducible assumption) | (with_reducible refine below_drewN ?_ _) | (with_reducible refine Below.drew ?_) | (with_reducible refine below_new ?_ _) | (with_reducible refine below_next ?_ (by with_reducible assumption)) | (with_reducible refine Below.setCell ?_ ?_ _) | go_size))⟩

def tgt (cs : List Et) (x : Int) : Bool := x == -1 || pref cs x
set_option maxHeartbeats 1600000 in
theorem isTarget_any (ad : Option Addr) (cs : List Et) (c : Nat) (x : Int) (w : World) (hc : EntsIn w ad cs) (_hn : cs.length ≤ 9223372036854775807) :
    Calls Tryd.prog 136 #[.slice ad cs.length c, .int .i64 x] w fun e w' => e = .returned (.bool (tgt cs x)) ∧ Below w.heap.size w w' := by
  have C := Lib.hid hc
  have H := fun W => has_any ad cs.length c x W
  clear hc
  unfold tgt
  by_cases h1 : x = -1
  · subst h1
    clear H
    go_enter Tryd.func136, Tryd.ntmps136
    go_wp2
    go_returns
    exact ⟨rfl, Below.refl _ _⟩
  · have d1 : (x == -1) = false := by simpa using h1
    have nx : Hid (∀ y, pref cs x = y → (x == -1 || pref cs x) = y) := Lib.hid fun y h => by rw [d1, h]; rfl
    cases h2 : hasX cs.length x
    · rw [h2] at H
      have H := Lib.hid H
      have e := Lib.hid (nx.out false (by unfold pref; unfold hasX at h2; rw [h2]; rfl))
      clear h2 nx h1
      go_enter Tryd.func136, Tryd.ntmps136
      go_wp2_with (go_at_call 151; refine (H.out _).mono ?_; rintro e w1 ⟨rfl, hB⟩; have B1 := Lib.hid hB; clear hB)
      go_returns
      exact ⟨by rw [e.out]; rfl, B1.out⟩
    · rw [h2] at H
      have H := Lib.hid H
      obtain ⟨q1, q2⟩ := hasX_yes h2
      have hj : x.toNat < cs.length := by omega
      have ex : ((x.toNat : Nat) : Int) = x := by omega
      obtain ⟨_, b1, o1, rfl, hb1, p0, p1, p2⟩ := C.out x.toNat hj
      have e := Lib.hid (nx.out _ (by unfold pref; unfold hasX at h2; rw [h2, Bool.true_and]))
      have K := Lib.hid fun W => isPref_any (etAt cs x.toNat).s (etAt cs x.toNat).a (etAt cs x.toNat).b W
      clear h2 nx h1
      go_enter Tryd.func136, Tryd.ntmps136
      go_wp2_with (first
        | (go_at_call 151; refine (H.out _).mono ?_; rintro e w1 ⟨rfl, hB⟩; have B1 := Lib.hid hB; have d0 := (hB.cell (p := ⟨b1, o1 + x.toNat * 3, none⟩) hb1).trans p0; have d1 := (hB.cell (p := ⟨b1, o1 + x.toNat * 3 + 1, none⟩) hb1).trans p1; have d2 := (hB.cell (p := ⟨b1, o1 + x.toNat * 3 + 2, none⟩) hb1).trans p2; clear hB)
        | (go_at_call 137; refine (K.out _).mono ?_; rintro e w2 ⟨rfl, hB⟩; have B2 := Lib.hid (B1.out.trans (hB.mono B1.out.size)); clear hB))
      go_returns
      exact ⟨by rw [e.out]; rfl, B2.out⟩

/-! ### May an entry stand in a catalogue -/
theorem entOk_is (cs : List Et) (s : ByteArray) (a b : Int) : entOk cs ⟨s, a, b⟩ = ((tgt cs a && tgt cs b) && (a == -1 || b == -1)) := rfl
set_option maxHeartbeats 1600000 in
theorem mayHave_any (ad : Option Addr) (cs : List Et) (c : Nat) (s : ByteArray) (a b : Int) (w : World) (hc : EntsIn w ad cs) (hn : cs.length ≤ 9223372036854775807) :
    Calls Tryd.prog 111 #[.slice ad cs.length c, .agg #[.string s, .int .i64 a, .int .i64 b]] w fun e w' => e = .returned (.bool (entOk cs ⟨s, a, b⟩)) ∧ Below w.heap.size w w' := by
  rw [entOk_is]
  have b0 := Lib.hid (below_new (Below.refl w.heap.size w) (.cells #[.string s, .int .i64 a, .int .i64 b] 81))
  have c0 := Lib.hid (entsIn_below hc b0.out)
  have T := fun x W (h : EntsIn W ad cs) => isTarget_any ad cs c x W h hn
  have K := Lib.hid fun W => isPref_any s a b W
  clear hc hn
  have tok1 : True := trivial
  have tok2 : True := trivial
  have T1 := T a
  have T2 := T b
  clear T
  generalize tgt cs b = q2 at *
  generalize tgt cs a = q1 at *
  cases q1
  · have T1 := Lib.hid T1
    go_enter Tryd.func111, Tryd.ntmps111
    go_wp2_with (go_at_call 136; have _t := tok1; clear _t tok1; refine (T1.out _ c0.out).mono ?_; rintro e w1 ⟨rfl, hB⟩; have b1 := Lib.hid (b0.out.trans (Below.mono hB b0.out.size)); clear hB)
    go_returns
    exact ⟨rfl, b1.out⟩
  · have T1 := Lib.hid T1
    cases q2
    · have T2 := Lib.hid T2
      go_enter Tryd.func111, Tryd.ntmps111
      go_wp2_with (first
        | (go_at_call 136; have _t := tok1; clear _t tok1; refine (T1.out _ c0.out).mono ?_; rintro e w1 ⟨rfl, hB⟩; have b1 := Lib.hid (b0.out.trans (Below.mono hB b0.out.size)); have z1 := hB.size; simp at z1; have c1 := Lib.hid (entsIn_below c0.out hB); have k10 : w1.cell? ⟨w.heap.size, 0, none⟩ = some (.string s) := (hB.cell (p := ⟨w.heap.size, 0, none⟩) (by simp)).trans (by simp); have k11 : w1.cell? ⟨w.heap.size, 1, none⟩ = some (.int .i64 a) := (hB.cell (p := ⟨w.heap.size, 1, none⟩) (by simp)).trans (by simp); have k12 : w1.cell? ⟨w.heap.size, 2, none⟩ = some (.int .i64 b) := (hB.cell (p := ⟨w.heap.size, 2, none⟩) (by simp)).trans (by simp); clear hB)
        | (go_at_call 136; have _t := tok2; clear _t tok2; refine (T2.out _ c1.out).mono ?_; rintro e w2 ⟨rfl, hB⟩; have b2 := Lib.hid (b1.out.trans (Below.mono hB b1.out.size)); have k20 := (hB.cell (p := ⟨w.heap.size, 0, none⟩) (by simp; omega)).trans k10; have k21 := (hB.cell (p := ⟨w.heap.size, 1, none⟩) (by simp; omega)).trans k11; have k22 := (hB.cell (p := ⟨w.heap.size, 2, none⟩) (by simp; omega)).trans k12; have z2 := hB.size; clear hB))
      go_returns
      exact ⟨rfl, b2.out⟩
    · have T2 := Lib.hid T2
      cases ha : (a == -1)
      · rw [ha] at K
        cases hb : (b == -1)
        · go_enter Tryd.func111, Tryd.ntmps111
          go_wp2_with (first
            | (go_at_call 136; have _t := tok1; clear _t tok1; refine (T1.out _ c0.out).mono ?_; rintro e w1 ⟨rfl, hB⟩; have b1 := Lib.hid (b0.out.trans (Below.mono hB b0.out.size)); have z1 := hB.size; simp at z1; have c1 := Lib.hid (entsIn_below c0.out hB); have k10 : w1.cell? ⟨w.heap.size, 0, none⟩ = some (.string s) := (hB.cell (p := ⟨w.heap.size, 0, none⟩) (by simp)).trans (by simp); have k11 : w1.cell? ⟨w.heap.size, 1, none⟩ = some (.int .i64 a) := (hB.cell (p := ⟨w.heap.size, 1, none⟩) (by simp)).trans (by simp); have k12 : w1.cell? ⟨w.heap.size, 2, none⟩ = some (.int .i64 b) := (hB.cell (p := ⟨w.heap.size, 2, none⟩) (by simp)).trans (by simp); clear hB)
            | (go_at_call 136; have _t := tok2; clear _t tok2; refine (T2.out _ c1.out).mono ?_; rintro e w2 ⟨rfl, hB⟩; have b2 := Lib.hid (b1.out.trans (Below.mono hB b1.out.size)); have k20 := (hB.cell (p := ⟨w.heap.size, 0, none⟩) (by simp; omega)).trans k10; have k21 := (hB.cell (p := ⟨w.heap.size, 1, none⟩) (by simp; omega)).trans k11; have k22 := (hB.cell (p := ⟨w.heap.size, 2, none⟩) (by simp; omega)).trans k12; have z2 := hB.size; clear hB)
            | (go_at_call 137; refine (K.out _).mono ?_; rintro e w3 ⟨rfl, hB⟩; have b3 := Lib.hid (b2.out.trans (Below.mono hB b2.out.size)); have k32 := (hB.cell (p := ⟨w.heap.size, 2, none⟩) (by simp; omega)).trans k22; clear hB))
          go_returns
          exact ⟨rfl, b3.out⟩
        · go_enter Tryd.func111, Tryd.ntmps111
          go_wp2_with (first
            | (go_at_call 136; have _t := tok1; clear _t tok1; refine (T1.out _ c0.out).mono ?_; rintro e w1 ⟨rfl, hB⟩; have b1 := Lib.hid (b0.out.trans (Below.mono hB b0.out.size)); have z1 := hB.size; simp at z1; have c1 := Lib.hid (entsIn_below c0.out hB); have k10 : w1.cell? ⟨w.heap.size, 0, none⟩ = some (.string s) := (hB.cell (p := ⟨w.heap.size, 0, none⟩) (by simp)).trans (by simp); have k11 : w1.cell? ⟨w.heap.size, 1, none⟩ = some (.int .i64 a) := (hB.cell (p := ⟨w.heap.size, 1, none⟩) (by simp)).trans (by simp); have k12 : w1.cell? ⟨w.heap.size, 2, none⟩ = some (.int .i64 b) := (hB.cell (p := ⟨w.heap.size, 2, none⟩) (by simp)).trans (by simp); clear hB)
            | (go_at_call 136; have _t := tok2; clear _t tok2; refine (T2.out _ c1.out).mono ?_; rintro e w2 ⟨rfl, hB⟩; have b2 := Lib.hid (b1.out.trans (Below.mono hB b1.out.size)); have k20 := (hB.cell (p := ⟨w.heap.size, 0, none⟩) (by simp; omega)).trans k10; have k21 := (hB.cell (p := ⟨w.heap.size, 1, none⟩) (by simp; omega)).trans k11; have k22 := (hB.cell (p := ⟨w.heap.size, 2, none⟩) (by simp; omega)).trans k12; have z2 := hB.size; clear hB)
            | (go_at_call 137; refine (K.out _).mono ?_; rintro e w3 ⟨rfl, hB⟩; have b3 := Lib.hid (b2.out.trans (Below.mono hB b2.out.size)); have k32 := (hB.cell (p := ⟨w.heap.size, 2, none⟩) (by simp; omega)).trans k22; clear hB))
          go_returns
          exact ⟨rfl, b3.out⟩
      · rw [ha] at K
        go_enter Tryd.func111, Tryd.ntmps111
        go_wp2_with (first
          | (go_at_call 136; have _t := tok1; clear _t tok1; refine (T1.out _ c0.out).mono ?_; rintro e w1 ⟨rfl, hB⟩; have b1 := Lib.hid (b0.out.trans (Below.mono hB b0.out.size)); have z1 := hB.size; simp at z1; have c1 := Lib.hid (entsIn_below c0.out hB); have k10 : w1.cell? ⟨w.heap.size, 0, none⟩ = some (.string s) := (hB.cell (p := ⟨w.heap.size, 0, none⟩) (by simp)).trans (by simp); have k11 : w1.cell? ⟨w.heap.size, 1, none⟩ = some (.int .i64 a) := (hB.cell (p := ⟨w.heap.size, 1, none⟩) (by simp)).trans (by simp); have k12 : w1.cell? ⟨w.heap.size, 2, none⟩ = some (.int .i64 b) := (hB.cell (p := ⟨w.heap.size, 2, none⟩) (by simp)).trans (by simp); clear hB)
          | (go_at_call 136; have _t := tok2; clear _t tok2; refine (T2.out _ c1.out).mono ?_; rintro e w2 ⟨rfl, hB⟩; have b2 := Lib.hid (b1.out.trans (Below.mono hB b1.out.size)); have k20 := (hB.cell (p := ⟨w.heap.size, 0, none⟩) (by simp; omega)).trans k10; have k21 := (hB.cell (p := ⟨w.heap.size, 1, none⟩) (by simp; omega)).trans k11; have k22 := (hB.cell (p := ⟨w.heap.size, 2, none⟩) (by simp; omega)).trans k12; have z2 := hB.size; clear hB)
          | (go_at_call 137; refine (K.out _).mono ?_; rintro e w3 ⟨rfl, hB⟩; have b3 := Lib.hid (b2.out.trans (Below.mono hB b2.out.size)); have k32 := (hB.cell (p := ⟨w.heap.size, 2, none⟩) (by simp; omega)).trans k22; clear hB))
        go_returns
        exact ⟨rfl, b3.out⟩
end Go.Proofs.YtppjmngnjdeigaaDoor
