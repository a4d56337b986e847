/- Contracts: all that is narrower: the closures, and the model's test. -/
import Derived.Test.YtcbcggnpbjcdfaaDoorLeadsI
namespace Go.Proofs.YtcbcggnpbjcdfaaDoor
open Go.ChangeShapes Go.WideShapes Go.ChangeAt Go.RowKit

noncomputable def narF (cs : List Et) (p : Int) (i : Nat) : Bool := ((etAt cs i).a == -1 && ((i : Int) != p)) && leads cs (firstE cs i) p
set_option maxHeartbeats 1600000 in
theorem nar11_any (ad : Option Addr) (cs : List Et) (c i : Nat) (hi : i < cs.length) (hz : catOk cs = true) (s : ByteArray) (a b p : Int) (ha : (etAt cs i).a = a) (g k : Nat) (w : World) (hE : EntsIn w ad cs) (hg : w.cell? ⟨g, 0, none⟩ = some (.slice ad cs.length c)) (hk : w.cell? ⟨k, 0, none⟩ = some (.int .i64 p)) :
    Calls Tryd.prog 69 #[.int .i64 i, .agg #[.string s, .int .i64 a, .int .i64 b], .pointer (some ⟨k, 0, none⟩), .pointer (some ⟨g, 0, none⟩)] w fun e w' => e = .returned (.bool (narF cs p i)) ∧ Below w.heap.size w w' := by
  have b1 := Lib.hid (below_new (Below.refl w.heap.size w) (.cells #[.string s, .int .i64 a, .int .i64 b] 49))
  have gl := Nat.lt_of_lt_of_le (cell_lt hg) b1.out.size
  have kl := Nat.lt_of_lt_of_le (cell_lt hk) b1.out.size
  have g1 : (w.alloc (.cells #[.string s, .int .i64 a, .int .i64 b] 49)).cell? ⟨g, 0, none⟩ = some (.slice ad cs.length c) := (b1.out.cell (p := ⟨g, 0, none⟩) (cell_lt hg)).trans hg
  have k1 : (w.alloc (.cells #[.string s, .int .i64 a, .int .i64 b] 49)).cell? ⟨k, 0, none⟩ = some (.int .i64 p) := (b1.out.cell (p := ⟨k, 0, none⟩) (cell_lt hk)).trans hk
  have E1 := Lib.hid (entsIn_below hE b1.out)
  have LT := Lib.hid (fun W h => leadsTo_any ad cs c i hi p hz W h)
  have K := fun W => isPref_any s a b W
  unfold narF
  rw [ha]
  clear hE hz
  cases q1 : (a == -1)
  · rw [q1] at K
    have K := Lib.hid K
    clear q1 ha
    go_enter Tryd.func69, Tryd.ntmps69
    go_wp2_with (go_at_call 70; refine (K.out _).mono ?_; rintro e w2 ⟨rfl, hB⟩; have b2 := Lib.hid (b1.out.trans (hB.mono b1.out.size)); clear hB)
    go_returns
    exact ⟨rfl, b2.out⟩
  · rw [q1] at K
    have K := Lib.hid K
    clear q1 ha
    cases q2 : ((i : Int) != p)
    · go_enter Tryd.func69, Tryd.ntmps69
      go_wp2_with (go_at_call 70; refine (K.out _).mono ?_; rintro e w2 ⟨rfl, hB⟩; have b2 := Lib.hid (b1.out.trans (hB.mono b1.out.size)); have k2 := (hB.cell (p := ⟨k, 0, none⟩) kl).trans k1; clear hB)
      go_returns
      exact ⟨rfl, b2.out⟩
    · go_enter Tryd.func69, Tryd.ntmps69
      go_wp2_with (first
        | (go_at_call 70; refine (K.out _).mono ?_; rintro e w2 ⟨rfl, hB⟩; have b2 := Lib.hid (b1.out.trans (hB.mono b1.out.size)); have k2 := (hB.cell (p := ⟨k, 0, none⟩) kl).trans k1; have g2 := (hB.cell (p := ⟨g, 0, none⟩) gl).trans g1; have E2 := Lib.hid (entsIn_below E1.out hB); clear hB)
        | (go_at_call 71; refine (LT.out _ E2.out).mono ?_; rintro e w3 ⟨rfl, hB⟩; have b3 := Lib.hid (b2.out.trans (hB.mono b2.out.size)); clear hB))
      go_returns
      exact ⟨rfl, b3.out⟩
set_option maxHeartbeats 1600000 in
theorem narrowerOf1_ok (ad : Option Addr) (cs : List Et) (c j : Nat) (hj : j < cs.length) (hz : catOk cs = true) (g : Nat) (w : World) (hc : EntsIn w ad cs) (_hlt : g < w.heap.size) (hg : w.cell? ⟨g, 0, none⟩ = some (.int .i64 j)) :
    Calls Tryd.prog 67 #[.slice ad cs.length c, .pointer (some ⟨g, 0, none⟩)] w fun e w' => ∃ v, e = .returned (.tuple #[v, .int .i64 0]) ∧ OwnInts w.heap.size (pick (narF cs (firstE cs j)) cs.length) v w' ∧ Below w.heap.size w w' := by
  have hmf : ∀ (fn : Fn) (first cap : Array Value) (w : World), (Instr.makeFunc fn first cap).run Tryd.prog w = .ok (.func fn first cap) w := fun _ _ _ _ => rfl
  have hn := (cat_parts hz).1
  have b0 := Lib.hid (below_new (Below.refl w.heap.size w) (.cells #[.slice ad cs.length c] 57))
  have g0 : (w.alloc (.cells #[.slice ad cs.length c] 57)).cell? ⟨g, 0, none⟩ = some (.int .i64 j) := (b0.out.cell (p := ⟨g, 0, none⟩) (cell_lt hg)).trans hg
  have P := Lib.hid (preferred_any ad cs c j hj _ (entsIn_below hc b0.out) (by omega))
  have C := Lib.hid hc
  generalize firstE cs j = p at *
  have V := Lib.hid fun (W : World) (k : Nat) (hE : EntsIn W ad cs) (hk : W.cell? ⟨k, 0, none⟩ = some (.int .i64 p)) (hq : W.cell? ⟨w.heap.size, 0, none⟩ = some (.slice ad cs.length c)) => indicesOf_any ad cs c 69 #[.pointer (some ⟨k, 0, none⟩), .pointer (some ⟨w.heap.size, 0, none⟩)] (narF cs p) W hE hn (enters_of Tryd.func69 (by kernel_rfl) rfl)
    (fun i hi W2 hB hE2 => nar11_any ad cs c i hi hz (etAt cs i).s (etAt cs i).a (etAt cs i).b p rfl w.heap.size k W2 hE2 ((hB.cell (p := ⟨w.heap.size, 0, none⟩) (cell_lt hq)).trans hq) ((hB.cell (p := ⟨k, 0, none⟩) (cell_lt hk)).trans hk))
  clear hc hz
  go_enter Tryd.func67, Tryd.ntmps67
  go_wp2_with (first
    | (go_at_call 60; go_loud (refine P.out.mono ?_; rintro e w1 ⟨rfl, hB⟩; have s1 : w.heap.size < w1.heap.size := Nat.lt_of_lt_of_le (by simp) hB.size; have k0 : w1.cell? ⟨w.heap.size, 0, none⟩ = some (.slice ad cs.length c) := (hB.cell (p := ⟨w.heap.size, 0, none⟩) (by simp)).trans (by simp); have k1 := ((below_new (Below.refl w1.heap.size w1) (.cells #[.int .i64 p] 2)).cell (p := ⟨w.heap.size, 0, none⟩) s1).trans k0; have b1 := Lib.hid (below_new (b0.out.trans (hB.mono b0.out.size)) (.cells #[.int .i64 p] 2)); have E1 := Lib.hid (entsIn_below C.out b1.out); clear hB))
    | (go_at_call 68; go_loud (refine (V.out _ _ E1.out (by simp) k1).mono ?_; rintro e w2 ⟨v, rfl, hO, hB⟩; have O2 := Lib.hid (ownI_mono hO (by have := b1.out.size; omega)); have b2 := Lib.hid (b1.out.trans (hB.mono b1.out.size)); clear hB hO)))
  go_returns
  exact ⟨_, rfl, O2.out, b2.out⟩
theorem narrowerOf1_missing (ad : Option Addr) (n c : Nat) (x : Int) (hx : hasX n x = false) (g : Nat) (w : World) (hg : w.cell? ⟨g, 0, none⟩ = some (.int .i64 x)) :
    Calls Tryd.prog 67 #[.slice ad n c, .pointer (some ⟨g, 0, none⟩)] w fun e w' => e = Missing x ∧ Below w.heap.size w w' := by
  have b0 := Lib.hid (below_new (Below.refl w.heap.size w) (.cells #[.slice ad n c] 57))
  have g0 : (w.alloc (.cells #[.slice ad n c] 57)).cell? ⟨g, 0, none⟩ = some (.int .i64 x) := (b0.out.cell (p := ⟨g, 0, none⟩) (cell_lt hg)).trans hg
  have P := Lib.hid (preferred_missing ad n c x hx (w.alloc (.cells #[.slice ad n c] 57)))
  unfold Missing at P
  clear hx
  go_enter Tryd.func67, Tryd.ntmps67
  go_wp2_with (go_at_call 60; refine P.out.mono ?_; rintro e w1 ⟨rfl, hB⟩; have b1 := Lib.hid (b0.out.trans (hB.mono b0.out.size)); clear hB)
  exact ⟨rfl, rfl, b1.out⟩

set_option maxHeartbeats 1600000 in
theorem sBelow_any (ad : Option Addr) (cs : List Et) (c j : Nat) (hj : j < cs.length) (hz : catOk cs = true) (p : Int) (w : World) (hc : EntsIn w ad cs) :
    Calls Tryd.prog 66 #[.slice ad cs.length c, .int .i64 j, .int .i64 p] w fun e w' => e = .returned (.bool (narF cs p j)) ∧ Below w.heap.size w w' := by
  have C := Lib.hid hc
  have SP := Lib.hid (sPath_any ad cs c j hj hz w hc)
  have PL : plen cs (firstE cs j) ≤ 40 := Nat.le_trans (plen_le (end_of hz hj)) (cat_parts hz).1
  obtain ⟨_, b1, o1, rfl, hb1, p0, p1, p2⟩ := hc j hj
  have i1 : (0 : Int) ≤ (j : Int) := by omega
  have i2 : (j : Int) < (cs.length : Int) := by omega
  unfold narF leads
  clear hz p0 p2 hc
  cases q1 : ((etAt cs j).a == -1)
  · go_enter Tryd.func66, Tryd.ntmps66
    go_wp2
    go_returns
    exact ⟨rfl, Below.refl _ _⟩
  · cases q2 : ((j : Int) != p)
    · go_enter Tryd.func66, Tryd.ntmps66
      go_wp2
      go_returns
      exact ⟨rfl, Below.refl _ _⟩
    · go_enter Tryd.func66, Tryd.ntmps66
      go_wp2_with (first
        | (go_at_call 61; refine SP.out.mono ?_; rintro e w3 ⟨v3, rfl, hO3, hB3⟩; obtain ⟨a3, c3, rfl, hi3⟩ := ownInts_in hO3; have I3 := Lib.hid hi3; have B3 := Lib.hid hB3; clear hO3 hi3 hB3)
        | (go_at_call 74; refine (sIn_any _ _ c3 p w3 I3.out (by rw [segI_len]; omega)).mono ?_; rintro e w4 ⟨rfl, hB4⟩; have B4 := Lib.hid (B3.out.trans (hB4.mono B3.out.size)); clear hB4))
      go_returns
      exact ⟨rfl, B4.out⟩
end Go.Proofs.YtcbcggnpbjcdfaaDoor
