/- Contracts: all that an entry means: the closures. -/
import Derived.Test.YtcbcggnpbjcdfaaDoorLeadsI
namespace Go.Proofs.YtcbcggnpbjcdfaaDoor
open Go.ChangeShapes Go.WideShapes Go.ChangeAt Go.RowKit

noncomputable def expF (cs : List Et) (p : Int) (i : Nat) : Bool := leads cs (firstE cs i) p
theorem exp11_any (ad : Option Addr) (cs : List Et) (c i : Nat) (hi : i < cs.length) (hz : catOk cs = true) (s : ByteArray) (a b p : Int) (g k : Nat) (w : World) (hE : EntsIn w ad cs) (hg : w.cell? ⟨g, 0, none⟩ = some (.slice ad cs.length c)) (hk : w.cell? ⟨k, 0, none⟩ = some (.int .i64 p)) :
    Calls Tryd.prog 76 #[.int .i64 i, .agg #[.string s, .int .i64 a, .int .i64 b], .pointer (some ⟨g, 0, none⟩), .pointer (some ⟨k, 0, none⟩)] w fun e w' => e = .returned (.bool (expF cs p i)) ∧ Below w.heap.size w w' := by
  have b1 := Lib.hid (below_new (Below.refl w.heap.size w) (.cells #[.string s, .int .i64 a, .int .i64 b] 49))
  have g1 : (w.alloc (.cells #[.string s, .int .i64 a, .int .i64 b] 49)).cell? ⟨g, 0, none⟩ = some (.slice ad cs.length c) := (b1.out.cell (p := ⟨g, 0, none⟩) (cell_lt hg)).trans hg
  have k1 : (w.alloc (.cells #[.string s, .int .i64 a, .int .i64 b] 49)).cell? ⟨k, 0, none⟩ = some (.int .i64 p) := (b1.out.cell (p := ⟨k, 0, none⟩) (cell_lt hk)).trans hk
  have L := Lib.hid (leadsTo_any ad cs c i hi p hz _ (entsIn_below hE b1.out))
  unfold expF
  clear hE hz
  go_enter Tryd.func76, Tryd.ntmps76
  go_wp2_with (go_at_call 71; refine L.out.mono ?_; rintro e w2 ⟨rfl, hB⟩; have b2 := Lib.hid (b1.out.trans (hB.mono b1.out.size)); clear hB)
  go_returns
  exact ⟨rfl, b2.out⟩
set_option maxHeartbeats 1600000 in
theorem expandEntry1_ok (ad : Option Addr) (cs : List Et) (c j : Nat) (hj : j < cs.length) (hz : catOk cs = true) (g : Nat) (w : World) (hc : EntsIn w ad cs) (_hlt : g < w.heap.size) (hg : w.cell? ⟨g, 0, none⟩ = some (.int .i64 j)) :
    Calls Tryd.prog 75 #[.slice ad cs.length c, .pointer (some ⟨g, 0, none⟩)] w fun e w' => ∃ v, e = .returned (.tuple #[v, .int .i64 0]) ∧ OwnInts w.heap.size (pick (expF cs (firstE cs j)) cs.length) v w' ∧ Below w.heap.size w w' := by
  have hmf : ∀ (fn : Fn) (first cap : Array Value) (w : World), (Instr.makeFunc fn first cap).run Tryd.prog w = .ok (.func fn first cap) w := fun _ _ _ _ => rfl
  have hn := (cat_parts hz).1
  have b0 := Lib.hid (below_new (Below.refl w.heap.size w) (.cells #[.slice ad cs.length c] 57))
  have g0 : (w.alloc (.cells #[.slice ad cs.length c] 57)).cell? ⟨g, 0, none⟩ = some (.int .i64 j) := (b0.out.cell (p := ⟨g, 0, none⟩) (cell_lt hg)).trans hg
  have P := Lib.hid (preferred_any ad cs c j hj _ (entsIn_below hc b0.out) (by omega))
  have C := Lib.hid hc
  generalize firstE cs j = p at *
  have V := Lib.hid fun (W : World) (k : Nat) (hE : EntsIn W ad cs) (hk : W.cell? ⟨k, 0, none⟩ = some (.int .i64 p)) (hq : W.cell? ⟨w.heap.size, 0, none⟩ = some (.slice ad cs.length c)) => indicesOf_any ad cs c 76 #[.pointer (some ⟨w.heap.size, 0, none⟩), .pointer (some ⟨k, 0, none⟩)] (expF cs p) W hE hn (enters_of Tryd.func76 (by kernel_rfl) rfl)
    (fun i hi W2 hB hE2 => exp11_any ad cs c i hi hz (etAt cs i).s (etAt cs i).a (etAt cs i).b p w.heap.size k W2 hE2 ((hB.cell (p := ⟨w.heap.size, 0, none⟩) (cell_lt hq)).trans hq) ((hB.cell (p := ⟨k, 0, none⟩) (cell_lt hk)).trans hk))
  clear hc hz
  go_enter Tryd.func75, Tryd.ntmps75
  go_wp2_with (first
    | (go_at_call 60; go_loud (refine P.out.mono ?_; rintro e w1 ⟨rfl, hB⟩; have s1 : w.heap.size < w1.heap.size := Nat.lt_of_lt_of_le (by simp) hB.size; have k0 : w1.cell? ⟨w.heap.size, 0, none⟩ = some (.slice ad cs.length c) := (hB.cell (p := ⟨w.heap.size, 0, none⟩) (by simp)).trans (by simp); have k1 := ((below_new (Below.refl w1.heap.size w1) (.cells #[.int .i64 p] 2)).cell (p := ⟨w.heap.size, 0, none⟩) s1).trans k0; have b1 := Lib.hid (below_new (b0.out.trans (hB.mono b0.out.size)) (.cells #[.int .i64 p] 2)); have E1 := Lib.hid (entsIn_below C.out b1.out); clear hB))
    | (go_at_call 68; go_loud (refine (V.out _ _ E1.out (by simp) k1).mono ?_; rintro e w2 ⟨v, rfl, hO, hB⟩; have O2 := Lib.hid (ownI_mono hO (by have := b1.out.size; omega)); have b2 := Lib.hid (b1.out.trans (hB.mono b1.out.size)); clear hB hO)))
  go_returns
  exact ⟨_, rfl, O2.out, b2.out⟩
theorem expandEntry1_missing (ad : Option Addr) (n c : Nat) (x : Int) (hx : hasX n x = false) (g : Nat) (w : World) (hg : w.cell? ⟨g, 0, none⟩ = some (.int .i64 x)) :
    Calls Tryd.prog 75 #[.slice ad n c, .pointer (some ⟨g, 0, none⟩)] w fun e w' => e = Missing x ∧ Below w.heap.size w w' := by
  have b0 := Lib.hid (below_new (Below.refl w.heap.size w) (.cells #[.slice ad n c] 57))
  have g0 : (w.alloc (.cells #[.slice ad n c] 57)).cell? ⟨g, 0, none⟩ = some (.int .i64 x) := (b0.out.cell (p := ⟨g, 0, none⟩) (cell_lt hg)).trans hg
  have P := Lib.hid (preferred_missing ad n c x hx (w.alloc (.cells #[.slice ad n c] 57)))
  unfold Missing at P
  clear hx
  go_enter Tryd.func75, Tryd.ntmps75
  go_wp2_with (go_at_call 60; refine P.out.mono ?_; rintro e w1 ⟨rfl, hB⟩; have b1 := Lib.hid (b0.out.trans (hB.mono b0.out.size)); clear hB)
  exact ⟨rfl, rfl, b1.out⟩
end Go.Proofs.YtcbcggnpbjcdfaaDoor
