/- Contracts: synonyms: the closures. -/
import Derived.Test.YtcbcggnpbjcdfaaDoorPick
namespace Go.Proofs.YtcbcggnpbjcdfaaDoor
open Go.ChangeShapes Go.WideShapes Go.ChangeAt Go.RowKit

def synF (cs : List Et) (p : Int) (i : Nat) : Bool := (etAt cs i).a == p
theorem syn11_any (i : Int) (s : ByteArray) (a b m : Int) (g : Nat) (w : World) (lt : g < w.heap.size) (hg : w.cell? ⟨g, 0, none⟩ = some (.int .i64 m)) :
    Calls Tryd.prog 73 #[.int .i64 i, .agg #[.string s, .int .i64 a, .int .i64 b], .pointer (some ⟨g, 0, none⟩)] w fun e w' => e = .returned (.bool (a == m)) ∧ Below w.heap.size w w' := by
  have b1 := below_new (Below.refl w.heap.size w) (.cells #[.string s, .int .i64 a, .int .i64 b] 49)
  have g1 : (w.alloc (.cells #[.string s, .int .i64 a, .int .i64 b] 49)).cell? ⟨g, 0, none⟩ = some (.int .i64 m) := (b1.cell (p := ⟨g, 0, none⟩) lt).trans hg
  go_enter Tryd.func73, Tryd.ntmps73
  go_wp2
  go_returns
  exact ⟨rfl, b1⟩
set_option maxHeartbeats 1600000 in
theorem synonymsOf1_ok (ad : Option Addr) (cs : List Et) (c j : Nat) (hj : j < cs.length) (hz : catOk cs = true) (g : Nat) (w : World) (hc : EntsIn w ad cs) (_hlt : g < w.heap.size) (hg : w.cell? ⟨g, 0, none⟩ = some (.int .i64 j)) :
    Calls Tryd.prog 72 #[.slice ad cs.length c, .pointer (some ⟨g, 0, none⟩)] w fun e w' => ∃ v, e = .returned (.tuple #[v, .int .i64 0]) ∧ OwnInts w.heap.size (pick (synF cs (firstE cs j)) cs.length) v w' ∧ Below w.heap.size w w' := by
  have hmf : ∀ (fn : Fn) (first cap : Array Value) (w : World), (Instr.makeFunc fn first cap).run Tryd.prog w = .ok (.func fn first cap) w := fun _ _ _ _ => rfl
  have hn := (cat_parts hz).1
  have P := Lib.hid (preferred_any ad cs c j hj w hc (by omega))
  have C := Lib.hid hc
  generalize firstE cs j = p at *
  have V := Lib.hid fun (W : World) (k : Nat) (hE : EntsIn W ad cs) (hk : W.cell? ⟨k, 0, none⟩ = some (.int .i64 p)) (hkl : k < W.heap.size) => indicesOf_any ad cs c 73 #[.pointer (some ⟨k, 0, none⟩)] (synF cs p) W hE hn (enters_of Tryd.func73 (by kernel_rfl) rfl) (fun i _ W2 hB _ => syn11_any i (etAt cs i).s (etAt cs i).a (etAt cs i).b p k W2 (Nat.lt_of_lt_of_le hkl hB.size) ((hB.cell (p := ⟨k, 0, none⟩) hkl).trans hk))
  clear hc
  go_enter Tryd.func72, Tryd.ntmps72
  go_wp2_with (first
    | (go_at_call 60; refine P.out.mono ?_; rintro e w1 ⟨rfl, hB⟩; have b1 := Lib.hid (below_new hB (.cells #[.int .i64 p] 2)); have E1 := Lib.hid (entsIn_below C.out b1.out); clear hB)
    | (go_at_call 68; go_loud (refine (V.out _ _ E1.out (by simp) (by simp)).mono ?_; rintro e w2 ⟨v, rfl, hO, hB⟩; have O2 := Lib.hid (ownI_mono hO (by have := b1.out.size; omega)); have b2 := Lib.hid (b1.out.trans (hB.mono b1.out.size)); clear hB hO)))
  go_returns
  exact ⟨_, rfl, O2.out, b2.out⟩
theorem synonymsOf1_missing (ad : Option Addr) (n c : Nat) (x : Int) (hx : hasX n x = false) (g : Nat) (w : World) (hg : w.cell? ⟨g, 0, none⟩ = some (.int .i64 x)) :
    Calls Tryd.prog 72 #[.slice ad n c, .pointer (some ⟨g, 0, none⟩)] w fun e w' => e = Missing x ∧ Below w.heap.size w w' := by
  have P := Lib.hid (preferred_missing ad n c x hx w)
  unfold Missing at P
  clear hx
  go_enter Tryd.func72, Tryd.ntmps72
  go_wp2_with (go_at_call 60; refine P.out.mono ?_; rintro e w1 ⟨rfl, hB⟩; have b1 := Lib.hid hB; clear hB)
  exact ⟨rfl, rfl, b1.out⟩
end Go.Proofs.YtcbcggnpbjcdfaaDoor
