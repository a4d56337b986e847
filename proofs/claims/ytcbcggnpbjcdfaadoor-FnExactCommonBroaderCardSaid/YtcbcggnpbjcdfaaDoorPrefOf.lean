/- Contracts: PreferredOf, the program's and the model's. -/
import Derived.Test.YtcbcggnpbjcdfaaDoorAtE
namespace Go.Proofs.YtcbcggnpbjcdfaaDoor
open Go.ChangeShapes Go.WideShapes Go.ChangeAt Go.RowKit

def prV (cs : List Et) (x : Int) : Value := .tuple #[.int .i64 (if catOk cs && hasX cs.length x then firstE cs x.toNat else 0), .int .i64 (atC cs x)]
theorem prV_bad {cs : List Et} (x : Int) (h : catOk cs = false) : .tuple #[.int .i64 0, .int .i64 1] = prV cs x := by unfold prV; rw [atC_bad x h, h]; rfl
theorem prV_none {cs : List Et} {x : Int} (h : catOk cs = true) (h2 : hasX cs.length x = false) : .tuple #[.int .i64 0, .int .i64 2] = prV cs x := by unfold prV; rw [atC_none h h2, h, h2]; rfl
theorem prV_ok {cs : List Et} {x : Int} (h : catOk cs = true) (h2 : hasX cs.length x = true) : .tuple #[.int .i64 (firstE cs x.toNat), .int .i64 0] = prV cs x := by unfold prV; rw [atC_ok h h2, h, h2]; rfl
theorem retV9 {x y : Value} (h : x = y) : Ending.returned x = Ending.returned y := by rw [h]

theorem pref1_ok (ad : Option Addr) (cs : List Et) (c j : Nat) (hj : j < cs.length) (hn : cs.length ≤ 40) (g : Nat) (w : World) (hc : EntsIn w ad cs) (hg : w.cell? ⟨g, 0, none⟩ = some (.int .i64 j)) :
    Calls Tryd.prog 59 #[.slice ad cs.length c, .pointer (some ⟨g, 0, none⟩)] w fun e w' => e = .returned (.tuple #[.int .i64 (firstE cs j), .int .i64 0]) ∧ Below w.heap.size w w' := by
  have P := Lib.hid (preferred_any ad cs c j hj w hc (by omega))
  clear hc
  go_enter Tryd.func59, Tryd.ntmps59
  go_wp2_with (go_at_call 60; refine P.out.mono ?_; rintro e w1 ⟨rfl, hB⟩; have b1 := Lib.hid hB; clear hB)
  go_returns
  exact ⟨rfl, b1.out⟩
theorem pref1_missing (ad : Option Addr) (n c : Nat) (x : Int) (hx : hasX n x = false) (g : Nat) (w : World) (hg : w.cell? ⟨g, 0, none⟩ = some (.int .i64 x)) :
    Calls Tryd.prog 59 #[.slice ad n c, .pointer (some ⟨g, 0, none⟩)] w fun e w' => e = Missing x ∧ Below w.heap.size w w' := by
  have P := Lib.hid (preferred_missing ad n c x hx w)
  unfold Missing at P
  clear hx
  go_enter Tryd.func59, Tryd.ntmps59
  go_wp2_with (go_at_call 60; refine P.out.mono ?_; rintro e w1 ⟨rfl, hB⟩; have b1 := Lib.hid hB; clear hB)
  exact ⟨rfl, rfl, b1.out⟩

set_option maxHeartbeats 1600000 in
theorem iPrefOf_any (ad : Option Addr) (cs : List Et) (c : Nat) (x : Int) (w : World) (hc : EntsIn w ad cs) :
    Calls Tryd.prog 24 #[.slice ad cs.length c, .int .i64 x] w fun e w' => e = .returned (prV cs x) ∧ Below w.heap.size w w' := by
  have hmf : ∀ (fn : Fn) (first cap : Array Value) (w : World), (Instr.makeFunc fn first cap).run Tryd.prog w = .ok (.func fn first cap) w := fun _ _ _ _ => rfl
  have b0 := Lib.hid (below_new (Below.refl w.heap.size w) (.cells #[.int .i64 x] 2))
  have k0 : (w.alloc (.cells #[.int .i64 x] 2)).cell? ⟨w.heap.size, 0, none⟩ = some (.int .i64 x) := by simp
  have H0 := entsIn_below hc b0.out
  clear hc
  cases hz : catOk cs
  · have V := Lib.hid fun fv => search_bad_i ad cs c fv _ H0 hz
    have f := Lib.hid (prV_bad x hz)
    clear hz H0 k0
    go_enter Tryd.func24, Tryd.ntmps24
    go_wp2_with (go_at_call 53; refine (V.out _).mono ?_; rintro e w1 ⟨rfl, hB⟩; have b1 := Lib.hid (b0.out.trans (Below.mono hB b0.out.size)); clear hB)
    go_returns
    exact ⟨retV9 f.out, b1.out⟩
  · cases hx : hasX cs.length x
    · have V := Lib.hid (search_missing_i ad cs c 59 #[.pointer (some ⟨w.heap.size, 0, none⟩)] x _ H0 hz (enters_of Tryd.func59 (by kernel_rfl) rfl) (fun W hB _ => pref1_missing ad cs.length c x hx w.heap.size W ((hB.cell (p := ⟨w.heap.size, 0, none⟩) (by simp)).trans k0)))
      have f := Lib.hid (prV_none hz hx)
      clear hz H0 k0 hx
      go_enter Tryd.func24, Tryd.ntmps24
      go_wp2_with (go_at_call 53; refine V.out.mono ?_; rintro e w1 ⟨rfl, hB⟩; have b1 := Lib.hid (b0.out.trans (Below.mono hB b0.out.size)); clear hB)
      go_returns
      exact ⟨retV9 f.out, b1.out⟩
    · obtain ⟨q1, q2⟩ := hasX_yes hx
      have ex : ((x.toNat : Nat) : Int) = x := by omega
      have V := Lib.hid (search_ok_i ad cs c 59 #[.pointer (some ⟨w.heap.size, 0, none⟩)] _ H0 hz (enters_of Tryd.func59 (by kernel_rfl) rfl) (fun v n _ => v = .int .i64 (firstE cs x.toNat) ∧ n = 0) (fun _ _ _ _ h => h) (fun W hB _ hE => (pref1_ok ad cs c x.toNat (by omega) (cat_parts hz).1 w.heap.size W hE ((hB.cell (p := ⟨w.heap.size, 0, none⟩) (by simp)).trans (by rw [ex]; exact k0))).mono fun e w' ⟨he, hb⟩ => ⟨_, _, he, ⟨rfl, rfl⟩, hb⟩))
      have f := Lib.hid (prV_ok hz hx)
      clear hz H0 k0 hx ex q1 q2
      go_enter Tryd.func24, Tryd.ntmps24
      go_wp2_with (go_at_call 53; refine V.out.mono ?_; rintro e w1 ⟨_, _, rfl, ⟨rfl, rfl⟩, hB⟩; have b1 := Lib.hid (b0.out.trans (Below.mono hB b0.out.size)); clear hB)
      go_returns
      exact ⟨retV9 f.out, b1.out⟩

set_option maxHeartbeats 1600000 in
theorem sPrefOf_any (ad : Option Addr) (cs : List Et) (c : Nat) (x : Int) (w : World) (hc : EntsIn w ad cs) :
    Calls Tryd.prog 23 #[.slice ad cs.length c, .int .i64 x] w fun e w' => e = .returned (prV cs x) ∧ Below w.heap.size w w' := by
  have C := Lib.hid hc
  have A := sAt_any ad cs c x w hc
  clear hc
  cases hz : catOk cs
  · have f := Lib.hid (prV_bad x hz)
    rw [atC_bad x hz] at A
    have A := Lib.hid A
    clear hz
    go_enter Tryd.func23, Tryd.ntmps23
    go_wp2_with (go_at_call 57; refine A.out.mono ?_; rintro e w1 ⟨rfl, hB⟩; have b1 := Lib.hid hB; clear hB)
    go_ret2
    exact ⟨retV9 f.out, b1.out⟩
  · cases hx : hasX cs.length x
    · have f := Lib.hid (prV_none hz hx)
      rw [atC_none hz hx] at A
      have A := Lib.hid A
      clear hz hx
      go_enter Tryd.func23, Tryd.ntmps23
      go_wp2_with (go_at_call 57; refine A.out.mono ?_; rintro e w1 ⟨rfl, hB⟩; have b1 := Lib.hid hB; clear hB)
      go_ret2
      exact ⟨retV9 f.out, b1.out⟩
    · have f := Lib.hid (prV_ok hz hx)
      rw [atC_ok hz hx] at A
      have A := Lib.hid A
      obtain ⟨q1, q2⟩ := hasX_yes hx
      have F := fun W (h : EntsIn W ad cs) => sFirst_any ad cs c x.toNat (by omega) W h
      rw [show ((x.toNat : Nat) : Int) = x by omega] at F
      have F := Lib.hid F
      clear hz hx q1 q2
      go_enter Tryd.func23, Tryd.ntmps23
      go_wp2_with (first
        | (go_at_call 57; refine A.out.mono ?_; rintro e w1 ⟨rfl, hB⟩; have b1 := Lib.hid hB; clear hB)
        | (go_at_call 58; refine (F.out _ (entsIn_below C.out b1.out)).mono ?_; rintro e w2 ⟨rfl, hB⟩; have b2 := Lib.hid (b1.out.trans (hB.mono b1.out.size)); clear hB))
      go_ret2
      exact ⟨retV9 f.out, b2.out⟩
end Go.Proofs.YtcbcggnpbjcdfaaDoor
