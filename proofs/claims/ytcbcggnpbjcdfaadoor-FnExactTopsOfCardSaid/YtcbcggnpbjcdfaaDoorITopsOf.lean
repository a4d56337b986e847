/- Contract: TopsOf, the program's, out of its closure's. -/
import Derived.Test.YtcbcggnpbjcdfaaDoorTops
namespace Go.Proofs.YtcbcggnpbjcdfaaDoor
open Go.ChangeShapes Go.WideShapes Go.ChangeAt Go.RowKit

def topsOfR (cs : List Et) (w : World) (e : Ending) (w' : World) : Prop := ELR (if catOk cs then (pick (topF cs) cs.length) else []) (if catOk cs then 0 else 1) w e w'
theorem topsOfR_bad {cs : List Et} (h : catOk cs = false) : topsOfR cs = ELR [] 1 := by funext w e w'; unfold topsOfR; rw [h]; rfl
theorem topsOfR_ok {cs : List Et} (h : catOk cs = true) : topsOfR cs = ELR ((pick (topF cs) cs.length)) 0 := by funext w e w'; unfold topsOfR; rw [h]; rfl

set_option maxHeartbeats 1600000 in
theorem iTopsOf_any (ad : Option Addr) (cs : List Et) (c : Nat) (w : World) (hc : EntsIn w ad cs) :
    Calls Tryd.prog 40 #[.slice ad cs.length c] w (topsOfR cs w) := by
  have hmf : ∀ (fn : Fn) (first cap : Array Value) (w : World), (Instr.makeFunc fn first cap).run Tryd.prog w = .ok (.func fn first cap) w := fun _ _ _ _ => rfl
  have b0 := Lib.hid (Below.refl w.heap.size w)
  have H0 := hc
  clear hc
  cases hz : catOk cs
  · have V := Lib.hid fun fv => search_bad_s ad cs c fv _ H0 hz
    rw [topsOfR_bad hz]
    clear hz H0
    go_enter Tryd.func40, Tryd.ntmps40
    go_wp2_with (go_at_call 62; refine (V.out _).mono ?_; rintro e w1 ⟨rfl, hB⟩; have b1 := Lib.hid (b0.out.trans (Below.mono hB b0.out.size)); clear hB)
    go_returns
    exact ⟨_, rfl, ownI_nil _ _, b1.out⟩
  · have V := Lib.hid (search_ok_s ad cs c 78 #[] _ H0 hz (enters_of Tryd.func78 (by kernel_rfl) rfl) (fun v n W => OwnInts (w.heap.size + 1) ((pick (topF cs) cs.length)) v W ∧ n = 0) (fun v n W u h => ⟨ownsRow_setCell_below h.1 (by simp) u, h.2⟩)
      (fun W hB hl hE => (topsOf1_ok ad cs c (cat_parts hz).1 W hE).mono fun e w' ⟨v, he, ho, hb⟩ => ⟨v, 0, he, ⟨ownI_mono ho (by omega), rfl⟩, hb⟩))
    rw [topsOfR_ok hz]
    clear hz H0
    generalize (pick (topF cs) cs.length) = zs at *
    go_enter Tryd.func40, Tryd.ntmps40
    go_wp2_with (go_at_call 62; refine V.out.mono ?_; rintro e w1 ⟨v, _, rfl, ⟨ho, rfl⟩, hB⟩; have b1 := Lib.hid (b0.out.trans (Below.mono hB b0.out.size)); have O1 := Lib.hid (ownI_mono ho (show w.heap.size ≤ _ by simp <;> omega)); clear hB ho)
    go_returns
    exact ⟨_, rfl, O1.out, b1.out⟩
end Go.Proofs.YtcbcggnpbjcdfaaDoor
