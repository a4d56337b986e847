/- Contract: PathUp, the program's, out of its closure's. -/
import Derived.Test.YtcbcggnpbjcdfaaDoorPathX
namespace Go.Proofs.YtcbcggnpbjcdfaaDoor
open Go.ChangeShapes Go.WideShapes Go.ChangeAt Go.RowKit

def pathUpR (cs : List Et) (x : Int) (w : World) (e : Ending) (w' : World) : Prop := ELR (if (catOk cs && hasX cs.length x) then (segI cs (firstE cs x.toNat) (plen cs (firstE cs x.toNat))) else []) (atC cs x) w e w'
theorem pathUpR_bad {cs : List Et} (x : Int) (h : catOk cs = false) : pathUpR cs x = ELR [] 1 := by funext w e w'; unfold pathUpR; rw [h, atC_bad x h]; rfl
theorem pathUpR_none {cs : List Et} {x : Int} (h : catOk cs = true) (h2 : hasX cs.length x = false) : pathUpR cs x = ELR [] 2 := by funext w e w'; unfold pathUpR; rw [h, h2, atC_none h h2]; rfl
theorem pathUpR_ok {cs : List Et} {x : Int} (h : catOk cs = true) (h2 : hasX cs.length x = true) : pathUpR cs x = ELR ((segI cs (firstE cs x.toNat) (plen cs (firstE cs x.toNat)))) 0 := by funext w e w'; unfold pathUpR; rw [h, h2, atC_ok h h2]; rfl

set_option maxHeartbeats 1600000 in
theorem iPathUp_any (ad : Option Addr) (cs : List Et) (c : Nat) (x : Int) (w : World) (hc : EntsIn w ad cs) :
    Calls Tryd.prog 26 #[.slice ad cs.length c, .int .i64 x] w (pathUpR cs x w) := by
  have hmf : ∀ (fn : Fn) (first cap : Array Value) (w : World), (Instr.makeFunc fn first cap).run Tryd.prog w = .ok (.func fn first cap) w := fun _ _ _ _ => rfl
  have b0 := Lib.hid (below_new (Below.refl w.heap.size w) (.cells #[.int .i64 x] 2))
  have k0 : (w.alloc (.cells #[.int .i64 x] 2)).cell? ⟨w.heap.size, 0, none⟩ = some (.int .i64 x) := by simp
  have H0 := entsIn_below hc b0.out
  clear hc
  cases hz : catOk cs
  · have V := Lib.hid fun fv => search_bad_s ad cs c fv _ H0 hz
    rw [pathUpR_bad x hz]
    clear hz H0 k0
    go_enter Tryd.func26, Tryd.ntmps26
    go_wp2_with (go_at_call 62; refine (V.out _).mono ?_; rintro e w1 ⟨rfl, hB⟩; have b1 := Lib.hid (b0.out.trans (Below.mono hB b0.out.size)); clear hB)
    go_returns
    exact ⟨_, rfl, ownI_nil _ _, b1.out⟩
  · cases hx : hasX cs.length x
    · have V := Lib.hid (search_missing_s ad cs c 63 #[.pointer (some ⟨w.heap.size, 0, none⟩)] x _ H0 hz (enters_of Tryd.func63 (by kernel_rfl) rfl) (fun W hB _ => pathUp1_missing ad cs.length c x hx w.heap.size W ((hB.cell (p := ⟨w.heap.size, 0, none⟩) (by simp)).trans k0)))
      rw [pathUpR_none hz hx]
      clear hz H0 k0 hx
      go_enter Tryd.func26, Tryd.ntmps26
      go_wp2_with (go_at_call 62; refine V.out.mono ?_; rintro e w1 ⟨rfl, hB⟩; have b1 := Lib.hid (b0.out.trans (Below.mono hB b0.out.size)); clear hB)
      go_returns
      exact ⟨_, rfl, ownI_nil _ _, b1.out⟩
    · obtain ⟨q1, q2⟩ := hasX_yes hx
      have ex : ((x.toNat : Nat) : Int) = x := by omega
      have V := Lib.hid (search_ok_s ad cs c 63 #[.pointer (some ⟨w.heap.size, 0, none⟩)] _ H0 hz (enters_of Tryd.func63 (by kernel_rfl) rfl) (fun v n W => OwnInts ((w.alloc (.cells #[.int .i64 x] 2)).heap.size + 1) ((segI cs (firstE cs x.toNat) (plen cs (firstE cs x.toNat)))) v W ∧ n = 0) (fun v n W u h => ⟨ownsRow_setCell_below h.1 (by simp) u, h.2⟩)
        (fun W hB hl hE => (pathUp1_ok ad cs c x.toNat (by omega) hz w.heap.size W hE (by simp at hl; omega) ((hB.cell (p := ⟨w.heap.size, 0, none⟩) (by simp)).trans (by rw [ex]; exact k0))).mono fun e w' ⟨v, he, ho, hb⟩ => ⟨v, 0, he, ⟨ownI_mono ho (by omega), rfl⟩, hb⟩))
      rw [pathUpR_ok hz hx]
      clear hz H0 k0 hx ex q1 q2
      generalize (segI cs (firstE cs x.toNat) (plen cs (firstE cs x.toNat))) = zs at *
      go_enter Tryd.func26, Tryd.ntmps26
      go_wp2_with (go_at_call 62; refine V.out.mono ?_; rintro e w1 ⟨v, _, rfl, ⟨ho, rfl⟩, hB⟩; have b1 := Lib.hid (b0.out.trans (Below.mono hB b0.out.size)); have O1 := Lib.hid (ownI_mono ho (show w.heap.size ≤ _ by simp <;> omega)); clear hB ho)
      go_returns
      exact ⟨_, rfl, O1.out, b1.out⟩
end Go.Proofs.YtcbcggnpbjcdfaaDoor
