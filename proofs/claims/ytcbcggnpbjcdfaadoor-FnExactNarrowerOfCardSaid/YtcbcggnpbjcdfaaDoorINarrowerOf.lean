/- Contract: NarrowerOf, the program's, out of its closure's. -/
import Derived.Test.YtcbcggnpbjcdfaaDoorNar
namespace Go.Proofs.YtcbcggnpbjcdfaaDoor
open Go.ChangeShapes Go.WideShapes Go.ChangeAt Go.RowKit

def narrowerOfR (cs : List Et) (x : Int) (w : World) (e : Ending) (w' : World) : Prop := ELR (if (catOk cs && hasX cs.length x) then (pick (narF cs (firstE cs x.toNat)) cs.length) else []) (atC cs x) w e w'
theorem narrowerOfR_bad {cs : List Et} (x : Int) (h : catOk cs = false) : narrowerOfR cs x = ELR [] 1 := by funext w e w'; unfold narrowerOfR; rw [h, atC_bad x h]; rfl
theorem narrowerOfR_none {cs : List Et} {x : Int} (h : catOk cs = true) (h2 : hasX cs.length x = false) : narrowerOfR cs x = ELR [] 2 := by funext w e w'; unfold narrowerOfR; rw [h, h2, atC_none h h2]; rfl
theorem narrowerOfR_ok {cs : List Et} {x : Int} (h : catOk cs = true) (h2 : hasX cs.length x = true) : narrowerOfR cs x = ELR ((pick (narF cs (firstE cs x.toNat)) cs.length)) 0 := by funext w e w'; unfold narrowerOfR; rw [h, h2, atC_ok h h2]; rfl

set_option maxHeartbeats 1600000 in
theorem iNarrowerOf_any (ad : Option Addr) (cs : List Et) (c : Nat) (x : Int) (w : World) (hc : EntsIn w ad cs) :
    Calls Tryd.prog 32 #[.slice ad cs.length c, .int .i64 x] w (narrowerOfR cs x w) := by
  have hmf : ∀ (fn : Fn) (first cap : Array Value) (w : World), (Instr.makeFunc fn first cap).run Tryd.prog w = .ok (.func fn first cap) w := fun _ _ _ _ => rfl
  have b0 := Lib.hid (below_new (Below.refl w.heap.size w) (.cells #[.int .i64 x] 2))
  have k0 : (w.alloc (.cells #[.int .i64 x] 2)).cell? ⟨w.heap.size, 0, none⟩ = some (.int .i64 x) := by simp
  have H0 := entsIn_below hc b0.out
  clear hc
  cases hz : catOk cs
  · have V := Lib.hid fun fv => search_bad_s ad cs c fv _ H0 hz
    rw [narrowerOfR_bad x hz]
    clear hz H0 k0
    go_enter Tryd.func32, Tryd.ntmps32
    go_wp2_with (go_at_call 62; refine (V.out _).mono ?_; rintro e w1 ⟨rfl, hB⟩; have b1 := Lib.hid (b0.out.trans (Below.mono hB b0.out.size)); clear hB)
    go_returns
    exact ⟨_, rfl, ownI_nil _ _, b1.out⟩
  · cases hx : hasX cs.length x
    · have V := Lib.hid (search_missing_s ad cs c 67 #[.pointer (some ⟨w.heap.size, 0, none⟩)] x _ H0 hz (enters_of Tryd.func67 (by kernel_rfl) rfl) (fun W hB _ => narrowerOf1_missing ad cs.length c x hx w.heap.size W ((hB.cell (p := ⟨w.heap.size, 0, none⟩) (by simp)).trans k0)))
      rw [narrowerOfR_none hz hx]
      clear hz H0 k0 hx
      go_enter Tryd.func32, Tryd.ntmps32
      go_wp2_with (go_at_call 62; refine V.out.mono ?_; rintro e w1 ⟨rfl, hB⟩; have b1 := Lib.hid (b0.out.trans (Below.mono hB b0.out.size)); clear hB)
      go_returns
      exact ⟨_, rfl, ownI_nil _ _, b1.out⟩
    · obtain ⟨q1, q2⟩ := hasX_yes hx
      have ex : ((x.toNat : Nat) : Int) = x := by omega
      have V := Lib.hid (search_ok_s ad cs c 67 #[.pointer (some ⟨w.heap.size, 0, none⟩)] _ H0 hz (enters_of Tryd.func67 (by kernel_rfl) rfl) (fun v n W => OwnInts ((w.alloc (.cells #[.int .i64 x] 2)).heap.size + 1) ((pick (narF cs (firstE cs x.toNat)) cs.length)) v W ∧ n = 0) (fun v n W u h => ⟨ownsRow_setCell_below h.1 (by simp) u, h.2⟩)
        (fun W hB hl hE => (narrowerOf1_ok ad cs c x.toNat (by omega) hz w.heap.size W hE (by simp at hl; omega) ((hB.cell (p := ⟨w.heap.size, 0, none⟩) (by simp)).trans (by rw [ex]; exact k0))).mono fun e w' ⟨v, he, ho, hb⟩ => ⟨v, 0, he, ⟨ownI_mono ho (by omega), rfl⟩, hb⟩))
      rw [narrowerOfR_ok hz hx]
      clear hz H0 k0 hx ex q1 q2
      generalize (pick (narF cs (firstE cs x.toNat)) cs.length) = zs at *
      go_enter Tryd.func32, Tryd.ntmps32
      go_wp2_with (go_at_call 62; refine V.out.mono ?_; rintro e w1 ⟨v, _, rfl, ⟨ho, rfl⟩, hB⟩; have b1 := Lib.hid (b0.out.trans (Below.mono hB b0.out.size)); have O1 := Lib.hid (ownI_mono ho (show w.heap.size ≤ _ by simp <;> omega)); clear hB ho)
      go_returns
      exact ⟨_, rfl, O1.out, b1.out⟩
end Go.Proofs.YtcbcggnpbjcdfaaDoor
