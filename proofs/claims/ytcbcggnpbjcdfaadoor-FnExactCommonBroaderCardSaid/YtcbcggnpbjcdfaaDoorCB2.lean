/- Contracts: the closure of CommonBroader where an entry is none; CommonBroader, the program's and the model's. -/
import Derived.Test.YtcbcggnpbjcdfaaDoorCB1
import Derived.Test.YtcbcggnpbjcdfaaDoorPrefOf
namespace Go.Proofs.YtcbcggnpbjcdfaaDoor
open Go.ChangeShapes Go.WideShapes Go.ChangeAt Go.RowKit
attribute [local go_sem] Oper.semAt_some

set_option maxRecDepth 100000 in
set_option maxHeartbeats 2000000 in
theorem common1_none (ad : Option Addr) (n c : Nat) (x : Int) (hx : hasX n x = false) (gk gi : Nat) (w : World) (hgk : w.cell? ⟨gk, 0, none⟩ = some (.int .i64 x)) :
    Calls Tryd.prog 77 #[.slice ad n c, .pointer (some ⟨gk, 0, none⟩), .pointer (some ⟨gi, 0, none⟩)] w fun e w' => e = Missing x ∧ Below w.heap.size w w' := by
  have hmm := fun n W => run_makeMapE Tryd.underlying79 n W
  have V1 := Lib.hid fun W => path_any ad n c x W
  have M := Lib.hid fun bc bi l w W hW c1 c2 => pathIt_missing bc bi ad n c x hx l w W hW c1 c2
  have gkl := cell_lt hgk
  have bb : Below w.heap.size w ((((w.alloc (.cells #[.int .i64 0] 2)).alloc (.cells #[.int .i64 0] 2)).alloc (.map #[] 0)).alloc (.cells #[.map (some (w.heap.size + 1 + 1))] 79)) := below_new (below_new (below_new (below_new (Below.refl _ _) _) _) _) _
  have kk := (bb.cell (p := ⟨gk, 0, none⟩) gkl).trans hgk
  clear hx
  refine (callsIn_wide (n := 0)).1 (callsIn_of_wp_marks Tryd.func77 rfl trivial ?_ rfl)
  simp only [Tryd.ntmps77, List.size_toArray, List.length_cons, List.length_nil, Nat.reduceAdd, Nat.reduceSub, Array.replicate_succ, Array.replicate_zero, List.push_toArray, List.append_toArray, List.nil_append, List.cons_append]
  refine wpIn_wide.2 ?_
  go_wp2_with (go_at_call 64; refine (V1.out _).mono ?_; rintro e w1 ⟨rfl, p1, p2, hz, hB⟩; simp only [World.size_alloc] at p1 p2; have P1 := Lib.hid p1; have P2 := Lib.hid p2; have B0 := Lib.hid (bb.trans (hB.mono (by simp <;> omega))); clear p1 p2 hB)
  have hz1 := B0.out.size
  clear hz
  refine wp_range_panics (R := fun e => e = Missing x) rfl (enters_of Tryd.func96 (by kernel_rfl) rfl) (fun e h => ⟨_, h⟩) (fun l W hW => M.out _ _ l w1 W hW P1.out P2.out) ?_
  rintro ch W hR hB hK
  refine ⟨by simp, .inl ⟨_, _, rfl, run_takeDeferred hK, ?_⟩⟩
  exact ⟨hR, (B0.out.trans (hB.mono hz1)).trans (below_put hz1)⟩

def CbV (cs : List Et) (x y v cd : Int) : Prop := (catOk cs && hasX cs.length x && hasX cs.length y) = true ∧ CBR cs (firstE cs x.toNat) (firstE cs y.toNat) v cd ∨ catOk cs = false ∧ v = 0 ∧ cd = 1 ∨ catOk cs = true ∧ (hasX cs.length x && hasX cs.length y) = false ∧ v = 0 ∧ cd = 2
theorem cbv_some (cs : List Et) (x y : Int) : ∃ v cd, CbV cs x y v cd := by
  cases hz : catOk cs
  · exact ⟨0, 1, .inr (.inl ⟨hz, rfl, rfl⟩)⟩
  · cases h : (hasX cs.length x && hasX cs.length y)
    · exact ⟨0, 2, .inr (.inr ⟨hz, h, rfl, rfl⟩)⟩
    · obtain ⟨v, cd, hc⟩ := cbr_some cs (firstE cs x.toNat) (firstE cs y.toNat)
      exact ⟨v, cd, .inl ⟨by rw [hz, Bool.true_and]; exact h, hc⟩⟩
end Go.Proofs.YtcbcggnpbjcdfaaDoor
