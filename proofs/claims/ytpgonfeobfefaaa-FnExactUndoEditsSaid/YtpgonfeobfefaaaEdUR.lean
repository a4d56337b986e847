/- One round of UndoEdits: what the append and the store behind it leave. No program. -/
import Derived.Test.YtpgonfeobfefaaaEdBk
import Derived.Test.YtpgonfeobfefaaaRngA
namespace Go.Proofs.Ytpgonfeobfefaaa
open Go.ChangeShapes Go.WideShapes Go.ChangeAt Go.RowKit

theorem ownEd_lowU {B C : Nat} {xs : List Ed} {v : Value} {w : World} (h : OwnEdits B xs v w) (hc : C ≤ B) : OwnEdits C xs v w := ownEdits_weaken h hc
theorem block_oldU (w : World) (o : Obj) {k : Nat} (h : k < w.heap.size) : (w.alloc o).heap[k]? = w.heap[k]? := Below.heap_alloc _ _ _ h
/-- A row of edits does not lie in a block of another type. -/
theorem own_box {B g : Nat} {xs : List Ed} {v : Value} {w : World} {C : Array Value} {r : Nat × Nat} (h : OwnEdits B xs v w) (hb : w.heap[g]? = some (.cells C 24 r)) : v.ownBlock ≠ some g := fun e => by
  obtain ⟨_, h2⟩ := h
  rcases h2 with ⟨rfl, _⟩ | ⟨g', cap, cur, rfl, _, hg, _⟩
  · cases e
  · cases e
    rw [hg] at hb
    injection hb with hb
    injection hb with _ hb _
    exact absurd hb (by decide)
theorem ownEdits_blk {B : Nat} {xs : List Ed} {v : Value} {w w' : World} (h : OwnEdits B xs v w) (hb : ∀ j, v.ownBlock = some j → w'.heap[j]? = w.heap[j]?) : OwnEdits B xs v w' := by
  obtain ⟨h1, h2⟩ := h
  refine ⟨h1, ?_⟩
  rcases h2 with hn | ⟨b, cap, cur, rfl, hB, hh, rest⟩
  · exact .inl hn
  · exact .inr ⟨b, cap, cur, rfl, hB, (hb b rfl).trans hh, rest⟩
/-- What holds between two rounds. -/
def UndI (S B D g5 : Nat) (w : World) (es : List Ed) (W : World) : Prop :=
  ∃ v, W.heap[g5]? = some (.cells #[v] 24 (0, 0)) ∧ OwnEdits B es v W ∧ (∀ j, v.ownBlock = some j → j ≠ D ∧ j ≠ D + 1 ∧ j ≠ g5 + 1) ∧ D ≤ W.heap.size ∧ Below S w W
theorem undo_round {S B D g5 gg m cap2 : Nat} {ad : Option Addr} {es : List Ed} {x : Ed} {v : Value} {w V W5 W6 : World} {o : Obj}
    (hS : S ≤ B) (hBg : B < g5) (hgD : g5 + 1 < D) (hD : D + 1 < V.heap.size) (hBV : Below S w V) (had : ∀ b o, ad = some ⟨b, o, none⟩ → b < S)
    (hv : V.heap[g5]? = some (.cells #[v] 24 (0, 0))) (hO : OwnEdits B es v V) (hq : ∀ j, v.ownBlock = some j → j ≠ D ∧ j ≠ D + 1 ∧ j ≠ g5 + 1)
    (hA : Below V.heap.size V W5) (hg : (W5.alloc o).grownBy W6 v.ownBlock) (hP : OwnEdits B (es ++ [x]) (.slice (some ⟨gg, 0, none⟩) m cap2) W6) (hat : v.ownBlock = some gg ∨ gg = (W5.alloc o).heap.size) :
    Kept D V (W6.setCell ⟨g5, 0, none⟩ (.slice (some ⟨gg, 0, none⟩) m cap2)) ∧ KpB D (g5 + 1) ad V (W6.setCell ⟨g5, 0, none⟩ (.slice (some ⟨gg, 0, none⟩) m cap2)) ∧ UndI S B D g5 w (es ++ [x]) (W6.setCell ⟨g5, 0, none⟩ (.slice (some ⟨gg, 0, none⟩) m cap2)) := by
  have sA := hA.size
  have sz5 : (W5.alloc o).heap.size = W5.heap.size + 1 := by simp
  have sG := hg.size
  have lt := ownEdits_lt hO
  have k6 : ∀ k, k < V.heap.size → v.ownBlock ≠ some k → W6.heap[k]? = V.heap[k]? := fun k hk hn =>
    (hg.block k (by omega) (fun e => hn e.symm)).trans ((block_oldU W5 o (by omega)).trans (hA.block k hk))
  have k7 : ∀ u k, k < V.heap.size → v.ownBlock ≠ some k → k ≠ g5 → (W6.setCell ⟨g5, 0, none⟩ u).heap[k]? = V.heap[k]? := fun u k hk hn hne =>
    (Below.heap_setCell _ _ _ _ hne).trans (k6 k hk hn)
  have s7 : ∀ u, (W6.setCell ⟨g5, 0, none⟩ u).heap.size = W6.heap.size := fun u => by simp [World.setCell]
  have v6 : W6.heap[g5]? = some (.cells #[v] 24 (0, 0)) := (k6 g5 (by omega) (own_box hO hv)).trans hv
  have n6 := own_box hP v6
  refine ⟨⟨k7 _ _ (by omega) (fun e => (hq _ e).1 rfl) (by omega), k7 _ _ (by omega) (fun e => (hq _ e).2.1 rfl) (by omega)⟩, ⟨by rw [s7]; omega, k7 _ _ (by omega) (fun e => (hq _ e).2.2 rfl) (by omega), fun b o' e _ => k7 _ _ (by have := had b o' e; omega) (fun e' => by have := lt _ e'; have := had b o' e; omega) (by have := had b o' e; omega)⟩,
    _, block_setCell _ v6, ownEdits_blk hP (fun j hj => Below.heap_setCell _ _ _ _ (fun e => n6 (by rw [hj, e]))), ?_, by rw [s7]; omega, ?_⟩
  · intro j hj
    obtain rfl : gg = j := Option.some.inj hj
    rcases hat with h | h
    · exact hq _ h
    · omega
  · refine (Below.grown (row := v.ownBlock) ?_ hg (by omega) (fun j hj => by have := lt j hj; omega)).setCell (by simp; omega) _
    exact (hBV.trans (hA.mono (by omega))).alloc (by omega) _
end Go.Proofs.Ytpgonfeobfefaaa
