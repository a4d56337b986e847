/- Contracts of the laws' own small functions: masks turned into masks, and compared; new boxes under one name. -/
import Derived.Test.YtppjmngnjdeigaaDoorFrame
import Derived.Deep.RegionHeld3
namespace Go.Proofs.YtppjmngnjdeigaaDoor
open Go.ChangeShapes Go.WideShapes Go.ChangeAt Go.RowKit

/-- A world with new boxes, under a name of its own. -/
theorem boxes1 (w : World) (C : Array Value) (t : TypeId) (Q : World → Prop)
    (h : ∀ W : World, Below w.heap.size w W → w.heap.size + 1 ≤ W.heap.size → (∀ j, W.cell? ⟨w.heap.size, j, none⟩ = C[j]?) → Q W) : Q (w.alloc (.cells C t)) :=
  h _ ((Below.refl _ _).alloc (Nat.le_refl _) _) (by simp) (fun j => by simp)
theorem boxes2 (w : World) (C D : Array Value) (t u : TypeId) (Q : World → Prop)
    (h : ∀ W : World, Below w.heap.size w W → w.heap.size + 2 ≤ W.heap.size → (∀ j, W.cell? ⟨w.heap.size, j, none⟩ = C[j]?) → (∀ j, W.cell? ⟨w.heap.size + 1, j, none⟩ = D[j]?) → Q W) :
    Q ((w.alloc (.cells C t)).alloc (.cells D u)) :=
  h _ (below_new ((Below.refl _ _).alloc (Nat.le_refl _) _) _) (by simp) (fun j => by simp) (fun j => by simp)
theorem boxes3 (w : World) (C D E : Array Value) (t u v : TypeId) (Q : World → Prop)
    (h : ∀ W : World, Below w.heap.size w W → w.heap.size + 3 ≤ W.heap.size → (∀ j, W.cell? ⟨w.heap.size, j, none⟩ = C[j]?) → (∀ j, W.cell? ⟨w.heap.size + 1, j, none⟩ = D[j]?) → (∀ j, W.cell? ⟨w.heap.size + 2, j, none⟩ = E[j]?) → Q W) :
    Q (((w.alloc (.cells C t)).alloc (.cells D u)).alloc (.cells E v)) :=
  h _ (below_new (below_new ((Below.refl _ _).alloc (Nat.le_refl _) _) _) _) (by simp) (fun j => by rw [World.cell?_alloc_past (hn := by simp; omega), World.cell?_alloc_past (hn := by simp), World.cell?_alloc_at (hn := rfl)]) (fun j => by rw [World.cell?_alloc_past (hn := by simp), World.cell?_alloc_at (hn := by simp)]) (fun j => by rw [World.cell?_alloc_at (hn := by simp)])

/-- Behind a call that has made blocks alone: every old cell and every old mark reads as it did; what was a block is one. -/
theorem bcell {W w1 : World} (hb : Below W.heap.size W w1) : (∀ b o, b < W.heap.size → w1.cell? ⟨b, o, none⟩ = W.cell? ⟨b, o, none⟩) ∧ (∀ b o, b < W.heap.size → w1.frozen? ⟨b, o, none⟩ = W.frozen? ⟨b, o, none⟩) ∧ (∀ n, n < W.heap.size → n < w1.heap.size) :=
  ⟨fun b o h => hb.cell (p := ⟨b, o, none⟩) h, fun b o h => hb.frozen (p := ⟨b, o, none⟩) h, fun _ h => Nat.lt_of_lt_of_le h hb.size⟩

theorem below_realloc {a w : World} {o : Obj} (o' : Obj) (h : Below a.heap.size a (w.alloc o)) (hz : a.heap.size ≤ w.heap.size) : Below a.heap.size a (w.alloc o') :=
  ⟨h.os, h.tape, h.output, Nat.le_trans hz (by simp), fun k hk => ((Below.heap_alloc w o' k (by omega)).trans (Below.heap_alloc w o k (by omega)).symm).trans (h.block k hk)⟩


set_option maxHeartbeats 400000 in
theorem eqMask_any (a b c d : Int) (w : World) :
    Calls Tryd.prog 35 #[.agg #[.int .u64 a, .int .u64 b], .agg #[.int .u64 c, .int .u64 d]] w fun e w' => e = .returned (.bool (a == c && b == d)) ∧ Below w.heap.size w w' := by
  go_enter Tryd.func35, Tryd.ntmps35
  go_wp2
  refine wp_loop_rounds 3 ?_
  rw [rounds_succ]; go_wp2
  go_quiet (fail)
  go_wp2
  · have h : (a != c) = true := by assumption
    go_returns
    refine ⟨by simp at h; simp [h], (by repeat' (first | (with_reducible exact Below.refl _ _) | (with_reducible assumption) | (with_reducible refine below_drewN ?_ _) | (with_reducible refine Below.drew ?_) | (with_reducible refine below_new ?_ _) | (with_reducible refine below_next ?_ (by with_reducible assumption)) | (with_reducible refine Below.setCell ?_ ?_ _) | go_size))⟩
  · have h : (a != c) = false := by assumption
    rw [rounds_succ]; go_wp2
    go_quiet (fail)
    go_wp2
    · have h2 : (b != d) = true := by assumption
      go_returns
      refine ⟨by simp at h2; simp [h2], (by repeat' (first | (with_reducible exact Below.refl _ _) | (with_reducible assumption) | (with_reducible refine below_drewN ?_ _) | (with_reducible refine Below.drew ?_) | (with_reducible refine below_new ?_ _) | (with_reducible refine below_next ?_ (by with_reducible assumption)) | (with_reducible refine Below.setCell ?_ ?_ _) | go_size))⟩
    · have h2 : (b != d) = false := by assumption
      rw [rounds_succ]; go_wp2
      go_returns
      refine ⟨by simp at h h2; simp [h, h2], (by repeat' (first | (with_reducible exact Below.refl _ _) | (with_reducible assumption) | (with_reducible refine below_drewN ?_ _) | (with_reducible refine Below.drew ?_) | (with_reducible refine below_new ?_ _) | (with_reducible refine below_next ?_ (by with_reducible assumption)) | (with_reducible refine Below.setCell ?_ ?_ _) | go_size))⟩

theorem eqMask_same (a b : Int) (w : World) :
    Calls Tryd.prog 35 #[.agg #[.int .u64 a, .int .u64 b], .agg #[.int .u64 a, .int .u64 b]] w fun e w' => e = .returned (.bool true) ∧ Below w.heap.size w w' :=
  (eqMask_any a b a b w).mono fun e w' ⟨he, hb⟩ => ⟨by rw [he]; simp, hb⟩
end Go.Proofs.YtppjmngnjdeigaaDoor
