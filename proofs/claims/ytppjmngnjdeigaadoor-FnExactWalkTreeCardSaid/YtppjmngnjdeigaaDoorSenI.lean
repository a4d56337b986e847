/- The three sentinels of the program's tables, and the code of each (of XTbI.t, what speaks of no cards; and the third one). -/
import Derived.Test.YtppjmngnjdeigaaDoorErIs
namespace Go.Proofs.YtppjmngnjdeigaaDoor
open Go.ChangeShapes Go.WideShapes Go.ChangeAt Go.RowKit

/-- The three sentinels, and where they lie. -/
structure Sen (w : World) (a0 a1 a2 : Addr) : Prop where
  g0 : w.cell? ⟨1, 0, none⟩ = some (.iface 204 (.pointer (some a0)))
  g1 : w.cell? ⟨2, 0, none⟩ = some (.iface 204 (.pointer (some a1)))
  g2 : w.cell? ⟨3, 0, none⟩ = some (.iface 204 (.pointer (some a2)))
  b0 : ∃ c t, w.heap[a0.block]? = some (.cells c t (0, 0))
  b1 : ∃ c t, w.heap[a1.block]? = some (.cells c t (0, 0))
  b2 : ∃ c t, w.heap[a2.block]? = some (.cells c t (0, 0))
  n01 : a0 ≠ a1
  n02 : a0 ≠ a2
  n12 : a1 ≠ a2
theorem Sen.below {w w2 : World} {a0 a1 a2 : Addr} (h : Sen w a0 a1 a2) (hb : Below w.heap.size w w2) : Sen w2 a0 a1 a2 := by
  have k : ∀ {a : Addr}, (∃ c t, w.heap[a.block]? = some (.cells c t (0, 0))) → ∃ c t, w2.heap[a.block]? = some (.cells c t (0, 0)) := by
    rintro a ⟨c, t, hc⟩
    exact ⟨c, t, (hb.block _ (Array.getElem?_eq_some_iff.1 hc).1).trans hc⟩
  exact ⟨(hb.cell (World.block_lt_of_cell? _ _ h.g0)).trans h.g0, (hb.cell (World.block_lt_of_cell? _ _ h.g1)).trans h.g1, (hb.cell (World.block_lt_of_cell? _ _ h.g2)).trans h.g2, k h.b0, k h.b1, k h.b2, h.n01, h.n02, h.n12⟩
set_option maxHeartbeats 1600000 in
theorem iCode_1 (a0 a1 a2 : Addr) (w : World) (hS : Sen w a0 a1 a2) :
    Calls Tryd.prog 43 #[.iface 204 (.pointer (some a0))] w fun e w' => e = .returned (.int .i64 1) ∧ w = w' := by
  obtain ⟨g0, g1, g2, b0, b1, b2, n01, n02, n12⟩ := hS
  go_enter Tryd.func43, Tryd.ntmps43
  go_wp2_with (go_at_call 77; refine (is_same _ _).mono ?_; rintro e w1 ⟨rfl, rfl⟩)
  go_ret
  exact ⟨rfl, rfl⟩
set_option maxHeartbeats 1600000 in
theorem iCode_2 (a0 a1 a2 : Addr) (w : World) (hS : Sen w a0 a1 a2) :
    Calls Tryd.prog 43 #[.iface 204 (.pointer (some a1))] w fun e w' => e = .returned (.int .i64 2) ∧ w = w' := by
  obtain ⟨g0, g1, g2, ⟨c0, t0, b0⟩, ⟨c1, t1, b1⟩, b2, n01, n02, n12⟩ := hS
  have tk : True := trivial
  go_enter Tryd.func43, Tryd.ntmps43
  go_wp2_with (first
    | (go_at_call 77; have _t := tk; clear _t tk; refine (is_other a1 a0 c1 c0 t1 t0 w (Ne.symm n01) b1 b0).mono ?_; rintro e w1 ⟨rfl, rfl⟩)
    | (go_at_call 77; refine (is_same _ _).mono ?_; rintro e w1 ⟨rfl, rfl⟩))
  go_ret
  exact ⟨rfl, rfl⟩

set_option maxHeartbeats 1600000 in
theorem iCode_6 (a0 a1 a2 : Addr) (w : World) (hS : Sen w a0 a1 a2) :
    Calls Tryd.prog 43 #[.iface 204 (.pointer (some a2))] w fun e w' => e = .returned (.int .i64 6) ∧ w = w' := by
  obtain ⟨g0, g1, g2, ⟨c0, t0, b0⟩, ⟨c1, t1, b1⟩, ⟨c2, t2, b2⟩, n01, n02, n12⟩ := hS
  have tk : True := trivial
  have tk2 : True := trivial
  go_enter Tryd.func43, Tryd.ntmps43
  go_wp2_with (first
    | (go_at_call 77; have _t := tk; clear _t tk; refine (is_other a2 a0 c2 c0 t2 t0 w (Ne.symm n02) b2 b0).mono ?_; rintro e w1 ⟨rfl, rfl⟩)
    | (go_at_call 77; have _t := tk2; clear _t tk2; refine (is_other a2 a1 c2 c1 t2 t1 w (Ne.symm n12) b2 b1).mono ?_; rintro e w1 ⟨rfl, rfl⟩)
    | (go_at_call 77; refine (is_same _ _).mono ?_; rintro e w1 ⟨rfl, rfl⟩))
  go_ret
  exact ⟨rfl, rfl⟩
/-- What stands for a code among the errors. -/
def senV (a1 a2 : Addr) (c : Int) : Value := if c = 0 then .nilIface else if c = 2 then .iface 204 (.pointer (some a1)) else .iface 204 (.pointer (some a2))
end Go.Proofs.YtppjmngnjdeigaaDoor
