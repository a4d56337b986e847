/- A region that draws its order, whose operations read and whose callees make new blocks alone: walked once, in the order of the text. -/
import Derived.Test.YtppjmngnjdeigaaDoorBase
import Derived.Lib.QuietBelow
import Derived.Lib.Hide
import Derived.BigQuiet
namespace Go.Proofs.YtppjmngnjdeigaaDoor
open Go.ChangeShapes Go.WideShapes Go.ChangeAt Go.RowKit

/-- The world w with some blocks more, and some draws. -/
def bw (w : World) (p : Regrown) : World := Go.Sort.grow (redrawn w p.d) p.os
theorem below_bw (w : World) (p : Regrown) : Below w.heap.size w (bw w p) := below_regrown w p.d p.os
theorem bw_of_below {w w' : World} (h : Below w.heap.size w w') : ∃ p : Regrown, w' = bw w p := regrown_of_below h
theorem below_of_bw {w w' : World} (h : ∃ p : Regrown, w' = bw w p) : Below w.heap.size w w' := by obtain ⟨p, rfl⟩ := h; exact below_bw w p
theorem cell_bw (w : World) (p : Regrown) (b o : Nat) (h : b < w.heap.size) : (bw w p).cell? ⟨b, o, none⟩ = w.cell? ⟨b, o, none⟩ := (below_bw w p).cell h
theorem frozen_bw (w : World) (p : Regrown) (b o : Nat) (h : b < w.heap.size) : (bw w p).frozen? ⟨b, o, none⟩ = w.frozen? ⟨b, o, none⟩ := (below_bw w p).frozen h
theorem lt_bw (w : World) (p : Regrown) (n : Nat) (h : n < w.heap.size) : n < (bw w p).heap.size := Nat.lt_of_lt_of_le h (below_bw w p).size
theorem bw_start (w : World) : ∃ p : Regrown, { w with drawn := w.drawn + 1 } = bw w p := bw_of_below ⟨rfl, rfl, rfl, Nat.le_refl _, fun _ _ => rfl⟩
/-- A callee's contract that ends in 'Below', met in a world of the class. -/
theorem calls_bw {P : Program} {f : FuncId} {args : Array Value} {w : World} {p : Regrown} {v : Value}
    (h : Calls P f args (bw w p) fun e w' => e = .returned v ∧ Below (bw w p).heap.size (bw w p) w') : Calls P f args (bw w p) fun e w'' => e = .returned v ∧ ∃ p : Regrown, w'' = bw w p :=
  h.mono fun _ _ ⟨he, hb⟩ => ⟨he, bw_of_below ((below_bw w p).trans (hb.mono (below_bw w p).size))⟩
/-- .. of a callee that leaves the world alone. -/
theorem calls_bw_same {P : Program} {f : FuncId} {args : Array Value} {w : World} {p : Regrown} {v : Value}
    (h : Calls P f args (bw w p) fun e w' => e = .returned v ∧ bw w p = w') : Calls P f args (bw w p) fun e w'' => e = .returned v ∧ ∃ p : Regrown, w'' = bw w p :=
  h.mono fun _ _ ⟨he, hb⟩ => ⟨he, p, hb.symm⟩
theorem region_bw {P : Program} {id : Nat} {Q : Exit → Act → World → Prop} {a : Act} {w : World} {l : List Oper} (hm : P.follows .mixedOrders = true) (hB : Region.lexB .any l.toArray = true)
    (h : wpQuiet P l.toArray (fun w' => ∃ p : Regrown, w' = bw w p) (fun a' => ∀ w', (∃ p : Regrown, w' = bw w p) → Q .normal a' w') l a) : (Code.region id l.toArray true).wp P Q a w :=
  wp_region_quiet (C := fun w' => ∃ p : Regrown, w' = bw w p) hm hB (bw_start w) (by simpa using h)
end Go.Proofs.YtppjmngnjdeigaaDoor
