/- Contracts: what one of several queries drops; by the model. -/
import Derived.Test.YtaiedpblfnaooabDrops
import Derived.Test.YtaiedpblfnaooabDeckI
import Derived.Test.YtaiedpblfnaooabHoles
import Derived.Test.YtaiedpblfnaooabFloat
import Derived.Deep.DeepCutAuto
namespace Go.Proofs.Ytaiedpblfnaooab
open Go.ChangeShapes Go.WideShapes Go.ChangeAt Go.RowKit

/-- A query as it lies in memory: four cells. -/
structure Qy where
  a : Int
  b : Int
  c : Int
  d : Int
instance : Inhabited Qy := ⟨⟨0, 0, 0, 0⟩⟩
def Qy.fits (q : Qy) : Prop := U64 q.a ∧ U64 q.b ∧ U64 q.c ∧ U64 q.d
def qyAt (qs : List Qy) (i : Nat) : Qy := qs.getD i default
def QyCell (w : World) (a : Option Addr) (i : Nat) (q : Qy) : Prop := q.fits ∧ ∃ b off, a = some ⟨b, off, none⟩ ∧ b < w.heap.size ∧
  w.cell? ⟨b, off + i * 4, none⟩ = some (.int .u64 q.a) ∧ w.cell? ⟨b, off + i * 4 + 1, none⟩ = some (.int .u64 q.b) ∧ w.cell? ⟨b, off + i * 4 + 2, none⟩ = some (.int .u64 q.c) ∧ w.cell? ⟨b, off + i * 4 + 3, none⟩ = some (.int .u64 q.d)
def QsIn (w : World) (a : Option Addr) (qs : List Qy) : Prop := ∀ i, i < qs.length → QyCell w a i (qyAt qs i)
theorem qyCell_below {w w' : World} {a : Option Addr} {i : Nat} {q : Qy} (h : QyCell w a i q) (hb : Below w.heap.size w w') : QyCell w' a i q := by
  obtain ⟨hf, b, off, ha, hlt, h0, h1, h2, h3⟩ := h
  exact ⟨hf, b, off, ha, Nat.lt_of_lt_of_le hlt hb.size, (hb.cell hlt).trans h0, (hb.cell hlt).trans h1, (hb.cell hlt).trans h2, (hb.cell hlt).trans h3⟩
theorem qsIn_below {w w' : World} {a : Option Addr} {qs : List Qy} (h : QsIn w a qs) (hb : Below w.heap.size w w') : QsIn w' a qs := fun i hi => qyCell_below (h i hi) hb
theorem qsIn_one {w : World} {g : Nat} {q : Qy} {t : TypeId} (hq : q.fits) (h : w.heap[g]? = some (.cells #[.int .u64 q.a, .int .u64 q.b, .int .u64 q.c, .int .u64 q.d] t (0, 0))) : QsIn w (some ⟨g, 0, none⟩) [q] := by
  intro i hi
  obtain rfl : i = 0 := by simp at hi; omega
  have c := cell_of_block h
  exact ⟨hq, g, 0, rfl, lt_of_block h, c 0, c 1, c 2, c 3⟩

/-- Does one of the queries drop the card with index i? -/
def qAt (cs : List Cd) (q : Qy) (i : Nat) : Bool := qdrop q.a q.b q.c q.d (cdAt cs i).a (cdAt cs i).b
def qAny (cs : List Cd) (qs : List Qy) (i : Nat) : Bool := qs.any fun q => qAt cs q i
theorem qyAt_mem {qs : List Qy} {k : Nat} (h : k < qs.length) : qyAt qs k ∈ qs := by
  unfold qyAt; rw [List.getD, List.getElem?_eq_getElem h]; exact List.getElem_mem h
theorem qAny_yes {cs : List Cd} {qs : List Qy} {i k : Nat} (hk : k < qs.length) (h : qAt cs (qyAt qs k) i = true) : qAny cs qs i = true := by
  unfold qAny; rw [List.any_eq_true]; exact ⟨_, qyAt_mem hk, h⟩
theorem qAny_no {cs : List Cd} {qs : List Qy} {i : Nat} (h : ∀ k, k < qs.length → qAt cs (qyAt qs k) i = false) : qAny cs qs i = false := by
  unfold qAny
  rw [List.any_eq_false]
  intro q hq
  obtain ⟨k, hk, rfl⟩ := List.mem_iff_getElem.1 hq
  have := h k hk
  unfold qyAt at this
  rw [List.getD, List.getElem?_eq_getElem hk] at this
  simpa using this
/-- The answer over the first k cards. -/
def ansTo (cs : List Cd) (qs : List Qy) (k : Nat) : List Int := hol (fun i => qAny cs qs i.toNat) k
theorem ans_zero (cs : List Cd) (qs : List Qy) : ansTo cs qs 0 = [] := rfl
theorem ans_yes {cs : List Cd} {qs : List Qy} {k : Nat} (h : qAny cs qs k = true) : ansTo cs qs (k + 1) = ansTo cs qs k ++ [(k : Int)] := hol_yes (by simpa using h)
theorem ans_no {cs : List Cd} {qs : List Qy} {k : Nat} (h : qAny cs qs k = false) : ansTo cs qs (k + 1) = ansTo cs qs k := hol_no (by simpa using h)
theorem ans_len (cs : List Cd) (qs : List Qy) (k : Nat) : (ansTo cs qs k).length ≤ k := hol_len _ k
theorem own_grow {B : Nat} {w w' : World} {v : Value} {zs : List Int} (h : OwnInts B zs v w) (hb : Below w.heap.size w w') : OwnInts B zs v w' := ownInts_kept h hb

end Go.Proofs.Ytaiedpblfnaooab
