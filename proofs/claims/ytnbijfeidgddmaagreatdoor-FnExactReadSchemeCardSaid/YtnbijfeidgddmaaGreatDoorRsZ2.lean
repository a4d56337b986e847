/- Several texts in one, as a claim has at most 60 files: Wear2 EdV Eds2 MarkT Crds Deck Deck2 Deck3 Mark MarkC HeldC EdsOwn CtS ShB BdK StrL Spt FdsOwn Names Mix MPut. -/
import Derived.Test.YtnbijfeidgddmaaGreatDoorRsZ1
import Derived.Test.YtnbijfeidgddmaaGreatDoorRsZ0
import Derived.Deep.DeepCutAuto
import Derived.Laws.EntriesVeiled
import Derived.Deep.Slices
import Derived.OpenShut
import Derived.KernelRfl
import Derived.Shelf.Strings.Builder1
import Derived.Shelf.Strings.BuilderK
import Derived.BigQuiet
import Derived.Deep.QuietTactic
import Derived.SliceStrings
import Derived.OwnWalk
import Derived.Test.YtnbijfeidgddmaaGreatDoorShelf
import Derived.Shelf.Strings.Split
import Derived.Shelf.Strconv.ErrVarParseInt
import Derived.Maps.OwnOps
import Derived.Maps.Views
import Derived.StringKeys
namespace Go.Proofs.YtnbijfeidgddmaaGreatDoor
open Go.ChangeShapes Go.WideShapes Go.ChangeAt Go.RowKit

theorem eRet {x y : Value} (h : x = y) : Ending.returned x = Ending.returned y := by rw [h]
/-- Four numbers, or none. -/
def wvR (ok : Bool) (x y z u : Int) : Value := .tuple #[.agg #[.int .u64 (if ok then x else 0), .int .u64 (if ok then y else 0), .int .u64 (if ok then z else 0), .int .u64 (if ok then u else 0)], .int .i64 (if ok then 0 else 1)]
theorem wvR_no (x y z u : Int) : .tuple #[.agg #[.int .u64 0, .int .u64 0, .int .u64 0, .int .u64 0], .int .i64 1] = wvR false x y z u := rfl
theorem wvR_yes (x y z u : Int) : .tuple #[.agg #[.int .u64 x, .int .u64 y, .int .u64 z, .int .u64 u], .int .i64 0] = wvR true x y z u := rfl
theorem wvR_parts (ok : Bool) (x y z u : Int) : ∃ p q r s c : Int, wvR ok x y z u = .tuple #[.agg #[.int .u64 p, .int .u64 q, .int .u64 r, .int .u64 s], .int .i64 c] := ⟨_, _, _, _, _, rfl⟩
theorem iMask_is {b : Int} (a : Int) {x : Bool} (h : (b / 4294967296 == 0) = x) : Hid (∀ w : World, Calls Tryz.prog 86 #[.agg #[.int .u64 a, .int .u64 b]] w fun e w' => e = .returned (.bool x) ∧ Below w.heap.size w w') := Lib.hid fun w => by
  cases x <;> go_enter Tryz.func86, Tryz.ntmps86 <;> go_wp2 <;> go_returns
  all_goals exact ⟨by simp , (by repeat' (first | (with_reducible exact Below.refl _ _) | (with_reducible assumption) | (with_reducible refine below_drewN ?_ _) | (with_reducible refine Below.drew ?_) | (with_reducible refine below_new ?_ _) | (with_reducible refine below_next ?_ (by with_reducible assumption)) | (with_reducible refine Below.setCell ?_ ?_ _) | go_size))⟩
theorem wblock_three (w : World) (o p q : Obj) : (((w.alloc o).alloc p).alloc q).heap[w.heap.size]? = some o ∧ (((w.alloc o).alloc p).alloc q).heap[w.heap.size + 1]? = some p ∧ (((w.alloc o).alloc p).alloc q).heap[w.heap.size + 2]? = some q := by
  show (((w.heap.push o).push p).push q)[w.heap.size]? = some o ∧ (((w.heap.push o).push p).push q)[w.heap.size + 1]? = some p ∧ (((w.heap.push o).push p).push q)[w.heap.size + 2]? = some q
  refine ⟨?_, ?_, ?_⟩
  · rw [Array.getElem?_push, if_neg (by simp; omega), Array.getElem?_push, if_neg (by simp)]; simp
  · rw [Array.getElem?_push, if_neg (by simp), Array.getElem?_push, if_pos (by simp)]
  · rw [Array.getElem?_push, if_pos (by simp)]









/-- A card, or none. -/
def wcR (ok : Bool) (s : ByteArray) (x y : Int) : Value := .tuple #[.agg #[.string (if ok then s else ByteArray.empty), .int .u64 (if ok then x else 0), .int .u64 (if ok then y else 0)], .int .i64 (if ok then 0 else 1)]
theorem wcR_no (s : ByteArray) (x y : Int) : .tuple #[.agg #[.string ByteArray.empty, .int .u64 0, .int .u64 0], .int .i64 1] = wcR false s x y := rfl
theorem wcR_yes (s : ByteArray) (x y : Int) : .tuple #[.agg #[.string s, .int .u64 x, .int .u64 y], .int .i64 0] = wcR true s x y := rfl
theorem wcR_parts (ok : Bool) (s : ByteArray) (x y : Int) : ∃ (r : ByteArray) (p q c : Int), wcR ok s x y = .tuple #[.agg #[.string r, .int .u64 p, .int .u64 q], .int .i64 c] := ⟨_, _, _, _, rfl⟩


end Go.Proofs.YtnbijfeidgddmaaGreatDoor

namespace Go.Proofs.YtnbijfeidgddmaaGreatDoor
open Go.ChangeShapes Go.WideShapes Go.ChangeAt Go.RowKit

/-- The value of an edit. -/
def edV (x : Ed) : Value := .agg #[.int .i8 x.k, .string x.s, .int .i16 x.h, .int .u64 x.a, .int .u64 x.b]
/-- Is it valid. -/
def edOk (x : Ed) : Bool :=
  if x.k = 1 ∨ x.k = 2 then nameOk x.s && (x.h == 0 && maskOk x.b) else if x.k = 3 ∨ x.k = 4 then nameOk x.s && (decide (0 ≤ x.h ∧ x.h ≤ 95) && (x.a == 0 && x.b == 0)) else false
theorem edOk_card {x : Ed} (h : x.k = 1 ∨ x.k = 2) : edOk x = (nameOk x.s && (x.h == 0 && maskOk x.b)) := by unfold edOk; rw [if_pos h]
theorem edOk_hole {x : Ed} (h : x.k = 3 ∨ x.k = 4) : edOk x = (nameOk x.s && (decide (0 ≤ x.h ∧ x.h ≤ 95) && (x.a == 0 && x.b == 0))) := by unfold edOk; rw [if_neg (by omega), if_pos h]
theorem edOk_none {x : Ed} (h : ¬ (x.k = 1 ∨ x.k = 2 ∨ x.k = 3 ∨ x.k = 4)) : edOk x = false := by unfold edOk; rw [if_neg (by omega), if_neg (by omega)]


set_option maxHeartbeats 800000 in
theorem iChange_1 (s : ByteArray) (h a b : Int) (w : World) :
    Calls Tryz.prog 85 #[.agg #[.int .i8 1, .string s, .int .i16 h, .int .u64 a, .int .u64 b]] w fun e w' => e = .returned (.iface 148 (.agg #[.int .i8 1, .string s, .int .i16 h, .int .u64 a, .int .u64 b])) ∧ Below w.heap.size w w' := by
  go_enter Tryz.func85, Tryz.ntmps85
  go_wp2
  go_returns
  exact ⟨rfl, (by repeat' (first | (with_reducible exact Below.refl _ _) | (with_reducible assumption) | (with_reducible refine below_drewN ?_ _) | (with_reducible refine Below.drew ?_) | (with_reducible refine below_new ?_ _) | (with_reducible refine below_next ?_ (by with_reducible assumption)) | (with_reducible refine Below.setCell ?_ ?_ _) | go_size))⟩

set_option maxHeartbeats 800000 in
theorem iChange_2 (s : ByteArray) (h a b : Int) (w : World) :
    Calls Tryz.prog 85 #[.agg #[.int .i8 2, .string s, .int .i16 h, .int .u64 a, .int .u64 b]] w fun e w' => e = .returned (.iface 149 (.agg #[.int .i8 2, .string s, .int .i16 h, .int .u64 a, .int .u64 b])) ∧ Below w.heap.size w w' := by
  go_enter Tryz.func85, Tryz.ntmps85
  go_wp2
  go_returns
  exact ⟨rfl, (by repeat' (first | (with_reducible exact Below.refl _ _) | (with_reducible assumption) | (with_reducible refine below_drewN ?_ _) | (with_reducible refine Below.drew ?_) | (with_reducible refine below_new ?_ _) | (with_reducible refine below_next ?_ (by with_reducible assumption)) | (with_reducible refine Below.setCell ?_ ?_ _) | go_size))⟩

set_option maxHeartbeats 800000 in
theorem iChange_3 (s : ByteArray) (h a b : Int) (w : World) :
    Calls Tryz.prog 85 #[.agg #[.int .i8 3, .string s, .int .i16 h, .int .u64 a, .int .u64 b]] w fun e w' => e = .returned (.iface 127 (.agg #[.int .i8 3, .string s, .int .i16 h, .int .u64 a, .int .u64 b])) ∧ Below w.heap.size w w' := by
  go_enter Tryz.func85, Tryz.ntmps85
  go_wp2
  go_returns
  exact ⟨rfl, (by repeat' (first | (with_reducible exact Below.refl _ _) | (with_reducible assumption) | (with_reducible refine below_drewN ?_ _) | (with_reducible refine Below.drew ?_) | (with_reducible refine below_new ?_ _) | (with_reducible refine below_next ?_ (by with_reducible assumption)) | (with_reducible refine Below.setCell ?_ ?_ _) | go_size))⟩

set_option maxHeartbeats 800000 in
theorem iChange_4 (s : ByteArray) (h a b : Int) (w : World) :
    Calls Tryz.prog 85 #[.agg #[.int .i8 4, .string s, .int .i16 h, .int .u64 a, .int .u64 b]] w fun e w' => e = .returned (.iface 128 (.agg #[.int .i8 4, .string s, .int .i16 h, .int .u64 a, .int .u64 b])) ∧ Below w.heap.size w w' := by
  go_enter Tryz.func85, Tryz.ntmps85
  go_wp2
  go_returns
  exact ⟨rfl, (by repeat' (first | (with_reducible exact Below.refl _ _) | (with_reducible assumption) | (with_reducible refine below_drewN ?_ _) | (with_reducible refine Below.drew ?_) | (with_reducible refine below_new ?_ _) | (with_reducible refine below_next ?_ (by with_reducible assumption)) | (with_reducible refine Below.setCell ?_ ?_ _) | go_size))⟩

set_option maxHeartbeats 800000 in
theorem iChange_0 (k : Int) (s : ByteArray) (h a b : Int) (w : World) (hk : ¬ (k = 1 ∨ k = 2 ∨ k = 3 ∨ k = 4)) :
    Calls Tryz.prog 85 #[.agg #[.int .i8 k, .string s, .int .i16 h, .int .u64 a, .int .u64 b]] w fun e w' => e = .returned .nilIface ∧ Below w.heap.size w w' := by
  have d1 : (k == 1) = false := beq_eq_false_iff_ne.2 (by omega)
  have d2 : (k == 2) = false := beq_eq_false_iff_ne.2 (by omega)
  have d3 : (k == 3) = false := beq_eq_false_iff_ne.2 (by omega)
  have d4 : (k == 4) = false := beq_eq_false_iff_ne.2 (by omega)
  clear hk
  go_enter Tryz.func85, Tryz.ntmps85
  go_wp2
  go_returns
  exact ⟨rfl, (by repeat' (first | (with_reducible exact Below.refl _ _) | (with_reducible assumption) | (with_reducible refine below_drewN ?_ _) | (with_reducible refine Below.drew ?_) | (with_reducible refine below_new ?_ _) | (with_reducible refine below_next ?_ (by with_reducible assumption)) | (with_reducible refine Below.setCell ?_ ?_ _) | go_size))⟩


set_option maxRecDepth 100000 in
set_option maxHeartbeats 800000 in
theorem iOfHole_1 (s : ByteArray) (h a b : Int) (w : World) :
    Calls Tryz.prog 53 #[.agg #[.int .i8 1, .string s, .int .i16 h, .int .u64 a, .int .u64 b]] w fun e w' => e = .returned (.bool false) ∧ Below w.heap.size w w' := by
  have C := Lib.hid fun W => iChange_1 s h a b W
  have a3 : ∀ w : World, (Instr.typeAssert (.iface 148 (.agg #[.int .i8 1, .string s, .int .i16 h, .int .u64 a, .int .u64 b])) 125 127 true).run Tryz.prog w = .ok (.tuple #[.agg #[.int .i8 0, .string ByteArray.empty, .int .i16 0, .int .u64 0, .int .u64 0], .bool false]) w := fun _ => by kernel_rfl
  have a4 : ∀ w : World, (Instr.typeAssert (.iface 148 (.agg #[.int .i8 1, .string s, .int .i16 h, .int .u64 a, .int .u64 b])) 125 128 true).run Tryz.prog w = .ok (.tuple #[.agg #[.int .i8 0, .string ByteArray.empty, .int .i16 0, .int .u64 0, .int .u64 0], .bool false]) w := fun _ => by kernel_rfl
  go_enter Tryz.func53, Tryz.ntmps53
  go_wp2_with (go_at_call 85; refine (C.out _).mono ?_; rintro e w1 ⟨rfl, hB⟩; obtain ⟨hc, hf, hz⟩ := bcell hB)
  go_returns
  exact ⟨rfl, (by repeat' (first | (with_reducible exact Below.refl _ _) | (with_reducible assumption) | (with_reducible refine below_drewN ?_ _) | (with_reducible refine Below.drew ?_) | (with_reducible refine below_new ?_ _) | (with_reducible refine below_next ?_ (by with_reducible assumption)) | (with_reducible refine Below.setCell ?_ ?_ _) | go_size))⟩

set_option maxRecDepth 100000 in
set_option maxHeartbeats 800000 in
theorem iOfHole_2 (s : ByteArray) (h a b : Int) (w : World) :
    Calls Tryz.prog 53 #[.agg #[.int .i8 2, .string s, .int .i16 h, .int .u64 a, .int .u64 b]] w fun e w' => e = .returned (.bool false) ∧ Below w.heap.size w w' := by
  have C := Lib.hid fun W => iChange_2 s h a b W
  have a3 : ∀ w : World, (Instr.typeAssert (.iface 149 (.agg #[.int .i8 2, .string s, .int .i16 h, .int .u64 a, .int .u64 b])) 125 127 true).run Tryz.prog w = .ok (.tuple #[.agg #[.int .i8 0, .string ByteArray.empty, .int .i16 0, .int .u64 0, .int .u64 0], .bool false]) w := fun _ => by kernel_rfl
  have a4 : ∀ w : World, (Instr.typeAssert (.iface 149 (.agg #[.int .i8 2, .string s, .int .i16 h, .int .u64 a, .int .u64 b])) 125 128 true).run Tryz.prog w = .ok (.tuple #[.agg #[.int .i8 0, .string ByteArray.empty, .int .i16 0, .int .u64 0, .int .u64 0], .bool false]) w := fun _ => by kernel_rfl
  go_enter Tryz.func53, Tryz.ntmps53
  go_wp2_with (go_at_call 85; refine (C.out _).mono ?_; rintro e w1 ⟨rfl, hB⟩; obtain ⟨hc, hf, hz⟩ := bcell hB)
  go_returns
  exact ⟨rfl, (by repeat' (first | (with_reducible exact Below.refl _ _) | (with_reducible assumption) | (with_reducible refine below_drewN ?_ _) | (with_reducible refine Below.drew ?_) | (with_reducible refine below_new ?_ _) | (with_reducible refine below_next ?_ (by with_reducible assumption)) | (with_reducible refine Below.setCell ?_ ?_ _) | go_size))⟩

set_option maxRecDepth 100000 in
set_option maxHeartbeats 800000 in
theorem iOfHole_3 (s : ByteArray) (h a b : Int) (w : World) :
    Calls Tryz.prog 53 #[.agg #[.int .i8 3, .string s, .int .i16 h, .int .u64 a, .int .u64 b]] w fun e w' => e = .returned (.bool true) ∧ Below w.heap.size w w' := by
  have C := Lib.hid fun W => iChange_3 s h a b W
  have a3 : ∀ w : World, (Instr.typeAssert (.iface 127 (.agg #[.int .i8 3, .string s, .int .i16 h, .int .u64 a, .int .u64 b])) 125 127 true).run Tryz.prog w = .ok (.tuple #[.agg #[.int .i8 3, .string s, .int .i16 h, .int .u64 a, .int .u64 b], .bool true]) w := fun _ => by kernel_rfl
  have a4 : ∀ w : World, (Instr.typeAssert (.iface 127 (.agg #[.int .i8 3, .string s, .int .i16 h, .int .u64 a, .int .u64 b])) 125 128 true).run Tryz.prog w = .ok (.tuple #[.agg #[.int .i8 0, .string ByteArray.empty, .int .i16 0, .int .u64 0, .int .u64 0], .bool false]) w := fun _ => by kernel_rfl
  go_enter Tryz.func53, Tryz.ntmps53
  go_wp2_with (go_at_call 85; refine (C.out _).mono ?_; rintro e w1 ⟨rfl, hB⟩; obtain ⟨hc, hf, hz⟩ := bcell hB)
  go_returns
  exact ⟨rfl, (by repeat' (first | (with_reducible exact Below.refl _ _) | (with_reducible assumption) | (with_reducible refine below_drewN ?_ _) | (with_reducible refine Below.drew ?_) | (with_reducible refine below_new ?_ _) | (with_reducible refine below_next ?_ (by with_reducible assumption)) | (with_reducible refine Below.setCell ?_ ?_ _) | go_size))⟩

set_option maxRecDepth 100000 in
set_option maxHeartbeats 800000 in
theorem iOfHole_4 (s : ByteArray) (h a b : Int) (w : World) :
    Calls Tryz.prog 53 #[.agg #[.int .i8 4, .string s, .int .i16 h, .int .u64 a, .int .u64 b]] w fun e w' => e = .returned (.bool true) ∧ Below w.heap.size w w' := by
  have C := Lib.hid fun W => iChange_4 s h a b W
  have a3 : ∀ w : World, (Instr.typeAssert (.iface 128 (.agg #[.int .i8 4, .string s, .int .i16 h, .int .u64 a, .int .u64 b])) 125 127 true).run Tryz.prog w = .ok (.tuple #[.agg #[.int .i8 0, .string ByteArray.empty, .int .i16 0, .int .u64 0, .int .u64 0], .bool false]) w := fun _ => by kernel_rfl
  have a4 : ∀ w : World, (Instr.typeAssert (.iface 128 (.agg #[.int .i8 4, .string s, .int .i16 h, .int .u64 a, .int .u64 b])) 125 128 true).run Tryz.prog w = .ok (.tuple #[.agg #[.int .i8 4, .string s, .int .i16 h, .int .u64 a, .int .u64 b], .bool true]) w := fun _ => by kernel_rfl
  go_enter Tryz.func53, Tryz.ntmps53
  go_wp2_with (go_at_call 85; refine (C.out _).mono ?_; rintro e w1 ⟨rfl, hB⟩; obtain ⟨hc, hf, hz⟩ := bcell hB)
  go_returns
  exact ⟨rfl, (by repeat' (first | (with_reducible exact Below.refl _ _) | (with_reducible assumption) | (with_reducible refine below_drewN ?_ _) | (with_reducible refine Below.drew ?_) | (with_reducible refine below_new ?_ _) | (with_reducible refine below_next ?_ (by with_reducible assumption)) | (with_reducible refine Below.setCell ?_ ?_ _) | go_size))⟩
end Go.Proofs.YtnbijfeidgddmaaGreatDoor

namespace Go.Proofs.YtnbijfeidgddmaaGreatDoor
open Go.ChangeShapes Go.WideShapes Go.ChangeAt Go.RowKit

def edz (l : Int) (n : Nat) : Int := if l - (n : Int) < 0 then -1 else l - (n : Int)
theorem edz_no {l : Int} {n : Nat} (h : l - (n : Int) < 0) : edz l n = -1 := by unfold edz; rw [if_pos h]
theorem edz_yes {l : Int} {n : Nat} (h : ¬ l - (n : Int) < 0) : edz l n = l - (n : Int) := by unfold edz; rw [if_neg h]


/-- What a measuring leaves: no more than there was, and no more of them than it. -/
def SzEdits (n : Nat) (w : World) (e : Ending) (w' : World) : Prop := ∃ z : Int, e = .returned (.int .i64 z) ∧ -1 ≤ z ∧ z ≤ 1048576 ∧ (0 ≤ z → n ≤ 1048576) ∧ Below w.heap.size w w'



set_option maxHeartbeats 800000 in
theorem eqEdit_same (k : Int) (s : ByteArray) (h : Int) (a : Int) (b : Int) (w : World) :
    Calls Tryz.prog 28 #[.agg #[.int .i8 k, .string s, .int .i16 h, .int .u64 a, .int .u64 b], .agg #[.int .i8 k, .string s, .int .i16 h, .int .u64 a, .int .u64 b]] w fun e w' => e = .returned (.bool true) ∧ Below w.heap.size w w' := by
  go_enter Tryz.func28, Tryz.ntmps28
  go_wp2_with (go_at_call 62; refine (eqMask_same _ _ _).mono ?_; rintro e w1 ⟨rfl, hB⟩; obtain ⟨hc, hf, hz⟩ := bcell hB)
  all_goals go_returns
  all_goals exact ⟨rfl, (by repeat' (first | (with_reducible exact Below.refl _ _) | (with_reducible assumption) | (with_reducible refine below_drewN ?_ _) | (with_reducible refine Below.drew ?_) | (with_reducible refine below_new ?_ _) | (with_reducible refine below_next ?_ (by with_reducible assumption)) | (with_reducible refine Below.setCell ?_ ?_ _) | go_size))⟩

set_option maxHeartbeats 1600000 in
theorem eqEditS_same (ad bd : Option Addr) (cs : List Ed) (c d : Nat) (w : World) (ha : EditsIn w ad cs) (hb : EditsIn w bd cs) (hn : cs.length ≤ 1048576) :
    Calls Tryz.prog 12 #[.slice ad cs.length c, .slice bd cs.length d] w fun e w' => e = .returned (.bool true) ∧ Below w.heap.size w w' := by
  have A := Lib.hid ha
  have B := Lib.hid hb
  have hbw := cell_bw
  clear ha hb
  go_enter Tryz.func12, Tryz.ntmps12
  go_wp2
  go_loopw [5] (fun i wr => ∃ j : Nat, j ≤ cs.length ∧ i = .int .i64 j ∧ Below w.heap.size w wr) (fun i _ => cs.length - (intOf i).toNat)
  case atStart => exact ⟨0, Nat.zero_le _, rfl, Below.refl _ _⟩
  case round =>
    obtain ⟨j, hj, rfl, hB⟩ := hrel
    have BB := Lib.hid hB
    by_cases hjl : j < cs.length
    · have hd : decide ((j : Int) < (cs.length : Int)) = true := by simpa using hjl
      obtain ⟨_, b1, o1, rfl, hb1, p0, p1, p2, p3, p4⟩ := A.out j hjl
      obtain ⟨_, b2, o2, rfl, hb2, q0, q1, q2, q3, q4⟩ := B.out j hjl
      have d0 := (hB.cell (p := ⟨b1, o1 + j * 5, none⟩) hb1).trans p0
      have d1 := (hB.cell (p := ⟨b1, o1 + j * 5 + 1, none⟩) hb1).trans p1
      have d2 := (hB.cell (p := ⟨b1, o1 + j * 5 + 2, none⟩) hb1).trans p2
      have d3 := (hB.cell (p := ⟨b1, o1 + j * 5 + 3, none⟩) hb1).trans p3
      have d4 := (hB.cell (p := ⟨b1, o1 + j * 5 + 4, none⟩) hb1).trans p4
      have e0 := (hB.cell (p := ⟨b2, o2 + j * 5, none⟩) hb2).trans q0
      have e1 := (hB.cell (p := ⟨b2, o2 + j * 5 + 1, none⟩) hb2).trans q1
      have e2 := (hB.cell (p := ⟨b2, o2 + j * 5 + 2, none⟩) hb2).trans q2
      have e3 := (hB.cell (p := ⟨b2, o2 + j * 5 + 3, none⟩) hb2).trans q3
      have e4 := (hB.cell (p := ⟨b2, o2 + j * 5 + 4, none⟩) hb2).trans q4
      have y1 : b1 < wr.heap.size := Nat.lt_of_lt_of_le hb1 hB.size
      have y2 : b2 < wr.heap.size := Nat.lt_of_lt_of_le hb2 hB.size
      have i1 : (0 : Int) ≤ (j : Int) := by omega
      have i2 : (j : Int) < (cs.length : Int) := by omega
      generalize edAt cs j = x at *
      obtain ⟨k, s, h, a, b⟩ := x
      simp only at d0 d1 d2 d3 d4 e0 e1 e2 e3 e4
      have K := Lib.hid fun W => eqEdit_same k s h a b W
      clear hB p0 p1 p2 p3 p4 q0 q1 q2 q3 q4
      go_wp2_with fail
      refine region_bw (by kernel_rfl) (by kernel_rfl) ?_
      repeat (go_big_quiet_step (first | (go_at_call 28; exact calls_bw (K.out _))))
      refine wpQuiet_nil ?_; intro wq hq; replace hq := below_of_bw hq; obtain ⟨qc, qf, qz⟩ := bcell hq
      go_wp2_with fail
      exact ⟨⟨j + 1, hjl, by rw [Int.natCast_succ], BB.out.trans (hq.mono BB.out.size)⟩, by (simp [intOf]) <;> omega⟩
    · have e : j = cs.length := by omega
      subst e
      have hd : decide ((cs.length : Int) < (cs.length : Int)) = false := by simp
      clear hB
      go_wp2
      go_ret
      exact ⟨rfl, BB.out⟩

def celled (x : Ed) (r : Nat) : Value := if r = 0 then .int .i8 x.k else if r = 1 then .string x.s else if r = 2 then .int .i16 x.h else if r = 3 then .int .u64 x.a else .int .u64 x.b
/-- k of them carried over, empty ones behind. -/
def rwed (xs : List Ed) (k : Nat) : List Value := (List.range (xs.length * 5)).map fun i => celled (if i / 5 < k then edAt xs (i / 5) else default) (i % 5)
theorem rwed_len (xs : List Ed) (k : Nat) : (rwed xs k).length = xs.length * 5 := by unfold rwed; simp
theorem rwed_get (xs : List Ed) (k i : Nat) (h : i < xs.length * 5) : (rwed xs k)[i]? = some (celled (if i / 5 < k then edAt xs (i / 5) else default) (i % 5)) := by
  unfold rwed; rw [List.getElem?_map, List.getElem?_range h]; rfl
theorem rwed_next (xs : List Ed) (k : Nat) (h : k < xs.length) :
    ((((((rwed xs k).set (k * 5) (.int .i8 (edAt xs k).k)).set (k * 5 + 1) (.string (edAt xs k).s)).set (k * 5 + 2) (.int .i16 (edAt xs k).h)).set (k * 5 + 3) (.int .u64 (edAt xs k).a)).set (k * 5 + 4) (.int .u64 (edAt xs k).b)) = rwed xs (k + 1) := by
  apply List.ext_getElem?
  intro i
  rw [List.getElem?_set, List.getElem?_set, List.getElem?_set, List.getElem?_set, List.getElem?_set]
  simp only [List.length_set, rwed_len]
  by_cases hi : i < xs.length * 5
  · rw [rwed_get xs (k + 1) i hi]
    by_cases e4 : k * 5 + 4 = i
    · subst e4
      rw [if_pos rfl, if_pos hi, show (k * 5 + 4) / 5 = k by omega, show (k * 5 + 4) % 5 = 4 by omega, if_pos (Nat.lt_succ_self k)]; rfl
    · rw [if_neg e4]
      by_cases e3 : k * 5 + 3 = i
      · subst e3
        rw [if_pos rfl, if_pos hi, show (k * 5 + 3) / 5 = k by omega, show (k * 5 + 3) % 5 = 3 by omega, if_pos (Nat.lt_succ_self k)]; rfl
      · rw [if_neg e3]
        by_cases e2 : k * 5 + 2 = i
        · subst e2
          rw [if_pos rfl, if_pos hi, show (k * 5 + 2) / 5 = k by omega, show (k * 5 + 2) % 5 = 2 by omega, if_pos (Nat.lt_succ_self k)]; rfl
        · rw [if_neg e2]
          by_cases e1 : k * 5 + 1 = i
          · subst e1
            rw [if_pos rfl, if_pos hi, show (k * 5 + 1) / 5 = k by omega, show (k * 5 + 1) % 5 = 1 by omega, if_pos (Nat.lt_succ_self k)]; rfl
          · rw [if_neg e1]
            by_cases e0 : k * 5 = i
            · subst e0
              rw [if_pos rfl, if_pos hi, show (k * 5) / 5 = k by omega, show (k * 5) % 5 = 0 by omega, if_pos (Nat.lt_succ_self k)]; rfl
            · rw [if_neg e0]
              rw [rwed_get xs k i hi]
              by_cases c : i / 5 < k
              · rw [if_pos c, if_pos (by omega)]
              · rw [if_neg c, if_neg (by omega)]
  · rw [List.getElem?_eq_none (by rw [rwed_len]; omega), List.getElem?_eq_none (by rw [rwed_len]; omega)]
    repeat (split; · first | omega | rfl)
    first | rfl | (split <;> first | omega | rfl)

theorem rwed_zero (xs : List Ed) : (madeCells #[.int .i8 0, .string ByteArray.empty, .int .i16 0, .int .u64 0, .int .u64 0] (xs.length * 5)).toList = rwed xs 0 := by
  apply List.ext_getElem?
  intro i
  by_cases hi : i < xs.length * 5
  · rw [rwed_get xs 0 i hi, if_neg (Nat.not_lt_zero _)]
    have h3 : i % 5 = 0 ∨ i % 5 = 1 ∨ i % 5 = 2 ∨ i % 5 = 3 ∨ i % 5 = 4 := by omega
    rcases h3 with h | h | h | h | h <;> simp [madeCells, hi, h, celled] <;> rfl
  · rw [List.getElem?_eq_none (by simp [madeCells]; omega), List.getElem?_eq_none (by rw [rwed_len]; omega)]

theorem info_ed : (Tryz.prog.info? 53).map (fun i => (i.zero, i.size, i.bytes)) = some (some (.agg #[.int .i8 0, .string ByteArray.empty, .int .i16 0, .int .u64 0, .int .u64 0]), 5, 48) := by kernel_rfl

theorem owned_below {w w' : World} {B e size n : Nat} {v : Value} {xs : List Value} (h : w.ownsRow B e size v n xs) (hb : Below w.heap.size w w') : w'.ownsRow B e size v n xs := by
  obtain ⟨h1, h2⟩ := h
  refine ⟨h1, ?_⟩
  rcases h2 with hn | ⟨g, cap, cur, rfl, hB, hg, rest⟩
  · exact .inl hn
  · exact .inr ⟨g, cap, cur, rfl, hB, (hb.block g (Array.getElem?_eq_some_iff.1 hg).1).trans hg, rest⟩

def Newed (cs : List Ed) (w : World) (e : Ending) (w' : World) : Prop := ∃ v, e = .returned v ∧ NewEdits w.heap.size cs v w' ∧ Below w.heap.size w w'

end Go.Proofs.YtnbijfeidgddmaaGreatDoor

namespace Go.Proofs.YtnbijfeidgddmaaGreatDoor
open Go.ChangeShapes Go.WideShapes Go.ChangeAt Go.RowKit

theorem conv_one (W : World) (u : UInt8) : (convert 76 9 (.slice (some ⟨W.heap.size, 0, none⟩) 1 1)).run Tryz.prog (W.alloc (.cells #[.int .u8 (u.toNat : Int)] 5)) = .ok (.string ⟨#[u]⟩) (W.alloc (.cells #[.int .u8 (u.toNat : Int)] 5)) := by
  have h := run_convert_bytes_back (P := Tryz.prog) (W.alloc (.cells #[.int .u8 (u.toNat : Int)] 5)) 76 9 5 ⟨W.heap.size, 0, none⟩ 1 [u] Tryz.underlying76 Tryz.underlying5 Tryz.underlying9 (fun j hj => by
    have hj0 : j = 0 := by simp at hj; omega
    subst hj0
    simp [Addr.add])
  simpa using h

set_option maxRecDepth 100000 in
set_option maxHeartbeats 800000 in
theorem markText_any (k : Nat) (k1 : k ≤ 4000000) (w : World) :
    Calls Tryz.prog 24 #[.int .i64 (k : Int)] w fun e w' => (∃ s : ByteArray, e = .returned (.string s)) ∧ Below w.heap.size w w' := by
  by_cases hk : 0 < k
  · have d1 : decide ((k : Int) ≤ 0) = false := by simp; omega
    go_enter Tryz.func24, Tryz.ntmps24
    go_wp2
    go_loopw [0, 3] (fun q o wr => ∃ (n : Nat) (s : ByteArray), q = .int .i64 (n : Int) ∧ o = .string s ∧ s.size + n ≤ 4000000 ∧ Below w.heap.size w wr) (fun q _ _ => (intOf q).toNat)
    case atStart => exact ⟨k, ByteArray.empty, rfl, rfl, by simpa using k1, Below.refl _ _⟩
    case round =>
      obtain ⟨n, s, rfl, rfl, hn, hB⟩ := hrel
      have BB := Lib.hid hB
      have HN := Lib.hid hn
      clear d1 hB
      by_cases hnz : 0 < n
      · have d2 : decide (0 < (n : Int)) = true := by simp; omega
        obtain ⟨u, hu⟩ : ∃ u : UInt8, (u.toNat : Int) = 48 + (n : Int) % 10 := ⟨UInt8.ofNat (48 + n % 10), by rw [UInt8.toNat_ofNat']; omega⟩
        have v1 : (n : Int).tmod 10 = (n : Int) % 10 := Int.tmod_eq_emod_of_nonneg (by omega)
        have v2 : IntKind.i64.wrap ((n : Int) % 10) = (n : Int) % 10 := IntWalk.i64_in _ (by omega)
        have v3 : IntKind.i64.wrap (48 + (n : Int) % 10) = 48 + (n : Int) % 10 := IntWalk.i64_in _ (by omega)
        have v4 : IntKind.u8.wrap (48 + (n : Int) % 10) = (u.toNat : Int) := by rw [hu]; exact IntWalk.u8_in _ ⟨by omega, by omega⟩
        obtain ⟨m, hm⟩ : ∃ m : Nat, m = n / 10 := ⟨_, rfl⟩
        have v7 : (n : Int) / 10 = (m : Int) := by omega
        have v5 : (n : Int).tdiv 10 = (m : Int) := by rw [Int.tdiv_eq_ediv_of_nonneg (by omega)]; omega
        have v6 : IntKind.i64.wrap (m : Int) = (m : Int) := IntWalk.i64_in _ (by omega)
        have MM := Lib.hid (show m < n by omega)
        have cv := conv_one wr u
        have sz : (ByteArray.mk #[u]).size = 1 := rfl
        have sl : ¬ 9223372036854775807 < 1 + s.size := by have := HN.out; omega
        clear hu hn k1 hk hm
        go_wp2
        exact ⟨⟨m, _, rfl, rfl, by have := HN.out; have := MM.out; rw [ByteArray.size_append, sz]; omega, below_new BB.out _⟩, by have := MM.out; (simp [intOf]) <;> omega⟩
      · have d2 : decide (0 < (n : Int)) = false := by simp; omega
        have sl : ¬ 9223372036854775807 < 1 + s.size := by have := HN.out; omega
        go_wp2
        go_ret
        exact ⟨⟨_, rfl⟩, BB.out⟩
  · have d1 : decide ((k : Int) ≤ 0) = true := by simp; omega
    go_enter Tryz.func24, Tryz.ntmps24
    go_wp2
    go_ret
    exact ⟨⟨_, rfl⟩, Below.refl _ _⟩
end Go.Proofs.YtnbijfeidgddmaaGreatDoor

namespace Go.Proofs.YtnbijfeidgddmaaGreatDoor
open Go.ChangeShapes Go.WideShapes Go.ChangeAt Go.RowKit

/-- A card as it lies in memory: three cells. -/
structure Cd where
  s : ByteArray
  a : Int
  b : Int
instance : Inhabited Cd := ⟨⟨ByteArray.empty, 0, 0⟩⟩
def Cd.fits (c : Cd) : Prop := c.s.size ≤ maxLen ∧ U64 c.a ∧ U64 c.b
def cdAt (cs : List Cd) (i : Nat) : Cd := cs.getD i default
theorem cdAt_map (f : Nat → Cd) (n i : Nat) (h : i < n) : cdAt ((List.range n).map f) i = f i := by
  unfold cdAt; simp [List.getD, h]

/-- The cells of the card with index i lie behind an address. -/
def CdCell (w : World) (a : Option Addr) (i : Nat) (c : Cd) : Prop := c.fits ∧ ∃ b off, a = some ⟨b, off, none⟩ ∧ b < w.heap.size ∧
  w.cell? ⟨b, off + i * 3, none⟩ = some (.string c.s) ∧ w.cell? ⟨b, off + i * 3 + 1, none⟩ = some (.int .u64 c.a) ∧ w.cell? ⟨b, off + i * 3 + 2, none⟩ = some (.int .u64 c.b)
/-- The cards of a slice lie in memory. -/
def CardsIn (w : World) (a : Option Addr) (cs : List Cd) : Prop := ∀ i, i < cs.length → CdCell w a i (cdAt cs i)
theorem cdCell_below {w w' : World} {a : Option Addr} {i : Nat} {c : Cd} (h : CdCell w a i c) (hb : Below w.heap.size w w') : CdCell w' a i c := by
  obtain ⟨hf, b, off, ha, hlt, h0, h1, h2⟩ := h
  exact ⟨hf, b, off, ha, Nat.lt_of_lt_of_le hlt hb.size, (hb.cell hlt).trans h0, (hb.cell hlt).trans h1, (hb.cell hlt).trans h2⟩
theorem cardsIn_below {w w' : World} {a : Option Addr} {cs : List Cd} (h : CardsIn w a cs) (hb : Below w.heap.size w w') : CardsIn w' a cs := fun i hi => cdCell_below (h i hi) hb

/-- A new slice with just these cards, in a block from B on. -/
def NewCards (B : Nat) (cs : List Cd) (v : Value) (w : World) : Prop := ∃ g, v = .slice (some ⟨g, 0, none⟩) cs.length cs.length ∧ B ≤ g ∧ g < w.heap.size ∧ CardsIn w (some ⟨g, 0, none⟩) cs ∧ ∀ j, w.frozen? ⟨g, j, none⟩ = false

theorem open_cards {H : Type} {enc : TypeId × Value → H} {P : Program} {W : World} {t e u : TypeId} {f0 f1 : Field} {v : Value} {d : DataW H} {p : List MemPlace} {r : Reach} {b : Nat} (ht : P.underlying t = some (.slice e)) (he : P.underlying e = some (.struct #[f0, f1])) (hs : P.underlying f0.type = some .string) (ha : P.underlying f1.type = some (.array 2 u)) (hu : P.underlying u = some (.int .u64))
    (ce : P.cellsOf e = 3) (c0 : P.cellsOf f0.type = 1) (c1 : P.cellsOf f1.type = 2) (cu : P.cellsOf u = 1) (o0 : f0.offset = 0) (o1 : f1.offset = 1)
    (hv : Value.okWide P W r b t v) (h : DataW.Trod enc P W 0 (fun _ => true) true t v d p) : ∃ a cs cap, v = .slice a cs.length cap ∧ CardsIn W a cs ∧ cs.length ≤ maxLen := by
  obtain ⟨a0, len, cap, rfl⟩ := okWide_slice ht hv
  obtain ⟨fuel, hf⟩ := h
  rcases Go.Deep.open_slice ht hf with ⟨hcs, _⟩ | ⟨a, len', cap', m, n, D, Pl, hcs, _, hl, hcm, hm, _, hi⟩
  · simp [Value.cells] at hcs
    obtain ⟨rfl, rfl, rfl⟩ := hcs
    exact ⟨none, [], 0, rfl, fun i hi => by simp at hi, by simp⟩
  · simp [Value.cells] at hcs
    obtain ⟨rfl, rfl, rfl⟩ := hcs
    simp at hm
    subst hm
    have key : ∀ i, i < len → ∃ c : Cd, c.fits ∧ W.cell? (a.add (i * 3)) = some (.string c.s) ∧ W.cell? (a.add (i * 3 + 1)) = some (.int .u64 c.a) ∧ W.cell? (a.add (i * 3 + 2)) = some (.int .u64 c.b) := by
      intro i hi'
      obtain ⟨cs', hc, hd⟩ := hi i (by omega)
      rw [ce] at hc
      obtain ⟨_, hlen, hat⟩ := World.cells?_some hc
      obtain ⟨xs, n1, _, _, _, hxl, hfs⟩ := DataW.trod_struct he hd
      match cs', hlen with
      | [x0, x1, x2], _ =>
        have g0 := hfs 0 f0 rfl
        have g1 := hfs 1 f1 rfl
        rw [o0, c0] at g0
        rw [o1, c1] at g1
        match xs, hxl with
        | [y0, y1], _ =>
          simp at g0 g1
          obtain ⟨s, hs0, _, hs1⟩ := DataW.trod_string hs g0
          obtain ⟨zs, n2, _, _, _, hzl, hg⟩ := DataW.trod_array ha g1
          match zs, hzl with
          | [z0, z1], _ =>
            have k0 := hg 0 (by omega)
            have k1 := hg 1 (by omega)
            rw [cu] at k0 k1
            simp at k0 k1
            obtain ⟨n3, e3, _, w3⟩ := DataW.trod_int hu k0
            obtain ⟨n4, e4, _, w4⟩ := DataW.trod_int hu k1
            simp at hs0 e3 e4
            subst hs0 e3 e4
            simp [Lit.wf, IntKind.min, IntKind.max, IntKind.signed, IntKind.bits] at w3 w4
            have u3 : U64 n3 := ⟨by omega, by omega⟩
            have u4 : U64 n4 := ⟨by omega, by omega⟩
            have a0 := hat 0 (by omega)
            have a1 := hat 1 (by omega)
            have a2 := hat 2 (by omega)
            rw [Go.Deep.add_add] at a0 a1 a2
            exact ⟨⟨s, n3, n4⟩, ⟨hs1, u3, u4⟩, a0, a1, a2⟩
    obtain ⟨f, hf2⟩ := Go.Deep.choose_lt key
    refine ⟨some a, (List.range len).map f, m, by simp, fun i hi' => ?_, by simp; omega⟩
    simp at hi'
    rw [cdAt_map f len i hi']
    obtain ⟨hfit, q0, q1, q2⟩ := hf2 i hi'
    obtain ⟨b, off, spot⟩ := a
    have hspot : spot = none := by simpa [Addr.add] using World.cell?_spot (hf2 0 (by omega)).2.1
    subst hspot
    exact ⟨hfit, b, off, rfl, by have h := World.block_lt_of_cell? _ _ q0; rw [Go.WideShapes.add_plain] at h; exact h, by rw [← Go.WideShapes.add_plain]; exact q0, by rw [Nat.add_assoc, ← Go.WideShapes.add_plain]; exact q1, by rw [Nat.add_assoc, ← Go.WideShapes.add_plain]; exact q2⟩
end Go.Proofs.YtnbijfeidgddmaaGreatDoor

namespace Go.Proofs.YtnbijfeidgddmaaGreatDoor
open Go.ChangeShapes Go.WideShapes Go.ChangeAt Go.RowKit

def szc (l : Int) (n : Nat) : Int := if l - (n : Int) < 0 then -1 else l - (n : Int)
theorem szc_no {l : Int} {n : Nat} (h : l - (n : Int) < 0) : szc l n = -1 := by unfold szc; rw [if_pos h]
theorem szc_yes {l : Int} {n : Nat} (h : ¬ l - (n : Int) < 0) : szc l n = l - (n : Int) := by unfold szc; rw [if_neg h]


/-- What a measuring leaves: no more than there was, and no more cards than it. -/
def SzR (n : Nat) (w : World) (e : Ending) (w' : World) : Prop := ∃ z : Int, e = .returned (.int .i64 z) ∧ -1 ≤ z ∧ z ≤ 1048576 ∧ (0 ≤ z → n ≤ 1048576) ∧ Below w.heap.size w w'

end Go.Proofs.YtnbijfeidgddmaaGreatDoor

namespace Go.Proofs.YtnbijfeidgddmaaGreatDoor
open Go.ChangeShapes Go.WideShapes Go.ChangeAt Go.RowKit



end Go.Proofs.YtnbijfeidgddmaaGreatDoor

namespace Go.Proofs.YtnbijfeidgddmaaGreatDoor
open Go.ChangeShapes Go.WideShapes Go.ChangeAt Go.RowKit

def cell3 (c : Cd) (r : Nat) : Value := if r = 0 then .string c.s else if r = 1 then .int .u64 c.a else .int .u64 c.b
/-- k cards carried over, empty ones behind. -/
def rowC (cs : List Cd) (k : Nat) : List Value := (List.range (cs.length * 3)).map fun i => cell3 (if i / 3 < k then cdAt cs (i / 3) else default) (i % 3)
theorem rowC_len (cs : List Cd) (k : Nat) : (rowC cs k).length = cs.length * 3 := by unfold rowC; simp
theorem rowC_get (cs : List Cd) (k i : Nat) (h : i < cs.length * 3) : (rowC cs k)[i]? = some (cell3 (if i / 3 < k then cdAt cs (i / 3) else default) (i % 3)) := by
  unfold rowC; rw [List.getElem?_map, List.getElem?_range h]; rfl
theorem rowC_next (cs : List Cd) (k : Nat) (h : k < cs.length) :
    (((rowC cs k).set (k * 3) (.string (cdAt cs k).s)).set (k * 3 + 1) (.int .u64 (cdAt cs k).a)).set (k * 3 + 2) (.int .u64 (cdAt cs k).b) = rowC cs (k + 1) := by
  apply List.ext_getElem?
  intro i
  rw [List.getElem?_set, List.getElem?_set, List.getElem?_set]
  simp only [List.length_set, rowC_len]
  by_cases hi : i < cs.length * 3
  · rw [rowC_get cs (k + 1) i hi]
    by_cases e2 : k * 3 + 2 = i
    · subst e2
      rw [if_pos rfl, if_pos hi, show (k * 3 + 2) / 3 = k by omega, show (k * 3 + 2) % 3 = 2 by omega, if_pos (Nat.lt_succ_self k)]; rfl
    · rw [if_neg e2]
      by_cases e1 : k * 3 + 1 = i
      · subst e1
        rw [if_pos rfl, if_pos hi, show (k * 3 + 1) / 3 = k by omega, show (k * 3 + 1) % 3 = 1 by omega, if_pos (Nat.lt_succ_self k)]; rfl
      · rw [if_neg e1]
        by_cases e0 : k * 3 = i
        · subst e0
          rw [if_pos rfl, if_pos hi, show k * 3 / 3 = k by omega, show k * 3 % 3 = 0 by omega, if_pos (Nat.lt_succ_self k)]; rfl
        · rw [if_neg e0, rowC_get cs k i hi]
          by_cases c : i / 3 < k
          · rw [if_pos c, if_pos (by omega)]
          · rw [if_neg c, if_neg (by omega)]
  · rw [List.getElem?_eq_none (by rw [rowC_len]; omega), List.getElem?_eq_none (by rw [rowC_len]; omega)]
    repeat (split; · first | omega | rfl)
    first | rfl | (split <;> first | omega | rfl)

theorem rowC_zero (cs : List Cd) : (madeCells #[.string ByteArray.empty, .int .u64 0, .int .u64 0] (cs.length * 3)).toList = rowC cs 0 := by
  apply List.ext_getElem?
  intro i
  by_cases hi : i < cs.length * 3
  · rw [rowC_get cs 0 i hi, if_neg (Nat.not_lt_zero _)]
    have h3 : i % 3 = 0 ∨ i % 3 = 1 ∨ i % 3 = 2 := by omega
    rcases h3 with h | h | h <;> simp [madeCells, hi, h, cell3] <;> rfl
  · rw [List.getElem?_eq_none (by simp [madeCells]; omega), List.getElem?_eq_none (by rw [rowC_len]; omega)]

theorem info_card : (Tryz.prog.info? 80).map (fun i => (i.zero, i.size, i.bytes)) = some (some (.agg #[.string ByteArray.empty, .int .u64 0, .int .u64 0]), 3, 32) := by kernel_rfl

theorem ownsRow_below {w w' : World} {B e size n : Nat} {v : Value} {xs : List Value} (h : w.ownsRow B e size v n xs) (hb : Below w.heap.size w w') : w'.ownsRow B e size v n xs := by
  obtain ⟨h1, h2⟩ := h
  refine ⟨h1, ?_⟩
  rcases h2 with hn | ⟨g, cap, cur, rfl, hB, hg, rest⟩
  · exact .inl hn
  · exact .inr ⟨g, cap, cur, rfl, hB, (hb.block g (Array.getElem?_eq_some_iff.1 hg).1).trans hg, rest⟩

def NewC (cs : List Cd) (w : World) (e : Ending) (w' : World) : Prop := ∃ v, e = .returned v ∧ NewCards w.heap.size cs v w' ∧ Below w.heap.size w w'

end Go.Proofs.YtnbijfeidgddmaaGreatDoor

namespace Go.Proofs.YtnbijfeidgddmaaGreatDoor
open Go.ChangeShapes Go.WideShapes Go.ChangeAt Go.RowKit

end Go.Proofs.YtnbijfeidgddmaaGreatDoor

namespace Go.Proofs.YtnbijfeidgddmaaGreatDoor
open Go.ChangeShapes Go.WideShapes Go.ChangeAt Go.RowKit

/-- The digits of a number, ahead of a text. -/
def mdig (k : Nat) (s : ByteArray) : ByteArray := if _h : k = 0 then s else mdig (k / 10) (⟨#[UInt8.ofNat (48 + k % 10)]⟩ ++ s)
termination_by k
theorem mdig_zero (s : ByteArray) : mdig 0 s = s := by unfold mdig; simp
theorem mdig_next {k : Nat} (s : ByteArray) (h : 0 < k) : mdig k s = mdig (k / 10) (⟨#[UInt8.ofNat (48 + k % 10)]⟩ ++ s) := by rw [mdig]; simp; omega
/-- The text that is the mark with a number. -/
def mtext (k : Nat) : ByteArray := if k = 0 then ⟨#[109, 48]⟩ else ⟨#[109]⟩ ++ mdig k ByteArray.empty

set_option maxRecDepth 100000 in
set_option maxHeartbeats 800000 in
theorem markText_is (k : Nat) (k1 : k ≤ 4000000) (w : World) :
    Calls Tryz.prog 24 #[.int .i64 (k : Int)] w fun e w' => e = .returned (.string (mtext k)) ∧ Below w.heap.size w w' := by
  by_cases hk : 0 < k
  · have d1 : decide ((k : Int) ≤ 0) = false := by simp; omega
    have T := Lib.hid (show mtext k = ⟨#[109]⟩ ++ mdig k ByteArray.empty from if_neg (by omega))
    go_enter Tryz.func24, Tryz.ntmps24
    go_wp2
    go_loopw [0, 3] (fun q o wr => ∃ (n : Nat) (s : ByteArray), q = .int .i64 (n : Int) ∧ o = .string s ∧ mdig n s = mdig k ByteArray.empty ∧ s.size + n ≤ 4000000 ∧ Below w.heap.size w wr) (fun q _ _ => (intOf q).toNat)
    case atStart => exact ⟨k, ByteArray.empty, rfl, rfl, rfl, by simpa using k1, Below.refl _ _⟩
    case round =>
      obtain ⟨n, s, rfl, rfl, hs, hn, hB⟩ := hrel
      have BB := Lib.hid hB
      have HN := Lib.hid hn
      clear d1 hB
      by_cases hnz : 0 < n
      · have d2 : decide (0 < (n : Int)) = true := by simp; omega
        have SS := Lib.hid ((mdig_next s hnz).symm.trans hs)
        clear hs
        obtain ⟨u, hu, hu2⟩ : ∃ u : UInt8, (u.toNat : Int) = 48 + (n : Int) % 10 ∧ UInt8.ofNat (48 + n % 10) = u := ⟨UInt8.ofNat (48 + n % 10), by rw [UInt8.toNat_ofNat']; omega, rfl⟩
        rw [hu2] at SS
        have v1 : (n : Int).tmod 10 = (n : Int) % 10 := Int.tmod_eq_emod_of_nonneg (by omega)
        have v2 : IntKind.i64.wrap ((n : Int) % 10) = (n : Int) % 10 := IntWalk.i64_in _ (by omega)
        have v3 : IntKind.i64.wrap (48 + (n : Int) % 10) = 48 + (n : Int) % 10 := IntWalk.i64_in _ (by omega)
        have v4 : IntKind.u8.wrap (48 + (n : Int) % 10) = (u.toNat : Int) := by rw [hu]; exact IntWalk.u8_in _ ⟨by omega, by omega⟩
        obtain ⟨m, hm⟩ : ∃ m : Nat, n / 10 = m := ⟨_, rfl⟩
        rw [hm] at SS
        have v7 : (n : Int) / 10 = (m : Int) := by omega
        have v5 : (n : Int).tdiv 10 = (m : Int) := by rw [Int.tdiv_eq_ediv_of_nonneg (by omega)]; omega
        have v6 : IntKind.i64.wrap (m : Int) = (m : Int) := IntWalk.i64_in _ (by omega)
        have MM := Lib.hid (show m < n by omega)
        have cv := conv_one wr u
        have sz : (ByteArray.mk #[u]).size = 1 := rfl
        have sl : ¬ 9223372036854775807 < 1 + s.size := by have := HN.out; omega
        clear hu hu2 hn k1 hk hm
        go_wp2
        exact ⟨⟨m, _, rfl, rfl, SS.out, by have := HN.out; have := MM.out; rw [ByteArray.size_append, sz]; omega, below_new BB.out _⟩, by have := MM.out; (simp [intOf]) <;> omega⟩
      · have hn0 : n = 0 := by omega
        subst hn0
        rw [mdig_zero] at hs
        have SS := Lib.hid hs
        clear hs
        have sl : ¬ 9223372036854775807 < 1 + s.size := by have := HN.out; omega
        go_wp2
        go_ret
        exact ⟨by rw [T.out, ← SS.out]; rfl, BB.out⟩
  · have hk0 : k = 0 := by omega
    subst hk0
    have T : mtext 0 = ⟨#[109, 48]⟩ := rfl
    rw [T]
    go_enter Tryz.func24, Tryz.ntmps24
    go_wp2
    go_ret
    exact ⟨rfl, Below.refl _ _⟩

/-- Cards as cells. -/
def flatC : List Cd → List Value
  | [] => []
  | c :: cs => .string c.s :: .int .u64 c.a :: .int .u64 c.b :: flatC cs
theorem flatC_len : ∀ cs : List Cd, (flatC cs).length = cs.length * 3
  | [] => rfl
  | c :: cs => by simp only [flatC, List.length_cons, flatC_len cs]; omega
theorem flatC_app : ∀ (cs ds : List Cd), flatC (cs ++ ds) = flatC cs ++ flatC ds
  | [], _ => rfl
  | c :: cs, ds => by simp only [flatC, List.cons_append, flatC_app cs ds]
theorem cdAt_succ (c : Cd) (cs : List Cd) (i : Nat) : cdAt (c :: cs) (i + 1) = cdAt cs i := rfl
theorem flatC_get : ∀ (cs : List Cd) (i : Nat), i < cs.length → (flatC cs)[i * 3]? = some (.string (cdAt cs i).s) ∧ (flatC cs)[i * 3 + 1]? = some (.int .u64 (cdAt cs i).a) ∧ (flatC cs)[i * 3 + 2]? = some (.int .u64 (cdAt cs i).b)
  | [], i, h => absurd h (Nat.not_lt_zero _)
  | c :: cs, 0, _ => ⟨rfl, rfl, rfl⟩
  | c :: cs, i + 1, h => by
    have := flatC_get cs i (by simpa using h)
    rw [show (i + 1) * 3 = i * 3 + 1 + 1 + 1 by omega]
    exact this
theorem flatC_set : ∀ (cs : List Cd) (i : Nat) (c : Cd), (((flatC cs).set (i * 3) (.string c.s)).set (i * 3 + 1) (.int .u64 c.a)).set (i * 3 + 2) (.int .u64 c.b) = flatC (cs.set i c)
  | [], i, c => rfl
  | d :: cs, 0, c => rfl
  | d :: cs, i + 1, c => by
    rw [show (i + 1) * 3 = i * 3 + 1 + 1 + 1 by omega]
    have := flatC_set cs i c
    simp only [flatC, List.set_cons_succ, this]
/-- Cards of the call's own. -/
def OwnCards (B : Nat) (cs : List Cd) (v : Value) (w : World) : Prop := w.ownsRow B 80 3 v cs.length (flatC cs)
/-- The cells of cards. -/
def CellsC (w : World) (a : Option Addr) (cs : List Cd) : Prop := ∀ i, i < cs.length → ∃ b off, a = some ⟨b, off, none⟩ ∧ b < w.heap.size ∧ w.cell? ⟨b, off + i * 3, none⟩ = some (.string (cdAt cs i).s) ∧ w.cell? ⟨b, off + i * 3 + 1, none⟩ = some (.int .u64 (cdAt cs i).a) ∧ w.cell? ⟨b, off + i * 3 + 2, none⟩ = some (.int .u64 (cdAt cs i).b)
theorem ownCards_in {B : Nat} {cs : List Cd} {v : Value} {w : World} (h : OwnCards B cs v w) : ∃ a c, v = .slice a cs.length c ∧ CellsC w a cs := by
  have h0 := h
  obtain ⟨_, h2⟩ := h
  rcases h2 with ⟨rfl, hn⟩ | ⟨g, cap, cur, rfl, hb, hg, _⟩
  · exact ⟨none, 0, by rw [hn], fun i hi => by omega⟩
  · refine ⟨_, cap, rfl, fun i hi => ⟨g, 0, rfl, (Array.getElem?_eq_some_iff.1 hg).1, ?_, ?_, ?_⟩⟩
    · rw [Nat.zero_add, World.ownsRow.cellAt h0 _ (by omega)]; exact (flatC_get cs i hi).1
    · rw [Nat.zero_add, World.ownsRow.cellAt h0 _ (by omega)]; exact (flatC_get cs i hi).2.1
    · rw [Nat.zero_add, World.ownsRow.cellAt h0 _ (by omega)]; exact (flatC_get cs i hi).2.2
theorem cellsC_below {w w' : World} {a : Option Addr} {cs : List Cd} (h : CellsC w a cs) (hb : Below w.heap.size w w') : CellsC w' a cs := fun i hi => by
  obtain ⟨b, off, ha, hlt, h0, h1, h2⟩ := h i hi
  exact ⟨b, off, ha, Nat.lt_of_lt_of_le hlt hb.size, (hb.cell hlt).trans h0, (hb.cell hlt).trans h1, (hb.cell hlt).trans h2⟩
theorem cardsIn_of {w : World} {a : Option Addr} {cs : List Cd} (h : CellsC w a cs) (hf : ∀ i, i < cs.length → (cdAt cs i).fits) : CardsIn w a cs := fun i hi => ⟨hf i hi, h i hi⟩
theorem ownCards_kept {B : Nat} {cs : List Cd} {v : Value} {w w' : World} (h : OwnCards B cs v w) (hb : Below w.heap.size w w') : OwnCards B cs v w' := ownsRow_below h hb
theorem ownCards_weaken {B B' : Nat} {cs : List Cd} {v : Value} {w : World} (h : OwnCards B cs v w) (hb : B' ≤ B) : OwnCards B' cs v w := by
  obtain ⟨h1, h2⟩ := h
  refine ⟨h1, ?_⟩
  rcases h2 with hn | ⟨g, cap, cur, rfl, hB, rest⟩
  · exact .inl hn
  · exact .inr ⟨g, cap, cur, rfl, Nat.le_trans hb hB, rest⟩
theorem ownCards_oth {B g : Nat} {cs : List Cd} {v : Value} {w w' : World} (h : OwnCards B cs v w) (hb : Oth g w w') (hg : g < B) : OwnCards B cs v w' := by
  obtain ⟨h1, h2⟩ := h
  refine ⟨h1, ?_⟩
  rcases h2 with hn | ⟨b, cap, cur, rfl, hB, hh, rest⟩
  · exact .inl hn
  · exact .inr ⟨b, cap, cur, rfl, hB, (hb.block b (by omega) (Array.getElem?_eq_some_iff.1 hh).1).trans hh, rest⟩

/-- The card that is written with the number q. -/
def mkC (q : Nat) : Cd := ⟨mtext q, (q : Int) + 1, (q : Int) + 1 + 1⟩
/-- The first j cards are marked, from k on. -/
def Marked (k j : Nat) (cs : List Cd) : Prop := ∀ l, l < j → cdAt cs l = mkC (k + 3 * l)
theorem marked_next {k j : Nat} {cs : List Cd} (h : Marked k j cs) (hj : j < cs.length) : Marked k (j + 1) (cs.set j (mkC (k + 3 * j))) := by
  intro l hl
  unfold cdAt
  rw [List.getD, List.getElem?_set]
  by_cases e : j = l
  · subst e; simp [hj]
  · rw [if_neg e]; exact h l (by omega)

end Go.Proofs.YtnbijfeidgddmaaGreatDoor

namespace Go.Proofs.YtnbijfeidgddmaaGreatDoor
open Go.ChangeShapes Go.WideShapes Go.ChangeAt Go.RowKit

end Go.Proofs.YtnbijfeidgddmaaGreatDoor

namespace Go.Proofs.YtnbijfeidgddmaaGreatDoor
open Go.ChangeShapes Go.WideShapes Go.ChangeAt Go.RowKit

/-- They as cells. -/
def fled : List Ed → List Value
  | [] => []
  | c :: xs => .int .i8 c.k :: .string c.s :: .int .i16 c.h :: .int .u64 c.a :: .int .u64 c.b :: fled xs
theorem fled_len : ∀ xs : List Ed, (fled xs).length = xs.length * 5
  | [] => rfl
  | c :: xs => by simp only [fled, List.length_cons, fled_len xs]; omega
theorem fled_app : ∀ (xs ys : List Ed), fled (xs ++ ys) = fled xs ++ fled ys
  | [], _ => rfl
  | c :: xs, ys => by simp only [fled, List.cons_append, fled_app xs ys]
theorem edAt_succ (c : Ed) (xs : List Ed) (i : Nat) : edAt (c :: xs) (i + 1) = edAt xs i := rfl
theorem fled_get : ∀ (xs : List Ed) (i : Nat), i < xs.length → (fled xs)[i * 5]? = some (.int .i8 (edAt xs i).k) ∧ (fled xs)[i * 5 + 1]? = some (.string (edAt xs i).s) ∧ (fled xs)[i * 5 + 2]? = some (.int .i16 (edAt xs i).h) ∧ (fled xs)[i * 5 + 3]? = some (.int .u64 (edAt xs i).a) ∧ (fled xs)[i * 5 + 4]? = some (.int .u64 (edAt xs i).b)
  | [], i, h => absurd h (Nat.not_lt_zero _)
  | c :: xs, 0, _ => ⟨rfl, rfl, rfl, rfl, rfl⟩
  | c :: xs, i + 1, h => by
    have := fled_get xs i (by simpa using h)
    rw [show (i + 1) * 5 = i * 5 + 1 + 1 + 1 + 1 + 1 by omega]
    exact this
theorem fled_set : ∀ (xs : List Ed) (i : Nat) (c : Ed), ((((((fled xs).set (i * 5) (.int .i8 c.k)).set (i * 5 + 1) (.string c.s)).set (i * 5 + 2) (.int .i16 c.h)).set (i * 5 + 3) (.int .u64 c.a)).set (i * 5 + 4) (.int .u64 c.b)) = fled (xs.set i c)
  | [], i, c => rfl
  | d :: xs, 0, c => rfl
  | d :: xs, i + 1, c => by
    rw [show (i + 1) * 5 = i * 5 + 1 + 1 + 1 + 1 + 1 by omega]
    have := fled_set xs i c
    simp only [fled, List.set_cons_succ, this]
def OwnEdits (B : Nat) (xs : List Ed) (v : Value) (w : World) : Prop := w.ownsRow B 53 5 v xs.length (fled xs)
def Cellsed (w : World) (a : Option Addr) (xs : List Ed) : Prop := ∀ i, i < xs.length → ∃ b off, a = some ⟨b, off, none⟩ ∧ b < w.heap.size ∧ w.cell? ⟨b, off + i * 5, none⟩ = some (.int .i8 (edAt xs i).k) ∧ w.cell? ⟨b, off + i * 5 + 1, none⟩ = some (.string (edAt xs i).s) ∧ w.cell? ⟨b, off + i * 5 + 2, none⟩ = some (.int .i16 (edAt xs i).h) ∧ w.cell? ⟨b, off + i * 5 + 3, none⟩ = some (.int .u64 (edAt xs i).a) ∧ w.cell? ⟨b, off + i * 5 + 4, none⟩ = some (.int .u64 (edAt xs i).b)
theorem ownEdits_in {B : Nat} {xs : List Ed} {v : Value} {w : World} (h : OwnEdits B xs v w) : ∃ a c, v = .slice a xs.length c ∧ Cellsed w a xs := by
  have h0 := h
  obtain ⟨_, h2⟩ := h
  rcases h2 with ⟨rfl, hn⟩ | ⟨g, cap, cur, rfl, hb, hg, _⟩
  · exact ⟨none, 0, by rw [hn], fun i hi => by omega⟩
  · refine ⟨_, cap, rfl, fun i hi => ⟨g, 0, rfl, (Array.getElem?_eq_some_iff.1 hg).1, ?_, ?_, ?_, ?_, ?_⟩⟩
    · rw [Nat.zero_add, World.ownsRow.cellAt h0 _ (by omega)]; exact (fled_get xs i hi).1
    · rw [Nat.zero_add, World.ownsRow.cellAt h0 _ (by omega)]; exact (fled_get xs i hi).2.1
    · rw [Nat.zero_add, World.ownsRow.cellAt h0 _ (by omega)]; exact (fled_get xs i hi).2.2.1
    · rw [Nat.zero_add, World.ownsRow.cellAt h0 _ (by omega)]; exact (fled_get xs i hi).2.2.2.1
    · rw [Nat.zero_add, World.ownsRow.cellAt h0 _ (by omega)]; exact (fled_get xs i hi).2.2.2.2
theorem cellsed_below {w w' : World} {a : Option Addr} {xs : List Ed} (h : Cellsed w a xs) (hb : Below w.heap.size w w') : Cellsed w' a xs := fun i hi => by
  obtain ⟨b, off, ha, hlt, h0, h1, h2, h3, h4⟩ := h i hi
  exact ⟨b, off, ha, Nat.lt_of_lt_of_le hlt hb.size, (hb.cell hlt).trans h0, (hb.cell hlt).trans h1, (hb.cell hlt).trans h2, (hb.cell hlt).trans h3, (hb.cell hlt).trans h4⟩
theorem editsIn_of {w : World} {a : Option Addr} {xs : List Ed} (h : Cellsed w a xs) (hf : ∀ i, i < xs.length → (edAt xs i).fits) : EditsIn w a xs := fun i hi => ⟨hf i hi, h i hi⟩
theorem ownEdits_kept {B : Nat} {xs : List Ed} {v : Value} {w w' : World} (h : OwnEdits B xs v w) (hb : Below w.heap.size w w') : OwnEdits B xs v w' := owned_below h hb
theorem ownEdits_weaken {B B' : Nat} {xs : List Ed} {v : Value} {w : World} (h : OwnEdits B xs v w) (hb : B' ≤ B) : OwnEdits B' xs v w := by
  obtain ⟨h1, h2⟩ := h
  refine ⟨h1, ?_⟩
  rcases h2 with hn | ⟨g, cap, cur, rfl, hB, rest⟩
  · exact .inl hn
  · exact .inr ⟨g, cap, cur, rfl, Nat.le_trans hb hB, rest⟩
theorem ownEdits_oth {B g : Nat} {xs : List Ed} {v : Value} {w w' : World} (h : OwnEdits B xs v w) (hb : Oth g w w') (hg : g < B) : OwnEdits B xs v w' := by
  obtain ⟨h1, h2⟩ := h
  refine ⟨h1, ?_⟩
  rcases h2 with hn | ⟨b, cap, cur, rfl, hB, hh, rest⟩
  · exact .inl hn
  · exact .inr ⟨b, cap, cur, rfl, hB, (hb.block b (by omega) (Array.getElem?_eq_some_iff.1 hh).1).trans hh, rest⟩
theorem ownEdits_nil (w : World) (B : Nat) : OwnEdits B [] (.slice none 0 0) w := World.ownsRow_nil w B _ 5
theorem ownEdits_made {w : World} {m B : Nat} (hn : m = w.heap.size) (hB : B ≤ w.heap.size) : OwnEdits B [] (.slice (some ⟨m, 0, none⟩) 0 0) (w.alloc (.cells #[] 53)) := by
  subst hn; exact World.ownsRow_made w #[] 0 hB (Nat.zero_le _) rfl
theorem ownEdits_lt {B : Nat} {xs : List Ed} {v : Value} {w : World} (h : OwnEdits B xs v w) : ∀ j, v.ownBlock = some j → B ≤ j := fun j hj => (World.ownsRow.lt h j hj).1
theorem ownEdits_push {B : Nat} {xs : List Ed} {k : Int} {s : ByteArray} {hh : Int} {a : Int} {b : Int} {v : Value} {w : World} (h : w.ownsRow B 53 5 v (xs.length + 1) (fled xs ++ [.int .i8 k, .string s, .int .i16 hh, .int .u64 a, .int .u64 b])) : OwnEdits B (xs ++ [⟨k, s, hh, a, b⟩]) v w := by
  unfold OwnEdits; rw [fled_app, List.length_append]; exact h
theorem edits_cells {w : World} {g : Nat} {xs : List Ed} (h : EditsIn w (some ⟨g, 0, none⟩) xs) (hf : ∀ j, w.frozen? ⟨g, j, none⟩ = false) : Wb w g (xs.length * 5) := by
  refine ⟨fun j hj => ?_, fun j _ => hf j⟩
  obtain ⟨_, b, o, he, _, h0, h1, h2, h3, h4⟩ := h (j / 5) (by omega)
  cases he
  rcases (show j % 5 = 0 ∨ j % 5 = 1 ∨ j % 5 = 2 ∨ j % 5 = 3 ∨ j % 5 = 4 by omega) with e | e | e | e | e
  · exact ⟨_, by rw [show (⟨g, j, none⟩ : Addr) = ⟨g, 0 + j / 5 * 5, none⟩ from by congr 1; omega]; exact h0⟩
  · exact ⟨_, by rw [show (⟨g, j, none⟩ : Addr) = ⟨g, 0 + j / 5 * 5 + 1, none⟩ from by congr 1; omega]; exact h1⟩
  · exact ⟨_, by rw [show (⟨g, j, none⟩ : Addr) = ⟨g, 0 + j / 5 * 5 + 2, none⟩ from by congr 1; omega]; exact h2⟩
  · exact ⟨_, by rw [show (⟨g, j, none⟩ : Addr) = ⟨g, 0 + j / 5 * 5 + 3, none⟩ from by congr 1; omega]; exact h3⟩
  · exact ⟨_, by rw [show (⟨g, j, none⟩ : Addr) = ⟨g, 0 + j / 5 * 5 + 4, none⟩ from by congr 1; omega]; exact h4⟩

end Go.Proofs.YtnbijfeidgddmaaGreatDoor

namespace Go.Proofs.YtnbijfeidgddmaaGreatDoor
open Go.ChangeShapes Go.WideShapes Go.ChangeAt Go.RowKit

set_option maxRecDepth 100000 in
set_option maxHeartbeats 3200000 in
theorem sCt_any (s : ByteArray) (a b : Int) (hs : s.size ≤ 16) (ha : U64 a) (hb : U64 b) (g o : Nat) (w : World) (h0 : w.cell? ⟨g, o, none⟩ = some (.string s)) (h1 : w.cell? ⟨g, o + 1, none⟩ = some (.int .u64 a)) (h2 : w.cell? ⟨g, o + 2, none⟩ = some (.int .u64 b)) :
    Calls Tryz.prog 79 #[.pointer (some ⟨g, o, none⟩)] w fun e w' => e = .returned (.string (cdN s (hol (hasB a b) 96) (hol (hasB a b) 96).length)) ∧ Below w.heap.size w w' := by
  have hg := World.block_lt_of_cell? _ _ h0
  have HI := fun W => sHoles_any a b ha hb W
  have hl := hol_len (hasB a b) 96
  have HM := fun j hj => hol_atX (f := hasB a b) (n := 96) (j := j) hj
  generalize hol (hasB a b) 96 = zs at *
  have CS := Lib.hid (cdN_size s (zs := zs) HM)
  have CN := Lib.hid (cdN_next s zs)
  replace HM := Lib.hid HM
  replace HI := Lib.hid HI
  clear ha hb
  have z32 : (ByteArray.mk #[32]).size = 1 := rfl
  go_enter Tryz.func79, Tryz.ntmps79
  go_wp2_with (go_at_call 105; refine (HI.out _).mono ?_; rintro e w1 ⟨v1, rfl, hO, hB⟩; obtain ⟨a1, c1, hv, hi⟩ := ownInts_in hO; subst hv; have I1 := Lib.hid hi; have B1 := Lib.hid hB; clear hO hi hB)
  go_loopw [3, 5] (fun v i wr => ∃ j : Nat, j ≤ zs.length ∧ i = .int .i64 (j : Int) ∧ v = .string (cdN s zs j) ∧ Below w1.heap.size w1 wr) (fun _ i _ => zs.length - (intOf i).toNat)
  case atStart => exact ⟨0, Nat.zero_le _, rfl, rfl, Below.refl _ _⟩
  case round =>
    obtain ⟨j, hj, rfl, rfl, hB⟩ := hrel
    have B5 := Lib.hid hB
    by_cases hjl : j < zs.length
    · have hd : decide ((j : Int) < (zs.length : Int)) = true := by simpa using hjl
      obtain ⟨b1, o1, rfl, y1, p0⟩ := I1.out j hjl
      have d0 := (hB.cell (p := ⟨b1, o1 + j, none⟩) y1).trans p0
      have y2 : b1 < wr.heap.size := Nat.lt_of_lt_of_le y1 hB.size
      have i1 : (0 : Int) ≤ (j : Int) := by omega
      have i2 : (j : Int) < (zs.length : Int) := by omega
      obtain ⟨h3, h4⟩ := HM.out j hjl
      have cs := CS.out j hj
      have cn := CN.out j
      obtain ⟨m, hm⟩ := Int.eq_ofNat_of_zero_le h3
      rw [hm] at d0 h4 cn
      rw [Int.toNat_natCast] at cn
      replace cn := Lib.hid cn
      have hm1 : m < 96 := by omega
      have ys := dec2_le (n := m) (by omega)
      have D := Lib.hid fun W => sDec_any m (by omega) W
      generalize cdN s zs j = t at *
      generalize dec2 m = y at *
      have sl1 : ¬ 9223372036854775807 < 1 + y.size := by omega
      have sl4 : ¬ 9223372036854775807 < t.size + (1 + y.size) := by omega
      clear hB p0 y1 h3 h4 hm cs ys hm1
      go_wp2_with (go_at_call 106; refine (D.out _).mono ?_; rintro e w3 ⟨rfl, hB⟩; have B3 := Lib.hid (B5.out.trans (Below.mono hB B5.out.size)); clear hB)
      exact ⟨⟨j + 1, hjl, by rw [Int.natCast_succ], by rw [cn.out], B3.out⟩, by (simp [intOf]) <;> omega⟩
    · have e : j = zs.length := by omega
      subst e
      have hd : decide ((zs.length : Int) < (zs.length : Int)) = false := by simp
      clear hB
      go_wp2
      go_ret
      exact ⟨rfl, B1.out.trans (Below.mono B5.out B1.out.size)⟩

end Go.Proofs.YtnbijfeidgddmaaGreatDoor

namespace Go.Proofs.YtnbijfeidgddmaaGreatDoor
open Go.ChangeShapes Go.WideShapes Go.ChangeAt Go.RowKit Go.Shelf

def ren166 : Go.Shelf.Ren := ⟨fun | 166 => 57 | 240 => 88 | 276 => 109 | n => n, fun | 0 => 0 | 3 => 3 | 4 => 4 | 5 => 5 | 9 => 9 | 20 => 20 | 37 => 76 | 70 => 96 | 72 => 98 | 75 => 70 | 80 => 105 | 164 => 151 | n => n, fun | n => n⟩
theorem lay166 : Go.Proofs.Lays.n166 Tryz.prog ren166 where
  mixed := by kernel_rfl
  f166 := Tryz.func57.trans (congrArg some (by kernel_rfl))
  f240 := Tryz.func88.trans (congrArg some (by kernel_rfl))
  f276 := Tryz.func109.trans (congrArg some (by kernel_rfl))
  t0 := Tryz.underlying0
  a0 := Tryz.isAgg0
  z0 := Tryz.sizeOf0
  v0 := Tryz.zeroValue0
  t3 := Tryz.underlying3
  a3 := Tryz.isAgg3
  z3 := Tryz.sizeOf3
  v3 := Tryz.zeroValue3
  t4 := Tryz.underlying4
  a4 := Tryz.isAgg4
  z4 := Tryz.sizeOf4
  v4 := Tryz.zeroValue4
  t9 := Tryz.underlying9
  a9 := Tryz.isAgg9
  z9 := Tryz.sizeOf9
  v9 := Tryz.zeroValue9
  t20 := Tryz.underlying20
  a20 := Tryz.isAgg20
  z20 := Tryz.sizeOf20
  v20 := Tryz.zeroValue20
  t37 := Tryz.underlying76
  a37 := Tryz.isAgg76
  z37 := Tryz.sizeOf76
  v37 := Tryz.zeroValue76
  t70 := Tryz.underlying96
  a70 := Tryz.isAgg96
  z70 := Tryz.sizeOf96
  v70 := Tryz.zeroValue96
  t72 := Tryz.underlying98
  a72 := Tryz.isAgg98
  z72 := Tryz.sizeOf98
  v72 := Tryz.zeroValue98
  t75 := Tryz.underlying70
  a75 := Tryz.isAgg70
  z75 := Tryz.sizeOf70
  v75 := Tryz.zeroValue70
  t164 := Tryz.underlying151
  a164 := Tryz.isAgg151
  z164 := Tryz.sizeOf151
  v164 := Tryz.zeroValue151
theorem ext166 : Builder.Extra Tryz.prog ren166 where
  sizeBuilder := by kernel_rfl
  liesBuilder := by kernel_rfl
  t5 := Tryz.underlying5
  a5 := Tryz.isAgg5
  z5 := Tryz.sizeOf5
  v5 := Tryz.zeroValue5
  infoByte := by kernel_rfl
  cellsByte := by kernel_rfl
  sizeByte := by kernel_rfl
  neB5 := by decide

def ren167 : Go.Shelf.Ren := ⟨fun | 167 => 58 | 240 => 88 | 276 => 109 | n => n, fun | 0 => 0 | 4 => 4 | 5 => 5 | 9 => 9 | 20 => 20 | 37 => 76 | 70 => 96 | 72 => 98 | 75 => 70 | 80 => 105 | 164 => 151 | n => n, fun | n => n⟩
theorem lay167 : Go.Proofs.Lays.n167 Tryz.prog ren167 where
  mixed := by kernel_rfl
  f167 := Tryz.func58.trans (congrArg some (by kernel_rfl))
  f240 := Tryz.func88.trans (congrArg some (by kernel_rfl))
  f276 := Tryz.func109.trans (congrArg some (by kernel_rfl))
  t0 := Tryz.underlying0
  a0 := Tryz.isAgg0
  z0 := Tryz.sizeOf0
  v0 := Tryz.zeroValue0
  t4 := Tryz.underlying4
  a4 := Tryz.isAgg4
  z4 := Tryz.sizeOf4
  v4 := Tryz.zeroValue4
  t5 := Tryz.underlying5
  a5 := Tryz.isAgg5
  z5 := Tryz.sizeOf5
  v5 := Tryz.zeroValue5
  t9 := Tryz.underlying9
  a9 := Tryz.isAgg9
  z9 := Tryz.sizeOf9
  v9 := Tryz.zeroValue9
  t20 := Tryz.underlying20
  a20 := Tryz.isAgg20
  z20 := Tryz.sizeOf20
  v20 := Tryz.zeroValue20
  t37 := Tryz.underlying76
  a37 := Tryz.isAgg76
  z37 := Tryz.sizeOf76
  v37 := Tryz.zeroValue76
  t70 := Tryz.underlying96
  a70 := Tryz.isAgg96
  z70 := Tryz.sizeOf96
  v70 := Tryz.zeroValue96
  t72 := Tryz.underlying98
  a72 := Tryz.isAgg98
  z72 := Tryz.sizeOf98
  v72 := Tryz.zeroValue98
  t75 := Tryz.underlying70
  a75 := Tryz.isAgg70
  z75 := Tryz.sizeOf70
  v75 := Tryz.zeroValue70
  t164 := Tryz.underlying151
  a164 := Tryz.isAgg151
  z164 := Tryz.sizeOf151
  v164 := Tryz.zeroValue151
theorem ext167 : Builder.Extra Tryz.prog ren167 where
  sizeBuilder := by kernel_rfl
  liesBuilder := by kernel_rfl
  t5 := Tryz.underlying5
  a5 := Tryz.isAgg5
  z5 := Tryz.sizeOf5
  v5 := Tryz.zeroValue5
  infoByte := by kernel_rfl
  cellsByte := by kernel_rfl
  sizeByte := by kernel_rfl
  neB5 := by decide

def ren169 : Go.Shelf.Ren := ⟨fun | 169 => 61 | n => n, fun | 0 => 0 | 3 => 3 | 5 => 5 | 9 => 9 | 37 => 76 | 70 => 96 | 72 => 98 | 80 => 105 | 127 => 130 | n => n, fun | n => n⟩
theorem lay169 : Go.Proofs.Lays.n169 Tryz.prog ren169 where
  mixed := by kernel_rfl
  f169 := Tryz.func61.trans (congrArg some (by kernel_rfl))
  t0 := Tryz.underlying0
  a0 := Tryz.isAgg0
  z0 := Tryz.sizeOf0
  v0 := Tryz.zeroValue0
  t3 := Tryz.underlying3
  a3 := Tryz.isAgg3
  z3 := Tryz.sizeOf3
  v3 := Tryz.zeroValue3
  t9 := Tryz.underlying9
  a9 := Tryz.isAgg9
  z9 := Tryz.sizeOf9
  v9 := Tryz.zeroValue9
  t37 := Tryz.underlying76
  a37 := Tryz.isAgg76
  z37 := Tryz.sizeOf76
  v37 := Tryz.zeroValue76
  t70 := Tryz.underlying96
  a70 := Tryz.isAgg96
  z70 := Tryz.sizeOf96
  v70 := Tryz.zeroValue96
  t72 := Tryz.underlying98
  a72 := Tryz.isAgg98
  z72 := Tryz.sizeOf98
  v72 := Tryz.zeroValue98
  t127 := Tryz.underlying130
  a127 := Tryz.isAgg130
  z127 := Tryz.sizeOf130
  v127 := Tryz.zeroValue130
theorem ext169 : Builder.Extra Tryz.prog ren169 where
  sizeBuilder := by kernel_rfl
  liesBuilder := by kernel_rfl
  t5 := Tryz.underlying5
  a5 := Tryz.isAgg5
  z5 := Tryz.sizeOf5
  v5 := Tryz.zeroValue5
  infoByte := by kernel_rfl
  cellsByte := by kernel_rfl
  sizeByte := by kernel_rfl
  neB5 := by decide

/-- A builder of the call's own, at block b, that holds a text. -/
def BldG (B b : Nat) (s : ByteArray) (w : World) : Prop := Lib.IsBuilder 98 5 B b (Lib.byteCells s.data.toList) w
theorem bldG_fresh (w : World) : BldG w.heap.size w.heap.size ByteArray.empty (w.alloc (.cells #[.pointer none, .slice none 0 0] 98)) := Lib.fresh_isBuilder _ _ w
theorem bldG_lt {B b : Nat} {s : ByteArray} {w : World} (h : BldG B b s w) : b < w.heap.size := by
  rcases h with ⟨_, v, h, _⟩ | ⟨_, v, h, _⟩ <;> exact (Array.getElem?_eq_some_iff.1 h).1
theorem bldG_kept {B b : Nat} {s : ByteArray} {w w' : World} (h : BldG B b s w) (hb : Below w.heap.size w w') : BldG B b s w' := by
  have go : ∀ p, Lib.BuilderAt 98 5 B b p (Lib.byteCells s.data.toList) w → Lib.BuilderAt 98 5 B b p (Lib.byteCells s.data.toList) w' := fun p ⟨h1, v, h2, h3, h4⟩ => by
    refine ⟨h1, v, (hb.block b (Array.getElem?_eq_some_iff.1 h2).1).trans h2, ?_, h4⟩
    obtain ⟨k1, k2⟩ := h3
    refine ⟨k1, ?_⟩
    rcases k2 with hn | ⟨g, cap, cur, rfl, hB, hg, rest⟩
    · exact .inl hn
    · exact .inr ⟨g, cap, cur, rfl, hB, (hb.block g (Array.getElem?_eq_some_iff.1 hg).1).trans hg, rest⟩
  rcases h with h | h
  · exact .inl (go _ h)
  · exact .inr (go _ h)
theorem bld_str (B b : Nat) (s z : ByteArray) (w : World) (h : BldG B b s w) (hB : B ≤ w.heap.size) (hl : s.size + z.size ≤ 1000000) :
    Calls Tryz.prog 57 #[.pointer (some ⟨b, 0, none⟩), .string z] w fun e w' => e = .returned (.tuple #[.int .i64 z.size, .nilIface]) ∧ BldG B b (s ++ z) w' ∧ Below B w w' := by
  have sl : (Lib.byteCells s.data.toList).length = s.size := by rw [Lib.byteCells_length]; exact Array.length_toList
  refine (Any.Builder_WriteString lay166 ext166 B b (Lib.byteCells s.data.toList) z w h (by omega) hB).mono fun e w' ⟨he, h2, h3⟩ => ⟨he, ?_, h3⟩
  have e : Lib.byteCells (s ++ z).data.toList = Lib.byteCells s.data.toList ++ Lib.strCells z := by
    rw [Lib.strCells_eq, ByteArray.data_append, Array.toList_append]
    unfold Lib.byteCells
    rw [List.map_append]
  unfold BldG
  rw [e]
  exact .inr h2
theorem bld_byte (B b : Nat) (s : ByteArray) (u : UInt8) (w : World) (h : BldG B b s w) (hB : B ≤ w.heap.size) (hl : s.size ≤ 1000000) :
    Calls Tryz.prog 58 #[.pointer (some ⟨b, 0, none⟩), .int .u8 (u.toNat : Int)] w fun e w' => e = .returned .nilIface ∧ BldG B b (s ++ ⟨#[u]⟩) w' ∧ Below B w w' := by
  have sl : (Lib.byteCells s.data.toList).length = s.size := by rw [Lib.byteCells_length]; exact Array.length_toList
  refine (Any.Builder_WriteByte lay167 ext167 B b (Lib.byteCells s.data.toList) (u.toNat : Int) w h (by omega) hB).mono fun e w' ⟨he, h2, h3⟩ => ⟨he, ?_, h3⟩
  have e : Lib.byteCells (s ++ ⟨#[u]⟩).data.toList = Lib.byteCells s.data.toList ++ [.int .u8 (u.toNat : Int)] := by
    rw [ByteArray.data_append, Array.toList_append]
    unfold Lib.byteCells
    rw [List.map_append]
    rfl
  unfold BldG
  rw [e]
  exact .inr h2
theorem bld_text (B b : Nat) (s : ByteArray) (w : World) (h : BldG B b s w) (hB : B ≤ w.heap.size) :
    Calls Tryz.prog 61 #[.pointer (some ⟨b, 0, none⟩)] w fun e w' => e = .returned (.string s) ∧ Below B w w' := by
  by_cases h0 : s.data.toList = []
  · have e : s = ByteArray.empty := by
      apply ByteArray.ext
      apply Array.ext'
      rw [h0]; rfl
    subst e
    exact Any.Builder_String_empty lay169 ext169 B b w h hB
  · have e : (⟨s.data.toList.toArray⟩ : ByteArray) = s := by
      apply ByteArray.ext
      exact Array.toArray_toList
    have k := Any.Builder_String lay169 ext169 B b s.data.toList w h h0
    rw [e] at k
    exact k
end Go.Proofs.YtnbijfeidgddmaaGreatDoor

namespace Go.Proofs.YtnbijfeidgddmaaGreatDoor
open Go.ChangeShapes Go.WideShapes Go.ChangeAt Go.RowKit

/-- A builder of the call's own, at block b, that holds a text. -/
def BldK (B b : Nat) (s : ByteArray) (w : World) : Prop := Lib.IsBuilderF 98 5 B b (Lib.byteCells s.data.toList) w
/-- What is neither the builder's block nor bytes stands. -/
def OthB (b : Nat) (w w' : World) : Prop := Lib.OthersKept 5 (some b) w w'
theorem othB_block {b : Nat} {w w' : World} (h : OthB b w w') {k : Nat} {cs : Array Value} {t : TypeId} {fz : Nat × Nat} (hk : w.heap[k]? = some (.cells cs t fz)) (hb : k ≠ b) (ht : t ≠ 5) : w'.heap[k]? = some (.cells cs t fz) := by
  refine h k _ hk (fun e => hb (Option.some.inj e)) fun c f e => ?_
  injection e with _ e2 _
  exact ht e2
theorem bldK_fresh (w : World) : BldK w.heap.size w.heap.size ByteArray.empty (w.alloc (.cells #[.pointer none, .slice none 0 0] 98)) := by
  rcases bldG_fresh w with h | h
  · exact .inl (Lib.BuilderAtF.of h)
  · exact .inr (Lib.BuilderAtF.of h)
theorem bldK_kept {B b : Nat} {s : ByteArray} {w w' : World} (h : BldK B b s w) (hb : Below w.heap.size w w') : BldK B b s w' := by
  have go : ∀ p, Lib.BuilderAtF 98 5 B b p (Lib.byteCells s.data.toList) w → Lib.BuilderAtF 98 5 B b p (Lib.byteCells s.data.toList) w' := fun p ⟨h1, v, h2, h3, h4⟩ => by
    refine ⟨h1, v, (hb.block b (Array.getElem?_eq_some_iff.1 h2).1).trans h2, ?_, h4⟩
    obtain ⟨k1, k2⟩ := h3
    refine ⟨k1, ?_⟩
    rcases k2 with hn | ⟨g, cap, cur, fz, rfl, hB, hg, rest⟩
    · exact .inl hn
    · exact .inr ⟨g, cap, cur, fz, rfl, hB, (hb.block g (Array.getElem?_eq_some_iff.1 hg).1).trans hg, rest⟩
  rcases h with h | h
  · exact .inl (go _ h)
  · exact .inr (go _ h)
theorem bldK_str (B b : Nat) (s z : ByteArray) (w : World) (h : BldK B b s w) (hB : B ≤ w.heap.size) (hl : s.size + z.size ≤ 1000000) :
    Calls Tryz.prog 57 #[.pointer (some ⟨b, 0, none⟩), .string z] w fun e w' => e = .returned (.tuple #[.int .i64 z.size, .nilIface]) ∧ BldK B b (s ++ z) w' ∧ Below B w w' ∧ OthB b w w' := by
  have sl : (Lib.byteCells s.data.toList).length = s.size := by rw [Lib.byteCells_length]; exact Array.length_toList
  refine (Any.Builder_WriteString_k lay166 ext166 B b (Lib.byteCells s.data.toList) z w h (by omega) hB).mono fun e w' ⟨he, h2, h3, h4⟩ => ⟨he, ?_, h3, h4⟩
  have e : Lib.byteCells (s ++ z).data.toList = Lib.byteCells s.data.toList ++ Lib.strCells z := by
    rw [Lib.strCells_eq, ByteArray.data_append, Array.toList_append]
    unfold Lib.byteCells
    rw [List.map_append]
  unfold BldK
  rw [e]
  exact .inr h2
theorem bldK_byte (B b : Nat) (s : ByteArray) (u : UInt8) (w : World) (h : BldK B b s w) (hB : B ≤ w.heap.size) (hl : s.size ≤ 1000000) :
    Calls Tryz.prog 58 #[.pointer (some ⟨b, 0, none⟩), .int .u8 (u.toNat : Int)] w fun e w' => e = .returned .nilIface ∧ BldK B b (s ++ ⟨#[u]⟩) w' ∧ Below B w w' ∧ OthB b w w' := by
  have sl : (Lib.byteCells s.data.toList).length = s.size := by rw [Lib.byteCells_length]; exact Array.length_toList
  refine (Any.Builder_WriteByte_k lay167 ext167 B b (Lib.byteCells s.data.toList) (u.toNat : Int) w h (by omega) hB).mono fun e w' ⟨he, h2, h3, h4⟩ => ⟨he, ?_, h3, h4⟩
  have e : Lib.byteCells (s ++ ⟨#[u]⟩).data.toList = Lib.byteCells s.data.toList ++ [.int .u8 (u.toNat : Int)] := by
    rw [ByteArray.data_append, Array.toList_append]
    unfold Lib.byteCells
    rw [List.map_append]
    rfl
  unfold BldK
  rw [e]
  exact .inr h2
theorem bldK_text (B b : Nat) (s : ByteArray) (w : World) (h : BldK B b s w) (hB : B ≤ w.heap.size) :
    Calls Tryz.prog 61 #[.pointer (some ⟨b, 0, none⟩)] w fun e w' => e = .returned (.string s) ∧ Below B w w' := by
  have e : (⟨s.data.toList.toArray⟩ : ByteArray) = s := by
    apply ByteArray.ext
    exact Array.toArray_toList
  have k := Any.Builder_String_any_k lay169 ext169 B b s.data.toList w h hB
  rw [e] at k
  exact k.mono fun _ _ ⟨h1, _, h3, _⟩ => ⟨h1, h3⟩
end Go.Proofs.YtnbijfeidgddmaaGreatDoor

namespace Go.Proofs.YtnbijfeidgddmaaGreatDoor
open Go.ChangeShapes Go.WideShapes Go.ChangeAt Go.RowKit

theorem strs_at {w : World} {a : Addr} {ss : List ByteArray} (h : ∀ i, i < ss.length → w.cell? (a.add i) = some (.string (ss.getD i ByteArray.empty))) (hn : 0 < ss.length) : ∃ b off, a = ⟨b, off, none⟩ ∧ ∀ i, i < ss.length → w.cell? ⟨b, off + i, none⟩ = some (.string (ss.getD i ByteArray.empty)) := by
  obtain ⟨b, off, sp⟩ := a
  cases sp with
  | none => exact ⟨b, off, rfl, fun i hi => by
    have := h i hi
    by_cases e : i = 0
    · subst e; simpa [Addr.add] using this
    · simpa [Addr.add, e] using this⟩
  | some x =>
    have := h 0 hn
    simp [World.cell?, Addr.add] at this
    split at this <;> simp at this

theorem open_strS {H : Type} {enc : TypeId × Value → H} {P : Program} {W : World} {t e : TypeId} {v : Value} {d : DataW H} {p : List MemPlace} {r : Reach} {b : Nat} (ht : P.underlying t = some (.slice e)) (he : P.underlying e = some .string) (hc : P.cellsOf e = 1)
    (hv : Value.okWide P W r b t v) (h : DataW.Trod enc P W 0 (fun _ => true) true t v d p) : ∃ a zs cap, v = .slice a zs.length cap ∧ StrsIn W a zs ∧ Fit zs ∧ zs.length ≤ maxLen := by
  obtain ⟨a0, len, cap, rfl⟩ := okWide_slice ht hv
  obtain ⟨fuel, hf⟩ := h
  rcases open_strings ht he hc hf with ⟨hcs, hx⟩ | ⟨a, len', cap', zs, hcs, _, hl, hm, hz, hx, hcell, hsz⟩
  · simp [Value.cells] at hcs
    obtain ⟨rfl, rfl, rfl⟩ := hcs
    exact ⟨none, [], 0, rfl, fun i hi => by simp at hi, fun i hi => by simp at hi, by simp⟩
  · simp [Value.cells] at hcs
    obtain ⟨rfl, rfl, rfl⟩ := hcs
    simp at hz
    refine ⟨some a, zs.take len, cap, ?_, ?_, ?_, ?_⟩
    · rw [List.length_take, Nat.min_eq_left (by omega)]
    · intro i hi
      rw [List.length_take] at hi
      obtain ⟨b, off, rfl, hcc⟩ := strs_at hcell (by omega)
      have h2 := hcc i (by omega)
      refine ⟨b, off, rfl, World.block_lt_of_cell? _ _ h2, ?_⟩
      rw [h2]
      simp [List.getD, show i < len by omega]
      rfl
    · intro i hi
      rw [List.length_take] at hi
      have hi2 : i < zs.length := by omega
      have : (zs.take len).getD i ⟨#[]⟩ = zs[i] := by simp [List.getD, show i < len by omega, hi2]
      rw [this]
      exact hsz _ (List.getElem_mem hi2)
    · rw [List.length_take]; omega

/-! ### Measured -/
def totS (zs : List ByteArray) : Nat → Nat
  | 0 => zs.length
  | k + 1 => totS zs k + (zs.getD k ⟨#[]⟩).size
theorem totS_len (zs : List ByteArray) : ∀ k, zs.length ≤ totS zs k
  | 0 => Nat.le_refl _
  | k + 1 => Nat.le_trans (totS_len zs k) (Nat.le_add_right _ _)
theorem totS_mono (zs : List ByteArray) (k : Nat) : ∀ d, totS zs k ≤ totS zs (k + d)
  | 0 => Nat.le_refl _
  | d + 1 => Nat.le_trans (totS_mono zs k d) (Nat.le_add_right _ _)
def leftS (zs : List ByteArray) (n : Nat) : Int := if totS zs zs.length ≤ n then (n : Int) - totS zs zs.length else -1
theorem leftS_no {zs : List ByteArray} {n k : Nat} (hk : k ≤ zs.length) (h : n < totS zs k) : leftS zs n = -1 := by
  unfold leftS
  have := totS_mono zs k (zs.length - k)
  rw [show k + (zs.length - k) = zs.length from by omega] at this
  rw [if_neg (by omega)]
theorem leftS_yes {zs : List ByteArray} {n : Nat} (h : totS zs zs.length ≤ n) : leftS zs n = (n : Int) - totS zs zs.length := by unfold leftS; rw [if_pos h]


/-! ### Compared -/
/-! ### Copied -/
/-- A new slice with just these numbers, in a block from B on. -/
def NewStrs (B : Nat) (zs : List ByteArray) (v : Value) (w : World) : Prop := ∃ g, v = .slice (some ⟨g, 0, none⟩) zs.length zs.length ∧ B ≤ g ∧ g < w.heap.size ∧ (∀ i, i < zs.length → w.cell? ⟨g, i, none⟩ = some (.string (zs.getD i ⟨#[]⟩)) ∧ w.frozen? ⟨g, i, none⟩ = false)
theorem newStrs_in {B : Nat} {zs : List ByteArray} {v : Value} {w : World} (h : NewStrs B zs v w) : ∃ a, v = .slice a zs.length zs.length ∧ StrsIn w a zs := by
  obtain ⟨g, rfl, _, hg, hc⟩ := h
  exact ⟨_, rfl, fun i hi => ⟨g, 0, rfl, hg, by have := (hc i hi).1; simpa using this⟩⟩

/-- k numbers copied, zeros behind. -/
def rowS (zs : List ByteArray) (k : Nat) : List Value := (List.range zs.length).map fun i => if i < k then .string (zs.getD i ⟨#[]⟩) else .string ⟨#[]⟩
theorem rowS_len (zs : List ByteArray) (k : Nat) : (rowS zs k).length = zs.length := by
  unfold rowS; simp
theorem rowS_get (zs : List ByteArray) (k i : Nat) (h : i < zs.length) : (rowS zs k)[i]? = some (if i < k then .string (zs.getD i ⟨#[]⟩) else .string ⟨#[]⟩) := by
  unfold rowS; rw [List.getElem?_map, List.getElem?_range h]; rfl
theorem rowS_zero (zs : List ByteArray) : rowS zs 0 = List.replicate zs.length (Value.string ⟨#[]⟩) := by
  apply List.ext_getElem?
  intro i
  by_cases h : i < zs.length
  · rw [rowS_get zs 0 i h, if_neg (Nat.not_lt_zero i), List.getElem?_replicate, if_pos h]
  · rw [List.getElem?_eq_none (by rw [rowS_len]; omega), List.getElem?_replicate, if_neg h]
theorem rowS_next (zs : List ByteArray) (k : Nat) (h : k < zs.length) : (rowS zs k).set k (Value.string (zs.getD k ⟨#[]⟩)) = rowS zs (k + 1) := by
  apply List.ext_getElem?
  intro i
  rw [List.getElem?_set]
  by_cases e : k = i
  · subst e
    rw [if_pos rfl, if_pos (by rw [rowS_len]; exact h), rowS_get zs (k + 1) k h, if_pos (Nat.lt_succ_self k)]
  · rw [if_neg e]
    by_cases hi : i < zs.length
    · rw [rowS_get zs k i hi, rowS_get zs (k + 1) i hi]
      by_cases h1 : i < k
      · rw [if_pos h1, if_pos (by omega)]
      · rw [if_neg h1, if_neg (by omega)]
    · rw [List.getElem?_eq_none (by rw [rowS_len]; omega), List.getElem?_eq_none (by rw [rowS_len]; omega)]

theorem info_str : (Tryz.prog.info? 9).map (fun i => (i.zero, i.size, i.bytes)) = some (some (.string ⟨#[]⟩), 1, 16) := by kernel_rfl

theorem strs_round {P : Nat → Nat → Prop} {w wr : World} {zs : List ByteArray} {k : Nat} {e : TypeId} (h : k < zs.length) (O : wr.ownsRow w.heap.size e 1 (.slice (some ⟨w.heap.size, 0, none⟩) zs.length zs.length) zs.length (rowS zs k))
    (hB : Below w.heap.size w wr) (_hl : w.heap.size < wr.heap.size) (z : ByteArray) (hz : z = zs.getD k ⟨#[]⟩) (hm : P k (k + 1)) :
    (∃ k' : Nat, k' ≤ zs.length ∧ Value.int .i64 ((k : Int) + 1) = Value.int .i64 (k' : Int) ∧ (wr.setCell ⟨w.heap.size, k, none⟩ (.string z)).ownsRow w.heap.size e 1 (.slice (some ⟨w.heap.size, 0, none⟩) zs.length zs.length) zs.length (rowS zs k') ∧ Below w.heap.size w (wr.setCell ⟨w.heap.size, k, none⟩ (.string z)) ∧ w.heap.size < (wr.setCell ⟨w.heap.size, k, none⟩ (.string z)).heap.size) ∧ P k (k + 1) := by
  subst hz
  have hs := O.stored k (.string (zs.getD k ⟨#[]⟩))
  rw [rowS_next zs k h] at hs
  refine ⟨⟨k + 1, h, by rw [Int.natCast_succ], hs.1, Below.grown hB hs.2 hB.size (fun j hj => by cases hj; exact Nat.le_refl _), ?_⟩, hm⟩
  exact (hs.1.lt _ rfl).2

theorem newStrs_of {w wr : World} {zs : List ByteArray} {e : TypeId} (O : wr.ownsRow w.heap.size e 1 (.slice (some ⟨w.heap.size, 0, none⟩) zs.length zs.length) zs.length (rowS zs zs.length)) (hl : w.heap.size < wr.heap.size) :
    NewStrs w.heap.size zs (.slice (some ⟨w.heap.size, 0, none⟩) zs.length zs.length) wr := by
  refine ⟨_, rfl, Nat.le_refl _, hl, fun i hi => ⟨?_, O.frozenAt i⟩⟩
  rw [O.cellAt i (by omega), rowS_get zs _ i hi, if_pos hi]

end Go.Proofs.YtnbijfeidgddmaaGreatDoor

namespace Go.Proofs.YtnbijfeidgddmaaGreatDoor
open Go.ChangeShapes Go.WideShapes Go.ChangeAt Go.RowKit

theorem spt_info : (Tryz.prog.info? 9).map (fun i => (i.zero, i.size, i.bytes)) = some (some (.string ByteArray.empty), 1, 16) := by kernel_rfl
theorem genSplit_any (s : ByteArray) (c : UInt8) (hs : s.size ≤ 1048576) (w : World) :
    Calls Tryz.prog 68 #[.string s, .string ⟨#[c]⟩, .int .i64 0, .int .i64 (-1)] w fun e w' => e = .returned (.slice (some ⟨w.heap.size, 0, none⟩) (pieces c s).length (pieces c s).length) ∧ w' = w.alloc (.cells ((pieces c s).map Value.string).toArray 9) := by
  have z1 : (ByteArray.mk #[c]).size = 1 := rfl
  have hle := Lib.countB_le ⟨#[c]⟩ (by rw [z1]; exact Nat.le_refl _) s.size s (Nat.le_refl _)
  have h := Any.strings_genSplit_core { Tryz.lays146 with } spt_info s ⟨#[c]⟩ 0 (-1) (Lib.countB s ⟨#[c]⟩ + 1) w (by omega) (by rw [z1]; exact Nat.le_refl _) (Nat.zero_le _)
    (fun x q hx => by
      have h := Any.strings_Index_one { Tryz.lays146 with } x c (w.alloc (.cells q 9))
      rw [← Lib.index_one] at h
      exact h)
    (by
      refine (Any.strings_Count_one { Tryz.lays146 with } s c w).mono fun e w' ⟨he, hw⟩ => ⟨?_, hw⟩
      rw [he]
      show _ = Ending.returned (Value.int .i64 ((Lib.count s.data.toList [c] : Nat) : Int))
      rw [Lib.count_one]
      rfl)
    (by decide) (by decide) (by rw [if_pos (by decide)]; omega)
  rw [Nat.add_sub_cancel, splitB_pieces c _ s rfl, countB_pieces c s, Lib.cellsOf_full] at h
  exact h
theorem split_any (s : ByteArray) (c : UInt8) (hs : s.size ≤ 1048576) (w : World) :
    Calls Tryz.prog 37 #[.string s, .string ⟨#[c]⟩] w fun e w' => ∃ a, e = .returned (.slice (some a) (pieces c s).length (pieces c s).length) ∧ w.heap.size ≤ a.block ∧ StrsIn w' (some a) (pieces c s) ∧ Below w.heap.size w w' := by
  have h := genSplit_any s c hs w
  go_enter Tryz.func37, Tryz.ntmps37
  go_wp2_with (go_at_call 68; refine h.mono ?_; rintro e w1 ⟨rfl, hw⟩; have HW := Lib.hid hw; clear hw)
  go_ret
  refine ⟨_, rfl, Nat.le_refl _, ?_, by rw [HW.out]; exact below_new (Below.refl _ _) _⟩
  rw [HW.out]
  intro i hi
  refine ⟨w.heap.size, 0, rfl, by simp, ?_⟩
  rw [World.cell?_alloc_mark]
  simp [hi]

/-! ### Numbers -/
/-- The two errors that the library's reader of numbers names hold some error each. -/
structure PE (W : World) : Prop where
  s : ∃ tp p, W.var? Tryz.prog "strconv.ErrSyntax" = some #[.iface tp p]
  r : ∃ tp p, W.var? Tryz.prog "strconv.ErrRange" = some #[.iface tp p]
theorem varP_below {P : Program} {W W' : World} {n : String} {cs : Array Value} (h : W.var? P n = some cs) {B : Nat} (hb : Below B W W') (hB : W.heap.size ≤ B) : W'.var? P n = some cs := by
  unfold World.var? at h ⊢
  cases hg : P.globalNamed n with
  | none => simp [hg] at h
  | some g =>
    simp only [hg, Option.bind_some] at h ⊢
    have hlt : g < W.heap.size := by
      rcases Nat.lt_or_ge g W.heap.size with h' | h'
      · exact h'
      · simp [Array.getElem?_eq_none h'] at h
    rw [hb.block g (by omega)]
    exact h
theorem PE.kept {W0 W W' : World} {B : Nat} (h : PE W0) (h0 : Below W0.heap.size W0 W) (hb : Below B W W') (hB : W0.heap.size ≤ B) : PE W' := by
  obtain ⟨⟨a, b, h1⟩, ⟨c, d, h2⟩⟩ := h
  have hk : Below W0.heap.size W0 W' := h0.trans (Below.mono hb hB)
  exact ⟨⟨a, b, varP_below h1 hk (Nat.le_refl _)⟩, ⟨c, d, varP_below h2 hk (Nat.le_refl _)⟩⟩
theorem PE.below {W W' : World} (h : PE W) (hb : Below W.heap.size W W') : PE W' := h.kept (Below.refl _ _) hb (Nat.le_refl _)
theorem below_bytes {w w' : World} {t : TypeId} (h : w' = w ∨ ∃ s, w' = Lib.bytesWorld w t s) : Below w.heap.size w w' := by
  rcases h with rfl | ⟨s, rfl⟩
  · exact Below.refl _ _
  · exact Lib.bytesWorld_below _ _ _
theorem parse16_ok (s : ByteArray) (hs : s.size ≤ 1048576) (v : Int) (h : pIn 16 s = some v) (w : World) :
    Calls Tryz.prog 39 #[.string s, .int .i64 10, .int .i64 16] w fun e w' => e = .returned (.tuple #[.int .i64 v, .nilIface]) ∧ Below w.heap.size w w' := by
  have h2 : Lib.parseIntB 16 s.data.toList = .ok v := by
    unfold pIn at h
    split at h
    · rename_i e; rw [e, Option.some.inj h]
    · cases h
  exact (Any.strconv_ParseInt_10_at16_ok Tryz.lays174 s (by omega) v h2 w).mono fun e w' ⟨he, hw⟩ => ⟨he, below_bytes hw⟩
theorem parse16_bad (s : ByteArray) (hs : s.size ≤ 1048576) (h : pIn 16 s = none) (w : World) (hP : PE w) :
    Calls Tryz.prog 39 #[.string s, .int .i64 10, .int .i64 16] w fun e w' => ∃ n t q, e = .returned (.tuple #[.int .i64 n, .iface t q]) ∧ Below w.heap.size w w' := by
  obtain ⟨⟨a, b, h1⟩, ⟨c, d, h2⟩⟩ := hP
  cases e : Lib.parseIntB 16 s.data.toList with
  | ok v => unfold pIn at h; rw [e] at h; cases h
  | «syntax» => exact (Any.strconv_ParseInt_10_at16_syntax_var Tryz.lays174 s (by omega) e a b w h1).mono fun e w' ⟨N, he, _, _, hb⟩ => ⟨_, _, _, he, hb⟩
  | range => exact (Any.strconv_ParseInt_10_at16_range_var Tryz.lays174 s (by omega) e c d w h2).mono fun e w' ⟨N, he, _, _, hb⟩ => ⟨_, _, _, he, hb⟩
theorem parse64_ok (s : ByteArray) (hs : s.size ≤ 1048576) (v : Int) (h : pIn 64 s = some v) (w : World) :
    Calls Tryz.prog 39 #[.string s, .int .i64 10, .int .i64 64] w fun e w' => e = .returned (.tuple #[.int .i64 v, .nilIface]) ∧ Below w.heap.size w w' := by
  have h2 : Lib.parseIntB 64 s.data.toList = .ok v := by
    unfold pIn at h
    split at h
    · rename_i e; rw [e, Option.some.inj h]
    · cases h
  exact (Any.strconv_ParseInt_10_at64_ok Tryz.lays174 s (by omega) v h2 w).mono fun e w' ⟨he, hw⟩ => ⟨he, below_bytes hw⟩
theorem parse64_bad (s : ByteArray) (hs : s.size ≤ 1048576) (h : pIn 64 s = none) (w : World) (hP : PE w) :
    Calls Tryz.prog 39 #[.string s, .int .i64 10, .int .i64 64] w fun e w' => ∃ n t q, e = .returned (.tuple #[.int .i64 n, .iface t q]) ∧ Below w.heap.size w w' := by
  obtain ⟨⟨a, b, h1⟩, ⟨c, d, h2⟩⟩ := hP
  cases e : Lib.parseIntB 64 s.data.toList with
  | ok v => unfold pIn at h; rw [e] at h; cases h
  | «syntax» => exact (Any.strconv_ParseInt_10_at64_syntax_var Tryz.lays174 s (by omega) e a b w h1).mono fun e w' ⟨N, he, _, _, hb⟩ => ⟨_, _, _, he, hb⟩
  | range => exact (Any.strconv_ParseInt_10_at64_range_var Tryz.lays174 s (by omega) e c d w h2).mono fun e w' ⟨N, he, _, _, hb⟩ => ⟨_, _, _, he, hb⟩
theorem pIn_bounds {B : Nat} {s : ByteArray} {v : Int} (h : pIn B s = some v) : -((2 ^ (B - 1) : Nat) : Int) ≤ v ∧ v < ((2 ^ (B - 1) : Nat) : Int) := by
  unfold pIn at h
  split at h
  · rename_i e; rw [Option.some.inj h] at e; exact Lib.parseIntB_bounds e
  · cases h
end Go.Proofs.YtnbijfeidgddmaaGreatDoor

namespace Go.Proofs.YtnbijfeidgddmaaGreatDoor
open Go.ChangeShapes Go.WideShapes Go.ChangeAt Go.RowKit

/-- They as cells. -/
def ffld : List Fd → List Value
  | [] => []
  | c :: xs => .string c.s :: .int .i8 c.k :: .int .i16 c.t :: .int .i16 c.z :: ffld xs
theorem ffld_len : ∀ xs : List Fd, (ffld xs).length = xs.length * 4
  | [] => rfl
  | c :: xs => by simp only [ffld, List.length_cons, ffld_len xs]; omega
theorem ffld_app : ∀ (xs ys : List Fd), ffld (xs ++ ys) = ffld xs ++ ffld ys
  | [], _ => rfl
  | c :: xs, ys => by simp only [ffld, List.cons_append, ffld_app xs ys]
theorem fdAt_succO (c : Fd) (xs : List Fd) (i : Nat) : fdAt (c :: xs) (i + 1) = fdAt xs i := rfl
theorem ffld_get : ∀ (xs : List Fd) (i : Nat), i < xs.length → (ffld xs)[i * 4]? = some (.string (fdAt xs i).s) ∧ (ffld xs)[i * 4 + 1]? = some (.int .i8 (fdAt xs i).k) ∧ (ffld xs)[i * 4 + 2]? = some (.int .i16 (fdAt xs i).t) ∧ (ffld xs)[i * 4 + 3]? = some (.int .i16 (fdAt xs i).z)
  | [], i, h => absurd h (Nat.not_lt_zero _)
  | c :: xs, 0, _ => ⟨rfl, rfl, rfl, rfl⟩
  | c :: xs, i + 1, h => by
    have := ffld_get xs i (by simpa using h)
    rw [show (i + 1) * 4 = i * 4 + 1 + 1 + 1 + 1 by omega]
    exact this
theorem ffld_set : ∀ (xs : List Fd) (i : Nat) (c : Fd), (((((ffld xs).set (i * 4) (.string c.s)).set (i * 4 + 1) (.int .i8 c.k)).set (i * 4 + 2) (.int .i16 c.t)).set (i * 4 + 3) (.int .i16 c.z)) = ffld (xs.set i c)
  | [], i, c => rfl
  | d :: xs, 0, c => rfl
  | d :: xs, i + 1, c => by
    rw [show (i + 1) * 4 = i * 4 + 1 + 1 + 1 + 1 by omega]
    have := ffld_set xs i c
    simp only [ffld, List.set_cons_succ, this]
def OwnFds (B : Nat) (xs : List Fd) (v : Value) (w : World) : Prop := w.ownsRow B 38 4 v xs.length (ffld xs)
def CellsFd (w : World) (a : Option Addr) (xs : List Fd) : Prop := ∀ i, i < xs.length → ∃ b off, a = some ⟨b, off, none⟩ ∧ b < w.heap.size ∧ w.cell? ⟨b, off + i * 4, none⟩ = some (.string (fdAt xs i).s) ∧ w.cell? ⟨b, off + i * 4 + 1, none⟩ = some (.int .i8 (fdAt xs i).k) ∧ w.cell? ⟨b, off + i * 4 + 2, none⟩ = some (.int .i16 (fdAt xs i).t) ∧ w.cell? ⟨b, off + i * 4 + 3, none⟩ = some (.int .i16 (fdAt xs i).z)
theorem ownFds_in {B : Nat} {xs : List Fd} {v : Value} {w : World} (h : OwnFds B xs v w) : ∃ a c, v = .slice a xs.length c ∧ CellsFd w a xs := by
  have h0 := h
  obtain ⟨_, h2⟩ := h
  rcases h2 with ⟨rfl, hn⟩ | ⟨g, cap, cur, rfl, hb, hg, _⟩
  · exact ⟨none, 0, by rw [hn], fun i hi => by omega⟩
  · refine ⟨_, cap, rfl, fun i hi => ⟨g, 0, rfl, (Array.getElem?_eq_some_iff.1 hg).1, ?_, ?_, ?_, ?_⟩⟩
    · rw [Nat.zero_add, World.ownsRow.cellAt h0 _ (by omega)]; exact (ffld_get xs i hi).1
    · rw [Nat.zero_add, World.ownsRow.cellAt h0 _ (by omega)]; exact (ffld_get xs i hi).2.1
    · rw [Nat.zero_add, World.ownsRow.cellAt h0 _ (by omega)]; exact (ffld_get xs i hi).2.2.1
    · rw [Nat.zero_add, World.ownsRow.cellAt h0 _ (by omega)]; exact (ffld_get xs i hi).2.2.2
theorem cellsFd_below {w w' : World} {a : Option Addr} {xs : List Fd} (h : CellsFd w a xs) (hb : Below w.heap.size w w') : CellsFd w' a xs := fun i hi => by
  obtain ⟨b, off, ha, hlt, h0, h1, h2, h3⟩ := h i hi
  exact ⟨b, off, ha, Nat.lt_of_lt_of_le hlt hb.size, (hb.cell hlt).trans h0, (hb.cell hlt).trans h1, (hb.cell hlt).trans h2, (hb.cell hlt).trans h3⟩
theorem fieldsIn_ofO {w : World} {a : Option Addr} {xs : List Fd} (h : CellsFd w a xs) (hf : ∀ i, i < xs.length → (fdAt xs i).fits) : FieldsIn w a xs := fun i hi => ⟨hf i hi, h i hi⟩
theorem ownFds_kept {B : Nat} {xs : List Fd} {v : Value} {w w' : World} (h : OwnFds B xs v w) (hb : Below w.heap.size w w') : OwnFds B xs v w' := ownsRowF_below h hb
theorem ownFds_weaken {B B' : Nat} {xs : List Fd} {v : Value} {w : World} (h : OwnFds B xs v w) (hb : B' ≤ B) : OwnFds B' xs v w := by
  obtain ⟨h1, h2⟩ := h
  refine ⟨h1, ?_⟩
  rcases h2 with hn | ⟨g, cap, cur, rfl, hB, rest⟩
  · exact .inl hn
  · exact .inr ⟨g, cap, cur, rfl, Nat.le_trans hb hB, rest⟩
theorem ownFds_oth {B g : Nat} {xs : List Fd} {v : Value} {w w' : World} (h : OwnFds B xs v w) (hb : Oth g w w') (hg : g < B) : OwnFds B xs v w' := by
  obtain ⟨h1, h2⟩ := h
  refine ⟨h1, ?_⟩
  rcases h2 with hn | ⟨b, cap, cur, rfl, hB, hh, rest⟩
  · exact .inl hn
  · exact .inr ⟨b, cap, cur, rfl, hB, (hb.block b (by omega) (Array.getElem?_eq_some_iff.1 hh).1).trans hh, rest⟩
theorem ownFds_nil (w : World) (B : Nat) : OwnFds B [] (.slice none 0 0) w := World.ownsRow_nil w B _ 4
theorem ownFds_made {w : World} {m B : Nat} (hn : m = w.heap.size) (hB : B ≤ w.heap.size) : OwnFds B [] (.slice (some ⟨m, 0, none⟩) 0 0) (w.alloc (.cells #[] 38)) := by
  subst hn; exact World.ownsRow_made w #[] 0 hB (Nat.zero_le _) rfl
theorem ownFds_lt {B : Nat} {xs : List Fd} {v : Value} {w : World} (h : OwnFds B xs v w) : ∀ j, v.ownBlock = some j → B ≤ j := fun j hj => (World.ownsRow.lt h j hj).1
theorem ownFds_push {B : Nat} {xs : List Fd} {k : Int} {s : ByteArray} {t z : Int} {v : Value} {w : World} (h : w.ownsRow B 38 4 v (xs.length + 1) (ffld xs ++ [.string s, .int .i8 k, .int .i16 t, .int .i16 z])) : OwnFds B (xs ++ [⟨s, k, t, z⟩]) v w := by
  unfold OwnFds; rw [ffld_app, List.length_append]; exact h
end Go.Proofs.YtnbijfeidgddmaaGreatDoor

namespace Go.Proofs.YtnbijfeidgddmaaGreatDoor
open Go.ChangeShapes Go.WideShapes Go.ChangeAt Go.RowKit

/-- Is a name among these? -/
def hasN (ns : List ByteArray) (s : ByteArray) : Bool := ns.any fun t => t.data.toList == s.data.toList

/-- Block b holds a map of the call's own in which just these names are true. -/
def NamesIn (P : Program) (k e : TypeId) (w : World) (b : Nat) (ns : List ByteArray) : Prop :=
  ∃ D : DataW Unit, w.ownsMap P k (plainElem P e) b ns.length D ∧ Maps.IsMap D ∧ ∀ s : ByteArray, D.atKey (.string s.data.toList) (.lit (.bool false)) = .lit (.bool (hasN ns s))

theorem namesIn_made (P : Program) (k e : TypeId) (w : World) : NamesIn P k e (w.alloc (.map #[] 0)) w.heap.size [] :=
  ⟨.map [], World.ownsMap_made _ _ _ _, ⟨[], rfl⟩, fun _ => rfl⟩

theorem plainElem_bool_inv {P : Program} {e : TypeId} (he : P.underlying e = some .bool) {v : Value} {z : DataW Unit × List MemPlace} (h : plainElem P e v = some z) : ∃ x, v = .bool x ∧ z = (.lit (.bool x), []) := by
  unfold plainElem at h
  rw [he] at h
  cases v <;> simp at h
  exact ⟨_, rfl, h.symm⟩

theorem NamesIn.asked {P : Program} {k e t : TypeId} {w : World} {b : Nat} {ns : List ByteArray} (h : NamesIn P k e w b ns) (ht : P.underlying t = some (.map k e)) (hk : P.underlying k = some .string) (he : P.underlying e = some .bool) (hz : (zeroValue e).run P w = .ok (.bool false) w) (s : ByteArray) (hs : s.size ≤ maxLen) :
    (Instr.lookup t (.map (some b)) (.string s) false).run P w = .ok (.bool (hasN ns s)) w := by
  obtain ⟨D, hown, _, hat⟩ := h
  obtain ⟨v, ps, hrun, hv⟩ := hown.lookup (Maps.string_keyed hk) ht hz (plainElem_bool he false) (Go.WideMaps.keyOf_string_mk hk hs)
  rw [hat s] at hv
  obtain ⟨x, rfl, hx⟩ := plainElem_bool_inv he hv
  simp only [Prod.mk.injEq] at hx
  injection hx.1 with h1
  injection h1 with h2
  rw [hrun, h2]

theorem NamesIn.added {P : Program} {k e t : TypeId} {w : World} {b : Nat} {ns : List ByteArray} (h : NamesIn P k e w b ns) (ht : P.underlying t = some (.map k e)) (hk : P.underlying k = some .string) (he : P.underlying e = some .bool) (s : ByteArray) (hs : s.size ≤ maxLen) (hn : ns.length < maxLen) :
    ∃ w', (Instr.mapUpdate t (.map (some b)) (.string s) (.bool true)).run P w = .ok () w' ∧ NamesIn P k e w' b (ns ++ [s]) ∧ w.grownBy w' (some b) := by
  obtain ⟨D, hown, hm, hat⟩ := h
  obtain ⟨w', hrun, hown', hg⟩ := hown.update (Maps.string_keyed hk) ht hn (Go.WideMaps.keyOf_string_mk hk hs) (plainElem_bool he true)
  refine ⟨w', hrun, ⟨D.put (.string s.data.toList) (.lit (.bool true)), ?_, ?_, fun q => ?_⟩, hg⟩
  · rw [List.length_append]; exact hown'
  · obtain ⟨es, rfl⟩ := hm; exact ⟨_, rfl⟩
  · by_cases hq : q.data.toList = s.data.toList
    · rw [hq, Maps.atKey_put_same hm (show WideAt.IsKeyLit (.string s.data.toList) from trivial)]
      simp [hasN, hq]
    · have hne : Lit.string q.data.toList ≠ Lit.string s.data.toList := by
        intro e1
        injection e1 with e2
        exact hq e2
      have hq2 : (s.data.toList == q.data.toList) = false := by rw [beq_eq_false_iff_ne]; exact fun e => hq e.symm
      rw [Maps.atKey_put_other hne, hat q]
      unfold hasN
      rw [List.any_append, List.any_cons, hq2, List.any_nil, Bool.or_false, Bool.or_false]

/-- The set is carried over what leaves its block alone. -/
theorem NamesIn.below {P : Program} {k e : TypeId} {w w' : World} {b : Nat} {ns : List ByteArray} (h : NamesIn P k e w b ns) (hb : Below w.heap.size w w') : NamesIn P k e w' b ns := by
  obtain ⟨D, hown, hm, hat⟩ := h
  refine ⟨D, ?_, hm, hat⟩
  obtain ⟨es, clock, hc, F, hs, hD⟩ := hown
  exact ⟨es, clock, (hb.block b (Array.getElem?_eq_some_iff.1 hc).1).trans hc, F, hs, hD⟩
end Go.Proofs.YtnbijfeidgddmaaGreatDoor

namespace Go.Proofs.YtnbijfeidgddmaaGreatDoor
open Go.ChangeShapes Go.WideShapes Go.ChangeAt Go.RowKit

theorem open_mix {P : Program} {w : World} {r : Reach} {base : Nat} {t : TypeId} {v : Value} {f0 f1 f2 : Field} {e : TypeId} (hu : P.underlying t = some (.struct #[f0, f1, f2])) (he : P.underlying e = some (.int .i16)) (hts : P.cellTypes P.depth t = some [e, e, e]) (hc : P.cellsOf t = 3)
    (h : Value.okWide P w r base t v) : ∃ a b c : Int, v = .agg #[.int .i16 a, .int .i16 b, .int .i16 c] ∧ I16 a ∧ I16 b ∧ I16 c := by
  obtain ⟨cs, rfl, hsz, hcell⟩ := open_cells ⟨_, hu, .inl ⟨_, rfl⟩⟩ hts hc h
  obtain ⟨c0, c1, c2, rfl⟩ := Go.Joins.array3 hsz
  obtain ⟨a, rfl, a1, a2⟩ := cell_int he (hcell 0 c0 e rfl rfl)
  obtain ⟨b, rfl, b1, b2⟩ := cell_int he (hcell 1 c1 e rfl rfl)
  obtain ⟨c, rfl, d1, d2⟩ := cell_int he (hcell 2 c2 e rfl rfl)
  simp [IntKind.min, IntKind.max, IntKind.signed, IntKind.bits] at a1 a2 b1 b2 d1 d2
  exact ⟨a, b, c, rfl, ⟨by omega, by omega⟩, ⟨by omega, by omega⟩, ⟨by omega, by omega⟩⟩


def mostP (z : Int) : Int := if 8 ≤ z / 2 then 8 else z / 2
def mixOk (t z p : Int) : Bool := decide (0 ≤ t ∧ 4 ≤ z ∧ t + z ≤ 96 ∧ 1 ≤ p ∧ p ≤ 8 ∧ 2 * p ≤ z)
theorem mix_yes {t z p : Int} (h : 0 ≤ t ∧ 4 ≤ z ∧ t + z ≤ 96 ∧ 1 ≤ p ∧ p ≤ 8 ∧ 2 * p ≤ z) : mixOk t z p = true := by unfold mixOk; simpa using h
theorem mix_no {t z p : Int} (h : ¬ (0 ≤ t ∧ 4 ≤ z ∧ t + z ≤ 96 ∧ 1 ≤ p ∧ p ≤ 8 ∧ 2 * p ≤ z)) : mixOk t z p = false := by unfold mixOk; exact decide_eq_false h
theorem mix_inv {t z p : Int} (h : mixOk t z p = true) : 0 ≤ t ∧ 4 ≤ z ∧ t + z ≤ 96 ∧ 1 ≤ p ∧ p ≤ 8 ∧ 2 * p ≤ z := by unfold mixOk at h; simpa using h
theorem ret_b {x y : Bool} (h : x = y) : Ending.returned (.bool y) = .returned (.bool x) := by rw [h]

theorem i16_in (n : Int) (h : -32768 ≤ n ∧ n ≤ 32767) : IntKind.i16.wrap n = n := by
  unfold IntKind.wrap
  simp [IntKind.bits, IntKind.signed]
  omega

theorem sInM_any (x lo hi : Int) (w : World) :
    Calls Tryz.prog 64 #[.int .i64 x, .int .i64 lo, .int .i64 hi] w fun e w' => e = .returned (.bool (decide (lo ≤ x ∧ x ≤ hi))) ∧ w = w' := by
  by_cases h : lo ≤ x
  · have d : decide (lo ≤ x) = true := by simp [h]
    have e : decide (lo ≤ x ∧ x ≤ hi) = decide (x ≤ hi) := by simp [h]
    rw [e]
    clear e
    go_enter Tryz.func64, Tryz.ntmps64
    go_wp2
    go_returns
    exact ⟨rfl, rfl⟩
  · have d : decide (lo ≤ x) = false := by simp [h]
    have e : decide (lo ≤ x ∧ x ≤ hi) = false := by simp [h]
    rw [e]
    clear e
    go_enter Tryz.func64, Tryz.ntmps64
    go_wp2
    go_returns
    exact ⟨rfl, rfl⟩
theorem sInM_t {x lo hi : Int} (h : lo ≤ x ∧ x ≤ hi) (w : World) :
    Calls Tryz.prog 64 #[.int .i64 x, .int .i64 lo, .int .i64 hi] w fun e w' => e = .returned (.bool true) ∧ w = w' := by
  have := sInM_any x lo hi w
  rwa [decide_eq_true h] at this
theorem sInM_f {x lo hi : Int} (h : ¬ (lo ≤ x ∧ x ≤ hi)) (w : World) :
    Calls Tryz.prog 64 #[.int .i64 x, .int .i64 lo, .int .i64 hi] w fun e w' => e = .returned (.bool false) ∧ w = w' := by
  have := sInM_any x lo hi w
  rwa [decide_eq_false h] at this
end Go.Proofs.YtnbijfeidgddmaaGreatDoor

namespace Go.Proofs.YtnbijfeidgddmaaGreatDoor
open Go.ChangeShapes Go.WideShapes Go.ChangeAt Go.RowKit

/-- One block has been written; all else of what there was is as it was. -/
structure Wr (w : World) (bk : Nat) (o : Obj) (w' : World) : Prop where
  os : w'.os = w.os
  tape : w'.tape = w.tape
  output : w'.output = w.output
  size : w.heap.size ≤ w'.heap.size
  block : ∀ k, k < w.heap.size → k ≠ bk → w'.heap[k]? = w.heap[k]?
  at_ : w'.heap[bk]? = some o

theorem Wr.below {w0 w w' : World} {b : Nat} {o : Obj} (h : Wr w b o w') (hb : w0.heap.size ≤ b) (kk : Below w0.heap.size w0 w) : Below w0.heap.size w0 w' :=
  kk.trans ⟨h.os, h.tape, h.output, h.size, fun i hi => h.block i (Nat.lt_of_lt_of_le hi kk.size) (by omega)⟩
theorem Wr.keeps {w w' : World} {b k : Nat} {o p : Obj} (h : Wr w b o w') (hk : k ≠ b) (hp : w.heap[k]? = some p) : w'.heap[k]? = some p := (h.block k (lt_of_block hp) hk).trans hp
theorem wr_of_ab {w w3 : World} {b j : Nat} {C : Array Value} {t : TypeId} {r : Nat × Nat} (v : Value) (h : Ab w w3) (hb : w3.heap[b]? = some (.cells C t r)) : Wr w b (.cells (C.setIfInBounds j v) t r) (w3.setCell ⟨b, j, none⟩ v) :=
  ⟨h.os, h.tape, h.output, Nat.le_trans h.size (by simp), fun k hk hne => (Below.heap_setCell _ _ _ _ hne).trans (Below.block h k hk), block_setCell v hb⟩



theorem or_zero (x : Int) (h : U64 x) : bits .or .u64 x 0 = x := by
  rw [Go.u64_or x 0 h.1 h.2 (by decide) (by decide)]
  obtain ⟨n, rfl⟩ := Int.eq_ofNat_of_zero_le h.1
  simp
theorem u64_or_in (x y : Int) (hx : U64 x) (hy : U64 y) : U64 (bits .or .u64 x y) := by
  rw [Go.u64_or x y hx.1 hx.2 hy.1 hy.2]
  obtain ⟨n, rfl⟩ := Int.eq_ofNat_of_zero_le hx.1
  obtain ⟨m, rfl⟩ := Int.eq_ofNat_of_zero_le hy.1
  have h1 := hx.2
  have h2 := hy.2
  have : n ||| m < 2 ^ 64 := Nat.or_lt_two_pow (by omega) (by omega)
  refine ⟨by simp, ?_⟩
  simp only [Int.toNat_natCast]
  omega

/-! ### The holes of a mix, gathered by the model -/
def ma (f : Int → Int) (s : Int) : Nat → Int
  | 0 => 0
  | k + 1 => bits .or .u64 (ma f s k) (f (s + k))
theorem ma_in (s : Int) (h0 : 0 ≤ s) : ∀ k : Nat, s + k ≤ 96 → U64 (ma b0 s k) ∧ U64 (ma b1 s k)
  | 0, _ => show U64 0 ∧ U64 0 from ⟨⟨by decide, by decide⟩, ⟨by decide, by decide⟩⟩
  | k + 1, h => by
    obtain ⟨a, b⟩ := ma_in s h0 k (by omega)
    exact ⟨u64_or_in _ _ a (u64_b0 _ (by omega)), u64_or_in _ _ b (u64_b1 _ (by omega))⟩

/-- The two boxes of a mask that is gathered: the answer's, still empty, and the mask's. -/
def PrR (w wr : World) (x y : Int) : Prop :=
  wr.heap[w.heap.size]? = some (.cells #[.int .u64 0, .int .u64 0] 51 (0, 0)) ∧ wr.heap[w.heap.size + 1]? = some (.cells #[.int .u64 x, .int .u64 y] 51 (0, 0)) ∧ Below w.heap.size w wr
theorem prR_next {w wr w' : World} {x y p q : Int} (h : PrR w wr x y) (k : Wr wr (w.heap.size + 1) (.cells #[.int .u64 p, .int .u64 q] 51 (0, 0)) w') : PrR w w' p q :=
  ⟨k.keeps (by omega) h.1, k.at_, k.below (by omega) h.2.2⟩

end Go.Proofs.YtnbijfeidgddmaaGreatDoor
