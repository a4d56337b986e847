/- Contracts: what kind of edit it is; is an edit valid, the program's and the model's. -/
import Derived.Test.YtllhglakihfjmaaDoorEds
import Derived.Test.YtllhglakihfjmaaDoorCard
import Derived.Test.YtllhglakihfjmaaDoorHole
import Derived.Test.YtllhglakihfjmaaDoorBoxes
import Derived.Test.YtllhglakihfjmaaDoorWear2
import Derived.Test.YtllhglakihfjmaaDoorArr
import Derived.Laws.EntriesVeiled
namespace Go.Proofs.YtllhglakihfjmaaDoor
open Go.ChangeShapes Go.WideShapes Go.ChangeAt Go.RowKit

/-- The value of an edit. -/
def edV (x : Ed) : Value := .agg #[.int .i8 x.k, .string x.s, .int .i16 x.h, .int .u64 x.a, .int .u64 x.b]
/-- Is it valid. -/
def edOk (x : Ed) : Bool :=
  if x.k = 1 ∨ x.k = 2 then nameOk x.s && (x.h == 0 && maskOk x.b) else if x.k = 3 ∨ x.k = 4 then nameOk x.s && (decide (0 ≤ x.h ∧ x.h ≤ 95) && (x.a == 0 && x.b == 0)) else false
theorem edOk_card {x : Ed} (h : x.k = 1 ∨ x.k = 2) : edOk x = (nameOk x.s && (x.h == 0 && maskOk x.b)) := by unfold edOk; rw [if_pos h]
theorem edOk_hole {x : Ed} (h : x.k = 3 ∨ x.k = 4) : edOk x = (nameOk x.s && (decide (0 ≤ x.h ∧ x.h ≤ 95) && (x.a == 0 && x.b == 0))) := by unfold edOk; rw [if_neg (by omega), if_pos h]
theorem edOk_none {x : Ed} (h : ¬ (x.k = 1 ∨ x.k = 2 ∨ x.k = 3 ∨ x.k = 4)) : edOk x = false := by unfold edOk; rw [if_neg (by omega), if_neg (by omega)]


set_option maxHeartbeats 800000 in
theorem iChange_1 (s : ByteArray) (h a b : Int) (w : World) :
    Calls Tryd.prog 114 #[.agg #[.int .i8 1, .string s, .int .i16 h, .int .u64 a, .int .u64 b]] w fun e w' => e = .returned (.iface 185 (.agg #[.int .i8 1, .string s, .int .i16 h, .int .u64 a, .int .u64 b])) ∧ Below w.heap.size w w' := by
  go_enter Tryd.func114, Tryd.ntmps114
  go_wp2
  go_returns
  exact ⟨rfl, (by repeat' (first | (with_reducible exact Below.refl _ _) | (with_reducible assumption) | (with_reducible refine below_drewN ?_ _) | (with_reducible refine Below.drew ?_) | (with_reducible refine below_new ?_ _) | (with_reducible refine below_next ?_ (by with_reducible assumption)) | (with_reducible refine Below.setCell ?_ ?_ _) | go_size))⟩

set_option maxHeartbeats 800000 in
theorem iChange_2 (s : ByteArray) (h a b : Int) (w : World) :
    Calls Tryd.prog 114 #[.agg #[.int .i8 2, .string s, .int .i16 h, .int .u64 a, .int .u64 b]] w fun e w' => e = .returned (.iface 186 (.agg #[.int .i8 2, .string s, .int .i16 h, .int .u64 a, .int .u64 b])) ∧ Below w.heap.size w w' := by
  go_enter Tryd.func114, Tryd.ntmps114
  go_wp2
  go_returns
  exact ⟨rfl, (by repeat' (first | (with_reducible exact Below.refl _ _) | (with_reducible assumption) | (with_reducible refine below_drewN ?_ _) | (with_reducible refine Below.drew ?_) | (with_reducible refine below_new ?_ _) | (with_reducible refine below_next ?_ (by with_reducible assumption)) | (with_reducible refine Below.setCell ?_ ?_ _) | go_size))⟩

set_option maxHeartbeats 800000 in
theorem iChange_3 (s : ByteArray) (h a b : Int) (w : World) :
    Calls Tryd.prog 114 #[.agg #[.int .i8 3, .string s, .int .i16 h, .int .u64 a, .int .u64 b]] w fun e w' => e = .returned (.iface 165 (.agg #[.int .i8 3, .string s, .int .i16 h, .int .u64 a, .int .u64 b])) ∧ Below w.heap.size w w' := by
  go_enter Tryd.func114, Tryd.ntmps114
  go_wp2
  go_returns
  exact ⟨rfl, (by repeat' (first | (with_reducible exact Below.refl _ _) | (with_reducible assumption) | (with_reducible refine below_drewN ?_ _) | (with_reducible refine Below.drew ?_) | (with_reducible refine below_new ?_ _) | (with_reducible refine below_next ?_ (by with_reducible assumption)) | (with_reducible refine Below.setCell ?_ ?_ _) | go_size))⟩

set_option maxHeartbeats 800000 in
theorem iChange_4 (s : ByteArray) (h a b : Int) (w : World) :
    Calls Tryd.prog 114 #[.agg #[.int .i8 4, .string s, .int .i16 h, .int .u64 a, .int .u64 b]] w fun e w' => e = .returned (.iface 166 (.agg #[.int .i8 4, .string s, .int .i16 h, .int .u64 a, .int .u64 b])) ∧ Below w.heap.size w w' := by
  go_enter Tryd.func114, Tryd.ntmps114
  go_wp2
  go_returns
  exact ⟨rfl, (by repeat' (first | (with_reducible exact Below.refl _ _) | (with_reducible assumption) | (with_reducible refine below_drewN ?_ _) | (with_reducible refine Below.drew ?_) | (with_reducible refine below_new ?_ _) | (with_reducible refine below_next ?_ (by with_reducible assumption)) | (with_reducible refine Below.setCell ?_ ?_ _) | go_size))⟩

set_option maxHeartbeats 800000 in
theorem iChange_0 (k : Int) (s : ByteArray) (h a b : Int) (w : World) (hk : ¬ (k = 1 ∨ k = 2 ∨ k = 3 ∨ k = 4)) :
    Calls Tryd.prog 114 #[.agg #[.int .i8 k, .string s, .int .i16 h, .int .u64 a, .int .u64 b]] w fun e w' => e = .returned .nilIface ∧ Below w.heap.size w w' := by
  have d1 : (k == 1) = false := beq_eq_false_iff_ne.2 (by omega)
  have d2 : (k == 2) = false := beq_eq_false_iff_ne.2 (by omega)
  have d3 : (k == 3) = false := beq_eq_false_iff_ne.2 (by omega)
  have d4 : (k == 4) = false := beq_eq_false_iff_ne.2 (by omega)
  clear hk
  go_enter Tryd.func114, Tryd.ntmps114
  go_wp2
  go_returns
  exact ⟨rfl, (by repeat' (first | (with_reducible exact Below.refl _ _) | (with_reducible assumption) | (with_reducible refine below_drewN ?_ _) | (with_reducible refine Below.drew ?_) | (with_reducible refine below_new ?_ _) | (with_reducible refine below_next ?_ (by with_reducible assumption)) | (with_reducible refine Below.setCell ?_ ?_ _) | go_size))⟩


set_option maxRecDepth 100000 in
set_option maxHeartbeats 800000 in
theorem iOfHole_1 (s : ByteArray) (h a b : Int) (w : World) :
    Calls Tryd.prog 95 #[.agg #[.int .i8 1, .string s, .int .i16 h, .int .u64 a, .int .u64 b]] w fun e w' => e = .returned (.bool false) ∧ Below w.heap.size w w' := by
  have C := Lib.hid fun W => iChange_1 s h a b W
  have a3 : ∀ w : World, (Instr.typeAssert (.iface 185 (.agg #[.int .i8 1, .string s, .int .i16 h, .int .u64 a, .int .u64 b])) 163 165 true).run Tryd.prog w = .ok (.tuple #[.agg #[.int .i8 0, .string ByteArray.empty, .int .i16 0, .int .u64 0, .int .u64 0], .bool false]) w := fun _ => by kernel_rfl
  have a4 : ∀ w : World, (Instr.typeAssert (.iface 185 (.agg #[.int .i8 1, .string s, .int .i16 h, .int .u64 a, .int .u64 b])) 163 166 true).run Tryd.prog w = .ok (.tuple #[.agg #[.int .i8 0, .string ByteArray.empty, .int .i16 0, .int .u64 0, .int .u64 0], .bool false]) w := fun _ => by kernel_rfl
  go_enter Tryd.func95, Tryd.ntmps95
  go_wp2_with (go_at_call 114; refine (C.out _).mono ?_; rintro e w1 ⟨rfl, hB⟩; obtain ⟨hc, hf, hz⟩ := bcell hB)
  go_returns
  exact ⟨rfl, (by repeat' (first | (with_reducible exact Below.refl _ _) | (with_reducible assumption) | (with_reducible refine below_drewN ?_ _) | (with_reducible refine Below.drew ?_) | (with_reducible refine below_new ?_ _) | (with_reducible refine below_next ?_ (by with_reducible assumption)) | (with_reducible refine Below.setCell ?_ ?_ _) | go_size))⟩

set_option maxRecDepth 100000 in
set_option maxHeartbeats 800000 in
theorem iOfHole_2 (s : ByteArray) (h a b : Int) (w : World) :
    Calls Tryd.prog 95 #[.agg #[.int .i8 2, .string s, .int .i16 h, .int .u64 a, .int .u64 b]] w fun e w' => e = .returned (.bool false) ∧ Below w.heap.size w w' := by
  have C := Lib.hid fun W => iChange_2 s h a b W
  have a3 : ∀ w : World, (Instr.typeAssert (.iface 186 (.agg #[.int .i8 2, .string s, .int .i16 h, .int .u64 a, .int .u64 b])) 163 165 true).run Tryd.prog w = .ok (.tuple #[.agg #[.int .i8 0, .string ByteArray.empty, .int .i16 0, .int .u64 0, .int .u64 0], .bool false]) w := fun _ => by kernel_rfl
  have a4 : ∀ w : World, (Instr.typeAssert (.iface 186 (.agg #[.int .i8 2, .string s, .int .i16 h, .int .u64 a, .int .u64 b])) 163 166 true).run Tryd.prog w = .ok (.tuple #[.agg #[.int .i8 0, .string ByteArray.empty, .int .i16 0, .int .u64 0, .int .u64 0], .bool false]) w := fun _ => by kernel_rfl
  go_enter Tryd.func95, Tryd.ntmps95
  go_wp2_with (go_at_call 114; refine (C.out _).mono ?_; rintro e w1 ⟨rfl, hB⟩; obtain ⟨hc, hf, hz⟩ := bcell hB)
  go_returns
  exact ⟨rfl, (by repeat' (first | (with_reducible exact Below.refl _ _) | (with_reducible assumption) | (with_reducible refine below_drewN ?_ _) | (with_reducible refine Below.drew ?_) | (with_reducible refine below_new ?_ _) | (with_reducible refine below_next ?_ (by with_reducible assumption)) | (with_reducible refine Below.setCell ?_ ?_ _) | go_size))⟩

set_option maxRecDepth 100000 in
set_option maxHeartbeats 800000 in
theorem iOfHole_3 (s : ByteArray) (h a b : Int) (w : World) :
    Calls Tryd.prog 95 #[.agg #[.int .i8 3, .string s, .int .i16 h, .int .u64 a, .int .u64 b]] w fun e w' => e = .returned (.bool true) ∧ Below w.heap.size w w' := by
  have C := Lib.hid fun W => iChange_3 s h a b W
  have a3 : ∀ w : World, (Instr.typeAssert (.iface 165 (.agg #[.int .i8 3, .string s, .int .i16 h, .int .u64 a, .int .u64 b])) 163 165 true).run Tryd.prog w = .ok (.tuple #[.agg #[.int .i8 3, .string s, .int .i16 h, .int .u64 a, .int .u64 b], .bool true]) w := fun _ => by kernel_rfl
  have a4 : ∀ w : World, (Instr.typeAssert (.iface 165 (.agg #[.int .i8 3, .string s, .int .i16 h, .int .u64 a, .int .u64 b])) 163 166 true).run Tryd.prog w = .ok (.tuple #[.agg #[.int .i8 0, .string ByteArray.empty, .int .i16 0, .int .u64 0, .int .u64 0], .bool false]) w := fun _ => by kernel_rfl
  go_enter Tryd.func95, Tryd.ntmps95
  go_wp2_with (go_at_call 114; refine (C.out _).mono ?_; rintro e w1 ⟨rfl, hB⟩; obtain ⟨hc, hf, hz⟩ := bcell hB)
  go_returns
  exact ⟨rfl, (by repeat' (first | (with_reducible exact Below.refl _ _) | (with_reducible assumption) | (with_reducible refine below_drewN ?_ _) | (with_reducible refine Below.drew ?_) | (with_reducible refine below_new ?_ _) | (with_reducible refine below_next ?_ (by with_reducible assumption)) | (with_reducible refine Below.setCell ?_ ?_ _) | go_size))⟩

set_option maxRecDepth 100000 in
set_option maxHeartbeats 800000 in
theorem iOfHole_4 (s : ByteArray) (h a b : Int) (w : World) :
    Calls Tryd.prog 95 #[.agg #[.int .i8 4, .string s, .int .i16 h, .int .u64 a, .int .u64 b]] w fun e w' => e = .returned (.bool true) ∧ Below w.heap.size w w' := by
  have C := Lib.hid fun W => iChange_4 s h a b W
  have a3 : ∀ w : World, (Instr.typeAssert (.iface 166 (.agg #[.int .i8 4, .string s, .int .i16 h, .int .u64 a, .int .u64 b])) 163 165 true).run Tryd.prog w = .ok (.tuple #[.agg #[.int .i8 0, .string ByteArray.empty, .int .i16 0, .int .u64 0, .int .u64 0], .bool false]) w := fun _ => by kernel_rfl
  have a4 : ∀ w : World, (Instr.typeAssert (.iface 166 (.agg #[.int .i8 4, .string s, .int .i16 h, .int .u64 a, .int .u64 b])) 163 166 true).run Tryd.prog w = .ok (.tuple #[.agg #[.int .i8 4, .string s, .int .i16 h, .int .u64 a, .int .u64 b], .bool true]) w := fun _ => by kernel_rfl
  go_enter Tryd.func95, Tryd.ntmps95
  go_wp2_with (go_at_call 114; refine (C.out _).mono ?_; rintro e w1 ⟨rfl, hB⟩; obtain ⟨hc, hf, hz⟩ := bcell hB)
  go_returns
  exact ⟨rfl, (by repeat' (first | (with_reducible exact Below.refl _ _) | (with_reducible assumption) | (with_reducible refine below_drewN ?_ _) | (with_reducible refine Below.drew ?_) | (with_reducible refine below_new ?_ _) | (with_reducible refine below_next ?_ (by with_reducible assumption)) | (with_reducible refine Below.setCell ?_ ?_ _) | go_size))⟩
end Go.Proofs.YtllhglakihfjmaaDoor
