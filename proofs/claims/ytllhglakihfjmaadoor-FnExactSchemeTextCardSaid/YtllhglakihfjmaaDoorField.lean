/- Contracts: is a field valid, and how many holes it has, as the program says and as the model does. -/
import Derived.Test.YtllhglakihfjmaaDoorLayout
namespace Go.Proofs.YtllhglakihfjmaaDoor
open Go.ChangeShapes Go.WideShapes Go.ChangeAt Go.RowKit

def inB (n lo hi : Int) : Bool := decide (lo ≤ n) && decide (n ≤ hi)
theorem inB_yes {n lo hi : Int} (h1 : lo ≤ n) (h2 : n ≤ hi) : inB n lo hi = true := by unfold inB; simp [h1, h2]
theorem inB_no {n lo hi : Int} (h : ¬ (lo ≤ n ∧ n ≤ hi)) : inB n lo hi = false := by unfold inB; simp; omega
def mostZ (k : Int) : Int := if k = 0 then 24 else if k = 3 then 12 else 4
def widthZ (k sz : Int) : Int := if k = 1 then 4 * sz else if k = 2 then 5 * sz else if k = 3 then sz + 1 else sz
def fieldOk (s : ByteArray) (k st sz : Int) : Bool := nameOk s && decide (0 ≤ k ∧ k ≤ 3 ∧ 0 ≤ st ∧ 1 ≤ sz ∧ sz ≤ mostZ k ∧ st + widthZ k sz ≤ 96)
theorem field_name {s : ByteArray} (k st sz : Int) (h : nameOk s = false) : fieldOk s k st sz = false := by unfold fieldOk; simp [h]
theorem field_no {s : ByteArray} {k st sz : Int} (h : ¬ (0 ≤ k ∧ k ≤ 3 ∧ 0 ≤ st ∧ 1 ≤ sz ∧ sz ≤ mostZ k ∧ st + widthZ k sz ≤ 96)) : fieldOk s k st sz = false := by
  unfold fieldOk; rw [decide_eq_false h]; simp
theorem field_yes {s : ByteArray} {k st sz : Int} (hn : nameOk s = true) (h : 0 ≤ k ∧ k ≤ 3 ∧ 0 ≤ st ∧ 1 ≤ sz ∧ sz ≤ mostZ k ∧ st + widthZ k sz ≤ 96) : fieldOk s k st sz = true := by
  unfold fieldOk; rw [decide_eq_true h, hn]; rfl

set_option maxHeartbeats 400000 in
theorem sIn_any (n lo hi : Int) (w : World) : Calls Tryd.prog 79 #[.int .i64 n, .int .i64 lo, .int .i64 hi] w fun e w' => e = .returned (.bool (inB n lo hi)) ∧ w = w' := by
  by_cases h : lo ≤ n
  · by_cases h2 : n ≤ hi
    · have f := Lib.hid (inB_yes h h2)
      go_enter Tryd.func79, Tryd.ntmps79
      go_wp2
      go_returns
      exact ⟨ret_bool f.out.symm, rfl⟩
    · have f := Lib.hid (inB_no (n := n) (lo := lo) (hi := hi) (fun x => h2 x.2))
      have d := decide_eq_false h2
      go_enter Tryd.func79, Tryd.ntmps79
      go_wp2
      go_returns
      exact ⟨ret_bool f.out.symm, rfl⟩
  · have f := Lib.hid (inB_no (n := n) (lo := lo) (hi := hi) (fun x => h x.1))
    have d := decide_eq_false h
    go_enter Tryd.func79, Tryd.ntmps79
    go_wp2
    go_returns
    exact ⟨ret_bool f.out.symm, rfl⟩

set_option maxHeartbeats 400000 in
theorem most_0 (sz : Int) (w : World) : Calls Tryd.prog 109 #[.iface 183 (.int .i64 sz)] w fun e w' => e = .returned (.int .i64 24) ∧ w = w' := by
  have a1 : ∀ w : World, (Instr.typeAssert (.iface 183 (.int .i64 sz)) 155 183 true).run Tryd.prog w = .ok (.tuple #[.int .i64 sz, .bool true]) w := fun _ => by kernel_rfl
  have a2 : ∀ w : World, (Instr.typeAssert (.iface 183 (.int .i64 sz)) 155 184 true).run Tryd.prog w = .ok (.tuple #[.int .i64 0, .bool false]) w := fun _ => by kernel_rfl
  go_enter Tryd.func109, Tryd.ntmps109
  go_wp2
  go_returns
  exact ⟨rfl, rfl⟩
set_option maxHeartbeats 400000 in
theorem holes_0 (sz : Int) (_h1 : 1 ≤ sz) (_h2 : sz ≤ 32767) (w : World) : Calls Tryd.prog 194 #[.int .i64 sz] w fun e w' => e = .returned (.int .i64 (sz)) ∧ w = w' := by
  go_enter Tryd.func194, Tryd.ntmps194
  go_wp2
  go_returns
  exact ⟨rfl, rfl⟩
set_option maxHeartbeats 400000 in
theorem sWidth_0 (sz : Int) (b1 : -32768 ≤ sz) (b2 : sz ≤ 32767) (g o : Nat) (w : World) (h1 : w.cell? ⟨g, o + 1, none⟩ = some (.int .i8 0)) (h3 : w.cell? ⟨g, o + 3, none⟩ = some (.int .i16 sz)) :
    Calls Tryd.prog 106 #[.pointer (some ⟨g, o, none⟩)] w fun e w' => e = .returned (.int .i64 (sz)) ∧ w = w' := by
  go_enter Tryd.func106, Tryd.ntmps106
  go_wp2
  go_returns
  exact ⟨rfl, rfl⟩
theorem widthZ_0 (sz : Int) : widthZ 0 sz = sz := by unfold widthZ; simp
theorem mostZ_0 : mostZ 0 = 24 := by unfold mostZ; simp

set_option maxHeartbeats 400000 in
theorem most_1 (sz : Int) (w : World) : Calls Tryd.prog 109 #[.iface 198 (.int .i64 sz)] w fun e w' => e = .returned (.int .i64 4) ∧ w = w' := by
  have a1 : ∀ w : World, (Instr.typeAssert (.iface 198 (.int .i64 sz)) 155 183 true).run Tryd.prog w = .ok (.tuple #[.int .i64 0, .bool false]) w := fun _ => by kernel_rfl
  have a2 : ∀ w : World, (Instr.typeAssert (.iface 198 (.int .i64 sz)) 155 184 true).run Tryd.prog w = .ok (.tuple #[.int .i64 0, .bool false]) w := fun _ => by kernel_rfl
  go_enter Tryd.func109, Tryd.ntmps109
  go_wp2
  go_returns
  exact ⟨rfl, rfl⟩
set_option maxHeartbeats 400000 in
theorem holes_1 (sz : Int) (h1 : 1 ≤ sz) (h2 : sz ≤ 32767) (w : World) : Calls Tryd.prog 206 #[.int .i64 sz] w fun e w' => e = .returned (.int .i64 (4 * sz)) ∧ w = w' := by
  go_enter Tryd.func206, Tryd.ntmps206
  go_wp2
  go_returns
  exact ⟨rfl, rfl⟩
set_option maxHeartbeats 400000 in
theorem sWidth_1 (sz : Int) (b1 : -32768 ≤ sz) (b2 : sz ≤ 32767) (g o : Nat) (w : World) (h1 : w.cell? ⟨g, o + 1, none⟩ = some (.int .i8 1)) (h3 : w.cell? ⟨g, o + 3, none⟩ = some (.int .i16 sz)) :
    Calls Tryd.prog 106 #[.pointer (some ⟨g, o, none⟩)] w fun e w' => e = .returned (.int .i64 (4 * sz)) ∧ w = w' := by
  go_enter Tryd.func106, Tryd.ntmps106
  go_wp2
  go_returns
  exact ⟨rfl, rfl⟩
theorem widthZ_1 (sz : Int) : widthZ 1 sz = 4 * sz := by unfold widthZ; simp
theorem mostZ_1 : mostZ 1 = 4 := by unfold mostZ; simp

set_option maxHeartbeats 400000 in
theorem most_2 (sz : Int) (w : World) : Calls Tryd.prog 109 #[.iface 199 (.int .i64 sz)] w fun e w' => e = .returned (.int .i64 4) ∧ w = w' := by
  have a1 : ∀ w : World, (Instr.typeAssert (.iface 199 (.int .i64 sz)) 155 183 true).run Tryd.prog w = .ok (.tuple #[.int .i64 0, .bool false]) w := fun _ => by kernel_rfl
  have a2 : ∀ w : World, (Instr.typeAssert (.iface 199 (.int .i64 sz)) 155 184 true).run Tryd.prog w = .ok (.tuple #[.int .i64 0, .bool false]) w := fun _ => by kernel_rfl
  go_enter Tryd.func109, Tryd.ntmps109
  go_wp2
  go_returns
  exact ⟨rfl, rfl⟩
set_option maxHeartbeats 400000 in
theorem holes_2 (sz : Int) (h1 : 1 ≤ sz) (h2 : sz ≤ 32767) (w : World) : Calls Tryd.prog 210 #[.int .i64 sz] w fun e w' => e = .returned (.int .i64 (5 * sz)) ∧ w = w' := by
  go_enter Tryd.func210, Tryd.ntmps210
  go_wp2
  go_returns
  exact ⟨rfl, rfl⟩
set_option maxHeartbeats 400000 in
theorem sWidth_2 (sz : Int) (b1 : -32768 ≤ sz) (b2 : sz ≤ 32767) (g o : Nat) (w : World) (h1 : w.cell? ⟨g, o + 1, none⟩ = some (.int .i8 2)) (h3 : w.cell? ⟨g, o + 3, none⟩ = some (.int .i16 sz)) :
    Calls Tryd.prog 106 #[.pointer (some ⟨g, o, none⟩)] w fun e w' => e = .returned (.int .i64 (5 * sz)) ∧ w = w' := by
  go_enter Tryd.func106, Tryd.ntmps106
  go_wp2
  go_returns
  exact ⟨rfl, rfl⟩
theorem widthZ_2 (sz : Int) : widthZ 2 sz = 5 * sz := by unfold widthZ; simp
theorem mostZ_2 : mostZ 2 = 4 := by unfold mostZ; simp

set_option maxHeartbeats 400000 in
theorem most_3 (sz : Int) (w : World) : Calls Tryd.prog 109 #[.iface 184 (.int .i64 sz)] w fun e w' => e = .returned (.int .i64 12) ∧ w = w' := by
  have a1 : ∀ w : World, (Instr.typeAssert (.iface 184 (.int .i64 sz)) 155 183 true).run Tryd.prog w = .ok (.tuple #[.int .i64 0, .bool false]) w := fun _ => by kernel_rfl
  have a2 : ∀ w : World, (Instr.typeAssert (.iface 184 (.int .i64 sz)) 155 184 true).run Tryd.prog w = .ok (.tuple #[.int .i64 sz, .bool true]) w := fun _ => by kernel_rfl
  go_enter Tryd.func109, Tryd.ntmps109
  go_wp2
  go_returns
  exact ⟨rfl, rfl⟩
set_option maxHeartbeats 400000 in
theorem holes_3 (sz : Int) (h1 : 1 ≤ sz) (h2 : sz ≤ 32767) (w : World) : Calls Tryd.prog 198 #[.int .i64 sz] w fun e w' => e = .returned (.int .i64 (sz + 1)) ∧ w = w' := by
  go_enter Tryd.func198, Tryd.ntmps198
  go_wp2
  go_returns
  exact ⟨rfl, rfl⟩
set_option maxHeartbeats 400000 in
theorem sWidth_3 (sz : Int) (b1 : -32768 ≤ sz) (b2 : sz ≤ 32767) (g o : Nat) (w : World) (h1 : w.cell? ⟨g, o + 1, none⟩ = some (.int .i8 3)) (h3 : w.cell? ⟨g, o + 3, none⟩ = some (.int .i16 sz)) :
    Calls Tryd.prog 106 #[.pointer (some ⟨g, o, none⟩)] w fun e w' => e = .returned (.int .i64 (sz + 1)) ∧ w = w' := by
  go_enter Tryd.func106, Tryd.ntmps106
  go_wp2
  go_returns
  exact ⟨rfl, rfl⟩
theorem widthZ_3 (sz : Int) : widthZ 3 sz = sz + 1 := by unfold widthZ; simp
theorem mostZ_3 : mostZ 3 = 12 := by unfold mostZ; simp

end Go.Proofs.YtllhglakihfjmaaDoor