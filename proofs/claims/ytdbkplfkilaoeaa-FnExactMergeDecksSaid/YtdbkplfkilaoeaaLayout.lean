/- Contracts: the layout of a field, kind by kind: which type it has, how many holes, the greatest size. -/
import Derived.Test.YtdbkplfkilaoeaaName
import Derived.Deep.DeepCutAuto
import Derived.Laws.EntriesVeiled
namespace Go.Proofs.Ytdbkplfkilaoeaa
open Go.ChangeShapes Go.WideShapes Go.ChangeAt Go.RowKit

set_option maxHeartbeats 800000 in
theorem form_direct (s : ByteArray) (k st sz : Int) (h1 : 1 ≤ sz) (h2 : sz ≤ 32767) (w : World) :
    Calls Try.prog 74 #[.agg #[.string s, .int .i8 k, .int .i16 st, .int .i16 sz]] w fun e w' => e = .returned (.iface 114 (.int .i64 sz)) ∧ Below w.heap.size w w' := by
  go_enter Try.func74, Try.ntmps74
  go_wp2
  go_returns
  exact ⟨rfl, (by repeat' (first | (with_reducible exact Below.refl _ _) | (with_reducible assumption) | (with_reducible refine below_drewN ?_ _) | (with_reducible refine Below.drew ?_) | (with_reducible refine below_new ?_ _) | (with_reducible refine below_next ?_ (by with_reducible assumption)) | (with_reducible refine Below.setCell ?_ ?_ _) | go_size))⟩

set_option maxHeartbeats 800000 in
theorem layout_0 (s : ByteArray) (st sz : Int) (h1 : 1 ≤ sz) (h2 : sz ≤ 32767) (w : World) :
    Calls Try.prog 58 #[.agg #[.string s, .int .i8 0, .int .i16 st, .int .i16 sz]] w fun e w' => e = .returned (.iface 114 (.int .i64 sz)) ∧ Below w.heap.size w w' := by
  go_enter Try.func58, Try.ntmps58
  go_wp2
  go_region_held3 (fun w' => w'.cell? ⟨w.heap.size, 0, none⟩ = some (.string s) ∧ w'.cell? ⟨w.heap.size, 1, none⟩ = some (.int .i8 0) ∧ w'.cell? ⟨w.heap.size, 2, none⟩ = some (.int .i16 st) ∧ w'.cell? ⟨w.heap.size, 3, none⟩ = some (.int .i16 sz) ∧ w'.cell? ⟨w.heap.size + 1, 0, none⟩ = some (.func (.func 74) #[] #[]) ∧ Below w.heap.size w w')
    (first | (go_split_ands; refine ⟨?_, ?_, ?_, ?_, ?_, ?_⟩ <;> first | (simp; done) | (simp [go_sem]; done) | exact (hB.cell (by first | (simp; done) | (simp; omega))).trans (by with_reducible assumption) | ((repeat' (first | (with_reducible exact Below.refl _ _) | (with_reducible assumption) | (with_reducible refine below_drewN ?_ _) | (with_reducible refine Below.drew ?_) | (with_reducible refine below_new ?_ _) | (with_reducible refine below_next ?_ (by with_reducible assumption)) | (with_reducible refine Below.setCell ?_ ?_ _) | go_size)); done) | (trace_state; fail)))
    (first | (go_at_call 74; refine (form_direct _ _ _ _ h1 h2 _).mono ?_; rintro e w1 ⟨rfl, hB⟩))
  all_goals go_wp2
  all_goals go_returns
  all_goals (go_split_ands; exact ⟨rfl, by with_reducible assumption⟩)

set_option maxHeartbeats 800000 in
theorem form_sum (s : ByteArray) (k st sz : Int) (h1 : 1 ≤ sz) (h2 : sz ≤ 32767) (w : World) :
    Calls Try.prog 75 #[.agg #[.string s, .int .i8 k, .int .i16 st, .int .i16 sz]] w fun e w' => e = .returned (.iface 123 (.int .i64 sz)) ∧ Below w.heap.size w w' := by
  go_enter Try.func75, Try.ntmps75
  go_wp2
  go_returns
  exact ⟨rfl, (by repeat' (first | (with_reducible exact Below.refl _ _) | (with_reducible assumption) | (with_reducible refine below_drewN ?_ _) | (with_reducible refine Below.drew ?_) | (with_reducible refine below_new ?_ _) | (with_reducible refine below_next ?_ (by with_reducible assumption)) | (with_reducible refine Below.setCell ?_ ?_ _) | go_size))⟩

set_option maxHeartbeats 800000 in
theorem layout_1 (s : ByteArray) (st sz : Int) (h1 : 1 ≤ sz) (h2 : sz ≤ 32767) (w : World) :
    Calls Try.prog 58 #[.agg #[.string s, .int .i8 1, .int .i16 st, .int .i16 sz]] w fun e w' => e = .returned (.iface 123 (.int .i64 sz)) ∧ Below w.heap.size w w' := by
  go_enter Try.func58, Try.ntmps58
  go_wp2
  go_region_held3 (fun w' => w'.cell? ⟨w.heap.size, 0, none⟩ = some (.string s) ∧ w'.cell? ⟨w.heap.size, 1, none⟩ = some (.int .i8 1) ∧ w'.cell? ⟨w.heap.size, 2, none⟩ = some (.int .i16 st) ∧ w'.cell? ⟨w.heap.size, 3, none⟩ = some (.int .i16 sz) ∧ w'.cell? ⟨w.heap.size + 1, 1, none⟩ = some (.func (.func 75) #[] #[]) ∧ Below w.heap.size w w')
    (first | (go_split_ands; refine ⟨?_, ?_, ?_, ?_, ?_, ?_⟩ <;> first | (simp; done) | (simp [go_sem]; done) | exact (hB.cell (by first | (simp; done) | (simp; omega))).trans (by with_reducible assumption) | ((repeat' (first | (with_reducible exact Below.refl _ _) | (with_reducible assumption) | (with_reducible refine below_drewN ?_ _) | (with_reducible refine Below.drew ?_) | (with_reducible refine below_new ?_ _) | (with_reducible refine below_next ?_ (by with_reducible assumption)) | (with_reducible refine Below.setCell ?_ ?_ _) | go_size)); done) | (trace_state; fail)))
    (first | (go_at_call 75; refine (form_sum _ _ _ _ h1 h2 _).mono ?_; rintro e w1 ⟨rfl, hB⟩))
  all_goals go_wp2
  all_goals go_returns
  all_goals (go_split_ands; exact ⟨rfl, by with_reducible assumption⟩)

set_option maxHeartbeats 800000 in
theorem form_pairs (s : ByteArray) (k st sz : Int) (h1 : 1 ≤ sz) (h2 : sz ≤ 32767) (w : World) :
    Calls Try.prog 76 #[.agg #[.string s, .int .i8 k, .int .i16 st, .int .i16 sz]] w fun e w' => e = .returned (.iface 124 (.int .i64 sz)) ∧ Below w.heap.size w w' := by
  go_enter Try.func76, Try.ntmps76
  go_wp2
  go_returns
  exact ⟨rfl, (by repeat' (first | (with_reducible exact Below.refl _ _) | (with_reducible assumption) | (with_reducible refine below_drewN ?_ _) | (with_reducible refine Below.drew ?_) | (with_reducible refine below_new ?_ _) | (with_reducible refine below_next ?_ (by with_reducible assumption)) | (with_reducible refine Below.setCell ?_ ?_ _) | go_size))⟩

set_option maxHeartbeats 800000 in
theorem layout_2 (s : ByteArray) (st sz : Int) (h1 : 1 ≤ sz) (h2 : sz ≤ 32767) (w : World) :
    Calls Try.prog 58 #[.agg #[.string s, .int .i8 2, .int .i16 st, .int .i16 sz]] w fun e w' => e = .returned (.iface 124 (.int .i64 sz)) ∧ Below w.heap.size w w' := by
  go_enter Try.func58, Try.ntmps58
  go_wp2
  go_region_held3 (fun w' => w'.cell? ⟨w.heap.size, 0, none⟩ = some (.string s) ∧ w'.cell? ⟨w.heap.size, 1, none⟩ = some (.int .i8 2) ∧ w'.cell? ⟨w.heap.size, 2, none⟩ = some (.int .i16 st) ∧ w'.cell? ⟨w.heap.size, 3, none⟩ = some (.int .i16 sz) ∧ w'.cell? ⟨w.heap.size + 1, 2, none⟩ = some (.func (.func 76) #[] #[]) ∧ Below w.heap.size w w')
    (first | (go_split_ands; refine ⟨?_, ?_, ?_, ?_, ?_, ?_⟩ <;> first | (simp; done) | (simp [go_sem]; done) | exact (hB.cell (by first | (simp; done) | (simp; omega))).trans (by with_reducible assumption) | ((repeat' (first | (with_reducible exact Below.refl _ _) | (with_reducible assumption) | (with_reducible refine below_drewN ?_ _) | (with_reducible refine Below.drew ?_) | (with_reducible refine below_new ?_ _) | (with_reducible refine below_next ?_ (by with_reducible assumption)) | (with_reducible refine Below.setCell ?_ ?_ _) | go_size)); done) | (trace_state; fail)))
    (first | (go_at_call 76; refine (form_pairs _ _ _ _ h1 h2 _).mono ?_; rintro e w1 ⟨rfl, hB⟩))
  all_goals go_wp2
  all_goals go_returns
  all_goals (go_split_ands; exact ⟨rfl, by with_reducible assumption⟩)

set_option maxHeartbeats 800000 in
theorem form_binary (s : ByteArray) (k st sz : Int) (h1 : 1 ≤ sz) (h2 : sz ≤ 32767) (w : World) :
    Calls Try.prog 77 #[.agg #[.string s, .int .i8 k, .int .i16 st, .int .i16 sz]] w fun e w' => e = .returned (.iface 115 (.int .i64 sz)) ∧ Below w.heap.size w w' := by
  go_enter Try.func77, Try.ntmps77
  go_wp2
  go_returns
  exact ⟨rfl, (by repeat' (first | (with_reducible exact Below.refl _ _) | (with_reducible assumption) | (with_reducible refine below_drewN ?_ _) | (with_reducible refine Below.drew ?_) | (with_reducible refine below_new ?_ _) | (with_reducible refine below_next ?_ (by with_reducible assumption)) | (with_reducible refine Below.setCell ?_ ?_ _) | go_size))⟩

set_option maxHeartbeats 800000 in
theorem layout_3 (s : ByteArray) (st sz : Int) (h1 : 1 ≤ sz) (h2 : sz ≤ 32767) (w : World) :
    Calls Try.prog 58 #[.agg #[.string s, .int .i8 3, .int .i16 st, .int .i16 sz]] w fun e w' => e = .returned (.iface 115 (.int .i64 sz)) ∧ Below w.heap.size w w' := by
  go_enter Try.func58, Try.ntmps58
  go_wp2
  go_region_held3 (fun w' => w'.cell? ⟨w.heap.size, 0, none⟩ = some (.string s) ∧ w'.cell? ⟨w.heap.size, 1, none⟩ = some (.int .i8 3) ∧ w'.cell? ⟨w.heap.size, 2, none⟩ = some (.int .i16 st) ∧ w'.cell? ⟨w.heap.size, 3, none⟩ = some (.int .i16 sz) ∧ w'.cell? ⟨w.heap.size + 1, 3, none⟩ = some (.func (.func 77) #[] #[]) ∧ Below w.heap.size w w')
    (first | (go_split_ands; refine ⟨?_, ?_, ?_, ?_, ?_, ?_⟩ <;> first | (simp; done) | (simp [go_sem]; done) | exact (hB.cell (by first | (simp; done) | (simp; omega))).trans (by with_reducible assumption) | ((repeat' (first | (with_reducible exact Below.refl _ _) | (with_reducible assumption) | (with_reducible refine below_drewN ?_ _) | (with_reducible refine Below.drew ?_) | (with_reducible refine below_new ?_ _) | (with_reducible refine below_next ?_ (by with_reducible assumption)) | (with_reducible refine Below.setCell ?_ ?_ _) | go_size)); done) | (trace_state; fail)))
    (first | (go_at_call 77; refine (form_binary _ _ _ _ h1 h2 _).mono ?_; rintro e w1 ⟨rfl, hB⟩))
  all_goals go_wp2
  all_goals go_returns
  all_goals (go_split_ands; exact ⟨rfl, by with_reducible assumption⟩)

end Go.Proofs.Ytdbkplfkilaoeaa