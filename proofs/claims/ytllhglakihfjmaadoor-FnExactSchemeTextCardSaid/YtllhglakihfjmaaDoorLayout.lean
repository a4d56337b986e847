/- Contracts: the layout of a field, kind by kind: which type it has, how many holes, the greatest size. -/
import Derived.Test.YtllhglakihfjmaaDoorName
import Derived.Deep.DeepCutAuto
import Derived.Laws.EntriesVeiled
namespace Go.Proofs.YtllhglakihfjmaaDoor
open Go.ChangeShapes Go.WideShapes Go.ChangeAt Go.RowKit

set_option maxHeartbeats 800000 in
theorem form_direct (s : ByteArray) (k st sz : Int) (h1 : 1 ≤ sz) (h2 : sz ≤ 32767) (w : World) :
    Calls Tryd.prog 127 #[.agg #[.string s, .int .i8 k, .int .i16 st, .int .i16 sz]] w fun e w' => e = .returned (.iface 183 (.int .i64 sz)) ∧ Below w.heap.size w w' := by
  go_enter Tryd.func127, Tryd.ntmps127
  go_wp2
  go_returns
  exact ⟨rfl, (by repeat' (first | (with_reducible exact Below.refl _ _) | (with_reducible assumption) | (with_reducible refine below_drewN ?_ _) | (with_reducible refine Below.drew ?_) | (with_reducible refine below_new ?_ _) | (with_reducible refine below_next ?_ (by with_reducible assumption)) | (with_reducible refine Below.setCell ?_ ?_ _) | go_size))⟩

set_option maxHeartbeats 800000 in
theorem layout_0 (s : ByteArray) (st sz : Int) (h1 : 1 ≤ sz) (h2 : sz ≤ 32767) (w : World) :
    Calls Tryd.prog 108 #[.agg #[.string s, .int .i8 0, .int .i16 st, .int .i16 sz]] w fun e w' => e = .returned (.iface 183 (.int .i64 sz)) ∧ Below w.heap.size w w' := by
  go_enter Tryd.func108, Tryd.ntmps108
  go_wp2
  go_region_held3 (fun w' => w'.cell? ⟨w.heap.size, 0, none⟩ = some (.string s) ∧ w'.cell? ⟨w.heap.size, 1, none⟩ = some (.int .i8 0) ∧ w'.cell? ⟨w.heap.size, 2, none⟩ = some (.int .i16 st) ∧ w'.cell? ⟨w.heap.size, 3, none⟩ = some (.int .i16 sz) ∧ w'.cell? ⟨w.heap.size + 1, 0, none⟩ = some (.func (.func 127) #[] #[]) ∧ Below w.heap.size w w')
    (first | (go_split_ands; refine ⟨?_, ?_, ?_, ?_, ?_, ?_⟩ <;> first | (simp; done) | (simp [go_sem]; done) | exact (hB.cell (by first | (simp; done) | (simp; omega))).trans (by with_reducible assumption) | ((repeat' (first | (with_reducible exact Below.refl _ _) | (with_reducible assumption) | (with_reducible refine below_drewN ?_ _) | (with_reducible refine Below.drew ?_) | (with_reducible refine below_new ?_ _) | (with_reducible refine below_next ?_ (by with_reducible assumption)) | (with_reducible refine Below.setCell ?_ ?_ _) | go_size)); done) | (trace_state; fail)))
    (first | (go_at_call 127; refine (form_direct _ _ _ _ h1 h2 _).mono ?_; rintro e w1 ⟨rfl, hB⟩))
  all_goals go_wp2
  all_goals go_returns
  all_goals (go_split_ands; exact ⟨rfl, by with_reducible assumption⟩)

set_option maxHeartbeats 800000 in
theorem form_sum (s : ByteArray) (k st sz : Int) (h1 : 1 ≤ sz) (h2 : sz ≤ 32767) (w : World) :
    Calls Tryd.prog 128 #[.agg #[.string s, .int .i8 k, .int .i16 st, .int .i16 sz]] w fun e w' => e = .returned (.iface 198 (.int .i64 sz)) ∧ Below w.heap.size w w' := by
  go_enter Tryd.func128, Tryd.ntmps128
  go_wp2
  go_returns
  exact ⟨rfl, (by repeat' (first | (with_reducible exact Below.refl _ _) | (with_reducible assumption) | (with_reducible refine below_drewN ?_ _) | (with_reducible refine Below.drew ?_) | (with_reducible refine below_new ?_ _) | (with_reducible refine below_next ?_ (by with_reducible assumption)) | (with_reducible refine Below.setCell ?_ ?_ _) | go_size))⟩

set_option maxHeartbeats 800000 in
theorem layout_1 (s : ByteArray) (st sz : Int) (h1 : 1 ≤ sz) (h2 : sz ≤ 32767) (w : World) :
    Calls Tryd.prog 108 #[.agg #[.string s, .int .i8 1, .int .i16 st, .int .i16 sz]] w fun e w' => e = .returned (.iface 198 (.int .i64 sz)) ∧ Below w.heap.size w w' := by
  go_enter Tryd.func108, Tryd.ntmps108
  go_wp2
  go_region_held3 (fun w' => w'.cell? ⟨w.heap.size, 0, none⟩ = some (.string s) ∧ w'.cell? ⟨w.heap.size, 1, none⟩ = some (.int .i8 1) ∧ w'.cell? ⟨w.heap.size, 2, none⟩ = some (.int .i16 st) ∧ w'.cell? ⟨w.heap.size, 3, none⟩ = some (.int .i16 sz) ∧ w'.cell? ⟨w.heap.size + 1, 1, none⟩ = some (.func (.func 128) #[] #[]) ∧ Below w.heap.size w w')
    (first | (go_split_ands; refine ⟨?_, ?_, ?_, ?_, ?_, ?_⟩ <;> first | (simp; done) | (simp [go_sem]; done) | exact (hB.cell (by first | (simp; done) | (simp; omega))).trans (by with_reducible assumption) | ((repeat' (first | (with_reducible exact Below.refl _ _) | (with_reducible assumption) | (with_reducible refine below_drewN ?_ _) | (with_reducible refine Below.drew ?_) | (with_reducible refine below_new ?_ _) | (with_reducible refine below_next ?_ (by with_reducible assumption)) | (with_reducible refine Below.setCell ?_ ?_ _) | go_size)); done) | (trace_state; fail)))
    (first | (go_at_call 128; refine (form_sum _ _ _ _ h1 h2 _).mono ?_; rintro e w1 ⟨rfl, hB⟩))
  all_goals go_wp2
  all_goals go_returns
  all_goals (go_split_ands; exact ⟨rfl, by with_reducible assumption⟩)

set_option maxHeartbeats 800000 in
theorem form_pairs (s : ByteArray) (k st sz : Int) (h1 : 1 ≤ sz) (h2 : sz ≤ 32767) (w : World) :
    Calls Tryd.prog 129 #[.agg #[.string s, .int .i8 k, .int .i16 st, .int .i16 sz]] w fun e w' => e = .returned (.iface 199 (.int .i64 sz)) ∧ Below w.heap.size w w' := by
  go_enter Tryd.func129, Tryd.ntmps129
  go_wp2
  go_returns
  exact ⟨rfl, (by repeat' (first | (with_reducible exact Below.refl _ _) | (with_reducible assumption) | (with_reducible refine below_drewN ?_ _) | (with_reducible refine Below.drew ?_) | (with_reducible refine below_new ?_ _) | (with_reducible refine below_next ?_ (by with_reducible assumption)) | (with_reducible refine Below.setCell ?_ ?_ _) | go_size))⟩

set_option maxHeartbeats 800000 in
theorem layout_2 (s : ByteArray) (st sz : Int) (h1 : 1 ≤ sz) (h2 : sz ≤ 32767) (w : World) :
    Calls Tryd.prog 108 #[.agg #[.string s, .int .i8 2, .int .i16 st, .int .i16 sz]] w fun e w' => e = .returned (.iface 199 (.int .i64 sz)) ∧ Below w.heap.size w w' := by
  go_enter Tryd.func108, Tryd.ntmps108
  go_wp2
  go_region_held3 (fun w' => w'.cell? ⟨w.heap.size, 0, none⟩ = some (.string s) ∧ w'.cell? ⟨w.heap.size, 1, none⟩ = some (.int .i8 2) ∧ w'.cell? ⟨w.heap.size, 2, none⟩ = some (.int .i16 st) ∧ w'.cell? ⟨w.heap.size, 3, none⟩ = some (.int .i16 sz) ∧ w'.cell? ⟨w.heap.size + 1, 2, none⟩ = some (.func (.func 129) #[] #[]) ∧ Below w.heap.size w w')
    (first | (go_split_ands; refine ⟨?_, ?_, ?_, ?_, ?_, ?_⟩ <;> first | (simp; done) | (simp [go_sem]; done) | exact (hB.cell (by first | (simp; done) | (simp; omega))).trans (by with_reducible assumption) | ((repeat' (first | (with_reducible exact Below.refl _ _) | (with_reducible assumption) | (with_reducible refine below_drewN ?_ _) | (with_reducible refine Below.drew ?_) | (with_reducible refine below_new ?_ _) | (with_reducible refine below_next ?_ (by with_reducible assumption)) | (with_reducible refine Below.setCell ?_ ?_ _) | go_size)); done) | (trace_state; fail)))
    (first | (go_at_call 129; refine (form_pairs _ _ _ _ h1 h2 _).mono ?_; rintro e w1 ⟨rfl, hB⟩))
  all_goals go_wp2
  all_goals go_returns
  all_goals (go_split_ands; exact ⟨rfl, by with_reducible assumption⟩)

set_option maxHeartbeats 800000 in
theorem form_binary (s : ByteArray) (k st sz : Int) (h1 : 1 ≤ sz) (h2 : sz ≤ 32767) (w : World) :
    Calls Tryd.prog 130 #[.agg #[.string s, .int .i8 k, .int .i16 st, .int .i16 sz]] w fun e w' => e = .returned (.iface 184 (.int .i64 sz)) ∧ Below w.heap.size w w' := by
  go_enter Tryd.func130, Tryd.ntmps130
  go_wp2
  go_returns
  exact ⟨rfl, (by repeat' (first | (with_reducible exact Below.refl _ _) | (with_reducible assumption) | (with_reducible refine below_drewN ?_ _) | (with_reducible refine Below.drew ?_) | (with_reducible refine below_new ?_ _) | (with_reducible refine below_next ?_ (by with_reducible assumption)) | (with_reducible refine Below.setCell ?_ ?_ _) | go_size))⟩

set_option maxHeartbeats 800000 in
theorem layout_3 (s : ByteArray) (st sz : Int) (h1 : 1 ≤ sz) (h2 : sz ≤ 32767) (w : World) :
    Calls Tryd.prog 108 #[.agg #[.string s, .int .i8 3, .int .i16 st, .int .i16 sz]] w fun e w' => e = .returned (.iface 184 (.int .i64 sz)) ∧ Below w.heap.size w w' := by
  go_enter Tryd.func108, Tryd.ntmps108
  go_wp2
  go_region_held3 (fun w' => w'.cell? ⟨w.heap.size, 0, none⟩ = some (.string s) ∧ w'.cell? ⟨w.heap.size, 1, none⟩ = some (.int .i8 3) ∧ w'.cell? ⟨w.heap.size, 2, none⟩ = some (.int .i16 st) ∧ w'.cell? ⟨w.heap.size, 3, none⟩ = some (.int .i16 sz) ∧ w'.cell? ⟨w.heap.size + 1, 3, none⟩ = some (.func (.func 130) #[] #[]) ∧ Below w.heap.size w w')
    (first | (go_split_ands; refine ⟨?_, ?_, ?_, ?_, ?_, ?_⟩ <;> first | (simp; done) | (simp [go_sem]; done) | exact (hB.cell (by first | (simp; done) | (simp; omega))).trans (by with_reducible assumption) | ((repeat' (first | (with_reducible exact Below.refl _ _) | (with_reducible assumption) | (with_reducible refine below_drewN ?_ _) | (with_reducible refine Below.drew ?_) | (with_reducible refine below_new ?_ _) | (with_reducible refine below_next ?_ (by with_reducible assumption)) | (with_reducible refine Below.setCell ?_ ?_ _) | go_size)); done) | (trace_state; fail)))
    (first | (go_at_call 130; refine (form_binary _ _ _ _ h1 h2 _).mono ?_; rintro e w1 ⟨rfl, hB⟩))
  all_goals go_wp2
  all_goals go_returns
  all_goals (go_split_ands; exact ⟨rfl, by with_reducible assumption⟩)

end Go.Proofs.YtllhglakihfjmaaDoor