/- Contracts: PartOf, the program's and the model's. -/
import Derived.Test.YtaiedpblfnaooaaClear
import Derived.Test.YtaiedpblfnaooaaVFi
import Derived.Test.YtaiedpblfnaooaaVFs
import Derived.Test.YtaiedpblfnaooaaBoxes
namespace Go.Proofs.Ytaiedpblfnaooaa
open Go.ChangeShapes Go.WideShapes Go.ChangeAt Go.RowKit

def partR (s : ByteArray) (k st sz : Int) : Value := if fieldOk s k st sz then .tuple #[.agg #[.int .u64 (pt0 k st sz), .int .u64 (pt1 k st sz)], .int .i64 0] else .tuple #[.agg #[.int .u64 0, .int .u64 0], .int .i64 1]
theorem partR_no {s : ByteArray} {k st sz : Int} (h : fieldOk s k st sz = false) : partR s k st sz = .tuple #[.agg #[.int .u64 0, .int .u64 0], .int .i64 1] := by unfold partR; rw [h]; rfl
theorem partR_yes {s : ByteArray} {k st sz : Int} (h : fieldOk s k st sz = true) : partR s k st sz = .tuple #[.agg #[.int .u64 (pt0 k st sz), .int .u64 (pt1 k st sz)], .int .i64 0] := by unfold partR; rw [h]; rfl
theorem ret_is {x y : Value} (h : y = x) : Ending.returned x = Ending.returned y := by rw [h]

set_option maxHeartbeats 1600000 in
theorem iPartOf_any (s : ByteArray) (k st sz : Int) (hs : s.size ≤ maxLen) (hk : I8 k) (ht : I16 st) (hz : I16 sz) (w : World) :
    Calls Try.prog 54 #[.agg #[.string s, .int .i8 k, .int .i16 st, .int .i16 sz]] w fun e w' => e = .returned (partR s k st sz) ∧ Below w.heap.size w w' := by
  have V := Lib.hid fun W => iVF_any s k st sz hs hk ht hz W
  cases h : fieldOk s k st sz
  · have f := Lib.hid (partR_no h)
    rw [h] at V
    clear h hs hk ht hz
    go_enter Try.func54, Try.ntmps54
    go_wp2_with (first | (go_at_call 50; refine (V.out _).mono ?_; rintro e w1 ⟨rfl, hB⟩; obtain ⟨hc, hf, hz⟩ := bcell hB; have y0 : w.heap.size < w1.heap.size := hz _ (box2_lt0 ..); have y1 : w.heap.size + 1 < w1.heap.size := hz _ (box2_lt1 ..); have c0 : w1.cell? ⟨w.heap.size + 1, 0, none⟩ = some (.int .u64 0) := (hB.cell (box2_lt1 ..)).trans (box2_1 ..); have c1 : w1.cell? ⟨w.heap.size + 1, 1, none⟩ = some (.int .u64 0) := (hB.cell (box2_lt1 ..)).trans (box2_1 ..); have d0 : ∀ j, w1.frozen? ⟨w.heap.size + 1, j, none⟩ = false := (fun j => (hB.frozen (box2_lt1 ..)).trans (box2f_1 ..))))
    refine bodyPost_ret (by simp [results, Try.results54, go_sem, c0, c1]; try rfl) rfl ?_
    exact ⟨ret_is f.out, (by repeat' (first | (with_reducible exact Below.refl _ _) | (with_reducible assumption) | (with_reducible refine below_drewN ?_ _) | (with_reducible refine Below.drew ?_) | (with_reducible refine below_new ?_ _) | (with_reducible refine below_next ?_ (by with_reducible assumption)) | (with_reducible refine Below.setCell ?_ ?_ _) | go_size))⟩
  · have f := Lib.hid (partR_yes h)
    have P := Lib.hid fun W => iPartOk s k st sz h W
    rw [h] at V
    clear h hs hk ht hz
    go_enter Try.func54, Try.ntmps54
    go_wp2_with (first | (go_at_call 50; refine (V.out _).mono ?_; rintro e w1 ⟨rfl, hB⟩; obtain ⟨hc, hf, hz⟩ := bcell hB; have y0 : w.heap.size < w1.heap.size := hz _ (box2_lt0 ..); have y1 : w.heap.size + 1 < w1.heap.size := hz _ (box2_lt1 ..); have c0 : w1.cell? ⟨w.heap.size + 1, 0, none⟩ = some (.int .u64 0) := (hB.cell (box2_lt1 ..)).trans (box2_1 ..); have c1 : w1.cell? ⟨w.heap.size + 1, 1, none⟩ = some (.int .u64 0) := (hB.cell (box2_lt1 ..)).trans (box2_1 ..); have d0 : ∀ j, w1.frozen? ⟨w.heap.size + 1, j, none⟩ = false := (fun j => (hB.frozen (box2_lt1 ..)).trans (box2f_1 ..))) | (go_at_call 94; refine (P.out _).mono ?_; rintro e w2 ⟨rfl, hB2⟩; have k0 : w2.cell? ⟨w.heap.size + 1, 0, none⟩ = some (.int .u64 0) := (hB2.cell (by first | omega | (simp; done) | (simp; omega))).trans c0; have k1 : w2.cell? ⟨w.heap.size + 1, 1, none⟩ = some (.int .u64 0) := (hB2.cell (by first | omega | (simp; done) | (simp; omega))).trans c1; have d2 : ∀ j, w2.frozen? ⟨w.heap.size + 1, j, none⟩ = false := (fun j => (hB2.frozen (by first | omega | (simp; done) | (simp; omega))).trans (d0 j))))
    refine bodyPost_ret (by simp [results, Try.results54, go_sem, k0, k1]; try rfl) rfl ?_
    exact ⟨ret_is f.out, (by repeat' (first | (with_reducible exact Below.refl _ _) | (with_reducible assumption) | (with_reducible refine below_drewN ?_ _) | (with_reducible refine Below.drew ?_) | (with_reducible refine below_new ?_ _) | (with_reducible refine below_next ?_ (by with_reducible assumption)) | (with_reducible refine Below.setCell ?_ ?_ _) | go_size))⟩

set_option maxHeartbeats 1600000 in
theorem sPartOf_any (s : ByteArray) (k st sz : Int) (hs : s.size ≤ maxLen) (_hk : I8 k) (ht : I16 st) (hz : I16 sz) (w : World) :
    Calls Try.prog 53 #[.agg #[.string s, .int .i8 k, .int .i16 st, .int .i16 sz]] w fun e w' => e = .returned (partR s k st sz) ∧ Below w.heap.size w w' := by
  have V := Lib.hid fun W h0 h1 h2 h3 => sVF_any s k st sz hs ht hz w.heap.size 0 W h0 h1 h2 h3
  cases h : fieldOk s k st sz
  · have f := Lib.hid (partR_no h)
    rw [h] at V
    clear h hs _hk ht hz
    go_enter Try.func53, Try.ntmps53
    go_wp2_with (first | (go_at_call 89; refine Calls.mono (V.out _ ?_ ?_ ?_ ?_) ?_; exact box2_0 ..; exact box2_0 ..; exact box2_0 ..; exact box2_0 ..; rintro e w1 ⟨rfl, hB⟩; obtain ⟨hc, hf, hz⟩ := bcell hB; have y0 : w.heap.size < w1.heap.size := hz _ (box2_lt0 ..); have y1 : w.heap.size + 1 < w1.heap.size := hz _ (box2_lt1 ..); have c0 : w1.cell? ⟨w.heap.size + 1, 0, none⟩ = some (.int .u64 0) := (hB.cell (box2_lt1 ..)).trans (box2_1 ..); have c1 : w1.cell? ⟨w.heap.size + 1, 1, none⟩ = some (.int .u64 0) := (hB.cell (box2_lt1 ..)).trans (box2_1 ..); have d0 : ∀ j, w1.frozen? ⟨w.heap.size + 1, j, none⟩ = false := (fun j => (hB.frozen (box2_lt1 ..)).trans (box2f_1 ..)); have f1 : w1.cell? ⟨w.heap.size, 1, none⟩ = some (.int .i8 k) := (hB.cell (box2_lt0 ..)).trans (box2_0 ..); have f2 : w1.cell? ⟨w.heap.size, 2, none⟩ = some (.int .i16 st) := (hB.cell (box2_lt0 ..)).trans (box2_0 ..); have f3 : w1.cell? ⟨w.heap.size, 3, none⟩ = some (.int .i16 sz) := (hB.cell (box2_lt0 ..)).trans (box2_0 ..)))
    refine bodyPost_ret (by simp [results, Try.results53, go_sem, c0, c1]; try rfl) rfl ?_
    exact ⟨ret_is f.out, (by repeat' (first | (with_reducible exact Below.refl _ _) | (with_reducible assumption) | (with_reducible refine below_drewN ?_ _) | (with_reducible refine Below.drew ?_) | (with_reducible refine below_new ?_ _) | (with_reducible refine below_next ?_ (by with_reducible assumption)) | (with_reducible refine Below.setCell ?_ ?_ _) | go_size))⟩
  · have f := Lib.hid (partR_yes h)
    have P : Hid (∀ W : World, W.cell? ⟨w.heap.size, 1, none⟩ = some (.int .i8 k) → W.cell? ⟨w.heap.size, 2, none⟩ = some (.int .i16 st) → W.cell? ⟨w.heap.size, 3, none⟩ = some (.int .i16 sz) → Calls Try.prog 93 #[.pointer (some ⟨w.heap.size, 0, none⟩)] W fun e w' => e = .returned (.agg #[.int .u64 (pt0 k st sz), .int .u64 (pt1 k st sz)]) ∧ Below W.heap.size W w') := Lib.hid fun W h1 h2 h3 => sPartOk s k st sz h w.heap.size 0 W h1 h2 h3
    rw [h] at V
    clear h hs _hk ht hz
    go_enter Try.func53, Try.ntmps53
    go_wp2_with (first | (go_at_call 89; refine Calls.mono (V.out _ ?_ ?_ ?_ ?_) ?_; exact box2_0 ..; exact box2_0 ..; exact box2_0 ..; exact box2_0 ..; rintro e w1 ⟨rfl, hB⟩; obtain ⟨hc, hf, hz⟩ := bcell hB; have y0 : w.heap.size < w1.heap.size := hz _ (box2_lt0 ..); have y1 : w.heap.size + 1 < w1.heap.size := hz _ (box2_lt1 ..); have c0 : w1.cell? ⟨w.heap.size + 1, 0, none⟩ = some (.int .u64 0) := (hB.cell (box2_lt1 ..)).trans (box2_1 ..); have c1 : w1.cell? ⟨w.heap.size + 1, 1, none⟩ = some (.int .u64 0) := (hB.cell (box2_lt1 ..)).trans (box2_1 ..); have d0 : ∀ j, w1.frozen? ⟨w.heap.size + 1, j, none⟩ = false := (fun j => (hB.frozen (box2_lt1 ..)).trans (box2f_1 ..)); have f1 : w1.cell? ⟨w.heap.size, 1, none⟩ = some (.int .i8 k) := (hB.cell (box2_lt0 ..)).trans (box2_0 ..); have f2 : w1.cell? ⟨w.heap.size, 2, none⟩ = some (.int .i16 st) := (hB.cell (box2_lt0 ..)).trans (box2_0 ..); have f3 : w1.cell? ⟨w.heap.size, 3, none⟩ = some (.int .i16 sz) := (hB.cell (box2_lt0 ..)).trans (box2_0 ..)) | (go_at_call 93; refine Calls.mono (P.out _ ?_ ?_ ?_) ?_; with_reducible assumption; with_reducible assumption; with_reducible assumption; rintro e w2 ⟨rfl, hB2⟩; have k0 : w2.cell? ⟨w.heap.size + 1, 0, none⟩ = some (.int .u64 0) := (hB2.cell (by first | omega | (simp; done) | (simp; omega))).trans c0; have k1 : w2.cell? ⟨w.heap.size + 1, 1, none⟩ = some (.int .u64 0) := (hB2.cell (by first | omega | (simp; done) | (simp; omega))).trans c1; have d2 : ∀ j, w2.frozen? ⟨w.heap.size + 1, j, none⟩ = false := (fun j => (hB2.frozen (by first | omega | (simp; done) | (simp; omega))).trans (d0 j))))
    refine bodyPost_ret (by simp [results, Try.results53, go_sem, k0, k1]; try rfl) rfl ?_
    exact ⟨ret_is f.out, (by repeat' (first | (with_reducible exact Below.refl _ _) | (with_reducible assumption) | (with_reducible refine below_drewN ?_ _) | (with_reducible refine Below.drew ?_) | (with_reducible refine below_new ?_ _) | (with_reducible refine below_next ?_ (by with_reducible assumption)) | (with_reducible refine Below.setCell ?_ ?_ _) | go_size))⟩
end Go.Proofs.Ytaiedpblfnaooaa
