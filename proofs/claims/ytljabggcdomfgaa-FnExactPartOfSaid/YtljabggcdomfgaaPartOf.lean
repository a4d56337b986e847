/- Contracts: the holes of a valid field; PartOf, the program's and the model's. -/
import Derived.Test.YtljabggcdomfgaaPartI0
import Derived.Test.YtljabggcdomfgaaPartI1
import Derived.Test.YtljabggcdomfgaaPartI2
import Derived.Test.YtljabggcdomfgaaPartI3
namespace Go.Proofs.Ytljabggcdomfgaa
open Go.ChangeShapes Go.WideShapes Go.ChangeAt Go.RowKit

/-- The two numbers of the mask of a field's holes. -/
def pt0 (k st sz : Int) : Int := pa b0 st (widthZ k sz).toNat
def pt1 (k st sz : Int) : Int := pa b1 st (widthZ k sz).toNat
theorem width_ok {s : ByteArray} {k st sz : Int} (h : fieldOk s k st sz = true) : (k = 0 ∨ k = 1 ∨ k = 2 ∨ k = 3) ∧ 0 ≤ st ∧ 1 ≤ sz ∧ sz ≤ 24 ∧ ((widthZ k sz).toNat : Int) = widthZ k sz ∧ (widthZ k sz).toNat ≤ 24 ∧ st + ((widthZ k sz).toNat : Int) ≤ 96 := by
  obtain ⟨_, k0, k3, t0, z0, zm, tw⟩ := field_inv h
  have hk : k = 0 ∨ k = 1 ∨ k = 2 ∨ k = 3 := by omega
  refine ⟨hk, t0, z0, ?_⟩
  rcases hk with rfl | rfl | rfl | rfl <;> simp [widthZ, mostZ] at * <;> omega

theorem iPartOk (s : ByteArray) (k st sz : Int) (h : fieldOk s k st sz = true) (w : World) :
    Calls Try.prog 70 #[.agg #[.string s, .int .i8 k, .int .i16 st, .int .i16 sz]] w fun e w' => e = .returned (.agg #[.int .u64 (pt0 k st sz), .int .u64 (pt1 k st sz)]) ∧ Below w.heap.size w w' := by
  obtain ⟨hk, t0, z0, zb, hn, nb, tw⟩ := width_ok h
  clear h
  unfold pt0 pt1
  rcases hk with rfl | rfl | rfl | rfl
  · exact iPart_0 s st sz _ (hn.trans (widthZ_0 sz)) t0 z0 zb nb tw w
  · exact iPart_1 s st sz _ (hn.trans (widthZ_1 sz)) t0 z0 zb nb tw w
  · exact iPart_2 s st sz _ (hn.trans (widthZ_2 sz)) t0 z0 zb nb tw w
  · exact iPart_3 s st sz _ (hn.trans (widthZ_3 sz)) t0 z0 zb nb tw w

theorem sPartOk (s : ByteArray) (k st sz : Int) (h : fieldOk s k st sz = true) (g o : Nat) (w : World) (h1 : w.cell? ⟨g, o + 1, none⟩ = some (.int .i8 k)) (h2 : w.cell? ⟨g, o + 2, none⟩ = some (.int .i16 st)) (h3 : w.cell? ⟨g, o + 3, none⟩ = some (.int .i16 sz)) :
    Calls Try.prog 68 #[.pointer (some ⟨g, o, none⟩)] w fun e w' => e = .returned (.agg #[.int .u64 (pt0 k st sz), .int .u64 (pt1 k st sz)]) ∧ Below w.heap.size w w' := by
  obtain ⟨hk, t0, z0, zb, hn, nb, tw⟩ := width_ok h
  clear h
  unfold pt0 pt1
  rcases hk with rfl | rfl | rfl | rfl
  · exact sPart_0 st sz _ (hn.trans (widthZ_0 sz)) t0 z0 zb tw g o w h1 h2 h3
  · exact sPart_1 st sz _ (hn.trans (widthZ_1 sz)) t0 z0 zb tw g o w h1 h2 h3
  · exact sPart_2 st sz _ (hn.trans (widthZ_2 sz)) t0 z0 zb tw g o w h1 h2 h3
  · exact sPart_3 st sz _ (hn.trans (widthZ_3 sz)) t0 z0 zb tw g o w h1 h2 h3

def partR (s : ByteArray) (k st sz : Int) : Value := if fieldOk s k st sz then .tuple #[.agg #[.int .u64 (pt0 k st sz), .int .u64 (pt1 k st sz)], .int .i64 0] else .tuple #[.agg #[.int .u64 0, .int .u64 0], .int .i64 1]
theorem partR_no {s : ByteArray} {k st sz : Int} (h : fieldOk s k st sz = false) : partR s k st sz = .tuple #[.agg #[.int .u64 0, .int .u64 0], .int .i64 1] := by unfold partR; rw [h]; rfl
theorem partR_yes {s : ByteArray} {k st sz : Int} (h : fieldOk s k st sz = true) : partR s k st sz = .tuple #[.agg #[.int .u64 (pt0 k st sz), .int .u64 (pt1 k st sz)], .int .i64 0] := by unfold partR; rw [h]; rfl
theorem ret_is {x y : Value} (h : y = x) : Ending.returned x = Ending.returned y := by rw [h]

set_option maxHeartbeats 1600000 in
theorem iPartOf_any (s : ByteArray) (k st sz : Int) (hs : s.size ≤ maxLen) (hk : I8 k) (ht : I16 st) (hz : I16 sz) (w : World) :
    Calls Try.prog 18 #[.agg #[.string s, .int .i8 k, .int .i16 st, .int .i16 sz]] w fun e w' => e = .returned (partR s k st sz) ∧ Below w.heap.size w w' := by
  have V := Lib.hid fun W => iVF_any s k st sz hs hk ht hz W
  cases h : fieldOk s k st sz
  · have f := Lib.hid (partR_no h)
    rw [h] at V
    clear h hs hk ht hz
    go_enter Try.func18, Try.ntmps18
    go_wp2_with (first | (go_at_call 69; refine (V.out _).mono ?_; rintro e w1 ⟨rfl, hB⟩; obtain ⟨hc, hf, hz⟩ := bcell hB; have y0 : w.heap.size < w1.heap.size := hz _ (box2_lt0 ..); have y1 : w.heap.size + 1 < w1.heap.size := hz _ (box2_lt1 ..); have c0 : w1.cell? ⟨w.heap.size + 1, 0, none⟩ = some (.int .u64 0) := (hB.cell (box2_lt1 ..)).trans (box2_1 ..); have c1 : w1.cell? ⟨w.heap.size + 1, 1, none⟩ = some (.int .u64 0) := (hB.cell (box2_lt1 ..)).trans (box2_1 ..); have d0 : ∀ j, w1.frozen? ⟨w.heap.size + 1, j, none⟩ = false := (fun j => (hB.frozen (box2_lt1 ..)).trans (box2f_1 ..))))
    refine bodyPost_ret (by simp [results, Try.results18, go_sem, c0, c1]; try rfl) rfl ?_
    exact ⟨ret_is f.out, (by repeat' (first | (with_reducible exact Below.refl _ _) | (with_reducible assumption) | (with_reducible refine below_drewN ?_ _) | (with_reducible refine Below.drew ?_) | (with_reducible refine below_new ?_ _) | (with_reducible refine below_next ?_ (by with_reducible assumption)) | (with_reducible refine Below.setCell ?_ ?_ _) | go_size))⟩
  · have f := Lib.hid (partR_yes h)
    have P := Lib.hid fun W => iPartOk s k st sz h W
    rw [h] at V
    clear h hs hk ht hz
    go_enter Try.func18, Try.ntmps18
    go_wp2_with (first | (go_at_call 69; refine (V.out _).mono ?_; rintro e w1 ⟨rfl, hB⟩; obtain ⟨hc, hf, hz⟩ := bcell hB; have y0 : w.heap.size < w1.heap.size := hz _ (box2_lt0 ..); have y1 : w.heap.size + 1 < w1.heap.size := hz _ (box2_lt1 ..); have c0 : w1.cell? ⟨w.heap.size + 1, 0, none⟩ = some (.int .u64 0) := (hB.cell (box2_lt1 ..)).trans (box2_1 ..); have c1 : w1.cell? ⟨w.heap.size + 1, 1, none⟩ = some (.int .u64 0) := (hB.cell (box2_lt1 ..)).trans (box2_1 ..); have d0 : ∀ j, w1.frozen? ⟨w.heap.size + 1, j, none⟩ = false := (fun j => (hB.frozen (box2_lt1 ..)).trans (box2f_1 ..))) | (go_at_call 70; refine (P.out _).mono ?_; rintro e w2 ⟨rfl, hB2⟩; have k0 : w2.cell? ⟨w.heap.size + 1, 0, none⟩ = some (.int .u64 0) := (hB2.cell (by first | omega | (simp; done) | (simp; omega))).trans c0; have k1 : w2.cell? ⟨w.heap.size + 1, 1, none⟩ = some (.int .u64 0) := (hB2.cell (by first | omega | (simp; done) | (simp; omega))).trans c1; have d2 : ∀ j, w2.frozen? ⟨w.heap.size + 1, j, none⟩ = false := (fun j => (hB2.frozen (by first | omega | (simp; done) | (simp; omega))).trans (d0 j))))
    refine bodyPost_ret (by simp [results, Try.results18, go_sem, k0, k1]; try rfl) rfl ?_
    exact ⟨ret_is f.out, (by repeat' (first | (with_reducible exact Below.refl _ _) | (with_reducible assumption) | (with_reducible refine below_drewN ?_ _) | (with_reducible refine Below.drew ?_) | (with_reducible refine below_new ?_ _) | (with_reducible refine below_next ?_ (by with_reducible assumption)) | (with_reducible refine Below.setCell ?_ ?_ _) | go_size))⟩

set_option maxHeartbeats 1600000 in
theorem sPartOf_any (s : ByteArray) (k st sz : Int) (hs : s.size ≤ maxLen) (_hk : I8 k) (ht : I16 st) (hz : I16 sz) (w : World) :
    Calls Try.prog 16 #[.agg #[.string s, .int .i8 k, .int .i16 st, .int .i16 sz]] w fun e w' => e = .returned (partR s k st sz) ∧ Below w.heap.size w w' := by
  have V := Lib.hid fun W h0 h1 h2 h3 => sVF_any s k st sz hs ht hz w.heap.size 0 W h0 h1 h2 h3
  cases h : fieldOk s k st sz
  · have f := Lib.hid (partR_no h)
    rw [h] at V
    clear h hs _hk ht hz
    go_enter Try.func16, Try.ntmps16
    go_wp2_with (first | (go_at_call 67; refine Calls.mono (V.out _ ?_ ?_ ?_ ?_) ?_; exact box2_0 ..; exact box2_0 ..; exact box2_0 ..; exact box2_0 ..; rintro e w1 ⟨rfl, hB⟩; obtain ⟨hc, hf, hz⟩ := bcell hB; have y0 : w.heap.size < w1.heap.size := hz _ (box2_lt0 ..); have y1 : w.heap.size + 1 < w1.heap.size := hz _ (box2_lt1 ..); have c0 : w1.cell? ⟨w.heap.size + 1, 0, none⟩ = some (.int .u64 0) := (hB.cell (box2_lt1 ..)).trans (box2_1 ..); have c1 : w1.cell? ⟨w.heap.size + 1, 1, none⟩ = some (.int .u64 0) := (hB.cell (box2_lt1 ..)).trans (box2_1 ..); have d0 : ∀ j, w1.frozen? ⟨w.heap.size + 1, j, none⟩ = false := (fun j => (hB.frozen (box2_lt1 ..)).trans (box2f_1 ..)); have f1 : w1.cell? ⟨w.heap.size, 1, none⟩ = some (.int .i8 k) := (hB.cell (box2_lt0 ..)).trans (box2_0 ..); have f2 : w1.cell? ⟨w.heap.size, 2, none⟩ = some (.int .i16 st) := (hB.cell (box2_lt0 ..)).trans (box2_0 ..); have f3 : w1.cell? ⟨w.heap.size, 3, none⟩ = some (.int .i16 sz) := (hB.cell (box2_lt0 ..)).trans (box2_0 ..)))
    refine bodyPost_ret (by simp [results, Try.results16, go_sem, c0, c1]; try rfl) rfl ?_
    exact ⟨ret_is f.out, (by repeat' (first | (with_reducible exact Below.refl _ _) | (with_reducible assumption) | (with_reducible refine below_drewN ?_ _) | (with_reducible refine Below.drew ?_) | (with_reducible refine below_new ?_ _) | (with_reducible refine below_next ?_ (by with_reducible assumption)) | (with_reducible refine Below.setCell ?_ ?_ _) | go_size))⟩
  · have f := Lib.hid (partR_yes h)
    have P : Hid (∀ W : World, W.cell? ⟨w.heap.size, 1, none⟩ = some (.int .i8 k) → W.cell? ⟨w.heap.size, 2, none⟩ = some (.int .i16 st) → W.cell? ⟨w.heap.size, 3, none⟩ = some (.int .i16 sz) → Calls Try.prog 68 #[.pointer (some ⟨w.heap.size, 0, none⟩)] W fun e w' => e = .returned (.agg #[.int .u64 (pt0 k st sz), .int .u64 (pt1 k st sz)]) ∧ Below W.heap.size W w') := Lib.hid fun W h1 h2 h3 => sPartOk s k st sz h w.heap.size 0 W h1 h2 h3
    rw [h] at V
    clear h hs _hk ht hz
    go_enter Try.func16, Try.ntmps16
    go_wp2_with (first | (go_at_call 67; refine Calls.mono (V.out _ ?_ ?_ ?_ ?_) ?_; exact box2_0 ..; exact box2_0 ..; exact box2_0 ..; exact box2_0 ..; rintro e w1 ⟨rfl, hB⟩; obtain ⟨hc, hf, hz⟩ := bcell hB; have y0 : w.heap.size < w1.heap.size := hz _ (box2_lt0 ..); have y1 : w.heap.size + 1 < w1.heap.size := hz _ (box2_lt1 ..); have c0 : w1.cell? ⟨w.heap.size + 1, 0, none⟩ = some (.int .u64 0) := (hB.cell (box2_lt1 ..)).trans (box2_1 ..); have c1 : w1.cell? ⟨w.heap.size + 1, 1, none⟩ = some (.int .u64 0) := (hB.cell (box2_lt1 ..)).trans (box2_1 ..); have d0 : ∀ j, w1.frozen? ⟨w.heap.size + 1, j, none⟩ = false := (fun j => (hB.frozen (box2_lt1 ..)).trans (box2f_1 ..)); have f1 : w1.cell? ⟨w.heap.size, 1, none⟩ = some (.int .i8 k) := (hB.cell (box2_lt0 ..)).trans (box2_0 ..); have f2 : w1.cell? ⟨w.heap.size, 2, none⟩ = some (.int .i16 st) := (hB.cell (box2_lt0 ..)).trans (box2_0 ..); have f3 : w1.cell? ⟨w.heap.size, 3, none⟩ = some (.int .i16 sz) := (hB.cell (box2_lt0 ..)).trans (box2_0 ..)) | (go_at_call 68; refine Calls.mono (P.out _ ?_ ?_ ?_) ?_; with_reducible assumption; with_reducible assumption; with_reducible assumption; rintro e w2 ⟨rfl, hB2⟩; have k0 : w2.cell? ⟨w.heap.size + 1, 0, none⟩ = some (.int .u64 0) := (hB2.cell (by first | omega | (simp; done) | (simp; omega))).trans c0; have k1 : w2.cell? ⟨w.heap.size + 1, 1, none⟩ = some (.int .u64 0) := (hB2.cell (by first | omega | (simp; done) | (simp; omega))).trans c1; have d2 : ∀ j, w2.frozen? ⟨w.heap.size + 1, j, none⟩ = false := (fun j => (hB2.frozen (by first | omega | (simp; done) | (simp; omega))).trans (d0 j))))
    refine bodyPost_ret (by simp [results, Try.results16, go_sem, k0, k1]; try rfl) rfl ?_
    exact ⟨ret_is f.out, (by repeat' (first | (with_reducible exact Below.refl _ _) | (with_reducible assumption) | (with_reducible refine below_drewN ?_ _) | (with_reducible refine Below.drew ?_) | (with_reducible refine below_new ?_ _) | (with_reducible refine below_next ?_ (by with_reducible assumption)) | (with_reducible refine Below.setCell ?_ ?_ _) | go_size))⟩
end Go.Proofs.Ytljabggcdomfgaa
