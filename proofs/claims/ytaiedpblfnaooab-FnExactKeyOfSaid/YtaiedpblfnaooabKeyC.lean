/- Contracts: KeyOf, the program's and the model's. -/
import Derived.Test.YtaiedpblfnaooabKeyOf
import Derived.Test.YtaiedpblfnaooabQuery
namespace Go.Proofs.Ytaiedpblfnaooab
open Go.ChangeShapes Go.WideShapes Go.ChangeAt Go.RowKit

def kyR (s : ByteArray) (k st sz a b : Int) : Value := if fieldOk s k st sz && (b / 4294967296 == 0) then .tuple #[.int .i64 (kv (hasB a b) (srt k st sz) : Nat), .int .i64 0] else .tuple #[.int .i64 0, .int .i64 1]
theorem kyR_1 {s : ByteArray} {k st sz : Int} (a b : Int) (h : fieldOk s k st sz = false) : kyR s k st sz a b = .tuple #[.int .i64 0, .int .i64 1] := by unfold kyR; rw [h]; rfl
theorem kyR_2 (s : ByteArray) (k st sz a : Int) {b : Int} (h : (b / 4294967296 == 0) = false) : kyR s k st sz a b = .tuple #[.int .i64 0, .int .i64 1] := by unfold kyR; rw [h, Bool.and_false]; rfl
theorem kyR_3 {s : ByteArray} {k st sz : Int} (a : Int) {b : Int} (h : fieldOk s k st sz = true) (h2 : (b / 4294967296 == 0) = true) : kyR s k st sz a b = .tuple #[.int .i64 (kv (hasB a b) (srt k st sz) : Nat), .int .i64 0] := by unfold kyR; rw [h, h2]; rfl
theorem kyR_parts (s : ByteArray) (k st sz a b : Int) : ∃ x c : Int, kyR s k st sz a b = .tuple #[.int .i64 x, .int .i64 c] := by unfold kyR; split <;> exact ⟨_, _, rfl⟩
theorem ret_ky {x y : Value} (h : y = x) : Ending.returned x = Ending.returned y := by rw [h]

set_option maxHeartbeats 1600000 in
theorem iKeyOf_any (s : ByteArray) (k st sz : Int) (hs : s.size ≤ maxLen) (hk : I8 k) (ht : I16 st) (hz : I16 sz) (a b : Int) (ha : U64 a) (hb : U64 b) (w : World) :
    Calls Try.prog 34 #[.agg #[.string s, .int .i8 k, .int .i16 st, .int .i16 sz], .agg #[.int .u64 a, .int .u64 b]] w fun e w' => e = .returned (kyR s k st sz a b) ∧ Below w.heap.size w w' := by
  have V := Lib.hid fun W => iVF_any s k st sz hs hk ht hz W
  cases h : fieldOk s k st sz
  · have f := Lib.hid (kyR_1 a b h)
    rw [h] at V
    clear h hs hk ht hz ha hb
    go_enter Try.func34, Try.ntmps34
    go_wp2_with (go_at_call 67; refine (V.out _).mono ?_; rintro e w1 ⟨rfl, hB⟩; obtain ⟨hc, hf, hz⟩ := bcell hB)
    go_ret2
    exact ⟨ret_ky f.out, (by repeat' (first | (with_reducible exact Below.refl _ _) | (with_reducible assumption) | (with_reducible refine below_drewN ?_ _) | (with_reducible refine Below.drew ?_) | (with_reducible refine below_new ?_ _) | (with_reducible refine below_next ?_ (by with_reducible assumption)) | (with_reducible refine Below.setCell ?_ ?_ _) | go_size))⟩
  · cases q : (b / 4294967296 == 0)
    · have f := Lib.hid (kyR_2 s k st sz a q)
      rw [h] at V
      clear h hs hk ht hz ha hb
      go_enter Try.func34, Try.ntmps34
      go_wp2_with (first | (go_at_call 67; refine (V.out _).mono ?_; rintro e w1 ⟨rfl, hB⟩; have z1 : w.heap.size + 1 < w1.heap.size := (by have := hB.size; simp at this; omega); have c0 : w1.cell? ⟨w.heap.size + 1, 0, none⟩ = some (.int .u64 a) := (hB.cell (box2_lt1 ..)).trans (box2_1 ..); have c1 : w1.cell? ⟨w.heap.size + 1, 1, none⟩ = some (.int .u64 b) := (hB.cell (box2_lt1 ..)).trans (box2_1 ..)) | go_in)
      go_ret2
      exact ⟨ret_ky f.out, (by repeat' (first | (with_reducible exact Below.refl _ _) | (with_reducible assumption) | (with_reducible refine below_drewN ?_ _) | (with_reducible refine Below.drew ?_) | (with_reducible refine below_new ?_ _) | (with_reducible refine below_next ?_ (by with_reducible assumption)) | (with_reducible refine Below.setCell ?_ ?_ _) | go_size))⟩
    · have f := Lib.hid (kyR_3 a h q)
      have S := Lib.hid fun W => iKey_any s k st sz h a b ha hb W
      rw [h] at V
      clear h hs hk ht hz ha hb
      go_enter Try.func34, Try.ntmps34
      go_wp2_with (first
        | (go_at_call 67; refine (V.out _).mono ?_; rintro e w1 ⟨rfl, hB⟩; have z1 : w.heap.size + 1 < w1.heap.size := (by have := hB.size; simp at this; omega); have z0 : w.heap.size < w1.heap.size := (by omega); have c0 : w1.cell? ⟨w.heap.size + 1, 0, none⟩ = some (.int .u64 a) := (hB.cell (box2_lt1 ..)).trans (box2_1 ..); have c1 : w1.cell? ⟨w.heap.size + 1, 1, none⟩ = some (.int .u64 b) := (hB.cell (box2_lt1 ..)).trans (box2_1 ..); have f0 : w1.cell? ⟨w.heap.size, 0, none⟩ = some (.string s) := (hB.cell (box2_lt0 ..)).trans (box2_0 ..); have f1 : w1.cell? ⟨w.heap.size, 1, none⟩ = some (.int .i8 k) := (hB.cell (box2_lt0 ..)).trans (box2_0 ..); have f2 : w1.cell? ⟨w.heap.size, 2, none⟩ = some (.int .i16 st) := (hB.cell (box2_lt0 ..)).trans (box2_0 ..); have f3 : w1.cell? ⟨w.heap.size, 3, none⟩ = some (.int .i16 sz) := (hB.cell (box2_lt0 ..)).trans (box2_0 ..))
        | (go_at_call 84; refine (S.out _).mono ?_; rintro e w2 ⟨rfl, hB2⟩)
        | go_in)
      go_ret2
      exact ⟨ret_ky f.out, (by repeat' (first | (with_reducible exact Below.refl _ _) | (with_reducible assumption) | (with_reducible refine below_drewN ?_ _) | (with_reducible refine Below.drew ?_) | (with_reducible refine below_new ?_ _) | (with_reducible refine below_next ?_ (by with_reducible assumption)) | (with_reducible refine Below.setCell ?_ ?_ _) | go_size))⟩

set_option maxHeartbeats 1600000 in
theorem sKeyOf_any (s : ByteArray) (k st sz : Int) (hs : s.size ≤ maxLen) (ht : I16 st) (hz : I16 sz) (a b : Int) (ha : U64 a) (hb : U64 b) (w : World) :
    Calls Try.prog 32 #[.agg #[.string s, .int .i8 k, .int .i16 st, .int .i16 sz], .agg #[.int .u64 a, .int .u64 b]] w fun e w' => e = .returned (kyR s k st sz a b) ∧ Below w.heap.size w w' := by
  have V := Lib.hid fun W h0 h1 h2 h3 => sVF_any s k st sz hs ht hz w.heap.size 0 W h0 h1 h2 h3
  cases h : fieldOk s k st sz
  · have f := Lib.hid (kyR_1 a b h)
    rw [h] at V
    clear h hs ht hz ha hb
    go_enter Try.func32, Try.ntmps32
    go_wp2_with (go_at_call 65; refine Calls.mono (V.out _ ?_ ?_ ?_ ?_) ?_; exact box2_0 ..; exact box2_0 ..; exact box2_0 ..; exact box2_0 ..; rintro e w1 ⟨rfl, hB⟩)
    go_ret2
    exact ⟨ret_ky f.out, (by repeat' (first | (with_reducible exact Below.refl _ _) | (with_reducible assumption) | (with_reducible refine below_drewN ?_ _) | (with_reducible refine Below.drew ?_) | (with_reducible refine below_new ?_ _) | (with_reducible refine below_next ?_ (by with_reducible assumption)) | (with_reducible refine Below.setCell ?_ ?_ _) | go_size))⟩
  · cases q : (b / 4294967296 == 0)
    · have f := Lib.hid (kyR_2 s k st sz a q)
      have M := sMask_is a q
      rw [h] at V
      clear h hs ht hz ha hb q
      go_enter Try.func32, Try.ntmps32
      go_wp2_with (first | (go_at_call 65; refine Calls.mono (V.out _ ?_ ?_ ?_ ?_) ?_; exact box2_0 ..; exact box2_0 ..; exact box2_0 ..; exact box2_0 ..; rintro e w1 ⟨rfl, hB⟩; have z1 : w.heap.size + 1 < w1.heap.size := (by have := hB.size; simp at this; omega); have c0 : w1.cell? ⟨w.heap.size + 1, 0, none⟩ = some (.int .u64 a) := (hB.cell (box2_lt1 ..)).trans (box2_1 ..); have c1 : w1.cell? ⟨w.heap.size + 1, 1, none⟩ = some (.int .u64 b) := (hB.cell (box2_lt1 ..)).trans (box2_1 ..)) | (go_at_call 81; refine (M.out _).mono ?_; rintro e w2 ⟨rfl, hB2⟩))
      go_ret2
      exact ⟨ret_ky f.out, (by repeat' (first | (with_reducible exact Below.refl _ _) | (with_reducible assumption) | (with_reducible refine below_drewN ?_ _) | (with_reducible refine Below.drew ?_) | (with_reducible refine below_new ?_ _) | (with_reducible refine below_next ?_ (by with_reducible assumption)) | (with_reducible refine Below.setCell ?_ ?_ _) | go_size))⟩
    · have f := Lib.hid (kyR_3 a h q)
      have M := sMask_is a q
      have S := Lib.hid fun W h1 h2 h3 => sKey_any s k st sz h a b ha hb w.heap.size 0 W h1 h2 h3
      rw [h] at V
      clear h hs ht hz ha hb q
      go_enter Try.func32, Try.ntmps32
      go_wp2_with (first
        | (go_at_call 65; refine Calls.mono (V.out _ ?_ ?_ ?_ ?_) ?_; exact box2_0 ..; exact box2_0 ..; exact box2_0 ..; exact box2_0 ..; rintro e w1 ⟨rfl, hB⟩; have z1 : w.heap.size + 1 < w1.heap.size := (by have := hB.size; simp at this; omega); have z0 : w.heap.size < w1.heap.size := (by omega); have c0 : w1.cell? ⟨w.heap.size + 1, 0, none⟩ = some (.int .u64 a) := (hB.cell (box2_lt1 ..)).trans (box2_1 ..); have c1 : w1.cell? ⟨w.heap.size + 1, 1, none⟩ = some (.int .u64 b) := (hB.cell (box2_lt1 ..)).trans (box2_1 ..); have f1 : w1.cell? ⟨w.heap.size, 1, none⟩ = some (.int .i8 k) := (hB.cell (box2_lt0 ..)).trans (box2_0 ..); have f2 : w1.cell? ⟨w.heap.size, 2, none⟩ = some (.int .i16 st) := (hB.cell (box2_lt0 ..)).trans (box2_0 ..); have f3 : w1.cell? ⟨w.heap.size, 3, none⟩ = some (.int .i16 sz) := (hB.cell (box2_lt0 ..)).trans (box2_0 ..))
        | (go_at_call 81; refine (M.out _).mono ?_; rintro e w2 ⟨rfl, hB2⟩; have z2 : w.heap.size + 1 < w2.heap.size := Nat.lt_of_lt_of_le z1 hB2.size; have d0 : w2.cell? ⟨w.heap.size + 1, 0, none⟩ = some (.int .u64 a) := (hB2.cell (show w.heap.size + 1 < w1.heap.size from z1)).trans c0; have d1 : w2.cell? ⟨w.heap.size + 1, 1, none⟩ = some (.int .u64 b) := (hB2.cell (show w.heap.size + 1 < w1.heap.size from z1)).trans c1; have e1 : w2.cell? ⟨w.heap.size, 1, none⟩ = some (.int .i8 k) := (hB2.cell (show w.heap.size < w1.heap.size from z0)).trans f1; have e2 : w2.cell? ⟨w.heap.size, 2, none⟩ = some (.int .i16 st) := (hB2.cell (show w.heap.size < w1.heap.size from z0)).trans f2; have e3 : w2.cell? ⟨w.heap.size, 3, none⟩ = some (.int .i16 sz) := (hB2.cell (show w.heap.size < w1.heap.size from z0)).trans f3)
        | (go_at_call 82; refine Calls.mono (S.out _ ?_ ?_ ?_) ?_; exact e1; exact e2; exact e3; rintro e w3 ⟨rfl, hB3⟩))
      go_ret2
      exact ⟨ret_ky f.out, (by repeat' (first | (with_reducible exact Below.refl _ _) | (with_reducible assumption) | (with_reducible refine below_drewN ?_ _) | (with_reducible refine Below.drew ?_) | (with_reducible refine below_new ?_ _) | (with_reducible refine below_next ?_ (by with_reducible assumption)) | (with_reducible refine Below.setCell ?_ ?_ _) | go_size))⟩
end Go.Proofs.Ytaiedpblfnaooab
