/- Contracts: WordHoles, the program's and the model's. -/
import Derived.Test.YtaiedpblfnaooabAdd
namespace Go.Proofs.Ytaiedpblfnaooab
open Go.ChangeShapes Go.WideShapes Go.ChangeAt Go.RowKit

/-- Two boxes: a mix, the answer's mask, still empty. -/
def R2 (w wr : World) (t z p : Int) : Prop :=
  wr.heap[w.heap.size]? = some (.cells #[.int .i16 t, .int .i16 z, .int .i16 p] 59 (0, 0)) ∧ wr.heap[w.heap.size + 1]? = some (.cells #[.int .u64 0, .int .u64 0] 50 (0, 0)) ∧ Below w.heap.size w wr
theorem r2_ab {w wr w' : World} {t z p : Int} (h : R2 w wr t z p) (k : Below wr.heap.size wr w') : R2 w w' t z p :=
  ⟨Ab.block k h.1, Ab.block k h.2.1, h.2.2.trans (Below.mono k h.2.2.size)⟩
theorem r2_start (w : World) (t z p : Int) : R2 w ((w.alloc (.cells #[.int .i16 t, .int .i16 z, .int .i16 p] 59)).alloc (.cells #[.int .u64 0, .int .u64 0] 50)) t z p :=
  ⟨(block_alloc2 _ _ _).1, (block_alloc2 _ _ _).2, (by repeat' (first | (with_reducible exact Below.refl _ _) | (with_reducible assumption) | (with_reducible refine below_drewN ?_ _) | (with_reducible refine Below.drew ?_) | (with_reducible refine below_new ?_ _) | (with_reducible refine below_next ?_ (by with_reducible assumption)) | (with_reducible refine Below.setCell ?_ ?_ _) | go_size))⟩
theorem strs_one {w : World} {b : Nat} {s : ByteArray} {ty : TypeId} (h : w.heap[b]? = some (.cells #[.string s] ty (0, 0))) : StrsIn w (some ⟨b, 0, none⟩) [s] := fun i hi => by
  have hi0 : i = 0 := by simp at hi; omega
  subst hi0
  exact ⟨b, 0, rfl, lt_of_block h, by simpa using cell_of_block h 0⟩
theorem fit_one {s : ByteArray} (h : s.size ≤ maxLen) : Fit [s] := fun i hi => by
  have hi0 : i = 0 := by simp at hi; omega
  subst hi0
  simpa using h

/-- The code of one word. -/
def whC (ok : Bool) (s : ByteArray) : Int := if ok then (if nameOk s then 0 else 2) else 1
theorem wc_one (s : ByteArray) (m : Nat) (h : 1 ≤ m) : wordsC [s] m = if nameOk s then 0 else 2 := by unfold wordsC wordsOk; simp [h]
theorem whC_12 (ok : Bool) (s : ByteArray) : askC ok [(0, 0)] [s] 12 = whC ok s := by
  cases ok
  · rfl
  · rw [add_3 0 [s] 12 (by decide), wc_one s 12 (by decide)]; rfl
theorem whC_1 (ok : Bool) (s : ByteArray) : askC ok [] [s] 1 = whC ok s := by
  cases ok
  · rfl
  · rw [ask_4 [s] 1 (by rfl) (by simp), wc_one s 1 (by decide)]; rfl
theorem or_0 (n : Nat) (h : n < 2 ^ 64) : bits .or .u64 0 (n : Int) = (n : Int) := by
  have := or_nat 0 n (by decide) h
  simpa using this
theorem AX_one {t z : Int} (F : Int → Nat) (s : ByteArray) (ht : 0 ≤ t) (hz : 0 < z) (htz : t + z ≤ 96) : AX 0 t z F [s] = (hw0 t z F s : Int) := by
  have e : A0 t z F [s] 1 = hw0 t z F s := by show 0 ||| hw0 t z F s = _; simp
  unfold AX
  rw [show [s].length = 1 from rfl, e, or_0 _ (hw_lt F s ht hz htz).1]
theorem AY_one {t z : Int} (F : Int → Nat) (s : ByteArray) (ht : 0 ≤ t) (hz : 0 < z) (htz : t + z ≤ 96) : AY 0 t z F [s] = (hw1 t z F s : Int) := by
  have e : A1 t z F [s] 1 = hw1 t z F s := by show 0 ||| hw1 t z F s = _; simp
  unfold AY
  rw [show [s].length = 1 from rfl, e, or_0 _ (hw_lt F s ht hz htz).2]
theorem addV_same {c x y u v : Int} (h : c = 0 → x = u ∧ y = v) : addV c x y = addV c u v := by
  unfold addV
  by_cases e : c = 0
  · rw [(h e).1, (h e).2]
  · rw [if_neg e, if_neg e, if_neg e, if_neg e]
theorem whC_ok {ok : Bool} {s : ByteArray} (h : whC ok s = 0) : ok = true := by
  cases ok
  · exact absurd h (show ¬ ((1 : Int) = 0) by decide)
  · rfl

set_option maxHeartbeats 1600000 in
theorem iWordHoles_any (t z p : Int) (ht : I16 t) (hz : I16 z) (F : Int → Nat) (hF : mixOk t z p = true → StopF t z p F) (s : ByteArray) (hs : s.size ≤ maxLen) (w : World) :
    Calls Try.prog 39 #[.agg #[.int .i16 t, .int .i16 z, .int .i16 p], .string s] w fun e w' => e = .returned (addV (whC (mixOk t z p) s) (hw0 t z F s) (hw1 t z F s)) ∧ Below w.heap.size w w' := by
  have R0 := r2_start w t z p
  have R1 := r2_ab R0 (below_new (Below.refl _ _) (.cells #[.string s] 9))
  have MB := block_alloc ((w.alloc (.cells #[.int .i16 t, .int .i16 z, .int .i16 p] 59)).alloc (.cells #[.int .u64 0, .int .u64 0] 50)) (.cells #[.string s] 9)
  have hsz : ((w.alloc (.cells #[.int .i16 t, .int .i16 z, .int .i16 p] 59)).alloc (.cells #[.int .u64 0, .int .u64 0] 50)).heap.size = w.heap.size + 1 + 1 := by simp
  rw [hsz] at MB
  have Q := iAdd_any t z p ht hz F hF 0 0 (some ⟨w.heap.size + 1 + 1, 0, none⟩) [s] 1 _ (strs_one MB) (fit_one hs) (by simp)
  rw [whC_12] at Q
  have e : addV (whC (mixOk t z p) s) (AX 0 t z F [s]) (AY 0 t z F [s]) = addV (whC (mixOk t z p) s) (hw0 t z F s) (hw1 t z F s) := addV_same fun h => by
    obtain ⟨t0, z0, tz, _⟩ := mix_inv (whC_ok h)
    exact ⟨AX_one F s t0 (by omega) tz, AY_one F s t0 (by omega) tz⟩
  rw [e] at Q
  clear e MB hsz R0 hF ht hz
  have R := Lib.hid R1
  obtain ⟨x, y, c, hx⟩ : ∃ x y c : Int, addV (whC (mixOk t z p) s) (hw0 t z F s) (hw1 t z F s) = .tuple #[.agg #[.int .u64 x, .int .u64 y], .int .i64 c] := ⟨_, _, _, rfl⟩
  rw [hx] at Q ⊢
  have Q := Lib.hid Q
  clear hx R1 hs
  go_enter Try.func39, Try.ntmps39
  go_wp2_with (go_at_call 44; refine Q.out.mono ?_; rintro e w1 ⟨rfl, hB⟩; have r2 := Lib.hid (r2_ab R.out hB); clear hB; have k2 := cell_of_block r2.out.2.1; have j2 := free_of_block r2.out.2.1)
  refine bodyPost_ret (by simp [results, Try.results39, go_sem, k2]; try rfl) rfl ?_
  exact ⟨rfl, (r2.out.2.2.setCell (by first | omega | (simp; done) | (simp; omega)) _).setCell (by first | omega | (simp; done) | (simp; omega)) _⟩
set_option maxHeartbeats 1600000 in
theorem sWordHoles_any (t z p : Int) (ht : I16 t) (hz : I16 z) (hp : I16 p) (F : Int → Nat) (hF : mixOk t z p = true → StopF t z p F) (s : ByteArray) (hs : s.size ≤ maxLen) (w : World) :
    Calls Try.prog 37 #[.agg #[.int .i16 t, .int .i16 z, .int .i16 p], .string s] w fun e w' => e = .returned (addV (whC (mixOk t z p) s) (hw0 t z F s) (hw1 t z F s)) ∧ Below w.heap.size w w' := by
  have R0 := r2_start w t z p
  have R1 := r2_ab (r2_ab R0 (below_new (Below.refl _ _) (.cells #[] 50))) (below_new (Below.refl _ _) (.cells #[.string s] 9))
  have MB := block_alloc (((w.alloc (.cells #[.int .i16 t, .int .i16 z, .int .i16 p] 59)).alloc (.cells #[.int .u64 0, .int .u64 0] 50)).alloc (.cells #[] 50)) (.cells #[.string s] 9)
  have hsz : (((w.alloc (.cells #[.int .i16 t, .int .i16 z, .int .i16 p] 59)).alloc (.cells #[.int .u64 0, .int .u64 0] 50)).alloc (.cells #[] 50)).heap.size = w.heap.size + 1 + 1 + 1 := by simp
  rw [hsz] at MB
  have Q := sAsk_any t z p ht hz hp w.heap.size 0 (some ⟨w.heap.size + 1 + 1, 0, none⟩) (some ⟨w.heap.size + 1 + 1 + 1, 0, none⟩) [] [s] 0 1 1 _ (by simpa using cell_of_block R1.1 0) (by simpa using cell_of_block R1.1 1) (by simpa using cell_of_block R1.1 2) (fun i hi => absurd hi (Nat.not_lt_zero i)) (strs_one MB) (fit_one hs) (by simp) (by simp)
  rw [whC_1] at Q
  have R := Lib.hid R1
  generalize hc : whC (mixOk t z p) s = c at Q ⊢
  have Q := Lib.hid Q
  clear ht hz hp R0 R1 MB hsz
  by_cases h0 : c = 0
  · subst h0
    have hv := whC_ok hc
    have hF := hF hv
    obtain ⟨t0, z0, tz, p1, p8, pz⟩ := mix_inv hv
    have f := Lib.hid (addV_yes (hw0 t z F s : Int) (hw1 t z F s : Int))
    have A := fun W c0 c1 c2 => sHoles_any t z p s hs t0 z0 tz p1 p8 (F (ck s s.size)) (hF _ (ck_in s _).1 (ck_in s _).2) w.heap.size 0 W c0 c1 c2
    change ∀ W : World, _ → _ → _ → Calls _ _ _ W (fun e w' => e = .returned (.agg #[.int .u64 (hw0 t z F s : Int), .int .u64 (hw1 t z F s : Int)]) ∧ Below W.heap.size W w') at A
    have A := Lib.hid A
    clear hv hF hc hs
    go_enter Try.func37, Try.ntmps37
    go_wp2_with (first | (go_at_call 85; refine Q.out.mono ?_; rintro e w1 ⟨rfl, hB⟩; have r2 := Lib.hid (r2_ab R.out hB); clear hB) | (go_at_call 86; refine (A.out _ (by simpa using cell_of_block r2.out.1 0) (by simpa using cell_of_block r2.out.1 1) (by simpa using cell_of_block r2.out.1 2)).mono ?_; rintro e w2 ⟨rfl, hB⟩; have r3 := Lib.hid (r2_ab r2.out hB); clear hB; have k2 := cell_of_block r3.out.2.1; have j2 := free_of_block r3.out.2.1))
    refine bodyPost_ret (by simp [results, Try.results37, go_sem, k2]; try rfl) rfl ?_
    exact ⟨ret_v f.out, (r3.out.2.2.setCell (by first | omega | (simp; done) | (simp; omega)) _).setCell (by first | omega | (simp; done) | (simp; omega)) _⟩
  · have f := Lib.hid (addV_no (x := (hw0 t z F s : Int)) (y := (hw1 t z F s : Int)) h0)
    have d : (c == 0) = false := by simpa using h0
    have d2 : (c != 0) = true := by simp [h0]
    clear hF hc hs
    go_enter Try.func37, Try.ntmps37
    go_wp2_with (go_at_call 85; refine Q.out.mono ?_; rintro e w1 ⟨rfl, hB⟩; have r2 := Lib.hid (r2_ab R.out hB); clear hB; have k2 := cell_of_block r2.out.2.1; have j2 := free_of_block r2.out.2.1)
    refine bodyPost_ret (by simp [results, Try.results37, go_sem, k2]; try rfl) rfl ?_
    exact ⟨ret_v f.out, (r2.out.2.2.setCell (by first | omega | (simp; done) | (simp; omega)) _).setCell (by first | omega | (simp; done) | (simp; omega)) _⟩
end Go.Proofs.Ytaiedpblfnaooab
