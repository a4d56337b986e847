/- Contracts: AddWords, the program's and the model's. -/
import Derived.Test.YtaiedpblfnaooabAsk
namespace Go.Proofs.Ytaiedpblfnaooab
open Go.ChangeShapes Go.WideShapes Go.ChangeAt Go.RowKit

/-- Three boxes: a mix, a mask, the answer's mask, still empty. -/
def R3 (w wr : World) (t z p a b : Int) : Prop :=
  wr.heap[w.heap.size]? = some (.cells #[.int .i16 t, .int .i16 z, .int .i16 p] 59 (0, 0)) ∧ wr.heap[w.heap.size + 1]? = some (.cells #[.int .u64 a, .int .u64 b] 50 (0, 0)) ∧ wr.heap[w.heap.size + 2]? = some (.cells #[.int .u64 0, .int .u64 0] 50 (0, 0)) ∧ Below w.heap.size w wr
theorem r3_ab {w wr w' : World} {t z p a b : Int} (h : R3 w wr t z p a b) (k : Below wr.heap.size wr w') : R3 w w' t z p a b :=
  ⟨Ab.block k h.1, Ab.block k h.2.1, Ab.block k h.2.2.1, h.2.2.2.trans (Below.mono k h.2.2.2.size)⟩
theorem r3_start (w : World) (t z p a b : Int) : R3 w (((w.alloc (.cells #[.int .i16 t, .int .i16 z, .int .i16 p] 59)).alloc (.cells #[.int .u64 a, .int .u64 b] 50)).alloc (.cells #[.int .u64 0, .int .u64 0] 50)) t z p a b :=
  ⟨(block_alloc3 _ _ _ _).1, (block_alloc3 _ _ _ _).2.1, (block_alloc3 _ _ _ _).2.2, (by repeat' (first | (with_reducible exact Below.refl _ _) | (with_reducible assumption) | (with_reducible refine below_drewN ?_ _) | (with_reducible refine Below.drew ?_) | (with_reducible refine below_new ?_ _) | (with_reducible refine below_next ?_ (by with_reducible assumption)) | (with_reducible refine Below.setCell ?_ ?_ _) | go_size))⟩

def addV (c x y : Int) : Value := .tuple #[.agg #[.int .u64 (if c = 0 then x else 0), .int .u64 (if c = 0 then y else 0)], .int .i64 c]
def AX (a t z : Int) (F : Int → Nat) (zs : List ByteArray) : Int := bits .or .u64 a (A0 t z F zs zs.length : Int)
def AY (b t z : Int) (F : Int → Nat) (zs : List ByteArray) : Int := bits .or .u64 b (A1 t z F zs zs.length : Int)
theorem iJoin_below (a b c d : Int) (w : World) : Calls Try.prog 91 #[.agg #[.int .u64 a, .int .u64 b], .agg #[.int .u64 c, .int .u64 d]] w fun e w' => e = .returned (.agg #[.int .u64 (bits .or .u64 a c), .int .u64 (bits .or .u64 b d)]) ∧ Below w.heap.size w w' :=
  (iJoin_any a b c d w).mono fun e w' ⟨he, hw⟩ => ⟨he, by subst hw; exact (by repeat' (first | (with_reducible exact Below.refl _ _) | (with_reducible assumption) | (with_reducible refine below_drewN ?_ _) | (with_reducible refine Below.drew ?_) | (with_reducible refine below_new ?_ _) | (with_reducible refine below_next ?_ (by with_reducible assumption)) | (with_reducible refine Below.setCell ?_ ?_ _) | go_size))⟩
theorem sJoinM_below (a b c d : Int) (w : World) : Calls Try.prog 87 #[.agg #[.int .u64 a, .int .u64 b], .agg #[.int .u64 c, .int .u64 d]] w fun e w' => e = .returned (.agg #[.int .u64 (bits .or .u64 a c), .int .u64 (bits .or .u64 b d)]) ∧ Below w.heap.size w w' :=
  (sJoinMasks_any a b c d w).mono fun e w' ⟨he, hw⟩ => ⟨he, by subst hw; exact (by repeat' (first | (with_reducible exact Below.refl _ _) | (with_reducible assumption) | (with_reducible refine below_drewN ?_ _) | (with_reducible refine Below.drew ?_) | (with_reducible refine below_new ?_ _) | (with_reducible refine below_next ?_ (by with_reducible assumption)) | (with_reducible refine Below.setCell ?_ ?_ _) | go_size))⟩
theorem mOk1 (a b : Int) : masksOk [(a, b)] = mOk b := by unfold masksOk; simp
theorem add_1 (a b : Int) (zs : List ByteArray) (m : Nat) : askC false [(a, b)] zs m = 1 := rfl
theorem add_2 {b : Int} (a : Int) (zs : List ByteArray) (m : Nat) (h : mOk b = false) : askC true [(a, b)] zs m = 1 := ask_2 zs m (by rw [mOk1, h])
theorem add_3 {b : Int} (a : Int) (zs : List ByteArray) (m : Nat) (h : mOk b = true) : askC true [(a, b)] zs m = wordsC zs m := ask_4 zs m (by rw [mOk1, h]) (by simp)
theorem ret_v {x y : Value} (h : x = y) : Ending.returned y = .returned x := by rw [h]

set_option maxHeartbeats 1600000 in
theorem iAdd_any (t z p : Int) (ht : I16 t) (hz : I16 z) (F : Int → Nat) (hF : mixOk t z p = true → StopF t z p F) (a b : Int) (ad : Option Addr) (zs : List ByteArray) (cap : Nat) (w : World) (h : StrsIn w ad zs) (hf : Fit zs) (hl : zs.length ≤ 9223372036854775807) :
    Calls Try.prog 44 #[.agg #[.int .i16 t, .int .i16 z, .int .i16 p], .agg #[.int .u64 a, .int .u64 b], .slice ad zs.length cap] w fun e w' => e = .returned (addV (askC (mixOk t z p) [(a, b)] zs 12) (AX a t z F zs) (AY b t z F zs)) ∧ Below w.heap.size w w' := by
  have V := Lib.hid fun W => iValidMix_any t z p ht hz W
  have R := Lib.hid (r3_start w t z p a b)
  have K := Lib.hid fun W => iMaskOk_any a b W
  have S := Lib.hid fun W hb => iAreWords_any ad zs cap 12 W (strsIn_below h hb) hf hl
  have H := Lib.hid h
  have FT := Lib.hid hf
  clear h hf ht hz
  cases hv : mixOk t z p
  · rw [hv] at V
    have f : addV (askC false [(a, b)] zs 12) (AX a t z F zs) (AY b t z F zs) = .tuple #[.agg #[.int .u64 0, .int .u64 0], .int .i64 1] := by rw [add_1]; rfl
    have f := Lib.hid f
    clear hv hF
    go_enter Try.func44, Try.ntmps44
    go_wp2_with (first | (go_at_call 89; refine (V.out _).mono ?_; rintro e w1 ⟨rfl, hB⟩; have r1 := Lib.hid (r3_ab R.out hB); clear hB; have k2 := cell_of_block r1.out.2.2.1; have j2 := free_of_block r1.out.2.2.1))
    refine bodyPost_ret (by simp [results, Try.results44, go_sem, k2]; try rfl) rfl ?_
    exact ⟨ret_v f.out, (r1.out.2.2.2.setCell (by first | omega | (simp; done) | (simp; omega)) _).setCell (by first | omega | (simp; done) | (simp; omega)) _⟩
  · rw [hv] at V
    have hF := hF hv
    obtain ⟨t0, z0, tz, p1, p8, pz⟩ := mix_inv hv
    clear hv
    cases hm : mOk b
    · rw [hm] at K
      have f : addV (askC true [(a, b)] zs 12) (AX a t z F zs) (AY b t z F zs) = .tuple #[.agg #[.int .u64 0, .int .u64 0], .int .i64 1] := by rw [add_2 a zs 12 hm]; rfl
      have f := Lib.hid f
      clear hm hF
      go_enter Try.func44, Try.ntmps44
      go_wp2_with (first | (go_at_call 89; refine (V.out _).mono ?_; rintro e w1 ⟨rfl, hB⟩; have r1 := Lib.hid (r3_ab R.out hB); clear hB; have k1 := cell_of_block r1.out.2.1) | (go_at_call 83; refine (K.out _).mono ?_; rintro e w2 ⟨rfl, hB⟩; have r2 := Lib.hid (r3_ab r1.out hB); clear hB; have k2 := cell_of_block r2.out.2.2.1; have j2 := free_of_block r2.out.2.2.1))
      refine bodyPost_ret (by simp [results, Try.results44, go_sem, k2]; try rfl) rfl ?_
      exact ⟨ret_v f.out, (r2.out.2.2.2.setCell (by first | omega | (simp; done) | (simp; omega)) _).setCell (by first | omega | (simp; done) | (simp; omega)) _⟩
    · rw [hm] at K
      have f0 := add_3 a zs 12 hm
      clear hm
      cases hw : wordsOk zs 12
      · rw [hw] at S
        have f : addV (askC true [(a, b)] zs 12) (AX a t z F zs) (AY b t z F zs) = .tuple #[.agg #[.int .u64 0, .int .u64 0], .int .i64 2] := by rw [f0, wordsC_no hw]; rfl
        have f := Lib.hid f
        clear hw hF f0
        go_enter Try.func44, Try.ntmps44
        go_wp2_with (first | (go_at_call 89; refine (V.out _).mono ?_; rintro e w1 ⟨rfl, hB⟩; have r1 := Lib.hid (r3_ab R.out hB); clear hB; have k1 := cell_of_block r1.out.2.1) | (go_at_call 83; refine (K.out _).mono ?_; rintro e w2 ⟨rfl, hB⟩; have r2 := Lib.hid (r3_ab r1.out hB); clear hB; have k2 := cell_of_block r2.out.2.2.1; have j2 := free_of_block r2.out.2.2.1) | (go_at_call 90; refine (S.out _ r2.out.2.2.2).mono ?_; rintro e w3 ⟨rfl, rfl⟩))
        refine bodyPost_ret (by simp [results, Try.results44, go_sem, k2]; try rfl) rfl ?_
        exact ⟨ret_v f.out, (r2.out.2.2.2.setCell (by first | omega | (simp; done) | (simp; omega)) _).setCell (by first | omega | (simp; done) | (simp; omega)) _⟩
      · rw [hw] at S
        have f : addV (askC true [(a, b)] zs 12) (AX a t z F zs) (AY b t z F zs) = .tuple #[.agg #[.int .u64 (AX a t z F zs), .int .u64 (AY b t z F zs)], .int .i64 0] := by rw [f0, wordsC_yes hw]; rfl
        have f := Lib.hid f
        have A := Lib.hid fun W hs => iAll_any t z p F hF t0 z0 tz p1 p8 ad zs cap W hs FT.out hl
        have J := Lib.hid fun W => iJoin_below a b (A0 t z F zs zs.length) (A1 t z F zs zs.length) W
        clear hw hF f0
        go_enter Try.func44, Try.ntmps44
        go_wp2_with (first | (go_at_call 89; refine (V.out _).mono ?_; rintro e w1 ⟨rfl, hB⟩; have r1 := Lib.hid (r3_ab R.out hB); clear hB; have k1 := cell_of_block r1.out.2.1) | (go_at_call 83; refine (K.out _).mono ?_; rintro e w2 ⟨rfl, hB⟩; have r2 := Lib.hid (r3_ab r1.out hB); clear hB) | (go_at_call 90; refine (S.out _ r2.out.2.2.2).mono ?_; rintro e w3 ⟨rfl, rfl⟩))
        refine wp_region_store 5 (by kernel_rfl) rfl rfl rfl (by kernel_rfl) (by kernel_rfl) rfl ?_
        simp only [Nat.reduceAdd, List.take_succ_cons, List.take_zero, List.drop_succ_cons, List.drop_zero]
        intro w3 h3
        have r3 := Lib.hid (r3_ab r2.out h3)
        have c0 := cell_of_block r3.out.1
        have c1 := cell_of_block r3.out.2.1
        have s0 := lt_of_block r3.out.1
        have s1 := lt_of_block r3.out.2.1
        have hbw := cell_bw
        have A2 := Lib.hid fun q : Regrown => A.out (bw w3 q) (strsIn_below H.out (r3.out.2.2.2.trans (Below.mono (below_bw w3 q) r3.out.2.2.2.size)))
        repeat (go_big_quiet_step (first | (go_at_call 92; exact calls_bw (A2.out _)) | (go_at_call 91; exact calls_all J.out)))
        refine wpQuiet_nil ?_
        intro w5 h5
        have r5 := Lib.hid (r3_ab r2.out h5)
        have g0 := cell_of_block r5.out.2.2.1
        have g1 := free_of_block r5.out.2.2.1
        go_simp
        simp only [Yld, pureRun, pureVal, Act.put, Act.eval, List.setIfInBounds_toArray, List.set_cons_succ, List.set_cons_zero]
        clear hbw c0 c1
        go_wp2
        refine bodyPost_ret (by simp [results, Try.results44, go_sem, g0]; try rfl) rfl ?_
        exact ⟨ret_v f.out, (r5.out.2.2.2.setCell (by first | omega | (simp; done) | (simp; omega)) _).setCell (by first | omega | (simp; done) | (simp; omega)) _⟩

/-- A slice of one mask that the call has made. -/
theorem masks_one {w : World} {b : Nat} {x y : Int} {ty : TypeId} (h : w.heap[b]? = some (.cells #[.int .u64 x, .int .u64 y] ty (0, 0))) : MasksIn w (some ⟨b, 0, none⟩) [(x, y)] := fun i hi => by
  have hi0 : i = 0 := by simp at hi; omega
  subst hi0
  exact ⟨b, 0, rfl, lt_of_block h, by simpa using cell_of_block h 0, by simpa using cell_of_block h 1⟩

theorem addV_no {c x y : Int} (h : c ≠ 0) : addV c x y = .tuple #[.agg #[.int .u64 0, .int .u64 0], .int .i64 c] := by unfold addV; rw [if_neg h, if_neg h]
theorem addV_yes (x y : Int) : addV 0 x y = .tuple #[.agg #[.int .u64 x, .int .u64 y], .int .i64 0] := rfl
theorem ask_ok {ok : Bool} {ms : List (Int × Int)} {zs : List ByteArray} {m : Nat} (h : askC ok ms zs m = 0) : ok = true := by
  cases ok
  · exact absurd h (by rw [ask_1]; decide)
  · rfl

set_option maxHeartbeats 1600000 in
theorem sAdd_any (t z p : Int) (ht : I16 t) (hz : I16 z) (hp : I16 p) (F : Int → Nat) (hF : mixOk t z p = true → StopF t z p F) (a b : Int) (ad : Option Addr) (zs : List ByteArray) (cap : Nat) (w : World) (h : StrsIn w ad zs) (hf : Fit zs) (hl : zs.length ≤ 9223372036854775807) :
    Calls Try.prog 42 #[.agg #[.int .i16 t, .int .i16 z, .int .i16 p], .agg #[.int .u64 a, .int .u64 b], .slice ad zs.length cap] w fun e w' => e = .returned (addV (askC (mixOk t z p) [(a, b)] zs 12) (AX a t z F zs) (AY b t z F zs)) ∧ Below w.heap.size w w' := by
  have R0 := r3_start w t z p a b
  have R1 := r3_ab R0 (below_new (Below.refl _ _) (.cells #[.int .u64 a, .int .u64 b] 50))
  have MB := block_alloc (((w.alloc (.cells #[.int .i16 t, .int .i16 z, .int .i16 p] 59)).alloc (.cells #[.int .u64 a, .int .u64 b] 50)).alloc (.cells #[.int .u64 0, .int .u64 0] 50)) (.cells #[.int .u64 a, .int .u64 b] 50)
  have hsz : (((w.alloc (.cells #[.int .i16 t, .int .i16 z, .int .i16 p] 59)).alloc (.cells #[.int .u64 a, .int .u64 b] 50)).alloc (.cells #[.int .u64 0, .int .u64 0] 50)).heap.size = w.heap.size + 1 + 1 + 1 := by simp
  rw [hsz] at MB
  have Q := sAsk_any t z p ht hz hp w.heap.size 0 (some ⟨w.heap.size + 1 + 1 + 1, 0, none⟩) ad [(a, b)] zs 1 cap 12 _ (by simpa using cell_of_block R1.1 0) (by simpa using cell_of_block R1.1 1) (by simpa using cell_of_block R1.1 2) (masks_one MB) (strsIn_below h R1.2.2.2) hf (by simp) hl
  have R := Lib.hid R1
  have H := Lib.hid h
  have FT := Lib.hid hf
  generalize hc : askC (mixOk t z p) [(a, b)] zs 12 = c at Q ⊢
  have Q := Lib.hid Q
  clear h hf ht hz hp R0 R1 MB hsz
  by_cases h0 : c = 0
  · subst h0
    have hv := ask_ok hc
    have hF := hF hv
    obtain ⟨t0, z0, tz, p1, p8, pz⟩ := mix_inv hv
    have f := Lib.hid (addV_yes (AX a t z F zs) (AY b t z F zs))
    have A := Lib.hid fun W hs c0 c1 c2 => sAll_any t z p F hF t0 z0 tz p1 p8 ad zs cap w.heap.size 0 W hs FT.out hl c0 c1 c2
    have J := Lib.hid fun W => sJoinM_below a b (A0 t z F zs zs.length) (A1 t z F zs zs.length) W
    clear hv hF hc
    go_enter Try.func42, Try.ntmps42
    go_wp2_with (go_at_call 85; refine Q.out.mono ?_; rintro e w1 ⟨rfl, hB⟩; have r2 := Lib.hid (r3_ab R.out hB); clear hB)
    refine wp_region_store 4 (by kernel_rfl) rfl rfl rfl (by kernel_rfl) (by kernel_rfl) rfl ?_
    simp only [Nat.reduceAdd, List.take_succ_cons, List.take_zero, List.drop_succ_cons, List.drop_zero]
    intro w3 h3
    have r3 := Lib.hid (r3_ab r2.out h3)
    have c1 := cell_of_block r3.out.2.1
    have s0 := lt_of_block r3.out.1
    have s1 := lt_of_block r3.out.2.1
    have hbw := cell_bw
    have A2 := Lib.hid fun q : Regrown => A.out (bw w3 q) (strsIn_below H.out (r3.out.2.2.2.trans (Below.mono (below_bw w3 q) r3.out.2.2.2.size))) ((cell_bw w3 q _ 0 s0).trans (by simpa using cell_of_block r3.out.1 0)) ((cell_bw w3 q _ 1 s0).trans (by simpa using cell_of_block r3.out.1 1)) ((cell_bw w3 q _ 2 s0).trans (by simpa using cell_of_block r3.out.1 2))
    repeat (go_big_quiet_step (first | (go_at_call 88; exact calls_bw (A2.out _)) | (go_at_call 87; exact calls_all J.out)))
    refine wpQuiet_nil ?_
    intro w5 h5
    have r5 := Lib.hid (r3_ab r2.out h5)
    have g0 := cell_of_block r5.out.2.2.1
    have g1 := free_of_block r5.out.2.2.1
    go_simp
    simp only [Yld, pureRun, pureVal, Act.put, Act.eval, List.setIfInBounds_toArray, List.set_cons_succ, List.set_cons_zero]
    clear hbw c1
    go_wp2
    refine bodyPost_ret (by simp [results, Try.results42, go_sem, g0]; try rfl) rfl ?_
    exact ⟨ret_v f.out, (r5.out.2.2.2.setCell (by first | omega | (simp; done) | (simp; omega)) _).setCell (by first | omega | (simp; done) | (simp; omega)) _⟩
  · have f := Lib.hid (addV_no (x := AX a t z F zs) (y := AY b t z F zs) h0)
    have d : (c == 0) = false := by simpa using h0
    have d2 : (c != 0) = true := by simp [h0]
    clear hF hc
    go_enter Try.func42, Try.ntmps42
    go_wp2_with (go_at_call 85; refine Q.out.mono ?_; rintro e w1 ⟨rfl, hB⟩; have r2 := Lib.hid (r3_ab R.out hB); clear hB; have k2 := cell_of_block r2.out.2.2.1; have j2 := free_of_block r2.out.2.2.1)
    refine bodyPost_ret (by simp [results, Try.results42, go_sem, k2]; try rfl) rfl ?_
    exact ⟨ret_v f.out, (r2.out.2.2.2.setCell (by first | omega | (simp; done) | (simp; omega)) _).setCell (by first | omega | (simp; done) | (simp; omega)) _⟩
end Go.Proofs.Ytaiedpblfnaooab
