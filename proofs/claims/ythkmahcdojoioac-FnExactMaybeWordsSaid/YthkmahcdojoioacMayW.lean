/- Contracts: MaybeWords, the program's and the model's. -/
import Derived.Test.YthkmahcdojoioacMayI
namespace Go.Proofs.Ythkmahcdojoioac
open Go.ChangeShapes Go.WideShapes Go.ChangeAt Go.RowKit

/-- A list of numbers of the call's own, and a code. -/
def MwR (c : Int) (xs : List Int) (w : World) (e : Ending) (w' : World) : Prop := ∃ v, e = .returned (.tuple #[v, .int .i64 c]) ∧ OwnInts w.heap.size xs v w' ∧ Below w.heap.size w w'
theorem ask_words {ok : Bool} {ms : List (Int × Int)} {zs : List ByteArray} {m : Nat} (h : askC ok ms zs m = 0) : zs.length ≤ m := by
  refine Nat.le_of_not_lt fun e => ?_
  unfold askC wordsC at h
  rw [words_long e] at h
  split at h
  · split at h
    · split at h <;> exact absurd h (by decide)
    · exact absurd h (by decide)
  · exact absurd h (by decide)

set_option maxRecDepth 100000 in
set_option maxHeartbeats 1600000 in
theorem iMayW_any (t z p : Int) (ht : I16 t) (hz : I16 z) (F : Int → Nat) (hF : mixOk t z p = true → StopF t z p F) (a b : Int) (ad : Option Addr) (zs : List ByteArray) (cap : Nat) (w : World) (h : StrsIn w ad zs) (hf : Fit zs) (hl : zs.length ≤ 9223372036854775807) :
    Calls Try.prog 48 #[.agg #[.int .i16 t, .int .i16 z, .int .i16 p], .agg #[.int .u64 a, .int .u64 b], .slice ad zs.length cap] w (MwR (askC (mixOk t z p) [(a, b)] zs 40) (mayL (askC (mixOk t z p) [(a, b)] zs 40) (may (wi t z F a b) zs zs.length)) w) := by
  have hA : Ab w ((w.alloc (.cells #[.int .i16 t, .int .i16 z, .int .i16 p] 31)).alloc (.cells #[.int .u64 a, .int .u64 b] 33)) := Ab.trans (ab_new _ _) (ab_new _ _)
  have I := Lib.hid (iHint_any t z p ht hz F hF a b ad zs cap _ (strsIn_below h hA) hf hl)
  have AA := Lib.hid hA
  generalize mayL (askC (mixOk t z p) [(a, b)] zs 40) (may (wi t z F a b) zs zs.length) = xs at *
  generalize askC (mixOk t z p) [(a, b)] zs 40 = c at *
  clear h hf hl hF ht hz hA
  go_enter Try.func48, Try.ntmps48
  go_wp2_with (go_at_call 100; refine I.out.mono ?_; rintro e w1 ⟨x, y, v, au, n, cu, rfl, hO, hB⟩; obtain ⟨av, cv, rfl, _⟩ := ownInts_in hO; have O := Lib.hid hO; have B := Lib.hid hB; clear hO hB)
  go_ret2
  exact ⟨_, rfl, u_weaken (ownInts_kept O.out (ab_new _ _)) AA.out.size, Ab.trans AA.out (Ab.trans B.out (ab_new _ _))⟩

/-- Two boxes of the call's own: a mix, a mask. -/
def Rw (w wr : World) (t z p a b : Int) : Prop :=
  wr.heap[w.heap.size]? = some (.cells #[.int .i16 t, .int .i16 z, .int .i16 p] 31 (0, 0)) ∧ wr.heap[w.heap.size + 1]? = some (.cells #[.int .u64 a, .int .u64 b] 33 (0, 0)) ∧ Below w.heap.size w wr
theorem rw_ab {w wr w' : World} {t z p a b : Int} (h : Rw w wr t z p a b) (k : Below wr.heap.size wr w') : Rw w w' t z p a b :=
  ⟨Ab.block k h.1, Ab.block k h.2.1, h.2.2.trans (Below.mono k h.2.2.size)⟩
theorem rw_start (w : World) (t z p a b : Int) : Rw w ((w.alloc (.cells #[.int .i16 t, .int .i16 z, .int .i16 p] 31)).alloc (.cells #[.int .u64 a, .int .u64 b] 33)) t z p a b :=
  ⟨(block_alloc2 _ _ _).1, (block_alloc2 _ _ _).2, Ab.trans (ab_new _ _) (ab_new _ _)⟩

set_option maxRecDepth 100000 in
set_option maxHeartbeats 1600000 in
theorem sMayW_any (t z p : Int) (ht : I16 t) (hz : I16 z) (hp : I16 p) (F : Int → Nat) (hF : mixOk t z p = true → StopF t z p F) (a b : Int) (ha : U64 a) (hb : U64 b) (ad : Option Addr) (zs : List ByteArray) (cap : Nat) (w : World) (h : StrsIn w ad zs) (hf : Fit zs) (hl : zs.length ≤ 9223372036854775807) :
    Calls Try.prog 47 #[.agg #[.int .i16 t, .int .i16 z, .int .i16 p], .agg #[.int .u64 a, .int .u64 b], .slice ad zs.length cap] w (MwR (askC (mixOk t z p) [(a, b)] zs 40) (mayL (askC (mixOk t z p) [(a, b)] zs 40) (may (wi t z F a b) zs zs.length)) w) := by
  have R0 := rw_start w t z p a b
  have R1 := rw_ab R0 (ab_new _ (.cells #[.int .u64 a, .int .u64 b] 33))
  have MB := block_alloc ((w.alloc (.cells #[.int .i16 t, .int .i16 z, .int .i16 p] 31)).alloc (.cells #[.int .u64 a, .int .u64 b] 33)) (.cells #[.int .u64 a, .int .u64 b] 33)
  have hsz : ((w.alloc (.cells #[.int .i16 t, .int .i16 z, .int .i16 p] 31)).alloc (.cells #[.int .u64 a, .int .u64 b] 33)).heap.size = w.heap.size + 1 + 1 := by simp
  rw [hsz] at MB
  have Q := sAsk_any t z p ht hz hp w.heap.size 0 (some ⟨w.heap.size + 1 + 1, 0, none⟩) ad [(a, b)] zs 1 cap 40 _ (by simpa using cell_of_block R1.1 0) (by simpa using cell_of_block R1.1 1) (by simpa using cell_of_block R1.1 2) (masks_one MB) (strsIn_below h R1.2.2) hf (by simp) hl
  have R := Lib.hid R1
  have H := Lib.hid h
  have FT := Lib.hid hf
  generalize hc : askC (mixOk t z p) [(a, b)] zs 40 = c at Q ⊢
  have Q := Lib.hid Q
  clear h hf ht hz hp R0 R1 MB hsz
  by_cases h0 : c = 0
  · subst h0
    have hv := ask_ok hc
    have hn := ask_words hc
    have hF := hF hv
    obtain ⟨t0, z0, tz, p1, p8, pz⟩ := mix_inv hv
    have A := Lib.hid fun W hs c0 c1 c2 => sMay_any t z p F hF t0 z0 tz p1 p8 a b ha hb ad zs cap w.heap.size 0 W hs FT.out hn c0 c1 c2
    rw [mayL_yes]
    clear hv hF hc ha hb
    generalize may (wi t z F a b) zs zs.length = xs at *
    go_enter Try.func47, Try.ntmps47
    go_wp2_with (first
      | (go_at_call 75; refine Q.out.mono ?_; rintro e w1 ⟨rfl, hB⟩; have r2 := Lib.hid (rw_ab R.out hB); have c1 := cell_of_block r2.out.2.1; clear hB)
      | (go_at_call 99; refine (A.out _ (strsIn_below H.out r2.out.2.2) (by simpa using cell_of_block r2.out.1 0) (by simpa using cell_of_block r2.out.1 1) (by simpa using cell_of_block r2.out.1 2)).mono ?_; rintro e w3 ⟨v, rfl, hO, hB⟩; have O := Lib.hid hO; have B := Lib.hid hB; clear hO hB))
    go_ret2
    exact ⟨_, rfl, u_weaken O.out r2.out.2.2.size, r2.out.2.2.trans (Below.mono B.out r2.out.2.2.size)⟩
  · have d : (c == 0) = false := by simpa using h0
    have d2 : (c != 0) = true := by simp [h0]
    rw [mayL_no h0]
    clear hF hc ha hb
    go_enter Try.func47, Try.ntmps47
    go_wp2_with (go_at_call 75; refine Q.out.mono ?_; rintro e w1 ⟨rfl, hB⟩; have r2 := Lib.hid (rw_ab R.out hB); clear hB)
    go_ret2
    exact ⟨_, rfl, u_none rfl r2.out.2.2.size, r2.out.2.2.trans (Below.mono (ab_new _ _) r2.out.2.2.size)⟩
end Go.Proofs.Ythkmahcdojoioac
