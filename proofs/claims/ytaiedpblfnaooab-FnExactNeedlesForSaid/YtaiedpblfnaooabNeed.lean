/- Contracts: NeedlesFor, the program's and the model's. -/
import Derived.Test.YtaiedpblfnaooabWordH
namespace Go.Proofs.Ytaiedpblfnaooab
open Go.ChangeShapes Go.WideShapes Go.ChangeAt Go.RowKit

def nfV (c : Int) (n : Nat) : Value := .tuple #[.int .i64 (if c = 0 then (n : Int) else 0), .int .i64 c]
theorem nfV_no {c : Int} {n : Nat} (h : c ≠ 0) : nfV c n = .tuple #[.int .i64 0, .int .i64 c] := by unfold nfV; rw [if_neg h]
theorem nfV_yes (n : Nat) : nfV 0 n = .tuple #[.int .i64 (n : Int), .int .i64 0] := rfl
theorem ask_12 (ok : Bool) (zs : List ByteArray) : askC ok [(0, 0)] zs 12 = askC ok [] zs 12 := by
  cases ok
  · rfl
  · rw [add_3 0 zs 12 (by decide), ask_4 zs 12 (by rfl) (by simp)]
theorem cnt_00 : cnt 0 0 = 0 := by decide

set_option maxHeartbeats 1600000 in
theorem iNeed_any (t z p : Int) (ht : I16 t) (hz : I16 z) (F : Int → Nat) (hF : mixOk t z p = true → StopF t z p F) (ad : Option Addr) (zs : List ByteArray) (cap : Nat) (w : World) (h : StrsIn w ad zs) (hf : Fit zs) (hl : zs.length ≤ 9223372036854775807) :
    Calls Try.prog 47 #[.agg #[.int .i16 t, .int .i16 z, .int .i16 p], .slice ad zs.length cap] w fun e w' => e = .returned (nfV (askC (mixOk t z p) [] zs 12) (cnt (A0 t z F zs zs.length) (A1 t z F zs zs.length))) ∧ Below w.heap.size w w' := by
  have Q := fun W hs => iAdd_any t z p ht hz F hF 0 0 ad zs cap W hs hf hl
  rw [ask_12] at Q
  have H := Lib.hid h
  generalize hc : askC (mixOk t z p) [] zs 12 = c at Q ⊢
  clear h hf ht hz
  by_cases h0 : c = 0
  · subst h0
    obtain ⟨t0, z0, tz, p1, p8, pz⟩ := mix_inv (ask_ok hc)
    obtain ⟨l0, l1⟩ := A_lt F zs t0 (show 0 < z by omega) tz zs.length
    have e0 : AX 0 t z F zs = (A0 t z F zs zs.length : Int) := or_0 _ l0
    have e1 : AY 0 t z F zs = (A1 t z F zs zs.length : Int) := or_0 _ l1
    rw [addV_yes, e0, e1] at Q
    have C := Lib.hid fun W => iCount_any (A0 t z F zs zs.length) (A1 t z F zs zs.length) (by omega) (by omega) W
    have f := Lib.hid (nfV_yes (cnt (A0 t z F zs zs.length) (A1 t z F zs zs.length)))
    clear e0 e1 l0 l1 hc hF
    generalize A0 t z F zs zs.length = X at *
    generalize A1 t z F zs zs.length = Y at *
    have Q := Lib.hid Q
    have h2 := Lib.hid (strsIn_below H.out (below_new (Below.refl _ _) (.cells #[.int .i16 t, .int .i16 z, .int .i16 p] 59)))
    go_enter Try.func47, Try.ntmps47
    go_wp2_with (first | (go_at_call 44; refine (Q.out _ h2.out).mono ?_; rintro e w1 ⟨rfl, hB⟩; have r1 := Lib.hid ((below_new (Below.refl _ _) _).trans (Below.mono hB (by simp))); clear hB) | (go_at_call 94; refine (C.out _).mono ?_; rintro e w2 ⟨rfl, hB⟩; have BB := Lib.hid hB; clear hB))
    go_ret2
    refine ⟨ret_v f.out, ?_⟩
    have hs := r1.out.size
    exact (r1.out.alloc hs _).trans (Below.mono BB.out (by simp; omega))
  · rw [addV_no h0] at Q
    have f := Lib.hid (nfV_no (n := cnt (A0 t z F zs zs.length) (A1 t z F zs zs.length)) h0)
    have Q := Lib.hid Q
    have C := fun W => iCount_any 0 0 (by decide) (by decide) W
    rw [cnt_00] at C
    have C := Lib.hid C
    have h2 := Lib.hid (strsIn_below H.out (below_new (Below.refl _ _) (.cells #[.int .i16 t, .int .i16 z, .int .i16 p] 59)))
    clear hF hc
    go_enter Try.func47, Try.ntmps47
    go_wp2_with (first | (go_at_call 44; refine (Q.out _ h2.out).mono ?_; rintro e w1 ⟨rfl, hB⟩; have r1 := Lib.hid ((below_new (Below.refl _ _) _).trans (Below.mono hB (by simp))); clear hB) | (go_at_call 94; refine (C.out _).mono ?_; rintro e w2 ⟨rfl, hB⟩; have BB := Lib.hid hB; clear hB))
    go_ret2
    refine ⟨ret_v f.out, ?_⟩
    have hs := r1.out.size
    exact (r1.out.alloc hs _).trans (Below.mono BB.out (by simp; omega))

set_option maxHeartbeats 1600000 in
theorem sNeed_any (t z p : Int) (ht : I16 t) (hz : I16 z) (hp : I16 p) (F : Int → Nat) (hF : mixOk t z p = true → StopF t z p F) (ad : Option Addr) (zs : List ByteArray) (cap : Nat) (w : World) (h : StrsIn w ad zs) (hf : Fit zs) (hl : zs.length ≤ 9223372036854775807) :
    Calls Try.prog 46 #[.agg #[.int .i16 t, .int .i16 z, .int .i16 p], .slice ad zs.length cap] w fun e w' => e = .returned (nfV (askC (mixOk t z p) [] zs 12) (cnt (A0 t z F zs zs.length) (A1 t z F zs zs.length))) ∧ Below w.heap.size w w' := by
  have M0 := block_alloc w (.cells #[.int .i16 t, .int .i16 z, .int .i16 p] 59)
  have B1 : Below w.heap.size w ((w.alloc (.cells #[.int .i16 t, .int .i16 z, .int .i16 p] 59)).alloc (.cells #[] 50)) := below_new (below_new (Below.refl _ _) _) _
  have M1 := Ab.block (below_new (Below.refl _ (w.alloc (.cells #[.int .i16 t, .int .i16 z, .int .i16 p] 59))) (.cells #[] 50)) M0
  have Q := sAsk_any t z p ht hz hp w.heap.size 0 (some ⟨w.heap.size + 1, 0, none⟩) ad [] zs 0 cap 12 _ (by simp) (by simp) (by simp) (fun i hi => absurd hi (Nat.not_lt_zero i)) (strsIn_below h B1) hf (by simp) hl
  have H := Lib.hid h
  have FT := Lib.hid hf
  have M := Lib.hid M1
  have BB1 := Lib.hid B1
  generalize hc : askC (mixOk t z p) [] zs 12 = c at Q ⊢
  have Q := Lib.hid Q
  clear h hf ht hz hp M0 B1 M1
  by_cases h0 : c = 0
  · subst h0
    have hv := ask_ok hc
    have hF := hF hv
    obtain ⟨t0, z0, tz, p1, p8, pz⟩ := mix_inv hv
    obtain ⟨l0, l1⟩ := A_lt F zs t0 (show 0 < z by omega) tz zs.length
    have f := Lib.hid (nfV_yes (cnt (A0 t z F zs zs.length) (A1 t z F zs zs.length)))
    have A := Lib.hid fun W hs c0 c1 c2 => sAll_any t z p F hF t0 z0 tz p1 p8 ad zs cap w.heap.size 0 W hs FT.out hl c0 c1 c2
    have C := Lib.hid fun W => sCount_any (A0 t z F zs zs.length) (A1 t z F zs zs.length) (by omega) (by omega) W
    clear hv hF hc l0 l1
    generalize A0 t z F zs zs.length = X at *
    generalize A1 t z F zs zs.length = Y at *
    go_enter Try.func46, Try.ntmps46
    go_wp2_with (first | (go_at_call 85; refine Q.out.mono ?_; rintro e w1 ⟨rfl, hB⟩; have m1 := Lib.hid (Ab.block hB M.out); have b1 := Lib.hid (BB1.out.trans (Below.mono hB BB1.out.size)); clear hB) | (go_at_call 88; refine (A.out _ (strsIn_below H.out b1.out) (by simpa using cell_of_block m1.out 0) (by simpa using cell_of_block m1.out 1) (by simpa using cell_of_block m1.out 2)).mono ?_; rintro e w2 ⟨rfl, hB⟩; have b2 := Lib.hid (b1.out.trans (Below.mono hB b1.out.size)); clear hB) | (go_at_call 93; refine (C.out _).mono ?_; rintro e w3 ⟨rfl, hB⟩; have b3 := Lib.hid (b2.out.trans (Below.mono hB b2.out.size)); clear hB))
    go_ret2
    exact ⟨ret_v f.out, b3.out⟩
  · have f := Lib.hid (nfV_no (n := cnt (A0 t z F zs zs.length) (A1 t z F zs zs.length)) h0)
    have d : (c == 0) = false := by simpa using h0
    have d2 : (c != 0) = true := by simp [h0]
    clear hF hc
    go_enter Try.func46, Try.ntmps46
    go_wp2_with (go_at_call 85; refine Q.out.mono ?_; rintro e w1 ⟨rfl, hB⟩; have b1 := Lib.hid (BB1.out.trans (Below.mono hB BB1.out.size)); clear hB)
    go_ret2
    exact ⟨ret_v f.out, b1.out⟩
end Go.Proofs.Ytaiedpblfnaooab
