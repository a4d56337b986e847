/- Contracts: does a mask drop (Drops), the program's and the model's. -/
import Derived.Test.YtoippchkhknhpaaDofS
namespace Go.Proofs.Ytoippchkhknhpaa
open Go.ChangeShapes Go.WideShapes Go.ChangeAt Go.RowKit

/-- Does the mask drop for the words? -/
def drpB (t z : Int) (F : Int → Nat) (a b : Int) (zs : List ByteArray) : Bool := wm (A0 t z F zs zs.length : Int) (A1 t z F zs zs.length : Int) (a, b)
def drpV (c : Int) (q : Bool) : Value := .tuple #[.bool (if c = 0 then q else false), .int .i64 c]
theorem drpV_no {c : Int} (q : Bool) (h : c ≠ 0) : drpV c q = .tuple #[.bool false, .int .i64 c] := by unfold drpV; rw [if_neg h]
theorem drpV_yes (q : Bool) : drpV 0 q = .tuple #[.bool q, .int .i64 0] := rfl
theorem dof_one (t z : Int) (F : Int → Nat) (a b : Int) (zs : List ByteArray) : dofL t z F [(a, b)] zs = if drpB t z F a b zs = true then [0] else [] := by
  unfold dofL drpB
  show (if dropsAt _ _ [(a, b)] 0 = true then _ else _) = _
  rfl
theorem drp_gt (c t z : Int) (F : Int → Nat) (a b : Int) (zs : List ByteArray) : decide ((0 : Int) < ((mayL c (dofL t z F [(a, b)] zs)).length : Int)) = (if c = 0 then drpB t z F a b zs else false) := by
  rw [dof_one]
  unfold mayL
  by_cases h : c = 0
  · rw [if_pos h, if_pos h]
    cases drpB t z F a b zs <;> rfl
  · rw [if_neg h, if_neg h]; rfl

set_option maxRecDepth 100000 in
set_option maxHeartbeats 1600000 in
theorem iDrops_any (t z p : Int) (ht : I16 t) (hz : I16 z) (F : Int → Nat) (hF : mixOk t z p = true → StopF t z p F) (a b : Int) (ad : Option Addr) (zs : List ByteArray) (cap : Nat) (w : World) (h : StrsIn w ad zs) (hf : Fit zs) (hl : zs.length ≤ 9223372036854775807) :
    Calls Try.prog 34 #[.agg #[.int .i16 t, .int .i16 z, .int .i16 p], .agg #[.int .u64 a, .int .u64 b], .slice ad zs.length cap] w fun e w' => e = .returned (drpV (askC (mixOk t z p) [(a, b)] zs 12) (drpB t z F a b zs)) ∧ Below w.heap.size w w' := by
  have R1 := rw_ab (rw_start w t z p a b) (ab_new _ (.cells #[.int .u64 a, .int .u64 b] 51))
  have MB := block_alloc ((w.alloc (.cells #[.int .i16 t, .int .i16 z, .int .i16 p] 30)).alloc (.cells #[.int .u64 a, .int .u64 b] 51)) (.cells #[.int .u64 a, .int .u64 b] 51)
  have hsz : ((w.alloc (.cells #[.int .i16 t, .int .i16 z, .int .i16 p] 30)).alloc (.cells #[.int .u64 a, .int .u64 b] 51)).heap.size = w.heap.size + 1 + 1 := by simp
  rw [hsz] at MB
  have I := iDof_any t z p ht hz F hF (some ⟨w.heap.size + 1 + 1, 0, none⟩) [(a, b)] 1 ad zs cap _ (masks_one MB) (strsIn_below h R1.2.2) hf (by simp) hl
  have R := Lib.hid R1.2.2
  have hd := drp_gt (askC (mixOk t z p) [(a, b)] zs 12) t z F a b zs
  unfold drpV
  generalize (if askC (mixOk t z p) [(a, b)] zs 12 = 0 then drpB t z F a b zs else false) = q at *
  generalize mayL (askC (mixOk t z p) [(a, b)] zs 12) (dofL t z F [(a, b)] zs) = xs at *
  generalize askC (mixOk t z p) [(a, b)] zs 12 = c at *
  have I := Lib.hid I
  have hdn : Hid (decide (0 < xs.length) = q) := Lib.hid (by rw [← hd]; simp)
  clear h hf hl hF ht hz R1 MB hsz hd
  go_enter Try.func34, Try.ntmps34
  go_wp2_with (go_at_call 38; refine I.out.mono ?_; rintro e w1 ⟨v, rfl, hO, hB⟩; obtain ⟨av, cv, rfl, _⟩ := ownInts_in hO; have B := Lib.hid (R.out.trans (Below.mono hB R.out.size)); clear hO hB)
  go_ret2
  refine ⟨?_, B.out⟩
  simp
  exact hdn.out

set_option maxRecDepth 100000 in
set_option maxHeartbeats 1600000 in
theorem sDrops_any (t z p : Int) (ht : I16 t) (hz : I16 z) (hp : I16 p) (F : Int → Nat) (hF : mixOk t z p = true → StopF t z p F) (a b : Int) (ha : U64 a) (hb : U64 b) (ad : Option Addr) (zs : List ByteArray) (cap : Nat) (w : World) (h : StrsIn w ad zs) (hf : Fit zs) (hl : zs.length ≤ 9223372036854775807) :
    Calls Try.prog 32 #[.agg #[.int .i16 t, .int .i16 z, .int .i16 p], .agg #[.int .u64 a, .int .u64 b], .slice ad zs.length cap] w fun e w' => e = .returned (drpV (askC (mixOk t z p) [(a, b)] zs 12) (drpB t z F a b zs)) ∧ Below w.heap.size w w' := by
  have R0 := rw_start w t z p a b
  have R1 := rw_ab R0 (ab_new _ (.cells #[.int .u64 a, .int .u64 b] 51))
  have MB := block_alloc ((w.alloc (.cells #[.int .i16 t, .int .i16 z, .int .i16 p] 30)).alloc (.cells #[.int .u64 a, .int .u64 b] 51)) (.cells #[.int .u64 a, .int .u64 b] 51)
  have hsz : ((w.alloc (.cells #[.int .i16 t, .int .i16 z, .int .i16 p] 30)).alloc (.cells #[.int .u64 a, .int .u64 b] 51)).heap.size = w.heap.size + 1 + 1 := by simp
  rw [hsz] at MB
  have Q := sAsk_any t z p ht hz hp w.heap.size 0 (some ⟨w.heap.size + 1 + 1, 0, none⟩) ad [(a, b)] zs 1 cap 12 _ (by simpa using cell_of_block R1.1 0) (by simpa using cell_of_block R1.1 1) (by simpa using cell_of_block R1.1 2) (masks_one MB) (strsIn_below h R1.2.2) hf (by simp) hl
  have R := Lib.hid R1
  have H := Lib.hid h
  have FT := Lib.hid hf
  generalize hc : askC (mixOk t z p) [(a, b)] zs 12 = c at Q ⊢
  have Q := Lib.hid Q
  clear h hf ht hz hp R0 R1 MB hsz
  by_cases h0 : c = 0
  · subst h0
    have hv := ask_ok hc
    have hF := hF hv
    obtain ⟨t0, z0, tz, p1, p8, pz⟩ := mix_inv hv
    have A := Lib.hid fun W hs c0 c1 c2 => sAll_any t z p F hF t0 z0 tz p1 p8 ad zs cap w.heap.size 0 W hs FT.out hl c0 c1 c2
    obtain ⟨ux, uy⟩ := A_u64 F zs t0 z0 tz
    rw [drpV_yes]
    have IW := fun W => sIsWithin_any (A0 t z F zs zs.length : Int) (A1 t z F zs zs.length : Int) a b ux uy ha hb W
    change ∀ W : World, Calls _ _ _ W (fun e w' => e = .returned (.bool (drpB t z F a b zs)) ∧ Below W.heap.size W w') at IW
    generalize drpB t z F a b zs = q at *
    generalize (A0 t z F zs zs.length : Int) = X at *
    generalize (A1 t z F zs zs.length : Int) = Y at *
    have IW := Lib.hid IW
    have hbw := cell_bw
    clear hv hF hc ux uy ha hb
    go_enter Try.func32, Try.ntmps32
    go_wp2_with (go_at_call 81; refine Q.out.mono ?_; rintro e w1 ⟨rfl, hB⟩; have r1 := Lib.hid (rw_ab R.out hB); clear hB)
    have k0 := cell_of_block r1.out.1
    have k1 := cell_of_block r1.out.2.1
    have s0 := lt_of_block r1.out.1
    have s1 := lt_of_block r1.out.2.1
    have A2 := Lib.hid fun q : Regrown => A.out (bw w1 q) (strsIn_below H.out (r1.out.2.2.trans (Below.mono (below_bw w1 q) r1.out.2.2.size))) ((cell_bw w1 q _ 0 s0).trans (by simpa using k0 0)) ((cell_bw w1 q _ 1 s0).trans (by simpa using k0 1)) ((cell_bw w1 q _ 2 s0).trans (by simpa using k0 2))
    refine region_bw (by kernel_rfl) (by kernel_rfl) ?_
    repeat (go_big_quiet_step (first | (go_at_call 83; exact calls_bw (A2.out _)) | (go_at_call 82; exact calls_bw (IW.out _))))
    refine wpQuiet_nil ?_; intro wq hq; replace hq := below_of_bw hq; obtain ⟨qc, qf, qz⟩ := bcell hq
    have B9 := Lib.hid (r1.out.2.2.trans (Below.mono hq r1.out.2.2.size))
    clear hbw k0 k1 s0 s1 hq qc qf qz
    go_wp2
    go_ret2
    exact ⟨rfl, B9.out⟩
  · have d : (c == 0) = false := by simpa using h0
    have d2 : (c != 0) = true := by simp [h0]
    rw [drpV_no _ h0]
    clear hF hc
    go_enter Try.func32, Try.ntmps32
    go_wp2_with (go_at_call 81; refine Q.out.mono ?_; rintro e w1 ⟨rfl, hB⟩; have r2 := Lib.hid (rw_ab R.out hB); clear hB)
    go_ret2
    exact ⟨rfl, r2.out.2.2⟩
end Go.Proofs.Ytoippchkhknhpaa
