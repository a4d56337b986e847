/- Contracts: MixPart, the program's and the model's. -/
import Derived.Test.YtdohlcopamckjaaMPart
namespace Go.Proofs.Ytdohlcopamckjaa
open Go.ChangeShapes Go.WideShapes Go.ChangeAt Go.RowKit

def mixPR (t z : Int) (ok : Bool) : Value := .tuple #[.agg #[.int .u64 (if ok then mp0 t z else 0), .int .u64 (if ok then mp1 t z else 0)], .int .i64 (if ok then 0 else 1)]

set_option maxHeartbeats 1600000 in
theorem iMixPart_any (t z p : Int) (ht : I16 t) (hz : I16 z) (w : World) :
    Calls Try.prog 19 #[.agg #[.int .i16 t, .int .i16 z, .int .i16 p]] w fun e w' => e = .returned (mixPR t z (mixOk t z p)) ∧ Below w.heap.size w w' := by
  have V := Lib.hid fun W => iValidMix_any t z p ht hz W
  have hbs := block_alloc2 w (.cells #[.int .i16 t, .int .i16 z, .int .i16 p] 26) (.cells #[.int .u64 0, .int .u64 0] 31)
  have HB := Lib.hid hbs
  clear hbs ht hz
  cases h : mixOk t z p
  · rw [h] at V
    clear h
    go_enter Try.func19, Try.ntmps19
    go_wp2_with (go_at_call 17; refine (V.out _).mono ?_; rintro e w1 ⟨rfl, hB⟩; have k0 := cell_of_block (Ab.block hB HB.out.1); have k1 := cell_of_block (Ab.block hB HB.out.2); have k2 := free_of_block (Ab.block hB HB.out.2); have k3 : Below w.heap.size w w1 := (below_new (below_new (Below.refl _ _) _) _).trans (Below.mono hB (by simp; omega)))
    refine bodyPost_ret (by simp [results, Try.results19, go_sem, k1]; try rfl) rfl ?_
    exact ⟨rfl, (k3.setCell (by simp) _).setCell (by simp) _⟩
  · obtain ⟨t0, z0, tz, _⟩ := mix_inv h
    have P := Lib.hid fun W => iPart_any t z p t0 z0 tz W
    rw [h] at V
    clear h
    go_enter Try.func19, Try.ntmps19
    go_wp2_with (first | (go_at_call 17; refine (V.out _).mono ?_; rintro e w1 ⟨rfl, hB⟩; have k0 := cell_of_block (Ab.block hB HB.out.1); have k3 : Below w.heap.size w w1 := (below_new (below_new (Below.refl _ _) _) _).trans (Below.mono hB (by simp; omega)); have hb1 := Ab.block hB HB.out.2; have hb1 := Lib.hid hb1) | (go_at_call 61; refine (P.out _).mono ?_; rintro e w2 ⟨rfl, hB2⟩; have j1 := cell_of_block (Ab.block hB2 hb1.out); have j2 := free_of_block (Ab.block hB2 hb1.out); have j3 : Below w.heap.size w w2 := k3.trans (Below.mono hB2 k3.size)))
    refine bodyPost_ret (by simp [results, Try.results19, go_sem, j1]; try rfl) rfl ?_
    exact ⟨rfl, (j3.setCell (by simp) _).setCell (by simp) _⟩

set_option maxHeartbeats 1600000 in
theorem sMixPart_any (t z p : Int) (ht : I16 t) (hz : I16 z) (hp : I16 p) (w : World) :
    Calls Try.prog 18 #[.agg #[.int .i16 t, .int .i16 z, .int .i16 p]] w fun e w' => e = .returned (mixPR t z (mixOk t z p)) ∧ Below w.heap.size w w' := by
  have V := Lib.hid fun W c0 c1 c2 => sOkMix_any t z p ht hz hp w.heap.size 0 W c0 c1 c2
  have hbs := block_alloc2 w (.cells #[.int .i16 t, .int .i16 z, .int .i16 p] 26) (.cells #[.int .u64 0, .int .u64 0] 31)
  have HB := Lib.hid hbs
  clear hbs ht hz hp
  cases h : mixOk t z p
  · rw [h] at V
    clear h
    go_enter Try.func18, Try.ntmps18
    go_wp2_with (go_at_call 58; refine (V.out _ (by simp) (by simp) (by simp)).mono ?_; rintro e w1 ⟨rfl, hB⟩; have k0 := cell_of_block (Ab.block hB HB.out.1); have k1 := cell_of_block (Ab.block hB HB.out.2); have k2 := free_of_block (Ab.block hB HB.out.2); have k3 : Below w.heap.size w w1 := (below_new (below_new (Below.refl _ _) _) _).trans (Below.mono hB (by simp; omega)))
    refine bodyPost_ret (by simp [results, Try.results18, go_sem, k1]; try rfl) rfl ?_
    exact ⟨rfl, (k3.setCell (by simp) _).setCell (by simp) _⟩
  · obtain ⟨t0, z0, tz, _⟩ := mix_inv h
    obtain ⟨n, rfl⟩ := Int.eq_ofNat_of_zero_le (show 0 ≤ z by omega)
    have P := Lib.hid fun W c0 c1 => sMPart_any t n n rfl t0 tz w.heap.size 0 W c0 c1
    have e := part_is t n t0 (by omega) tz
    rw [e.1, e.2] at P
    clear e
    rw [h] at V
    clear h
    go_enter Try.func18, Try.ntmps18
    go_wp2_with (first | (go_at_call 58; refine (V.out _ (by simp) (by simp) (by simp)).mono ?_; rintro e w1 ⟨rfl, hB⟩; have k0 := cell_of_block (Ab.block hB HB.out.1); have k3 : Below w.heap.size w w1 := (below_new (below_new (Below.refl _ _) _) _).trans (Below.mono hB (by simp; omega)); have hb1 := Ab.block hB HB.out.2; have hb1 := Lib.hid hb1) | (go_at_call 60; refine (P.out _ (by simp [k0]) (by simp [k0])).mono ?_; rintro e w2 ⟨rfl, hB2⟩; have j1 := cell_of_block (Ab.block hB2 hb1.out); have j2 := free_of_block (Ab.block hB2 hb1.out); have j3 : Below w.heap.size w w2 := k3.trans (Below.mono hB2 k3.size)))
    refine bodyPost_ret (by simp [results, Try.results18, go_sem, j1]; try rfl) rfl ?_
    exact ⟨rfl, (j3.setCell (by simp) _).setCell (by simp) _⟩
end Go.Proofs.Ytdohlcopamckjaa
