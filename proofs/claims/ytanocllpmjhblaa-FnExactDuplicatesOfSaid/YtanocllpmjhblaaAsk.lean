/- Contracts: which answer is due to a mix, masks and words, as the model says. -/
import Derived.Test.YtanocllpmjhblaaAll
import Derived.Test.YtanocllpmjhblaaVMix
namespace Go.Proofs.Ytanocllpmjhblaa
open Go.ChangeShapes Go.WideShapes Go.ChangeAt Go.RowKit

def mOk (b : Int) : Bool := b / 4294967296 == 0
theorem iMaskOk_any (a b : Int) (w : World) : Calls Try.prog 91 #[.agg #[.int .u64 a, .int .u64 b]] w fun e w' => e = .returned (.bool (mOk b)) ∧ Below w.heap.size w w' := by
  go_enter Try.func91, Try.ntmps91
  go_wp2
  go_returns
  exact ⟨rfl, (by repeat' (first | (with_reducible exact Below.refl _ _) | (with_reducible assumption) | (with_reducible refine below_drewN ?_ _) | (with_reducible refine Below.drew ?_) | (with_reducible refine below_new ?_ _) | (with_reducible refine below_next ?_ (by with_reducible assumption)) | (with_reducible refine Below.setCell ?_ ?_ _) | go_size))⟩
theorem sL01Mask_any (a b : Int) (w : World) : Calls Try.prog 94 #[.agg #[.int .u64 a, .int .u64 b]] w fun e w' => e = .returned (.bool (mOk b)) ∧ Below w.heap.size w w' := by
  go_enter Try.func94, Try.ntmps94
  go_wp2
  go_returns
  exact ⟨rfl, (by repeat' (first | (with_reducible exact Below.refl _ _) | (with_reducible assumption) | (with_reducible refine below_drewN ?_ _) | (with_reducible refine Below.drew ?_) | (with_reducible refine below_new ?_ _) | (with_reducible refine below_next ?_ (by with_reducible assumption)) | (with_reducible refine Below.setCell ?_ ?_ _) | go_size))⟩
theorem sMaskOk_any (a b : Int) (w : World) : Calls Try.prog 100 #[.agg #[.int .u64 a, .int .u64 b]] w fun e w' => e = .returned (.bool (mOk b)) ∧ Below w.heap.size w w' := by
  go_enter Try.func100, Try.ntmps100
  go_wp2_with (go_at_call 94; refine (sL01Mask_any _ _ _).mono ?_; rintro e w1 ⟨rfl, hB⟩; obtain ⟨hc, hf, hz⟩ := bcell hB)
  go_returns
  exact ⟨rfl, (by repeat' (first | (with_reducible exact Below.refl _ _) | (with_reducible assumption) | (with_reducible refine below_drewN ?_ _) | (with_reducible refine Below.drew ?_) | (with_reducible refine below_new ?_ _) | (with_reducible refine below_next ?_ (by with_reducible assumption)) | (with_reducible refine Below.setCell ?_ ?_ _) | go_size))⟩

/-- The masks of a slice lie in memory. -/
def MasksIn (w : World) (a : Option Addr) (ms : List (Int × Int)) : Prop := ∀ i, i < ms.length → ∃ b off, a = some ⟨b, off, none⟩ ∧ b < w.heap.size ∧ w.cell? ⟨b, off + i * 2, none⟩ = some (.int .u64 (ms.getD i (0, 0)).1) ∧ w.cell? ⟨b, off + i * 2 + 1, none⟩ = some (.int .u64 (ms.getD i (0, 0)).2)
theorem masksIn_below {w w' : World} {a : Option Addr} {ms : List (Int × Int)} (h : MasksIn w a ms) (hb : Below w.heap.size w w') : MasksIn w' a ms := fun i hi => by
  obtain ⟨b, off, ha, hlt, hc, hd⟩ := h i hi
  exact ⟨b, off, ha, Nat.lt_of_lt_of_le hlt hb.size, (hb.cell hlt).trans hc, (hb.cell hlt).trans hd⟩
def masksOk (ms : List (Int × Int)) : Bool := ms.all fun m => mOk m.2
def MasksTo (ms : List (Int × Int)) (k : Nat) : Prop := ∀ j, j < k → mOk (ms.getD j (0, 0)).2 = true
theorem masks_bad {ms : List (Int × Int)} {k : Nat} (hk : k < ms.length) (h : mOk (ms.getD k (0, 0)).2 = false) : masksOk ms = false := by
  unfold masksOk
  rw [List.all_eq_false]
  refine ⟨ms[k], List.getElem_mem hk, ?_⟩
  have : ms.getD k (0, 0) = ms[k] := by simp [List.getD, hk]
  rw [← this, h]; simp
theorem masks_yes {ms : List (Int × Int)} (hw : MasksTo ms ms.length) : masksOk ms = true := by
  unfold masksOk
  rw [List.all_eq_true]
  intro x hx
  obtain ⟨j, hj, rfl⟩ := List.mem_iff_getElem.1 hx
  have := hw j hj
  rwa [show ms.getD j (0, 0) = ms[j] from by simp [List.getD, hj]] at this
theorem masksTo_next {ms : List (Int × Int)} {k : Nat} (h : MasksTo ms k) (hk : mOk (ms.getD k (0, 0)).2 = true) : MasksTo ms (k + 1) := fun j hj => by
  by_cases e : j = k
  · subst e; exact hk
  · exact h j (by omega)

def askC (ok : Bool) (ms : List (Int × Int)) (zs : List ByteArray) (m : Nat) : Int := if ok then (if masksOk ms then (if ms.length ≤ 60 then wordsC zs m else 2) else 1) else 1
theorem ask_1 (ms : List (Int × Int)) (zs : List ByteArray) (m : Nat) : askC false ms zs m = 1 := rfl
theorem ask_2 {ms : List (Int × Int)} (zs : List ByteArray) (m : Nat) (h : masksOk ms = false) : askC true ms zs m = 1 := by unfold askC; rw [h]; rfl
theorem ask_3 {ms : List (Int × Int)} (zs : List ByteArray) (m : Nat) (h : masksOk ms = true) (hl : 60 < ms.length) : askC true ms zs m = 2 := by unfold askC; rw [h, if_pos rfl, if_pos rfl, if_neg (by omega)]
theorem ask_4 {ms : List (Int × Int)} (zs : List ByteArray) (m : Nat) (h : masksOk ms = true) (hl : ms.length ≤ 60) : askC true ms zs m = wordsC zs m := by unfold askC; rw [h, if_pos rfl, if_pos rfl, if_pos hl]

set_option maxHeartbeats 1600000 in
theorem sAsk_any (t z p : Int) (ht : I16 t) (hz : I16 z) (hp : I16 p) (g o : Nat) (a1 a2 : Option Addr) (ms : List (Int × Int)) (zs : List ByteArray) (c1 c2 m : Nat) (w : World) (k0 : w.cell? ⟨g, o, none⟩ = some (.int .i16 t)) (k1 : w.cell? ⟨g, o + 1, none⟩ = some (.int .i16 z)) (k2 : w.cell? ⟨g, o + 2, none⟩ = some (.int .i16 p))
    (hM : MasksIn w a1 ms) (hS : StrsIn w a2 zs) (hF : Fit zs) (hl1 : ms.length ≤ 9223372036854775807) (hl2 : zs.length ≤ 9223372036854775807) :
    Calls Try.prog 52 #[.pointer (some ⟨g, o, none⟩), .slice a1 ms.length c1, .slice a2 zs.length c2, .int .i64 m] w fun e w' => e = .returned (.int .i64 (askC (mixOk t z p) ms zs m)) ∧ Below w.heap.size w w' := by
  have V := Lib.hid (sOkMix_any t z p ht hz hp g o w k0 k1 k2)
  have HM := Lib.hid hM
  have HS := Lib.hid fun W hb => sWords_any a2 zs c2 m W (strsIn_below hS hb) hF hl2
  clear k0 k1 k2 hM hS hF ht hz hp
  cases h : mixOk t z p
  · rw [h] at V
    clear h
    go_enter Try.func52, Try.ntmps52
    go_wp2_with (go_at_call 99; refine V.out.mono ?_; rintro e w1 ⟨rfl, hB⟩)
    go_returns
    exact ⟨rfl, hB⟩
  · rw [h] at V
    clear h
    go_enter Try.func52, Try.ntmps52
    go_wp2_with (go_at_call 99; refine V.out.mono ?_; rintro e w1 ⟨rfl, hB⟩)
    clear V
    go_loopw [9] (fun i wr => ∃ k : Nat, k ≤ ms.length ∧ i = .int .i64 (k : Int) ∧ MasksTo ms k ∧ Below w.heap.size w wr) (fun i _ => ms.length - (intOf i).toNat)
    case atStart => exact ⟨0, Nat.zero_le _, rfl, fun j hj => absurd hj (Nat.not_lt_zero _), hB⟩
    case round =>
      obtain ⟨k, hk, rfl, hg, hBr⟩ := hrel
      have hg := Lib.hid hg
      have BR := Lib.hid hBr
      clear hB
      by_cases hlt : k < ms.length
      · have d2 : decide ((k : Int) < (ms.length : Int)) = true := by simpa using hlt
        obtain ⟨b, off, rfl, hb, hc0, hc1⟩ := HM.out k hlt
        have x0 := (hBr.cell (p := ⟨b, off + k * 2, none⟩) hb).trans hc0
        have x1 := (hBr.cell (p := ⟨b, off + k * 2 + 1, none⟩) hb).trans hc1
        clear hc0 hc1 hBr
        have W := fun W => sMaskOk_any (ms.getD k (0, 0)).1 (ms.getD k (0, 0)).2 W
        cases hn : mOk (ms.getD k (0, 0)).2
        · have f := Lib.hid (ask_2 zs m (masks_bad hlt hn))
          rw [hn] at W
          have W := Lib.hid W
          clear hn
          generalize (ms.getD k (0, 0)).1 = x at *
          generalize (ms.getD k (0, 0)).2 = y at *
          go_wp2_with (go_at_call 100; refine (W.out _).mono ?_; rintro e w2 ⟨rfl, hB2⟩)
          go_returns
          exact ⟨ret_i64 f.out, BR.out.trans (Below.mono hB2 BR.out.size)⟩
        · have f := Lib.hid (masksTo_next hg.out hn)
          rw [hn] at W
          have W := Lib.hid W
          clear hn
          generalize (ms.getD k (0, 0)).1 = x at *
          generalize (ms.getD k (0, 0)).2 = y at *
          go_wp2_with (go_at_call 100; refine (W.out _).mono ?_; rintro e w2 ⟨rfl, hB2⟩)
          go_roundw
          case rel => exact ⟨k + 1, by omega, by go_num, f.out, BR.out.trans (Below.mono hB2 BR.out.size)⟩
          case measure => simp [intOf]; omega
      · obtain rfl : k = ms.length := by omega
        have d2 : decide ((ms.length : Int) < (ms.length : Int)) = false := by simp
        have mok := masks_yes hg.out
        by_cases hl : 60 < ms.length
        · have f := Lib.hid (ask_3 zs m mok hl)
          have d3 : decide ((60 : Int) < (ms.length : Int)) = true := by simp; omega
          clear mok hBr
          go_wp2
          go_returns
          exact ⟨ret_i64 f.out, BR.out⟩
        · have f := Lib.hid (ask_4 zs m mok (by omega))
          have d3 : decide ((60 : Int) < (ms.length : Int)) = false := by simp; omega
          have S := Lib.hid (HS.out wr hBr)
          clear mok hBr
          go_wp2_with (go_at_call 101; refine S.out.mono ?_; rintro e w3 ⟨rfl, rfl⟩)
          go_returns
          exact ⟨ret_i64 f.out, BR.out⟩
end Go.Proofs.Ytanocllpmjhblaa
