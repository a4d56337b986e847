/- Contract: strconv.AppendInt of a number of at most two digits, onto bytes of the call's own. -/
import Derived.Test.YtpkpjkceiikakaaDoorShelf
import Derived.Test.YtpkpjkceiikakaaDoorDec
import Derived.Test.YtpkpjkceiikakaaDoorOBy
import Derived.Shelf.Strconv.Itoa4
import Derived.Deep.DeepCutAuto
namespace Go.Proofs.YtpkpjkceiikakaaDoor
open Go.ChangeShapes Go.WideShapes Go.ChangeAt Go.RowKit Go.Shelf

theorem info_by : (Tryd.prog.info? 5).map (fun i => (i.zero, i.size, i.bytes)) = some (some (.int .u8 0), 1, 1) := by kernel_rfl
theorem dec2_eqA {n : Nat} (h : n < 100) : (⟨(Lib.decDigits n).toArray⟩ : ByteArray) = dec2 n := by
  unfold dec2
  by_cases h1 : n < 10
  · rw [Lib.decDigits, dif_pos h1, if_pos h1]; rfl
  · rw [Lib.decDigits, dif_neg h1, if_neg h1, Lib.decDigits, dif_pos (by omega)]
    apply ByteArray.ext
    rw [ByteArray.data_append]
    rfl
theorem dec2_le {n : Nat} (_h : n < 100) : (dec2 n).size ≤ 2 := by
  unfold dec2
  split
  · exact (show 1 ≤ 2 by omega)
  · rw [ByteArray.size_append]; exact (show 1 + 1 ≤ 2 by omega)
theorem small_any (n : Nat) (hn : n < 100) (w : World) : Calls Tryd.prog 109 #[.int .i64 (n : Int)] w fun e w' => e = .returned (.string (dec2 n)) ∧ w' = w := by
  rw [← dec2_eqA hn]
  exact Any.internal_strconv_small Tryd.lays283 n hn w
/-- Bytes of the call's own are handed back. -/
def ByR (B : Nat) (bs : List UInt8) (v : Value) (w : World) (e : Ending) (w' : World) : Prop := ∃ v', e = .returned v' ∧ Grn B bs v w v' w'

set_option maxRecDepth 100000 in
set_option maxHeartbeats 1600000 in
theorem appU_any (B : Nat) (bs : List UInt8) (v : Value) (n : Nat) (hn : n < 100) (w : World) (hO : OwnG B bs v w) (hB : B ≤ w.heap.size) (hl : bs.length ≤ 100000) (h0 : 0 < bs.length) :
    Calls Tryd.prog 102 #[v, .int .u64 (n : Int), .int .i64 10] w (ByR B (bs ++ (dec2 n).data.toList) v w) := by
  obtain ⟨i0, hi, hz0, hz1, hz2⟩ := info_parts info_by
  have d1 : decide ((n : Int) < 100) = true := decide_eq_true (by omega)
  have x1 : IntKind.i64.wrap (n : Int) = (n : Int) := IntWalk.i64_in _ (by omega)
  have S := Lib.hid fun W => small_any n hn W
  have sz := dec2_le hn
  obtain ⟨g, cap, hv, h1⟩ := hO
  subst hv
  have OO := Lib.hid (show OwnG B bs (.slice (some ⟨g, 0, none⟩) bs.length cap) w from ⟨g, cap, rfl, h1⟩)
  clear h1
  go_enter Tryd.func102, Tryd.ntmps102
  go_wp2_with (first
    | (go_at_call 109; refine (S.out _).mono ?_; rintro e w1 ⟨rfl, hw⟩; subst hw)
    | (at_builtin; refine wp_pushS _ rfl _ _ 81 9 rfl 5 i0 Tryd.underlying81 Tryd.underlying9 hi hz0 hz1 hz2 B bs _ rfl OO.out hB hl h0 _ rfl (by omega) ?_; intro v2 w2 hO2; have O2 := Lib.hid hO2; clear hO2))
  go_ret
  exact ⟨_, rfl, O2.out⟩
set_option maxRecDepth 100000 in
set_option maxHeartbeats 1600000 in
theorem appI_any (B : Nat) (bs : List UInt8) (v : Value) (n : Nat) (hn : n < 100) (w : World) (hO : OwnG B bs v w) (hB : B ≤ w.heap.size) (hl : bs.length ≤ 100000) (h0 : 0 < bs.length) :
    Calls Tryd.prog 50 #[v, .int .i64 (n : Int), .int .i64 10] w (ByR B (bs ++ (dec2 n).data.toList) v w) := by
  have d1 : decide ((n : Int) < 0) = false := decide_eq_false (by omega)
  have x1 : IntKind.u64.wrap (n : Int) = (n : Int) := IntWalk.u64_in _ (by omega)
  have U := Lib.hid (appU_any B bs v n hn w hO hB hl h0)
  obtain ⟨g, cap, hv, h1⟩ := hO
  subst hv
  clear h1
  have I : Hid (Calls Tryd.prog 79 #[.slice (some ⟨g, 0, none⟩) bs.length cap, .int .i64 (n : Int), .int .i64 10] w (ByR B (bs ++ (dec2 n).data.toList) (.slice (some ⟨g, 0, none⟩) bs.length cap) w)) := by
    refine Lib.hid ?_
    go_enter Tryd.func79, Tryd.ntmps79
    go_wp2_with (go_at_call 102; refine U.out.mono ?_; rintro e w1 ⟨v1, rfl, hO1⟩; have O1 := Lib.hid hO1; clear hO1)
    go_ret
    exact ⟨_, rfl, O1.out⟩
  go_enter Tryd.func50, Tryd.ntmps50
  go_wp2_with (go_at_call 79; refine I.out.mono ?_; rintro e w1 ⟨v1, rfl, hO1⟩; have O1 := Lib.hid hO1; clear hO1)
  go_ret
  exact ⟨_, rfl, O1.out⟩
end Go.Proofs.YtpkpjkceiikakaaDoor
