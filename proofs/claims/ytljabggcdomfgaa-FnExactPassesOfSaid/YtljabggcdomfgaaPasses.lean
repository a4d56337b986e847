/- Contracts: how many passes a query takes. -/
import Derived.Test.YtljabggcdomfgaaQuery
import Derived.Test.YtljabggcdomfgaaCount
namespace Go.Proofs.Ytljabggcdomfgaa
open Go.ChangeShapes Go.WideShapes Go.ChangeAt Go.RowKit

/-- How many passes, and which answer is due. -/
def pasV (a b c d : Nat) : Int := if qOk a b c d then ((cnt a b : Int) + (cnt c d : Int)) else 0
def pasC (a b c d : Nat) : Int := if qOk a b c d then 0 else 1
theorem pas_no {a b c d : Nat} (h : qOk a b c d = false) : pasV a b c d = 0 ∧ pasC a b c d = 1 := by unfold pasV pasC; rw [h]; exact ⟨rfl, rfl⟩
theorem pas_yes {a b c d : Nat} (h : qOk a b c d = true) : pasV a b c d = (cnt a b : Int) + (cnt c d : Int) ∧ pasC a b c d = 0 := by unfold pasV pasC; rw [h]; exact ⟨rfl, rfl⟩
theorem ret_pas {x y c d : Int} (h : y = x ∧ d = c) : Ending.returned (.tuple #[.int .i64 x, .int .i64 c]) = Ending.returned (.tuple #[.int .i64 y, .int .i64 d]) := by rw [h.1, h.2]

set_option maxHeartbeats 1600000 in
theorem iPasses_any (a b c d : Nat) (ha : a < 18446744073709551616) (hb : b < 18446744073709551616) (hc : c < 18446744073709551616) (hd : d < 18446744073709551616) (w : World) :
    Calls Try.prog 40 #[.agg #[.int .u64 (a : Int), .int .u64 (b : Int), .int .u64 (c : Int), .int .u64 (d : Int)]] w fun e w' => e = .returned (.tuple #[.int .i64 (pasV a b c d), .int .i64 (pasC a b c d)]) ∧ Below w.heap.size w w' := by
  have X := Lib.hid fun W => iCount_any a b ha hb W
  have Y := Lib.hid fun W => iCount_any c d hc hd W
  have V := Lib.hid fun W => iQOk_any (a : Int) (b : Int) (c : Int) (d : Int) W
  have p1 := cnt_le a b
  have p2 := cnt_le c d
  have s1 : IntKind.i64.wrap ((cnt a b : Int) + (cnt c d : Int)) = (cnt a b : Int) + (cnt c d : Int) := IntWalk.i64_in _ (by omega)
  have hbw := cell_bw
  clear ha hb hc hd
  cases q : qOk a b c d
  · have f := Lib.hid (pas_no q)
    rw [q] at V
    clear q
    go_enter Try.func40, Try.ntmps40
    go_wp2_with (go_at_call 33; refine (V.out _).mono ?_; rintro e w1 ⟨rfl, hB⟩; obtain ⟨hc, hf, hz⟩ := bcell hB)
    go_ret2
    exact ⟨ret_pas f.out, (by repeat' (first | (with_reducible exact Below.refl _ _) | (with_reducible assumption) | (with_reducible refine below_drewN ?_ _) | (with_reducible refine Below.drew ?_) | (with_reducible refine below_new ?_ _) | (with_reducible refine below_next ?_ (by with_reducible assumption)) | (with_reducible refine Below.setCell ?_ ?_ _) | go_size))⟩
  · have f := Lib.hid (pas_yes q)
    rw [q] at V
    clear q
    go_enter Try.func40, Try.ntmps40
    go_wp2_with (go_at_call 33; refine (V.out _).mono ?_; rintro e w1 ⟨rfl, hB⟩; obtain ⟨hc, hf, hz⟩ := bcell hB; have z0 : w.heap.size < w1.heap.size := hz _ (by first | omega | (simp; done) | (simp; omega)))
    refine region_bw (by kernel_rfl) (by kernel_rfl) ?_
    repeat (go_big_quiet_step (first | (go_at_call_of 53 (Value.int IntKind.u64 (a : Int)); exact calls_bw (X.out _)) | (go_at_call_of 53 (Value.int IntKind.u64 (c : Int)); exact calls_bw (Y.out _))))
    refine wpQuiet_nil ?_; intro wq hq; replace hq := below_of_bw hq; obtain ⟨qc, qf, qz⟩ := bcell hq
    go_wp2
    go_ret2
    exact ⟨ret_pas f.out, (by repeat' (first | (with_reducible exact Below.refl _ _) | (with_reducible assumption) | (with_reducible refine below_drewN ?_ _) | (with_reducible refine Below.drew ?_) | (with_reducible refine below_new ?_ _) | (with_reducible refine below_next ?_ (by with_reducible assumption)) | (with_reducible refine Below.setCell ?_ ?_ _) | go_size))⟩

set_option maxHeartbeats 1600000 in
theorem sPasses_any (a b c d : Nat) (ha : a < 18446744073709551616) (hb : b < 18446744073709551616) (hc : c < 18446744073709551616) (hd : d < 18446744073709551616) (w : World) :
    Calls Try.prog 39 #[.agg #[.int .u64 (a : Int), .int .u64 (b : Int), .int .u64 (c : Int), .int .u64 (d : Int)]] w fun e w' => e = .returned (.tuple #[.int .i64 (pasV a b c d), .int .i64 (pasC a b c d)]) ∧ Below w.heap.size w w' := by
  have X := Lib.hid fun W => sCount_any a b ha hb W
  have Y := Lib.hid fun W => sCount_any c d hc hd W
  have V := Lib.hid fun W h0 h1 h2 h3 => sQOk_any (a : Int) (b : Int) (c : Int) (d : Int) w.heap.size 0 W h0 h1 h2 h3
  have p1 := cnt_le a b
  have p2 := cnt_le c d
  have s1 : IntKind.i64.wrap ((cnt a b : Int) + (cnt c d : Int)) = (cnt a b : Int) + (cnt c d : Int) := IntWalk.i64_in _ (by omega)
  have hbw := cell_bw
  clear ha hb hc hd
  cases q : qOk a b c d
  · have f := Lib.hid (pas_no q)
    rw [q] at V
    clear q
    go_enter Try.func39, Try.ntmps39
    go_wp2_with (go_at_call 76; refine (V.out _ (by simp) (by simp) (by simp) (by simp)).mono ?_; rintro e w1 ⟨rfl, hB⟩; obtain ⟨hc, hf, hz⟩ := bcell hB)
    go_ret2
    exact ⟨ret_pas f.out, (by repeat' (first | (with_reducible exact Below.refl _ _) | (with_reducible assumption) | (with_reducible refine below_drewN ?_ _) | (with_reducible refine Below.drew ?_) | (with_reducible refine below_new ?_ _) | (with_reducible refine below_next ?_ (by with_reducible assumption)) | (with_reducible refine Below.setCell ?_ ?_ _) | go_size))⟩
  · have f := Lib.hid (pas_yes q)
    rw [q] at V
    clear q
    go_enter Try.func39, Try.ntmps39
    go_wp2_with (go_at_call 76; refine (V.out _ (by simp) (by simp) (by simp) (by simp)).mono ?_; rintro e w1 ⟨rfl, hB⟩; obtain ⟨hc, hf, hz⟩ := bcell hB; have z0 : w.heap.size < w1.heap.size := hz _ (by first | omega | (simp; done) | (simp; omega)))
    refine region_bw (by kernel_rfl) (by kernel_rfl) ?_
    repeat (go_big_quiet_step (first | (go_at_call_of 80 (Value.int IntKind.u64 (a : Int)); exact calls_bw (X.out _)) | (go_at_call_of 80 (Value.int IntKind.u64 (c : Int)); exact calls_bw (Y.out _))))
    refine wpQuiet_nil ?_; intro wq hq; replace hq := below_of_bw hq; obtain ⟨qc, qf, qz⟩ := bcell hq
    go_wp2
    go_ret2
    exact ⟨ret_pas f.out, (by repeat' (first | (with_reducible exact Below.refl _ _) | (with_reducible assumption) | (with_reducible refine below_drewN ?_ _) | (with_reducible refine Below.drew ?_) | (with_reducible refine below_new ?_ _) | (with_reducible refine below_next ?_ (by with_reducible assumption)) | (with_reducible refine Below.setCell ?_ ?_ _) | go_size))⟩
end Go.Proofs.Ytljabggcdomfgaa
