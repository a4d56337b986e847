/- Contracts: the holes that words have together, the program's and the model's. -/
import Derived.Test.YtanocllpmjhblaaSHol
import Derived.Test.YtanocllpmjhblaaWords
namespace Go.Proofs.Ytanocllpmjhblaa
open Go.ChangeShapes Go.WideShapes Go.ChangeAt Go.RowKit

def hw0 (t z : Int) (F : Int → Nat) (s : ByteArray) : Nat := N0 t z (ck s s.size) (F (ck s s.size))
def hw1 (t z : Int) (F : Int → Nat) (s : ByteArray) : Nat := N1 t z (ck s s.size) (F (ck s s.size))
def A0 (t z : Int) (F : Int → Nat) (zs : List ByteArray) : Nat → Nat
  | 0 => 0
  | k + 1 => A0 t z F zs k ||| hw0 t z F (zs.getD k ⟨#[]⟩)
def A1 (t z : Int) (F : Int → Nat) (zs : List ByteArray) : Nat → Nat
  | 0 => 0
  | k + 1 => A1 t z F zs k ||| hw1 t z F (zs.getD k ⟨#[]⟩)
theorem hw_lt {t z : Int} (F : Int → Nat) (s : ByteArray) (ht : 0 ≤ t) (hz : 0 < z) (htz : t + z ≤ 96) : hw0 t z F s < 2 ^ 64 ∧ hw1 t z F s < 2 ^ 64 := N_lt ht hz htz _
theorem A_lt {t z : Int} (F : Int → Nat) (zs : List ByteArray) (ht : 0 ≤ t) (hz : 0 < z) (htz : t + z ≤ 96) : ∀ k, A0 t z F zs k < 2 ^ 64 ∧ A1 t z F zs k < 2 ^ 64
  | 0 => ⟨by show 0 < 2 ^ 64; decide, by show 0 < 2 ^ 64; decide⟩
  | k + 1 => by
    obtain ⟨a1, a2⟩ := A_lt F zs ht hz htz k
    obtain ⟨c1, c2⟩ := hw_lt F (zs.getD k ⟨#[]⟩) ht hz htz
    exact ⟨Nat.or_lt_two_pow a1 c1, Nat.or_lt_two_pow a2 c2⟩

theorem prR_set {w wr : World} {x y : Int} (h : PrR w wr x y) (u v : Int) : PrR w ((wr.setCell ⟨w.heap.size + 1, 0, none⟩ (.int .u64 u)).setCell ⟨w.heap.size + 1, 1, none⟩ (.int .u64 v)) u v := by
  have a := block_setCell (j := 1) (.int .u64 v) (block_setCell (j := 0) (.int .u64 u) h.2.1)
  refine ⟨?_, a, (h.2.2.setCell (by simp) _).setCell (by simp) _⟩
  rw [Below.heap_setCell _ _ _ _ (by simp), Below.heap_setCell _ _ _ _ (by simp)]; exact h.1

theorem iHofW (t z p : Int) (F : Int → Nat) (hF : StopF t z p F) (t0 : 0 ≤ t) (z0 : 4 ≤ z) (tz : t + z ≤ 96) (p1 : 1 ≤ p) (p8 : p ≤ 8) (s : ByteArray) (w : World) :
    Calls Try.prog 108 #[.agg #[.int .i16 t, .int .i16 z, .int .i16 p], .int .u32 (ck s s.size)] w fun e w' => e = .returned (.agg #[.int .u64 (hw0 t z F s : Int), .int .u64 (hw1 t z F s : Int)]) ∧ Below w.heap.size w w' :=
  iHofC_any t z p _ t0 z0 tz p1 p8 (ck_in s _).1 (ck_in s _).2 _ (hF _ (ck_in s _).1 (ck_in s _).2) w

set_option maxHeartbeats 1600000 in
theorem iAll_any (t z p : Int) (F : Int → Nat) (hF : StopF t z p F) (t0 : 0 ≤ t) (z0 : 4 ≤ z) (tz : t + z ≤ 96) (p1 : 1 ≤ p) (p8 : p ≤ 8) (a : Option Addr) (zs : List ByteArray) (cap : Nat) (w : World) (h : StrsIn w a zs) (hf : Fit zs) (hl : zs.length ≤ 9223372036854775807) :
    Calls Try.prog 56 #[.agg #[.int .i16 t, .int .i16 z, .int .i16 p], .slice a zs.length cap] w fun e w' => e = .returned (.agg #[.int .u64 (A0 t z F zs zs.length : Int), .int .u64 (A1 t z F zs zs.length : Int)]) ∧ Below w.heap.size w w' := by
  have H := Lib.hid h
  have FT := Lib.hid hf
  have HC := Lib.hid fun s W => iHofW t z p F hF t0 z0 tz p1 p8 s W
  have LA := Lib.hid (A_lt F zs t0 (show 0 < z by omega) tz)
  have LW := Lib.hid fun s => hw_lt F s t0 (show 0 < z by omega) tz
  clear h hf hF
  have hbw := cell_bw
  go_enter Try.func56, Try.ntmps56
  go_wp2
  go_loopw [10] (fun i wr => ∃ k : Nat, k ≤ zs.length ∧ i = .int .i64 (k : Int) ∧ McR w wr t z p (A0 t z F zs k) (A1 t z F zs k)) (fun i _ => zs.length - (intOf i).toNat)
  case atStart => exact ⟨0, Nat.zero_le _, rfl, (block_alloc3 _ _ _ _).1, (block_alloc3 _ _ _ _).2.1, (block_alloc3 _ _ _ _).2.2, (by repeat' (first | (with_reducible exact Below.refl _ _) | (with_reducible assumption) | (with_reducible refine below_drewN ?_ _) | (with_reducible refine Below.drew ?_) | (with_reducible refine below_new ?_ _) | (with_reducible refine below_next ?_ (by with_reducible assumption)) | (with_reducible refine Below.setCell ?_ ?_ _) | go_size))⟩
  case round =>
    obtain ⟨k, hk, rfl, hM⟩ := hrel
    have M := Lib.hid hM
    obtain ⟨m0, m1, m2, m3⟩ := hM
    by_cases hlt : k < zs.length
    · have d2 : decide ((k : Int) < (zs.length : Int)) = true := by simpa using hlt
      obtain ⟨b, off, rfl, hb, hc0⟩ := H.out k hlt
      have hc := (m3.cell (p := ⟨b, off + k, none⟩) hb).trans hc0
      have e0 := Lib.hid (show A0 t z F zs (k + 1) = A0 t z F zs k ||| hw0 t z F (zs.getD k ⟨#[]⟩) from rfl)
      have e1 := Lib.hid (show A1 t z F zs (k + 1) = A1 t z F zs k ||| hw1 t z F (zs.getD k ⟨#[]⟩) from rfl)
      obtain ⟨l0, l1⟩ := LA.out k
      obtain ⟨u0, u1⟩ := LW.out (zs.getD k ⟨#[]⟩)
      have K := Lib.hid (iCheck_any (zs.getD k ⟨#[]⟩) (FT.out k hlt))
      have C := Lib.hid (HC.out (zs.getD k ⟨#[]⟩))
      have J := Lib.hid fun W => iJoinN (A0 t z F zs k) (A1 t z F zs k) (hw0 t z F (zs.getD k ⟨#[]⟩)) (hw1 t z F (zs.getD k ⟨#[]⟩)) l0 l1 u0 u1 W
      clear m1 m3 hc0 l0 l1 u0 u1
      generalize A0 t z F zs k = X at *
      generalize A1 t z F zs k = Y at *
      generalize hw0 t z F (zs.getD k ⟨#[]⟩) = U at *
      generalize hw1 t z F (zs.getD k ⟨#[]⟩) = V at *
      generalize zs.getD k ⟨#[]⟩ = s at *
      generalize ck s s.size = q at *
      have P0 := Lib.hid m0
      have P2 := Lib.hid m2
      clear m0 m2
      go_upto_region 5 with fail
      refine wp_region_last 6 (by kernel_rfl) rfl rfl (by kernel_rfl) (by kernel_rfl) rfl ?_
      simp only [List.take_succ_cons, List.take_zero]
      intro w1 h1
      have c0 := cell_of_block (h1.block P0.out)
      have c2 := cell_of_block (h1.block P2.out)
      have s0 := lt_of_block (h1.block P0.out)
      have s2 := lt_of_block (h1.block P2.out)
      repeat (go_big_quiet_step (first | (go_at_call 109; exact calls_bw_same (K.out _)) | (go_at_call 108; exact calls_all C.out) | (go_at_call 107; exact calls_all J.out)))
      refine wpQuiet_nil ?_
      intro w3 h3
      have M3 := Lib.hid (mcR_ab M.out h3)
      have f0 := cell_of_block (h3.block P2.out)
      have f1 := free_of_block (h3.block P2.out)
      go_simp
      simp only [Yld]
      go_wp2
      go_roundw
      case rel => exact ⟨k + 1, hlt, by go_num, by rw [e0.out, e1.out]; exact mcR_set M3.out _ _⟩
      case measure => simp [intOf]; omega
    · obtain rfl : k = zs.length := by omega
      have d2 : decide ((zs.length : Int) < (zs.length : Int)) = false := by simp
      have c1 := cell_of_block m1
      have f1 := free_of_block m1
      have c2 := cell_of_block m2
      clear m0 m1 m2 m3 hbw
      generalize hX : A0 t z F zs zs.length = X at *
      generalize hY : A1 t z F zs zs.length = Y at *
      go_wp2
      refine bodyPost_ret (by simp [results, Try.results56, go_sem, c1]; try rfl) rfl ?_
      exact ⟨by rw [hX, hY], (M.out.2.2.2.setCell (by simp) _).setCell (by simp) _⟩

end Go.Proofs.Ytanocllpmjhblaa
