/- Contracts: the holes of a mask as a list, the program's loops. -/
import Derived.Test.YtpkpjkceiikakaaGreatDoorHoles
import Derived.Test.YtpkpjkceiikakaaGreatDoorCount
import Derived.Test.YtpkpjkceiikakaaGreatDoorBoxes
import Derived.Deep.DeepCutAuto
namespace Go.Proofs.YtpkpjkceiikakaaGreatDoor
open Go.ChangeShapes Go.WideShapes Go.ChangeAt Go.RowKit

theorem and_one (x : Int) (h : U64 x) : bits .and .u64 x 1 = x % 2 := by
  rw [Go.u64_and x 1 h.1 h.2 (by decide) (by decide)]
  obtain ⟨n, rfl⟩ := Int.eq_ofNat_of_zero_le h.1
  simp only [Int.toNat_natCast]
  rw [show (1 : Int).toNat = 1 from rfl, Nat.and_one_is_mod]; omega
theorem u64_div (x : Int) (h : U64 x) (k : Nat) : U64 (x / 2 ^ k) := by
  have hp : (0 : Int) < 2 ^ k := Int.pow_pos (by decide)
  refine ⟨Int.ediv_nonneg h.1 (by omega), ?_⟩
  have := Int.ediv_le_self (2 ^ k) h.1
  have := h.2
  omega
theorem has_lo (a b : Int) (k : Nat) (h : k < 64) : hasB a b (k : Int) = (a / 2 ^ k % 2 == 1) := by
  unfold hasB; rw [if_pos (by omega)]; simp
theorem has_hi (a b : Int) (k : Nat) : hasB a b ((64 + k : Nat) : Int) = (b / 2 ^ k % 2 == 1) := by
  unfold hasB; rw [if_neg (by omega), show (((64 + k : Nat) : Int) - 64).toNat = k from by omega]
/-- Nothing above. -/
theorem div_zero_up (x : Int) (h0 : 0 ≤ x) (k i : Nat) (hk : x / 2 ^ k = 0) (hi : k ≤ i) : x / 2 ^ i = 0 := by
  have hp : (0 : Int) < 2 ^ k := Int.pow_pos (by decide)
  have h1 : x < 2 ^ k := by
    have e := Int.mul_ediv_add_emod x (2 ^ k)
    rw [hk, Int.mul_zero, Int.zero_add] at e
    have := Int.emod_lt_of_pos x hp
    omega
  have h2 : (2 : Int) ^ k ≤ 2 ^ i := by exact_mod_cast Nat.pow_le_pow_right (by decide) hi
  exact Int.ediv_eq_zero_of_lt h0 (by omega)
theorem hol_flat (f : Int → Bool) (k : Nat) : ∀ n, (∀ i, k ≤ i → i < k + n → f (i : Int) = false) → hol f (k + n) = hol f k
  | 0, _ => rfl
  | n + 1, h => by
    rw [← Nat.add_assoc, hol_no (h (k + n) (by omega) (by omega))]
    exact hol_flat f k n (fun i h1 h2 => h i h1 (by omega))
theorem lo_end (a b : Int) (ha : U64 a) (k : Nat) (hk : k ≤ 64) (h : a / 2 ^ k = 0) : hol (hasB a b) 64 = hol (hasB a b) k := by
  have := hol_flat (hasB a b) k (64 - k) (fun i h1 h2 => by rw [has_lo a b i (by omega), div_zero_up a ha.1 k i h h1]; rfl)
  rwa [show k + (64 - k) = 64 from by omega] at this
theorem hi_end (a b : Int) (hb : U64 b) (k : Nat) (hk : k ≤ 32) (h : b / 2 ^ k = 0) : hol (hasB a b) 96 = hol (hasB a b) (64 + k) := by
  have := hol_flat (hasB a b) (64 + k) (32 - k) (fun i h1 h2 => by
    obtain ⟨j, rfl⟩ : ∃ j, i = 64 + j := ⟨i - 64, by omega⟩
    rw [has_hi a b j, div_zero_up b hb.1 k j h (by omega)]; rfl)
  rwa [show 64 + k + (32 - k) = 96 from by omega] at this
theorem div_max (x : Int) (h : 0 ≤ x) (k : Nat) (hx : x < 2 ^ k) : x / 2 ^ k = 0 := Int.ediv_eq_zero_of_lt h hx

set_option maxRecDepth 100000 in
set_option maxHeartbeats 1600000 in
theorem iHoles_ok (a b : Nat) (ha : a < 18446744073709551616) (hb : b < 4294967296) (w : World) :
    Calls Tryz.prog 54 #[.agg #[.int .u64 (a : Int), .int .u64 (b : Int)]] w fun e w' => ∃ v, e = .returned (.tuple #[v, .int .i64 0]) ∧ OwnInts w.heap.size (hol (hasB a b) 96) v w' ∧ Below w.heap.size w w' := by
  obtain ⟨i0, hi, hz0, hz1, hz2⟩ := info_parts info_i64
  have C := Lib.hid fun W => iCount_any a b ha (by omega) W
  have cl := cnt_le a b
  have hv : (((b : Int)) / 4294967296 == 0) = true := by simp; omega
  have A := Lib.hid ha
  have B := Lib.hid hb
  clear ha hb
  go_enter Tryz.func54, Tryz.ntmps54
  go_wp2_with fail
  go_step3
  go_wp2_with (first
    | (go_at_call 87; refine (C.out _).mono ?_; rintro e w1 ⟨rfl, hB⟩; have B1 := Lib.hid hB; have c0 : w1.cell? ⟨w.heap.size, 0, none⟩ = some (.int .u64 (a : Int)) := (hB.cell (box2_lt0 ..)).trans (box2_0 ..); have c1 : w1.cell? ⟨w.heap.size, 1, none⟩ = some (.int .u64 (b : Int)) := (hB.cell (box2_lt0 ..)).trans (box2_0 ..); have s1 : w.heap.size + 1 ≤ w1.heap.size := (by have := hB.size; simp at this; omega); clear hB)
    | (at_make; refine wpList_make_own _ rfl _ _ 92 rfl (w.heap.size + 1) 2 i0 (.int .i64 0) 1 Tryz.underlying92 hi hz0 hz1 .i64 .i64 _ (cnt a b) rfl rfl rfl (by rw [hz2]; omega) (by unfold maxLen; omega) (by omega) ?_; intro w2 hown hgrow; have O2 := Lib.hid hown; have G2 := Lib.hid hgrow; clear hown hgrow)
    | go_in)
  have O3 : OwnInts (w.heap.size + 1) (hol (hasB a b) 0) (.slice (some ⟨w1.heap.size, 0, none⟩) 0 (cnt a b)) w2 := O2.out
  have bw2 : Below w1.heap.size w1 w2 := Below.grown (Below.refl _ _) G2.out (Nat.le_refl _) (fun j hj => by cases hj)
  have b2 : Below w.heap.size w w2 := below_next (below_next (below_new (below_new (Below.refl _ _) _) _) B1.out) bw2
  have s2 := bw2.size
  have e0 : w2.cell? ⟨w.heap.size, 0, none⟩ = some (.int .u64 (a : Int)) := (bw2.cell (show w.heap.size < w1.heap.size by omega)).trans c0
  have e1 : w2.cell? ⟨w.heap.size, 1, none⟩ = some (.int .u64 (b : Int)) := (bw2.cell (show w.heap.size < w1.heap.size by omega)).trans c1
  have O4 := Lib.hid O3
  have B4 := Lib.hid b2
  clear hv c0 c1 O2 G2 B1 O3 bw2 b2 C
  have ix0 : ∀ w, (Instr.index 51 (.agg #[.int .u64 (a : Int), .int .u64 (b : Int)]) (.int .i64 0)).run Tryz.prog w = .ok (.int .u64 (a : Int)) w := fun _ => by kernel_rfl
  have ix1 : ∀ w, (Instr.index 51 (.agg #[.int .u64 (a : Int), .int .u64 (b : Int)]) (.int .i64 1)).run Tryz.prog w = .ok (.int .u64 (b : Int)) w := fun _ => by kernel_rfl
  go_step3
  go_wp2_with fail
  refine wp_loop_rounds 3 ?_
  rw [rounds_succ]; go_wp2_with fail
  go_loopw [4, 7] (fun v i wr => ∃ k : Nat, k ≤ 64 ∧ i = .int .i64 k ∧ OwnInts (w.heap.size + 1) (hol (hasB a b) k) v wr ∧ w.heap.size + 1 ≤ wr.heap.size ∧ Below w.heap.size w wr) (fun _ i _ => 64 - (intOf i).toNat)
  case atStart => exact ⟨0, Nat.zero_le _, rfl, O4.out, by omega, B4.out⟩
  case round =>
    obtain ⟨k, hk, rfl, O, hsz, hB⟩ := hrel
    have O5 := Lib.hid O
    have B5 := Lib.hid hB
    clear O hB
    have wu : U64 (a : Int) := ⟨by omega, by have := A.out; have := B.out; omega⟩
    have du := u64_div (a : Int) wu k
    have hl := hol_len (hasB a b) (k)
    by_cases hq : (a : Int) / 2 ^ k = 0
    · have q1 : ((a : Int) / 2 ^ k == 0) = true := by simp [hq]
      have E := Lib.hid (lo_end a b wu k hk hq)
      clear hq wu du
      have O6 : Hid (OwnInts (w.heap.size + 1) (hol (hasB a b) (64 + 0)) u4 wr) := Lib.hid (by rw [Nat.add_zero, E.out]; exact O5.out)
      go_wp2_with fail
      rw [rounds_succ]; go_wp2_with fail
      have B6 := B5
      clear O4 B4 O5 B5
      have O4 := O6
      have B4 := B6
      clear O6 B6 E q1
      obtain ⟨wo, rfl⟩ : ∃ wo : World, wo = wr := ⟨_, rfl⟩
      go_loopw [4, 7] (fun v i wr => ∃ k : Nat, k ≤ 32 ∧ i = .int .i64 k ∧ OwnInts (w.heap.size + 1) (hol (hasB a b) (64 + k)) v wr ∧ w.heap.size + 1 ≤ wr.heap.size ∧ Below w.heap.size w wr) (fun _ i _ => 32 - (intOf i).toNat)
      case atStart => exact ⟨0, Nat.zero_le _, rfl, O4.out, by omega, B4.out⟩
      case round =>
        obtain ⟨k, hk, rfl, O, hsz, hB⟩ := hrel
        have O5 := Lib.hid O
        have B5 := Lib.hid hB
        clear O hB
        have wu : U64 (b : Int) := ⟨by omega, by have := A.out; have := B.out; omega⟩
        have du := u64_div (b : Int) wu k
        have hl := hol_len (hasB a b) (64 + k)
        by_cases hq : (b : Int) / 2 ^ k = 0
        · have q1 : ((b : Int) / 2 ^ k == 0) = true := by simp [hq]
          have E := Lib.hid (hi_end a b ⟨by omega, by have := B.out; omega⟩ k hk hq)
          clear hq wu du
          go_wp2_with fail
          rw [rounds_succ]; go_wp2_with fail
          (try rw [Exit.noGoto_ret])
          go_ret2
          exact ⟨_, rfl, by rw [E.out]; exact ⟨O5.out.1, O5.out.2.imp id fun ⟨g, cap, cur, h1, h2, h3⟩ => ⟨g, cap, cur, h1, by omega, h3⟩⟩, B5.out⟩
        · have q1 : ((b : Int) / 2 ^ k == 0) = false := by simp [hq]
          have hkl : k < 32 := by
            rcases Nat.lt_or_ge k 32 with h | h
            · exact h
            · exact absurd (div_max (b : Int) wu.1 k (by rw [show k = 32 from by omega]; have := A.out; have := B.out; omega)) hq
          have ao := and_one _ du
          have DU := Lib.hid du
          clear hq wu du
          have v1 : IntKind.i64.wrap ((k : Int) + 1) = (k : Int) + 1 := IntWalk.i64_in _ (by omega)
          have v2 : IntKind.i64.wrap (64 + (k : Int)) = 64 + (k : Int) := IntWalk.i64_in _ (by omega)
          cases q2 : ((b : Int) / 2 ^ k % 2 == 1)
          · have q3 : (bits .and .u64 ((b : Int) / 2 ^ k) 1 == 1) = false := by rw [ao]; exact q2
            have hn := Lib.hid (hol_no (f := hasB a b) (k := 64 + k) (by rw [has_hi a b k]; exact q2))
            clear ao q2
            go_wp2_with fail
            exact ⟨⟨k + 1, hkl, by rw [Int.natCast_succ], by first | (rw [hn.out]; exact O5.out) | (rw [← Nat.add_assoc, hn.out]; exact O5.out), hsz, B5.out⟩, by simp [intOf]; omega⟩
          · have q3 : (bits .and .u64 ((b : Int) / 2 ^ k) 1 == 1) = true := by rw [ao]; exact q2
            have hn := Lib.hid (hol_yes (f := hasB a b) (k := 64 + k) (by rw [has_hi a b k]; exact q2))
            clear ao q2
            go_wp2_with (at_builtin; refine wpList_append_own _ rfl _ _ 92 rfl (w.heap.size + 1) 2 i0 (.int .i64 0) 1 8 Tryz.underlying92 hi hz0 hz1 hz2 rfl (by decide) _ _ _ rfl (O5.out.alloc _) ⟨wr.heap.size, 0, none⟩ 1 1 [.int .i64 (64 + (k : Int))] rfl rfl (one_new _ _ _) (fun x hx => by simp at hx; subst hx; rfl) (by unfold maxLen; omega) (by omega) (by simp; omega) ?_; intro v' w3 hown hgrow _; have P := Lib.hid (own_push hown); have G := Lib.hid hgrow; clear hown hgrow)
            have hb2 : Below (w.heap.size + 1) (wr.alloc (.cells #[.int .i64 (64 + (k : Int))] 2)) w3 := Below.grown (Below.refl _ _) G.out (by simp; omega) (own_lt O5.out)
            have s3 := hb2.size
            simp at s3
            exact ⟨⟨k + 1, hkl, by rw [Int.natCast_succ], by first | (rw [hn.out]; exact P.out) | (rw [← Nat.add_assoc, hn.out]; have p := P.out; simpa using p), by omega, (B5.out.alloc (by omega) _).trans (hb2.mono (by omega))⟩, by simp [intOf]; omega⟩
    · have q1 : ((a : Int) / 2 ^ k == 0) = false := by simp [hq]
      have hkl : k < 64 := by
        rcases Nat.lt_or_ge k 64 with h | h
        · exact h
        · exact absurd (div_max (a : Int) wu.1 k (by rw [show k = 64 from by omega]; have := A.out; have := B.out; omega)) hq
      have ao := and_one _ du
      have DU := Lib.hid du
      clear hq wu du
      have v1 : IntKind.i64.wrap ((k : Int) + 1) = (k : Int) + 1 := IntWalk.i64_in _ (by omega)
      cases q2 : ((a : Int) / 2 ^ k % 2 == 1)
      · have q3 : (bits .and .u64 ((a : Int) / 2 ^ k) 1 == 1) = false := by rw [ao]; exact q2
        have hn := Lib.hid (hol_no (f := hasB a b) (k := k) (by rw [has_lo a b k (by omega)]; exact q2))
        clear ao q2
        go_wp2_with fail
        exact ⟨⟨k + 1, hkl, by rw [Int.natCast_succ], by first | (rw [hn.out]; exact O5.out) | (rw [← Nat.add_assoc, hn.out]; exact O5.out), hsz, B5.out⟩, by simp [intOf]; omega⟩
      · have q3 : (bits .and .u64 ((a : Int) / 2 ^ k) 1 == 1) = true := by rw [ao]; exact q2
        have hn := Lib.hid (hol_yes (f := hasB a b) (k := k) (by rw [has_lo a b k (by omega)]; exact q2))
        clear ao q2
        go_wp2_with (at_builtin; refine wpList_append_own _ rfl _ _ 92 rfl (w.heap.size + 1) 2 i0 (.int .i64 0) 1 8 Tryz.underlying92 hi hz0 hz1 hz2 rfl (by decide) _ _ _ rfl (O5.out.alloc _) ⟨wr.heap.size, 0, none⟩ 1 1 [.int .i64 ((k : Int))] rfl rfl (one_new _ _ _) (fun x hx => by simp at hx; subst hx; rfl) (by unfold maxLen; omega) (by omega) (by simp; omega) ?_; intro v' w3 hown hgrow _; have P := Lib.hid (own_push hown); have G := Lib.hid hgrow; clear hown hgrow)
        have hb2 : Below (w.heap.size + 1) (wr.alloc (.cells #[.int .i64 ((k : Int))] 2)) w3 := Below.grown (Below.refl _ _) G.out (by simp; omega) (own_lt O5.out)
        have s3 := hb2.size
        simp at s3
        exact ⟨⟨k + 1, hkl, by rw [Int.natCast_succ], by first | (rw [hn.out]; exact P.out) | (rw [← Nat.add_assoc, hn.out]; have p := P.out; simpa using p), by omega, (B5.out.alloc (by omega) _).trans (hb2.mono (by omega))⟩, by simp [intOf]; omega⟩
end Go.Proofs.YtpkpjkceiikakaaGreatDoor
