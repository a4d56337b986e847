/- The laws' mark on edits that are an argument: nothing lies otherwise afterwards but their own block. -/
import Derived.Test.YtpgonfeobfefaaaEdsMk
import Derived.Deep.DeepCutAuto
namespace Go.Proofs.Ytpgonfeobfefaaa
open Go.ChangeShapes Go.WideShapes Go.ChangeAt Go.RowKit

set_option maxRecDepth 100000 in
set_option maxHeartbeats 800000 in
theorem markText6_any (k : Nat) (k1 : k ≤ 6000000) (w : World) :
    Calls Try.prog 55 #[.int .i64 (k : Int)] w fun e w' => (∃ s : ByteArray, e = .returned (.string s)) ∧ Below w.heap.size w w' := by
  by_cases hk : 0 < k
  · have d1 : decide ((k : Int) ≤ 0) = false := by simp; omega
    go_enter Try.func55, Try.ntmps55
    go_wp2
    go_loopw [0, 3] (fun q o wr => ∃ (n : Nat) (s : ByteArray), q = .int .i64 (n : Int) ∧ o = .string s ∧ s.size + n ≤ 6000000 ∧ Below w.heap.size w wr) (fun q _ _ => (intOf q).toNat)
    case atStart => exact ⟨k, ByteArray.empty, rfl, rfl, by simpa using k1, Below.refl _ _⟩
    case round =>
      obtain ⟨n, s, rfl, rfl, hn, hB⟩ := hrel
      have BB := Lib.hid hB
      have HN := Lib.hid hn
      clear d1 hB
      by_cases hnz : 0 < n
      · have d2 : decide (0 < (n : Int)) = true := by simp; omega
        obtain ⟨u, hu⟩ : ∃ u : UInt8, (u.toNat : Int) = 48 + (n : Int) % 10 := ⟨UInt8.ofNat (48 + n % 10), by rw [UInt8.toNat_ofNat']; omega⟩
        have v1 : (n : Int).tmod 10 = (n : Int) % 10 := Int.tmod_eq_emod_of_nonneg (by omega)
        have v2 : IntKind.i64.wrap ((n : Int) % 10) = (n : Int) % 10 := IntWalk.i64_in _ (by omega)
        have v3 : IntKind.i64.wrap (48 + (n : Int) % 10) = 48 + (n : Int) % 10 := IntWalk.i64_in _ (by omega)
        have v4 : IntKind.u8.wrap (48 + (n : Int) % 10) = (u.toNat : Int) := by rw [hu]; exact IntWalk.u8_in _ ⟨by omega, by omega⟩
        obtain ⟨m, hm⟩ : ∃ m : Nat, m = n / 10 := ⟨_, rfl⟩
        have v7 : (n : Int) / 10 = (m : Int) := by omega
        have v5 : (n : Int).tdiv 10 = (m : Int) := by rw [Int.tdiv_eq_ediv_of_nonneg (by omega)]; omega
        have v6 : IntKind.i64.wrap (m : Int) = (m : Int) := IntWalk.i64_in _ (by omega)
        have MM := Lib.hid (show m < n by omega)
        have cv := conv_one wr u
        have sz : (ByteArray.mk #[u]).size = 1 := rfl
        have sl : ¬ 9223372036854775807 < 1 + s.size := by have := HN.out; omega
        clear hu hn k1 hk hm
        go_wp2
        exact ⟨⟨m, _, rfl, rfl, by have := HN.out; have := MM.out; rw [ByteArray.size_append, sz]; omega, below_new BB.out _⟩, by have := MM.out; (simp [intOf]) <;> omega⟩
      · have d2 : decide (0 < (n : Int)) = false := by simp; omega
        have sl : ¬ 9223372036854775807 < 1 + s.size := by have := HN.out; omega
        go_wp2
        go_ret
        exact ⟨⟨_, rfl⟩, BB.out⟩
  · have d1 : decide ((k : Int) ≤ 0) = true := by simp; omega
    go_enter Try.func55, Try.ntmps55
    go_wp2
    go_ret
    exact ⟨⟨_, rfl⟩, Below.refl _ _⟩
theorem markText6_1 (q : Nat) (h : q + 1 ≤ 6000000) (w : World) : Calls Try.prog 55 #[.int .i64 ((q : Int) + 1)] w fun e w' => (∃ s : ByteArray, e = .returned (.string s)) ∧ Below w.heap.size w w' := by
  have := markText6_any (q + 1) h w
  rwa [Int.natCast_succ] at this

set_option maxRecDepth 100000 in
set_option maxHeartbeats 3200000 in
theorem markEdits_any (n g k c : Nat) (w : World) (hW0 : Wb w g (n * 5)) (hg : g < w.heap.size) (hk : k + 5 * n ≤ 6000000) :
    Calls Try.prog 13 #[.slice (some ⟨g, 0, none⟩) n c, .int .i64 (k : Int)] w fun e w' => e = .returned (.int .i64 ((k + 5 * n : Nat) : Int)) ∧ Oth g w w' := by
  have W0 := Lib.hid hW0
  clear hW0
  go_enter Try.func13, Try.ntmps13
  go_wp2
  go_loopw [1, 5] (fun q i wr => ∃ j q0 : Nat, j ≤ n ∧ i = .int .i64 j ∧ q = .int .i64 (q0 : Int) ∧ q0 = k + 5 * j ∧ Wb wr g (n * 5) ∧ Oth g w wr) (fun _ i _ => n - (intOf i).toNat)
  case atStart => exact ⟨0, k, Nat.zero_le _, rfl, rfl, by omega, W0.out, Oth.refl _ _⟩
  case round =>
    obtain ⟨j, q0, hj, rfl, rfl, hq, hW, hO⟩ := hrel
    have Q := Lib.hid hq
    have WW := Lib.hid hW
    have OO := Lib.hid hO
    have gl : g < wr.heap.size := Nat.lt_of_lt_of_le hg hO.size
    by_cases hkl : j < n
    · have hd : decide ((j : Int) < (n : Int)) = true := by simpa using hkl
      have qb : q0 + 1 ≤ 6000000 := by omega
      have i1 : (0 : Int) ≤ (j : Int) := by omega
      have i2 : (j : Int) < (n : Int) := by omega
      obtain ⟨y0, r0⟩ := hW.1 (j * 5) (by omega)
      have f0 := hW.2 (j * 5) (by omega)
      have W1 := hW.set (j * 5) (by omega) (.int .i8 (IntKind.i8.wrap (q0 : Int)))
      obtain ⟨y1, r1⟩ := W1.1 (j * 5 + 1) (by omega)
      obtain ⟨y2, r2⟩ := W1.1 (j * 5 + 2) (by omega)
      obtain ⟨y3, r3⟩ := W1.1 (j * 5 + 3) (by omega)
      obtain ⟨y4, r4⟩ := W1.1 (j * 5 + 4) (by omega)
      have WX := Lib.hid W1
      have R1 := Lib.hid r1
      have R2 := Lib.hid r2
      have R3 := Lib.hid r3
      have R4 := Lib.hid r4
      have K := Lib.hid fun W => markText6_1 q0 qb W
      have x1 : IntKind.i64.wrap ((q0 : Int) + 1) = (q0 : Int) + 1 := IntWalk.i64_in _ (by omega)
      have x2 : IntKind.i64.wrap ((q0 : Int) + 1 + 1) = (q0 : Int) + 1 + 1 := IntWalk.i64_in _ (by omega)
      have x3 : IntKind.i64.wrap ((q0 : Int) + 1 + 1 + 1) = (q0 : Int) + 1 + 1 + 1 := IntWalk.i64_in _ (by omega)
      have x6 : IntKind.i64.wrap ((q0 : Int) + 1 + 1 + 1 + 1) = (q0 : Int) + 1 + 1 + 1 + 1 := IntWalk.i64_in _ (by omega)
      have x7 : IntKind.i64.wrap ((q0 : Int) + 1 + 1 + 1 + 1 + 1) = (q0 : Int) + 1 + 1 + 1 + 1 + 1 := IntWalk.i64_in _ (by omega)
      have x4 : IntKind.u64.wrap ((q0 : Int) + 1 + 1 + 1) = (q0 : Int) + 1 + 1 + 1 := IntWalk.u64_in _ (by omega)
      have x5 : IntKind.u64.wrap ((q0 : Int) + 1 + 1 + 1 + 1) = (q0 : Int) + 1 + 1 + 1 + 1 := IntWalk.u64_in _ (by omega)
      have G1 := Lib.hid (show g < (wr.setCell ⟨g, j * 5, none⟩ (.int .i8 (IntKind.i8.wrap (q0 : Int)))).heap.size by rw [World.size_setCell]; exact gl)
      clear hq hW hO r1 r2 r3 r4 W1
      go_wp2_with (go_at_call 55; refine (K.out _).mono ?_; rintro e w2 ⟨⟨s, rfl⟩, hB⟩; have t1 := (hB.cell (p := ⟨g, j * 5 + 1, none⟩) G1.out).trans R1.out; have t2 := (hB.cell (p := ⟨g, j * 5 + 2, none⟩) G1.out).trans R2.out; have t3 := (hB.cell (p := ⟨g, j * 5 + 3, none⟩) G1.out).trans R3.out; have t4 := (hB.cell (p := ⟨g, j * 5 + 4, none⟩) G1.out).trans R4.out; have u1 := (hB.frozen (p := ⟨g, j * 5 + 1, none⟩) G1.out).trans (WX.out.2 _ (by omega)); have u2 := (hB.frozen (p := ⟨g, j * 5 + 2, none⟩) G1.out).trans (WX.out.2 _ (by omega)); have u3 := (hB.frozen (p := ⟨g, j * 5 + 3, none⟩) G1.out).trans (WX.out.2 _ (by omega)); have u4 := (hB.frozen (p := ⟨g, j * 5 + 4, none⟩) G1.out).trans (WX.out.2 _ (by omega)); have W2 := Lib.hid (WX.out.below hB G1.out); have O2 := Lib.hid ((OO.out.set (j * 5) (.int .i8 (IntKind.i8.wrap (q0 : Int)))).trans (Oth.of hB)); clear hB)
      refine wp_loop_rounds 3 ?_
      rw [rounds_succ]; go_wp2
      rw [rounds_succ]; go_wp2
      rw [rounds_succ]; go_wp2
      exact ⟨⟨j + 1, q0 + 5, hkl, by rw [Int.natCast_succ], by rw [show ((q0 + 5 : Nat) : Int) = (q0 : Int) + 1 + 1 + 1 + 1 + 1 by omega], by have := Q.out; omega, (((W2.out.set _ (by omega) _).set _ (by omega) _).set _ (by omega) _).set _ (by omega) _, (((O2.out.set _ _).set _ _).set _ _).set _ _⟩, by (simp [intOf]) <;> omega⟩
    · have e : j = n := by omega
      subst e
      have hd : decide ((j : Int) < (j : Int)) = false := by simp
      clear hW hO
      have hq2 := hq
      subst hq2
      clear hq
      go_wp2
      go_ret
      exact ⟨rfl, OO.out⟩
end Go.Proofs.Ytpgonfeobfefaaa
