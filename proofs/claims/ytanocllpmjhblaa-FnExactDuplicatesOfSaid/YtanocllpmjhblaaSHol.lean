/- Contracts: the holes of a word, gathered by the model until there are enough. -/
import Derived.Test.YtanocllpmjhblaaHofC
import Derived.Test.YtanocllpmjhblaaChk
namespace Go.Proofs.Ytanocllpmjhblaa
open Go.ChangeShapes Go.WideShapes Go.ChangeAt Go.RowKit

theorem ck_in (s : ByteArray) (k : Nat) : 0 ≤ ck s k ∧ ck s k < 4294967296 := by
  cases k with
  | zero => exact ⟨by show (0 : Int) ≤ 1; decide, by show (1 : Int) < 4294967296; decide⟩
  | succ k => rw [ck, IntKind.wrap_u32]; omega
theorem sPutN (x y : Nat) (h : Int) (hx : x < 2 ^ 64) (hy : y < 2 ^ 64) (h0 : 0 ≤ h) (h1 : h ≤ 95) (b : Nat) (w : World) (hb : w.heap[b]? = some (.cells #[.int .u64 (x : Int), .int .u64 (y : Int)] 53 (0, 0))) :
    Calls Try.prog 104 #[.pointer (some ⟨b, 0, none⟩), .int .i64 h] w fun e w' => e = .returned (.tuple #[]) ∧ Wr w b (.cells #[.int .u64 ((x ||| B0 h : Nat) : Int), .int .u64 ((y ||| B1 h : Nat) : Int)] 53 (0, 0)) w' := by
  have := sPut_any x y h ⟨by omega, by omega⟩ ⟨by omega, by omega⟩ h0 h1 b w hb
  rwa [b0_B0, b1_B1, or_nat x _ hx (B_lt h1).1, or_nat y _ hy (B_lt h1).2] at this
theorem prR_ab {w wr w' : World} {x y : Int} (h : PrR w wr x y) (k : Ab wr w') : PrR w w' x y :=
  ⟨k.block h.1, k.block h.2.1, h.2.2.trans (Below.mono k h.2.2.size)⟩

set_option maxHeartbeats 1600000 in
theorem sHoles_any (t z p : Int) (s : ByteArray) (hs : s.size ≤ maxLen) (t0 : 0 ≤ t) (z0 : 4 ≤ z) (tz : t + z ≤ 96) (p1 : 1 ≤ p) (p8 : p ≤ 8) (N : Nat) (hN : Stops t z p (ck s s.size) N) (g o : Nat) (w : World) (h1 : w.cell? ⟨g, o, none⟩ = some (.int .i16 t)) (h2 : w.cell? ⟨g, o + 1, none⟩ = some (.int .i16 z)) (h3 : w.cell? ⟨g, o + 2, none⟩ = some (.int .i16 p)) :
    Calls Try.prog 53 #[.pointer (some ⟨g, o, none⟩), .string s] w fun e w' => e = .returned (.agg #[.int .u64 (N0 t z (ck s s.size) N : Int), .int .u64 (N1 t z (ck s s.size) N : Int)]) ∧ Below w.heap.size w w' := by
  have hg := World.block_lt_of_cell? _ _ h1
  have z1 : z ≤ 96 := by omega
  have t1 : t ≤ 96 := by omega
  have K := Lib.hid (sCheck_any s hs)
  obtain ⟨a0, a1⟩ := ck_in s s.size
  generalize ck s s.size = a at *
  have HN := Lib.hid hN
  have G1 := Lib.hid h1
  have G2 := Lib.hid h2
  have G3 := Lib.hid h3
  clear h1 h2 h3 hN hs
  have hbw := cell_bw
  go_enter Try.func53, Try.ntmps53
  go_wp2_with (go_at_call 102; refine (K.out _).mono ?_; rintro e w1 ⟨rfl, rfl⟩)
  clear K
  go_loopg [5] N (fun r av wr => ∃ k, k + r = N ∧ av = .int .u32 (lci k a) ∧ PrR w wr (N0 t z a k : Nat) (N1 t z a k : Nat))
  case atStart => exact ⟨0, by omega, rfl, (block_alloc2 _ _ _).1, (block_alloc2 _ _ _).2, (by repeat' (first | (with_reducible exact Below.refl _ _) | (with_reducible assumption) | (with_reducible refine below_drewN ?_ _) | (with_reducible refine Below.drew ?_) | (with_reducible refine below_new ?_ _) | (with_reducible refine below_next ?_ (by with_reducible assumption)) | (with_reducible refine Below.setCell ?_ ?_ _) | go_size))⟩
  case round =>
    obtain ⟨k, hk, rfl, hM⟩ := hrel
    have M := Lib.hid hM
    obtain ⟨m0, m1, m2⟩ := hM
    have c1 := cell_of_block m1
    have s1 := lt_of_block m1
    have hg2 : g < wr.heap.size := Nat.lt_of_lt_of_le hg m2.size
    have d3 := (m2.cell (p := ⟨g, o + 2, none⟩) hg).trans G3.out
    obtain ⟨l0, l1⟩ := N_lt (a := a) t0 (show 0 < z by omega) tz k
    have C := Lib.hid fun W => sCount_any (N0 t z a k) (N1 t z a k) (by omega) (by omega) W
    by_cases hkl : k < N
    · have d : decide ((cnt (N0 t z a k) (N1 t z a k) : Int) < p) = true := decide_eq_true (HN.out.2 k hkl)
      obtain ⟨y0, y1⟩ := lci_in (k + 1) a ⟨a0, a1⟩
      have hl : (1664525 * lci k a % 4294967296 + 1013904223) % 4294967296 = lci (k + 1) a := by
        show _ = (1664525 * lci k a + 1013904223) % 4294967296
        omega
      have hl2 : (1664525 * lci k a + 1013904223) % 4294967296 = lci (k + 1) a := rfl
      have hh := hol_in (a := a) t0 (show 0 < z by omega) tz k
      have q0 : 0 ≤ lci (k + 1) a / 65536 % z := Int.emod_nonneg _ (by omega)
      have q1 : lci (k + 1) a / 65536 % z < z := Int.emod_lt_of_pos _ (by omega)
      have v0 : wrap64 (lci (k + 1) a / 65536) = lci (k + 1) a / 65536 := IntWalk.wrap64_in _ ⟨by omega, by omega⟩
      have v1 : wrap64 (lci (k + 1) a / 65536 % z) = lci (k + 1) a / 65536 % z := IntWalk.wrap64_in _ ⟨by omega, by omega⟩
      have v2 : wrap64 (t + lci (k + 1) a / 65536 % z) = t + lci (k + 1) a / 65536 % z := IntWalk.wrap64_in _ ⟨by omega, by omega⟩
      have O := Lib.hid fun b W hb => sPutN (N0 t z a k) (N1 t z a k) (t + lci (k + 1) a / 65536 % z) l0 l1 (by omega) (by omega) b W hb
      have e0 := Lib.hid (show N0 t z a (k + 1) = N0 t z a k ||| B0 (t + lci (k + 1) a / 65536 % z) from rfl)
      have e1 := Lib.hid (show N1 t z a (k + 1) = N1 t z a k ||| B1 (t + lci (k + 1) a / 65536 % z) from rfl)
      clear m0 m1 m2 l0 l1 hh
      generalize N0 t z a k = X at *
      generalize N1 t z a k = Y at *
      generalize hx : lci k a = x at *
      generalize hy : lci (k + 1) a = y at *
      go_upto_region 3 with fail
      refine region_bw (by kernel_rfl) (by kernel_rfl) ?_
      repeat (go_big_quiet_step (first | (go_at_call 103; exact calls_all C.out)))
      refine wpQuiet_nil ?_; intro wq hq
      replace hq : Ab wr wq := below_of_bw hq
      have M2 := Lib.hid (prR_ab M.out hq)
      clear c1 s1 d3 hq hg2
      obtain ⟨m0, m1, m2⟩ := M2.out
      have g1 := (m2.cell (p := ⟨g, o, none⟩) hg).trans G1.out
      have g2 := (m2.cell (p := ⟨g, o + 1, none⟩) hg).trans G2.out
      have hg2 : g < wq.heap.size := Nat.lt_of_lt_of_le hg m2.size
      have P1 := Lib.hid m1
      have E1 := Lib.hid g1
      have E2 := Lib.hid g2
      clear m0 m1 m2 g1 g2
      go_upto_region 5 with fail
      refine wp_region_last 15 (by kernel_rfl) rfl rfl (by kernel_rfl) (by kernel_rfl) rfl ?_
      simp only [List.take_succ_cons, List.take_zero]
      intro w1 h1
      have g1 := (Below.cell h1 (p := ⟨g, o, none⟩) hg2).trans E1.out
      have g2 := (Below.cell h1 (p := ⟨g, o + 1, none⟩) hg2).trans E2.out
      have hg3 : g < w1.heap.size := Nat.lt_of_lt_of_le hg2 (Below.size h1)
      repeat (go_big_quiet_step (fail))
      refine wpQuiet_nil ?_
      intro w3 h3
      go_simp
      simp only [Yld]
      refine ⟨trivial, (O.out _ _ (h3.block P1.out)).mono ?_⟩
      rintro e w4 ⟨rfl, hW⟩
      refine ⟨_, rfl, ?_⟩
      have M4 := Lib.hid (prR_next (prR_ab M2.out h3) hW)
      clear hW
      go_wp2
      go_roundg (gk - 1)
      case measure => omega
      case rel => exact ⟨k + 1, by omega, by rw [hy], by rw [e0.out, e1.out]; exact M4.out⟩
    · obtain rfl : k = N := by omega
      have d : decide ((cnt (N0 t z a k) (N1 t z a k) : Int) < p) = false := decide_eq_false (by have := HN.out.1; rw [cnt_is] at this; omega)
      clear m0 m1 m2 l0 l1
      generalize hX : N0 t z a k = X at *
      generalize hY : N1 t z a k = Y at *
      go_upto_region 3 with fail
      refine region_bw (by kernel_rfl) (by kernel_rfl) ?_
      repeat (go_big_quiet_step (first | (go_at_call 103; exact calls_all C.out)))
      refine wpQuiet_nil ?_; intro wq hq
      replace hq : Ab wr wq := below_of_bw hq
      have M2 := Lib.hid (prR_ab M.out hq)
      clear c1 s1 d3 hq hg2
      obtain ⟨m0, m1, m2⟩ := M2.out
      have c0 := cell_of_block m0
      have f0 := free_of_block m0
      have c1 := cell_of_block m1
      clear m0 m1 m2 hbw
      go_wp2
      refine bodyPost_ret (by simp [results, Try.results53, go_sem, c0]; try rfl) rfl ?_
      exact ⟨by rw [hX, hY], (M2.out.2.2.setCell (by simp) _).setCell (by simp) _⟩
end Go.Proofs.Ytanocllpmjhblaa
