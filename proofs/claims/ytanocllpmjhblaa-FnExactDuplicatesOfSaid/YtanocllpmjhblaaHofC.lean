/- Contracts: the holes of a check, gathered by the program until there are enough. -/
import Derived.Test.YtanocllpmjhblaaLcg
import Derived.Test.YtanocllpmjhblaaCount
import Derived.Test.YtanocllpmjhblaaMPut
import Derived.Test.YtanocllpmjhblaaMasks
import Derived.Deep.LoopGhost
namespace Go.Proofs.Ytanocllpmjhblaa
open Go.ChangeShapes Go.WideShapes Go.ChangeAt Go.RowKit

theorem cnt_is (x y : Nat) : cnt2 x y = cnt x y := rfl
theorem or_nat (x u : Nat) (hx : x < 2 ^ 64) (hu : u < 2 ^ 64) : bits .or .u64 (x : Int) (u : Int) = ((x ||| u : Nat) : Int) := by
  rw [Go.u64_or _ _ (by omega) (by omega) (by omega) (by omega)]
  simp
theorem iJoinN (x y u v : Nat) (hx : x < 2 ^ 64) (hy : y < 2 ^ 64) (hu : u < 2 ^ 64) (hv : v < 2 ^ 64) (w : World) :
    Calls Try.prog 107 #[.agg #[.int .u64 (x : Int), .int .u64 (y : Int)], .agg #[.int .u64 (u : Int), .int .u64 (v : Int)]] w fun e w' => e = .returned (.agg #[.int .u64 ((x ||| u : Nat) : Int), .int .u64 ((y ||| v : Nat) : Int)]) ∧ Below w.heap.size w w' :=
  (iJoin_any x y u v w).mono fun e w' ⟨he, hw⟩ => ⟨by rw [he, or_nat x u hx hu, or_nat y v hy hv], by subst hw; exact (by repeat' (first | (with_reducible exact Below.refl _ _) | (with_reducible assumption) | (with_reducible refine below_drewN ?_ _) | (with_reducible refine Below.drew ?_) | (with_reducible refine below_new ?_ _) | (with_reducible refine below_next ?_ (by with_reducible assumption)) | (with_reducible refine Below.setCell ?_ ?_ _) | go_size))⟩
theorem iOneN (n : Int) (h0 : 0 ≤ n) (h1 : n ≤ 95) (w : World) :
    Calls Try.prog 140 #[.int .i64 n] w fun e w' => e = .returned (.agg #[.int .u64 (B0 n : Int), .int .u64 (B1 n : Int)]) ∧ Below w.heap.size w w' :=
  (iOne_any n h0 h1 w).mono fun e w' ⟨he, hb⟩ => ⟨by rw [he, b0_B0, b1_B1], hb⟩

theorem hNext (a : Int) (w : World) : Calls Try.prog 139 #[.int .u32 a] w fun e w' => e = .returned (.int .u32 (lc a)) ∧ w = w' := by
  have h : (1664525 * a % 4294967296 + 1013904223) % 4294967296 = lc a := by unfold lc; omega
  go_enter Try.func139, Try.ntmps139
  go_wp2
  go_returns
  exact ⟨by rw [← h]; rfl, rfl⟩
theorem block_alloc3 (w : World) (o p q : Obj) : (((w.alloc o).alloc p).alloc q).heap[w.heap.size]? = some o ∧ (((w.alloc o).alloc p).alloc q).heap[w.heap.size + 1]? = some p ∧ (((w.alloc o).alloc p).alloc q).heap[w.heap.size + 2]? = some q := by
  show (((w.heap.push o).push p).push q)[w.heap.size]? = some o ∧ (((w.heap.push o).push p).push q)[w.heap.size + 1]? = some p ∧ (((w.heap.push o).push p).push q)[w.heap.size + 2]? = some q
  refine ⟨?_, ?_, ?_⟩
  · rw [Array.getElem?_push, if_neg (by simp; omega), Array.getElem?_push, if_neg (by simp)]; simp
  · rw [Array.getElem?_push, if_neg (by simp), Array.getElem?_push, if_pos (by simp)]
  · rw [Array.getElem?_push, if_pos (by simp)]

/-- The three boxes: the mix, the answer, the mask so far. -/
def McR (w wr : World) (t z p : Int) (x y : Nat) : Prop :=
  wr.heap[w.heap.size]? = some (.cells #[.int .i16 t, .int .i16 z, .int .i16 p] 30 (0, 0)) ∧ wr.heap[w.heap.size + 1]? = some (.cells #[.int .u64 0, .int .u64 0] 53 (0, 0)) ∧ wr.heap[w.heap.size + 2]? = some (.cells #[.int .u64 (x : Int), .int .u64 (y : Int)] 53 (0, 0)) ∧ Below w.heap.size w wr
theorem mcR_ab {w wr w' : World} {t z p : Int} {x y : Nat} (h : McR w wr t z p x y) (k : Ab wr w') : McR w w' t z p x y :=
  ⟨k.block h.1, k.block h.2.1, k.block h.2.2.1, h.2.2.2.trans (Below.mono k h.2.2.2.size)⟩
theorem mcR_set {w wr : World} {t z p : Int} {x y : Nat} (h : McR w wr t z p x y) (u v : Nat) : McR w ((wr.setCell ⟨w.heap.size + 2, 0, none⟩ (.int .u64 (u : Int))).setCell ⟨w.heap.size + 2, 1, none⟩ (.int .u64 (v : Int))) t z p u v := by
  have a := block_setCell (j := 1) (.int .u64 (v : Int)) (block_setCell (j := 0) (.int .u64 (u : Int)) h.2.2.1)
  refine ⟨?_, ?_, a, (h.2.2.2.setCell (by simp) _).setCell (by simp) _⟩
  · rw [Below.heap_setCell _ _ _ _ (by simp), Below.heap_setCell _ _ _ _ (by simp)]; exact h.1
  · rw [Below.heap_setCell _ _ _ _ (by simp), Below.heap_setCell _ _ _ _ (by simp)]; exact h.2.1

set_option maxHeartbeats 1600000 in
theorem iHofC_any (t z p a : Int) (t0 : 0 ≤ t) (z0 : 4 ≤ z) (tz : t + z ≤ 96) (p1 : 1 ≤ p) (p8 : p ≤ 8) (a0 : 0 ≤ a) (a1 : a < 4294967296) (N : Nat) (hN : Stops t z p a N) (w : World) :
    Calls Try.prog 108 #[.agg #[.int .i16 t, .int .i16 z, .int .i16 p], .int .u32 a] w fun e w' => e = .returned (.agg #[.int .u64 (N0 t z a N : Int), .int .u64 (N1 t z a N : Int)]) ∧ Below w.heap.size w w' := by
  have z1 : z ≤ 96 := by omega
  have t1 : t ≤ 96 := by omega
  have HN := Lib.hid hN
  clear hN
  have hbw := cell_bw
  go_enter Try.func108, Try.ntmps108
  go_wp2
  go_loopg [1] N (fun r av wr => ∃ k, k + r = N ∧ av = .int .u32 (lci k a) ∧ McR w wr t z p (N0 t z a k) (N1 t z a k))
  case atStart => exact ⟨0, by omega, rfl, (block_alloc3 _ _ _ _).1, (block_alloc3 _ _ _ _).2.1, (block_alloc3 _ _ _ _).2.2, (by repeat' (first | (with_reducible exact Below.refl _ _) | (with_reducible assumption) | (with_reducible refine below_drewN ?_ _) | (with_reducible refine Below.drew ?_) | (with_reducible refine below_new ?_ _) | (with_reducible refine below_next ?_ (by with_reducible assumption)) | (with_reducible refine Below.setCell ?_ ?_ _) | go_size))⟩
  case round =>
    obtain ⟨k, hk, rfl, hM⟩ := hrel
    have M := Lib.hid hM
    obtain ⟨m0, m1, m2, m3⟩ := hM
    have c0 := cell_of_block m0
    have c2 := cell_of_block m2
    have s0 := lt_of_block m0
    have s2 := lt_of_block m2
    obtain ⟨l0, l1⟩ := N_lt (a := a) t0 (show 0 < z by omega) tz k
    have C := Lib.hid fun W => iCount_any (N0 t z a k) (N1 t z a k) (by omega) (by omega) W
    by_cases hkl : k < N
    · have d : decide ((cnt (N0 t z a k) (N1 t z a k) : Int) < p) = true := decide_eq_true (HN.out.2 k hkl)
      obtain ⟨y0, y1⟩ := lci_in (k + 1) a ⟨a0, a1⟩
      have hl : lc (lci k a) = lci (k + 1) a := rfl
      have hh := hol_in (a := a) t0 (show 0 < z by omega) tz k
      have q0 : 0 ≤ lci (k + 1) a / 65536 % z := Int.emod_nonneg _ (by omega)
      have q1 : lci (k + 1) a / 65536 % z < z := Int.emod_lt_of_pos _ (by omega)
      have v1 : wrap64 (lci (k + 1) a / 65536 % z) = lci (k + 1) a / 65536 % z := IntWalk.wrap64_in _ ⟨by omega, by omega⟩
      have v2 : wrap64 (t + lci (k + 1) a / 65536 % z) = t + lci (k + 1) a / 65536 % z := IntWalk.wrap64_in _ ⟨by omega, by omega⟩
      have O := Lib.hid fun W => iOneN (t + lci (k + 1) a / 65536 % z) (by omega) (by omega) W
      obtain ⟨u0, u1⟩ := B_lt hh.2
      have J := Lib.hid fun W => iJoinN (N0 t z a k) (N1 t z a k) (B0 (t + lci (k + 1) a / 65536 % z)) (B1 (t + lci (k + 1) a / 65536 % z)) l0 l1 u0 u1 W
      have e0 := Lib.hid (show N0 t z a (k + 1) = N0 t z a k ||| B0 (t + lci (k + 1) a / 65536 % z) from rfl)
      have e1 := Lib.hid (show N1 t z a (k + 1) = N1 t z a k ||| B1 (t + lci (k + 1) a / 65536 % z) from rfl)
      clear m0 m1 m2 m3 l0 l1 hh u0 u1
      generalize N0 t z a k = X at *
      generalize N1 t z a k = Y at *
      generalize hx : lci k a = x at *
      generalize hy : lci (k + 1) a = y at *
      go_upto_region 2 with fail
      refine region_bw (by kernel_rfl) (by kernel_rfl) ?_
      repeat (go_big_quiet_step (first | (go_at_call 117; have c := C.out; exact calls_all c)))
      refine wpQuiet_nil ?_; intro wq hq
      replace hq : Ab wr wq := below_of_bw hq
      have M2 := Lib.hid (mcR_ab M.out hq)
      clear c0 c2 s0 s2 hq
      obtain ⟨m0, m1, m2, m3⟩ := M2.out
      have m2 := Lib.hid m2
      have m0 := Lib.hid m0
      clear m1 m3
      go_upto_region 4 with (go_at_call 139; refine (hNext _ _).mono ?_; rintro e w9 ⟨rfl, rfl⟩)
      refine wp_region_last 14 (by kernel_rfl) rfl rfl (by kernel_rfl) (by kernel_rfl) rfl ?_
      simp only [List.take_succ_cons, List.take_zero]
      intro w1 h1
      have c0 := cell_of_block (h1.block m0.out)
      have c2 := cell_of_block (h1.block m2.out)
      have s0 := lt_of_block (h1.block m0.out)
      have s2 := lt_of_block (h1.block m2.out)
      repeat (go_big_quiet_step (first | (go_at_call 140; have c := O.out; exact calls_all c) | (go_at_call 107; have c := J.out; exact calls_all c)))
      refine wpQuiet_nil ?_
      intro w3 h3
      have M3 := Lib.hid (mcR_ab M2.out h3)
      have f0 := cell_of_block (h3.block m2.out)
      have f1 := free_of_block (h3.block m2.out)
      go_simp
      simp only [Yld]
      go_wp2
      go_roundg (gk - 1)
      case measure => omega
      case rel => exact ⟨k + 1, by omega, by rw [hy], by rw [e0.out, e1.out]; exact mcR_set M3.out _ _⟩
    · obtain rfl : k = N := by omega
      have d : decide ((cnt (N0 t z a k) (N1 t z a k) : Int) < p) = false := decide_eq_false (by have := HN.out.1; rw [cnt_is] at this; omega)
      clear m0 m1 m2 m3 l0 l1
      generalize hX : N0 t z a k = X at *
      generalize hY : N1 t z a k = Y at *
      go_upto_region 2 with fail
      refine region_bw (by kernel_rfl) (by kernel_rfl) ?_
      repeat (go_big_quiet_step (first | (go_at_call 117; exact calls_all C.out)))
      refine wpQuiet_nil ?_; intro wq hq
      replace hq : Ab wr wq := below_of_bw hq
      have M2 := Lib.hid (mcR_ab M.out hq)
      clear c0 c2 s0 s2 hq
      obtain ⟨m0, m1, m2, m3⟩ := M2.out
      have c1 := cell_of_block m1
      have f1 := free_of_block m1
      have c2 := cell_of_block m2
      clear m0 m1 m2 m3 hbw
      go_wp2
      refine bodyPost_ret (by simp [results, Try.results108, go_sem, c1]; try rfl) rfl ?_
      exact ⟨by rw [hX, hY], (M2.out.2.2.2.setCell (by simp) _).setCell (by simp) _⟩
end Go.Proofs.Ytanocllpmjhblaa
