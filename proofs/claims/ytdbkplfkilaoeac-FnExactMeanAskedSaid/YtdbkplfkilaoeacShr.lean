/- Shares: the greatest common divisor, the program's way and the model's; a share of a part in a whole. -/
import Derived.Test.YtdbkplfkilaoeacMix
import Derived.Deep.DeepCutAuto
namespace Go.Proofs.Ytdbkplfkilaoeac
open Go.ChangeShapes Go.WideShapes Go.ChangeAt Go.RowKit

theorem open_share {P : Program} {w : World} {r : Reach} {base : Nat} {t : TypeId} {v : Value} {f0 f1 : Field} {e : TypeId} (hu : P.underlying t = some (.struct #[f0, f1])) (he : P.underlying e = some (.int .i64)) (hts : P.cellTypes P.depth t = some [e, e]) (hc : P.cellsOf t = 2)
    (h : Value.okWide P w r base t v) : ∃ a b : Int, v = .agg #[.int .i64 a, .int .i64 b] ∧ I64 a ∧ I64 b := by
  obtain ⟨cs, rfl, hsz, hcell⟩ := open_cells ⟨_, hu, .inl ⟨_, rfl⟩⟩ hts hc h
  obtain ⟨c0, c1, rfl⟩ := Go.Joins.array2 hsz
  obtain ⟨a, rfl, a1, a2⟩ := cell_int he (hcell 0 c0 e rfl rfl)
  obtain ⟨b, rfl, b1, b2⟩ := cell_int he (hcell 1 c1 e rfl rfl)
  simp [IntKind.min, IntKind.max, IntKind.signed, IntKind.bits] at a1 a2 b1 b2
  exact ⟨a, b, rfl, ⟨by omega, by omega⟩, ⟨by omega, by omega⟩⟩

/-- The share of p in q, without common divisors. -/
def shP (p q : Nat) : Int := ((p / Nat.gcd p q : Nat) : Int)
def shQ (p q : Nat) : Int := ((q / Nat.gcd p q : Nat) : Int)
theorem gcd_step (d r : Nat) : Nat.gcd r (d % r) = Nat.gcd d r := by
  rw [Nat.gcd_comm r, ← Nat.gcd_rec, Nat.gcd_comm]
theorem gcd_pos {p q : Nat} (h : 0 < q) : 0 < Nat.gcd p q := Nat.gcd_pos_of_pos_right _ h
theorem gcd_le {p q : Nat} (h : 0 < q) : Nat.gcd p q ≤ q := Nat.gcd_le_right _ h

theorem mdc (d r : Nat) : (d : Int) % (r : Int) = ((d % r : Nat) : Int) := rfl
theorem dvc (d r : Nat) : (d : Int) / (r : Int) = ((d / r : Nat) : Int) := rfl

theorem wrap_div (p d : Nat) (h : p ≤ 1000000000) : wrap64 ((p : Int) / (d : Int)) = (p : Int) / (d : Int) := by
  have h1 : p / d ≤ p := Nat.div_le_self p d
  rw [dvc]
  generalize p / d = n at *
  exact IntWalk.wrap64_in _ ⟨by omega, by omega⟩

set_option maxHeartbeats 800000 in
theorem iShare_any (p q : Nat) (hq : 0 < q) (lp : p ≤ 1000000000) (lq : q ≤ 1000000000) (w : World) :
    Calls Try.prog 36 #[.int .i64 (p : Int), .int .i64 (q : Int)] w fun e w' => e = .returned (.agg #[.int .i64 (shP p q), .int .i64 (shQ p q)]) ∧ Below w.heap.size w w' := by
  have M0 := Lib.hid (block_alloc w (.cells #[.int .i64 0, .int .i64 0] 33))
  have B0 := Lib.hid (below_new (Below.refl w.heap.size w) (.cells #[.int .i64 0, .int .i64 0] 33))
  have hbw := cell_bw
  generalize hx : shP p q = x
  generalize hy : shQ p q = y
  have HX := Lib.hid hx
  have HY := Lib.hid hy
  clear hx hy
  go_enter Try.func36, Try.ntmps36
  go_wp2
  go_loopw [5, 6] (fun x y wr => ∃ d r : Nat, x = .int .i64 (d : Int) ∧ y = .int .i64 (r : Int) ∧ 0 < d ∧ d ≤ 1000000000 ∧ r ≤ 1000000000 ∧ Nat.gcd d r = Nat.gcd p q ∧ Ab (w.alloc (.cells #[.int .i64 0, .int .i64 0] 33)) wr) (fun _ y _ => (intOf y).toNat)
  case atStart => exact ⟨q, p, rfl, rfl, hq, lq, lp, Nat.gcd_comm _ _, Ab.refl _⟩
  case round =>
    obtain ⟨d, r, rfl, rfl, hd, ld, lr, hg, hA⟩ := hrel
    have AA := Lib.hid hA
    have BB := Lib.hid (B0.out.trans (Below.mono hA B0.out.size))
    have MM := Lib.hid (Ab.block hA M0.out)
    have HG := Lib.hid hg
    clear hA hg
    by_cases hr : 0 < r
    · have e1 := mdc d r
      have l1 : d % r < r := Nat.mod_lt _ hr
      have g1 := Lib.hid (gcd_step d r)
      have d1 : decide ((0 : Int) < (r : Int)) = true := decide_eq_true (by omega)
      generalize d % r = m at *
      go_wp2_with fail
      refine region_bw (by kernel_rfl) (by kernel_rfl) ?_
      repeat (go_big_quiet_step (fail))
      refine wpQuiet_nil ?_; intro wq hq; replace hq := below_of_bw hq; obtain ⟨qc, qf, qz⟩ := bcell hq
      go_wp2_with fail
      exact ⟨⟨r, m, rfl, by rw [e1], hr, lr, by omega, by rw [g1.out, HG.out], Ab.trans AA.out hq⟩, by simp [intOf, e1]; omega⟩
    · obtain rfl : r = 0 := by omega
      have e : d = Nat.gcd p q := by rw [← HG.out, Nat.gcd_zero_right]
      have v1 := wrap_div p d lp
      have v2 := wrap_div q d lq
      have e1 : (p : Int) / (d : Int) = x := by rw [← HX.out, shP, ← e]; rfl
      have e2 : (q : Int) / (d : Int) = y := by rw [← HY.out, shQ, ← e]; rfl
      have d1 : decide ((0 : Int) < ((0 : Nat) : Int)) = false := by decide
      rw [e1] at v1
      rw [e2] at v2
      clear HG e
      go_wp2_with fail
      refine wp_region_last 7 (by kernel_rfl) rfl rfl (by kernel_rfl) (by kernel_rfl) rfl ?_
      simp only [List.take_succ_cons, List.take_zero]
      intro w3 h3
      repeat (go_big_quiet_step (fail))
      refine wpQuiet_nil ?_
      intro w4 h4
      have E := h4.block MM.out
      have f := cell_of_block E
      have g := free_of_block E
      have l4 : Below w.heap.size w w4 := BB.out.trans (Below.mono h4 BB.out.size)
      clear E h4 h3
      go_simp
      simp only [Yld]
      go_wp2
      refine bodyPost_ret (by simp [results, Try.results36, go_sem, f]; try rfl) rfl ?_
      exact ⟨by simp , by have := l4; ((repeat' (first | (with_reducible exact Below.refl _ _) | (with_reducible assumption) | (with_reducible refine below_drewN ?_ _) | (with_reducible refine Below.drew ?_) | (with_reducible refine below_new ?_ _) | (with_reducible refine below_next ?_ (by with_reducible assumption)) | (with_reducible refine Below.setCell ?_ ?_ _) | go_size)); done)⟩

set_option maxHeartbeats 800000 in
theorem sGcd_any (p q : Nat) (lp : p ≤ 1000000000) (lq : q ≤ 1000000000) (w : World) :
    Calls Try.prog 54 #[.int .i64 (p : Int), .int .i64 (q : Int)] w fun e w' => e = .returned (.int .i64 ((Nat.gcd p q : Nat) : Int)) ∧ Below w.heap.size w w' := by
  go_enter Try.func54, Try.ntmps54
  go_wp2
  go_loopw [0, 1] (fun x y wr => ∃ d r : Nat, x = .int .i64 (d : Int) ∧ y = .int .i64 (r : Int) ∧ d ≤ 1000000000 ∧ r ≤ 1000000000 ∧ Nat.gcd d r = Nat.gcd p q ∧ Below w.heap.size w wr) (fun _ y _ => (intOf y).toNat)
  case atStart => exact ⟨p, q, rfl, rfl, lp, lq, rfl, Below.refl _ _⟩
  case round =>
    obtain ⟨d, r, rfl, rfl, ld, lr, hg, hB⟩ := hrel
    have BB := Lib.hid hB
    have HG := Lib.hid hg
    clear hB hg
    by_cases hr : 0 < r
    · have e1 := mdc d r
      have l1 : d % r < r := Nat.mod_lt _ hr
      have g1 := Lib.hid (gcd_step d r)
      have d1 : ((r : Int) != 0) = true := by simp; omega
      generalize d % r = m at *
      go_wp2
      exact ⟨⟨r, m, rfl, by rw [e1], lr, by omega, by rw [g1.out, HG.out], BB.out⟩, by simp [intOf, e1]; omega⟩
    · obtain rfl : r = 0 := by omega
      have e : d = Nat.gcd p q := by rw [← HG.out, Nat.gcd_zero_right]
      have d1 : (((0 : Nat) : Int) != 0) = false := by decide
      clear HG
      go_wp2
      go_returns
      exact ⟨by rw [← e]; rfl, BB.out⟩

set_option maxHeartbeats 800000 in
theorem sShare_any (p q : Nat) (hq : 0 < q) (lp : p ≤ 1000000000) (lq : q ≤ 1000000000) (w : World) :
    Calls Try.prog 35 #[.int .i64 (p : Int), .int .i64 (q : Int)] w fun e w' => e = .returned (.agg #[.int .i64 (shP p q), .int .i64 (shQ p q)]) ∧ Below w.heap.size w w' := by
  have G := Lib.hid fun W => sGcd_any p q lp lq W
  have M0 := Lib.hid (block_alloc w (.cells #[.int .i64 0, .int .i64 0] 33))
  have B0 := Lib.hid (below_new (Below.refl w.heap.size w) (.cells #[.int .i64 0, .int .i64 0] 33))
  have hbw := cell_bw
  have g0 := gcd_pos (p := p) hq
  have g1 := gcd_le (p := p) hq
  unfold shP shQ
  generalize Nat.gcd p q = d at *
  have e1 := dvc p d
  have e2 := dvc q d
  have v1 := wrap_div p d lp
  have v2 := wrap_div q d lq
  rw [e1] at v1
  rw [e2] at v2
  generalize p / d = pd at *
  generalize q / d = qd at *
  go_enter Try.func35, Try.ntmps35
  go_upto_region 2 with (go_at_call 54; refine (G.out _).mono ?_; rintro e w1 ⟨rfl, hB⟩; have BB := Lib.hid (B0.out.trans (Below.mono hB B0.out.size)); have MM := Lib.hid (Ab.block hB M0.out); clear hB)
  refine wp_region_last 7 (by kernel_rfl) rfl rfl (by kernel_rfl) (by kernel_rfl) rfl ?_
  simp only [List.take_succ_cons, List.take_zero]
  intro w3 h3
  repeat (go_big_quiet_step (fail))
  refine wpQuiet_nil ?_
  intro w4 h4
  have E := h4.block MM.out
  have f := cell_of_block E
  have g := free_of_block E
  have l4 : Below w.heap.size w w4 := BB.out.trans (Below.mono h4 BB.out.size)
  clear E h4 h3
  go_simp
  simp only [Yld]
  go_wp2
  refine bodyPost_ret (by simp [results, Try.results35, go_sem, f]; try rfl) rfl ?_
  exact ⟨by simp , by have := l4; ((repeat' (first | (with_reducible exact Below.refl _ _) | (with_reducible assumption) | (with_reducible refine below_drewN ?_ _) | (with_reducible refine Below.drew ?_) | (with_reducible refine below_new ?_ _) | (with_reducible refine below_next ?_ (by with_reducible assumption)) | (with_reducible refine Below.setCell ?_ ?_ _) | go_size)); done)⟩

/-! ### ShareOf -/
def ShIn (p q : Int) : Prop := 1 ≤ q ∧ q ≤ 1000000000 ∧ 0 ≤ p ∧ p ≤ q
instance (p q : Int) : Decidable (ShIn p q) := by unfold ShIn; infer_instance
def soP (p q : Int) : Int := if ShIn p q then shP p.toNat q.toNat else 0
def soQ (p q : Int) : Int := if ShIn p q then shQ p.toNat q.toNat else 0
def soC (p q : Int) : Int := if ShIn p q then 0 else 2
def soR (p q : Int) : Value := .tuple #[.agg #[.int .i64 (soP p q), .int .i64 (soQ p q)], .int .i64 (soC p q)]
theorem soR_no {p q : Int} (h : ¬ ShIn p q) : soR p q = .tuple #[.agg #[.int .i64 0, .int .i64 0], .int .i64 2] := by unfold soR soP soQ soC; simp [h]
theorem soR_yes {p q : Nat} (h : ShIn p q) : soR p q = .tuple #[.agg #[.int .i64 (shP p q), .int .i64 (shQ p q)], .int .i64 0] := by unfold soR soP soQ soC; simp [h]
theorem soR_parts (p q : Int) : ∃ x y k : Int, soR p q = .tuple #[.agg #[.int .i64 x, .int .i64 y], .int .i64 k] := ⟨_, _, _, rfl⟩


end Go.Proofs.Ytdbkplfkilaoeac
