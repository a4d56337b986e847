/- '==' between two witnesses, between two queries; two slices of witnesses: are they equal, by slices.Equal. -/
import Derived.Test.YtaiedpblfnaooabWts2
import Derived.Test.YtaiedpblfnaooabEqL
import Derived.Laws.StructEq
import Derived.KernelRfl
namespace Go.Proofs.Ytaiedpblfnaooab
open Go.ChangeShapes Go.WideShapes Go.ChangeAt Go.RowKit

theorem eq_wit (a b c d : Int) (w : World) : (Op.equalIn 10000 144 (.agg #[.int .i64 a, .int .i16 b]) (.agg #[.int .i64 c, .int .i16 d])).run Try.prog w = .ok (a == c && b == d) w := by
  have ui := Try.underlying2
  have ai := Try.isAgg2
  have zi := Try.sizeOf2
  have uj := Try.underlying23
  have aj := Try.isAgg23
  have zj := Try.sizeOf23
  have hS : Try.prog.underlying 144 = some (.struct (Try.prog.fieldsOf 144)) := by kernel_rfl
  rw [show (10000 : Nat) = 9999 + 1 from rfl, run_equalIn_struct w 9999 144 _ _ hS (by kernel_rfl)]
  simp only [Program.fieldsOf, Try.underlying144]
  go_simp
  by_cases h1 : a = c <;> by_cases h2 : b = d <;> simp [h1, h2]

theorem eq_maskQ (a b c d : Int) (w : World) : (Op.equalIn 9999 50 (.agg #[.int .u64 a, .int .u64 b]) (.agg #[.int .u64 c, .int .u64 d])).run Try.prog w = .ok (a == c && b == d) w := by
  have u3 := Try.underlying47
  have a3 := Try.isAgg47
  have z3 := Try.sizeOf47
  rw [show (9999 : Nat) = 9998 + 1 from rfl, Op.equalIn]
  simp only [Sem.run_bind, run_underlying Try.underlying50, Result.andThen_ok]
  simp only [Std.Legacy.Range.forIn_eq_forIn_range', Std.Legacy.Range.size, Nat.sub_zero, Nat.add_sub_cancel, Nat.div_one, List.range'_succ, List.range'_zero, List.forIn_cons, List.forIn_nil]
  go_simp
  by_cases h1 : a = c <;> by_cases h2 : b = d <;> simp [h1, h2]
theorem eq_query (a b c d e f g h : Int) (w : World) : (Op.equalIn 10000 82 (.agg #[.int .u64 a, .int .u64 b, .int .u64 c, .int .u64 d]) (.agg #[.int .u64 e, .int .u64 f, .int .u64 g, .int .u64 h])).run Try.prog w = .ok (a == e && b == f && (c == g && d == h)) w := by
  have am := Try.isAgg50
  have zm := Try.sizeOf50
  have em := eq_maskQ
  have hS : Try.prog.underlying 82 = some (.struct (Try.prog.fieldsOf 82)) := by kernel_rfl
  rw [show (10000 : Nat) = 9999 + 1 from rfl, run_equalIn_struct w 9999 82 _ _ hS (by kernel_rfl)]
  simp only [Program.fieldsOf, Try.underlying82]
  go_simp
  by_cases h1 : a = e <;> by_cases h2 : b = f <;> by_cases h3 : c = g <;> by_cases h4 : d = h <;> simp [h1, h2, h3, h4]

def eqWT (zs ys : List Wt) : Nat → Bool
  | 0 => true
  | k + 1 => eqWT zs ys k && ((wtAt zs k).c == (wtAt ys k).c && (wtAt zs k).h == (wtAt ys k).h)
def eqWs (zs ys : List Wt) : Bool := decide (zs.length = ys.length) && eqWT zs ys zs.length
theorem eqWs_len {zs ys : List Wt} (h : ¬ zs.length = ys.length) : eqWs zs ys = false := by unfold eqWs; simp [h]
theorem eqWT_no {zs ys : List Wt} {k : Nat} (h : ((wtAt zs k).c == (wtAt ys k).c && (wtAt zs k).h == (wtAt ys k).h) = false) : ∀ n, k < n → eqWT zs ys n = false
  | 0, hk => absurd hk (Nat.not_lt_zero _)
  | n + 1, hk => by
    unfold eqWT
    by_cases e : k = n
    · subst e; rw [h]; simp
    · rw [eqWT_no h n (by omega)]; rfl
theorem eqWs_no {zs ys : List Wt} {k : Nat} (hk : k < zs.length) (h : ((wtAt zs k).c == (wtAt ys k).c && (wtAt zs k).h == (wtAt ys k).h) = false) : eqWs zs ys = false := by unfold eqWs; rw [eqWT_no h _ hk]; simp
theorem eqWs_yes {zs ys : List Wt} (hl : zs.length = ys.length) (h : eqWT zs ys zs.length = true) : eqWs zs ys = true := by unfold eqWs; rw [h, decide_eq_true hl]; rfl
theorem eqWT_next {zs ys : List Wt} {k : Nat} (h : eqWT zs ys k = true) (e : ((wtAt zs k).c == (wtAt ys k).c && (wtAt zs k).h == (wtAt ys k).h) = true) : eqWT zs ys (k + 1) = true := by unfold eqWT; rw [h, e]; rfl
theorem eqWs_rest {zs ys : List Wt} (hl : zs.length = ys.length) {x : Bool} (h : eqWT zs ys zs.length = x) : eqWs zs ys = x := by unfold eqWs; rw [h, decide_eq_true hl]; rfl

set_option maxHeartbeats 1600000 in
theorem eqWits_any (a b : Option Addr) (zs ys : List Wt) (c d : Nat) (w : World) (ha : WitsIn w a zs) (hb : WitsIn w b ys) (hn : zs.length ≤ 1048576) :
    Calls Try.prog 114 #[.slice a zs.length c, .slice b ys.length d] w fun e w' => e = .returned (.bool (eqWs zs ys)) ∧ Below w.heap.size w w' := by
  have A := Lib.hid ha
  have B := Lib.hid hb
  have hbw := cell_bw
  have ew := eq_wit
  clear ha hb
  by_cases hl : zs.length = ys.length
  · have hne : ((zs.length : Int) != (ys.length : Int)) = false := by simp [hl]
    have HL := Lib.hid hl
    clear hl
    go_enter Try.func114, Try.ntmps114
    go_wp2
    go_loopw [13] (fun i wr => ∃ j : Nat, j ≤ zs.length ∧ i = .int .i64 j ∧ eqWT zs ys j = true ∧ Below w.heap.size w wr) (fun i _ => zs.length - (intOf i).toNat)
    case atStart => exact ⟨0, Nat.zero_le _, rfl, rfl, Below.refl _ _⟩
    case round =>
      obtain ⟨j, hj, rfl, hs, hB⟩ := hrel
      have BB := Lib.hid hB
      have S := Lib.hid hs
      clear hs hne
      by_cases hjl : j < zs.length
      · have hd : decide ((j : Int) < (zs.length : Int)) = true := by simpa using hjl
        obtain ⟨_, b1, o1, rfl, hb1, p0, p1⟩ := A.out j hjl
        obtain ⟨_, b2, o2, rfl, hb2, q0, q1⟩ := B.out j (HL.out ▸ hjl)
        have d0 := (hB.cell (p := ⟨b1, o1 + j * 2, none⟩) hb1).trans p0
        have d1 := (hB.cell (p := ⟨b1, o1 + j * 2 + 1, none⟩) hb1).trans p1
        have e0 := (hB.cell (p := ⟨b2, o2 + j * 2, none⟩) hb2).trans q0
        have e1 := (hB.cell (p := ⟨b2, o2 + j * 2 + 1, none⟩) hb2).trans q1
        have y1 : b1 < wr.heap.size := Nat.lt_of_lt_of_le hb1 hB.size
        have y2 : b2 < wr.heap.size := Nat.lt_of_lt_of_le hb2 hB.size
        have i1 : (0 : Int) ≤ (j : Int) := by omega
        have i2 : (j : Int) < (zs.length : Int) := by omega
        have i3 : (j : Int) < (ys.length : Int) := by have := HL.out; omega
        have no := Lib.hid fun h => eqWs_no (ys := ys) hjl h
        have nx := Lib.hid fun h => eqWT_next (k := j) S.out h
        clear hB p0 p1 q0 q1 S
        cases hxy : ((wtAt zs j).c == (wtAt ys j).c && (wtAt zs j).h == (wtAt ys j).h)
        · have N := Lib.hid (no.out hxy)
          clear no nx
          generalize wtAt zs j = x at *
          generalize wtAt ys j = y at *
          obtain ⟨x0, x1⟩ := x
          obtain ⟨y0, y1⟩ := y
          simp only at d0 d1 e0 e1 hxy
          go_wp2_with fail
          refine region_bw (by kernel_rfl) (by kernel_rfl) ?_
          repeat (go_big_quiet_step (fail))
          refine wpQuiet_nil ?_; intro wq hq; replace hq := below_of_bw hq; obtain ⟨qc, qf, qz⟩ := bcell hq
          go_wp2_with fail
          go_ret
          exact ⟨kretB N.out, BB.out.trans (hq.mono BB.out.size)⟩
        · have N := Lib.hid (nx.out hxy)
          clear no nx
          generalize wtAt zs j = x at *
          generalize wtAt ys j = y at *
          obtain ⟨x0, x1⟩ := x
          obtain ⟨y0, y1⟩ := y
          simp only at d0 d1 e0 e1 hxy
          go_wp2_with fail
          refine region_bw (by kernel_rfl) (by kernel_rfl) ?_
          repeat (go_big_quiet_step (fail))
          refine wpQuiet_nil ?_; intro wq hq; replace hq := below_of_bw hq; obtain ⟨qc, qf, qz⟩ := bcell hq
          go_wp2_with fail
          exact ⟨⟨j + 1, hjl, by rw [Int.natCast_succ], N.out, BB.out.trans (hq.mono BB.out.size)⟩, by (simp [intOf]) <;> omega⟩
      · have e : j = zs.length := by omega
        subst e
        have hd : decide ((zs.length : Int) < (zs.length : Int)) = false := by simp
        clear hB
        go_wp2
        go_ret
        exact ⟨kretB (eqWs_yes HL.out S.out), BB.out⟩
  · have hne : ((zs.length : Int) != (ys.length : Int)) = true := by simp; omega
    go_enter Try.func114, Try.ntmps114
    go_wp2
    go_ret
    exact ⟨kretB (eqWs_len hl), Below.refl _ _⟩
end Go.Proofs.Ytaiedpblfnaooab
