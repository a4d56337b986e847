/- Contracts: the key of a mask, the program's and the model's. -/
import Derived.Test.YtaiedpblfnaooabKv
import Derived.Test.YtaiedpblfnaooabQuiet
import Derived.Test.YtaiedpblfnaooabHole
namespace Go.Proofs.Ytaiedpblfnaooab
open Go.ChangeShapes Go.WideShapes Go.ChangeAt Go.RowKit

theorem or_pow (x i : Nat) (h : x < 2 ^ i) (hi : i ≤ 24) : bits .or .i64 (x : Int) ((2 ^ i : Nat) : Int) = ((x + 2 ^ i : Nat) : Int) := by
  have h2 : (2 : Nat) ^ i ≤ 2 ^ 24 := Nat.pow_le_pow_right (by decide) hi
  show IntKind.i64.wrap ((BitVec.ofInt 64 (x : Int) ||| BitVec.ofInt 64 ((2 ^ i : Nat) : Int)).toNat : Int) = _
  have h3 : (BitVec.ofInt 64 (x : Int)).toNat = x := by
    rw [BitVec.ofInt_natCast, BitVec.toNat_ofNat]; exact Nat.mod_eq_of_lt (by omega)
  have h4 : (BitVec.ofInt 64 ((2 ^ i : Nat) : Int)).toNat = 2 ^ i := by
    rw [BitVec.ofInt_natCast, BitVec.toNat_ofNat]; exact Nat.mod_eq_of_lt (by omega)
  have h5 := Nat.two_pow_add_eq_or_of_lt h 1
  rw [Nat.mul_one] at h5
  rw [BitVec.toNat_or, h3, h4, Nat.or_comm, ← h5, Nat.add_comm]
  exact IntWalk.i64_in _ (by omega)

set_option maxHeartbeats 1600000 in
theorem sKey_any (s : ByteArray) (k st sz : Int) (h : fieldOk s k st sz = true) (a b : Int) (ha : U64 a) (hb : U64 b) (g o : Nat) (w : World) (h1 : w.cell? ⟨g, o + 1, none⟩ = some (.int .i8 k)) (h2 : w.cell? ⟨g, o + 2, none⟩ = some (.int .i16 st)) (h3 : w.cell? ⟨g, o + 3, none⟩ = some (.int .i16 sz)) :
    Calls Try.prog 82 #[.pointer (some ⟨g, o, none⟩), .agg #[.int .u64 a, .int .u64 b]] w fun e w' => e = .returned (.int .i64 (kv (hasB a b) (srt k st sz) : Nat)) ∧ Below w.heap.size w w' := by
  have hg := World.block_lt_of_cell? _ _ h1
  have S := Lib.hid fun W c1 c2 c3 => sSortOk s k st sz h g o W c1 c2 c3
  obtain ⟨hl, hr⟩ := srt_in h
  have R := Lib.hid hr
  have H := Lib.hid fun (z : Int) (q0 : 0 ≤ z) (q1 : z ≤ 95) W => sHas_any a b z ha hb q0 q1 W
  clear h hr ha hb
  generalize srt k st sz = zs at *
  have G1 := Lib.hid (show ∀ x, (w.alloc x).cell? ⟨g, o + 1, none⟩ = some (.int .i8 k) from fun x => (World.cell?_alloc_past (hn := hg) ..).trans h1)
  have G2 := Lib.hid (show ∀ x, (w.alloc x).cell? ⟨g, o + 2, none⟩ = some (.int .i16 st) from fun x => (World.cell?_alloc_past (hn := hg) ..).trans h2)
  have G3 := Lib.hid (show ∀ x, (w.alloc x).cell? ⟨g, o + 3, none⟩ = some (.int .i16 sz) from fun x => (World.cell?_alloc_past (hn := hg) ..).trans h3)
  have hbw := cell_bw
  clear h1 h2 h3
  go_enter Try.func82, Try.ntmps82
  go_wp2_with (go_at_call 79; refine Calls.mono (S.out _ (G1.out _) (G2.out _) (G3.out _)) ?_; rintro e w1 ⟨v, rfl, hO, hB⟩; obtain ⟨ad, cp, rfl, hi⟩ := ownInts_in hO; have II := Lib.hid hi; have c0 : w1.cell? ⟨w.heap.size, 0, none⟩ = some (.int .u64 a) := (hB.cell (by simp)).trans (by simp); have c1 : w1.cell? ⟨w.heap.size, 1, none⟩ = some (.int .u64 b) := (hB.cell (by simp)).trans (by simp); have s1 : w.heap.size < w1.heap.size := (by have := hB.size; simp at this; omega); have b1 : Below w.heap.size w w1 := (by repeat' (first | (with_reducible exact Below.refl _ _) | (with_reducible assumption) | (with_reducible refine below_drewN ?_ _) | (with_reducible refine Below.drew ?_) | (with_reducible refine below_new ?_ _) | (with_reducible refine below_next ?_ (by with_reducible assumption)) | (with_reducible refine Below.setCell ?_ ?_ _) | go_size)); have B1 := Lib.hid b1; clear hO hi hB b1)
  go_loopw [6, 7] (fun q i wr => ∃ j : Nat, j ≤ zs.length ∧ i = .int .i64 ((j : Int) - 1) ∧ q = .int .i64 (kv (hasB a b) (zs.drop j) : Nat) ∧ Below w1.heap.size w1 wr) (fun _ i _ => (intOf i + 1).toNat)
  case atStart => exact ⟨zs.length, Nat.le_refl _, rfl, by simp [kv], Below.refl _ _⟩
  case round =>
    obtain ⟨j, hj, hi, rfl, hB⟩ := hrel
    have BB := Lib.hid hB
    have sm := kv_small (hasB a b) (zs.drop j) (by rw [List.length_drop]; omega)
    cases j with
    | zero =>
      rw [show ((0 : Nat) : Int) - 1 = -1 from rfl] at hi
      subst hi
      clear hB c0 c1
      rw [List.drop_zero] at *
      go_wp2_with fail
      go_ret
      exact ⟨rfl, below_next B1.out BB.out⟩
    | succ i =>
      rw [show ((i + 1 : Nat) : Int) - 1 = (i : Int) by omega] at hi
      subst hi
      have hil : i < zs.length := by omega
      obtain ⟨b2, o2, rfl, hb2, hc2⟩ := II.out i hil
      have z2 := (hB.cell (p := ⟨b2, o2 + i, none⟩) hb2).trans hc2
      have hb3 : b2 < wr.heap.size := Nat.lt_of_lt_of_le hb2 hB.size
      have d0 := (hB.cell (p := ⟨w.heap.size, 0, none⟩) s1).trans c0
      have d1 := (hB.cell (p := ⟨w.heap.size, 1, none⟩) s1).trans c1
      have sw : w.heap.size < wr.heap.size := Nat.lt_of_lt_of_le s1 hB.size
      obtain ⟨q0, q1⟩ := R.out i hil
      have K := Lib.hid (H.out (zs.getD i 0) q0 q1)
      have kd := Lib.hid (kv_drop (hasB a b) zs i hil)
      have sm2 := kv_small (hasB a b) (zs.drop i) (by rw [List.length_drop]; omega)
      have i1 : (0 : Int) ≤ (i : Int) := by omega
      have i2 : (i : Int) < (zs.length : Int) := by omega
      have x1 : IntKind.i64.wrap ((i : Int) - 1) = (i : Int) - 1 := IntWalk.i64_in _ (by omega)
      generalize kv (hasB a b) (zs.drop (i + 1)) = x at *
      clear hB hc2 c0 c1
      have x2 : IntKind.i64.wrap (2 * (x : Int)) = 2 * (x : Int) := IntWalk.i64_in _ (by omega)
      have x3 : IntKind.i64.wrap (2 * (x : Int) + 1) = 2 * (x : Int) + 1 := IntWalk.i64_in _ (by omega)
      generalize zs.getD i 0 = z at *
      cases q : hasB a b z
      all_goals
        rw [q] at K kd
        clear q q0 q1
        go_wp2_with fail
        refine region_bw (by kernel_rfl) (by kernel_rfl) ?_
        repeat (go_big_quiet_step (first | (go_at_call 135; exact calls_bw (K.out _))))
        refine wpQuiet_nil ?_; intro wq hq; replace hq := below_of_bw hq; obtain ⟨qc, qf, qz⟩ := bcell hq
        go_wp2_with fail
        exact ⟨⟨i, by omega, rfl, by have e := kd.out; simp at e; rw [e]; first | rfl | (simp; done) | (simp; omega) | (congr 1; simp; omega), BB.out.trans (hq.mono BB.out.size)⟩, by (simp [intOf]) <;> omega⟩

set_option maxHeartbeats 1600000 in
theorem iKey_any (s : ByteArray) (k st sz : Int) (h : fieldOk s k st sz = true) (a b : Int) (ha : U64 a) (hb : U64 b) (w : World) :
    Calls Try.prog 84 #[.agg #[.string s, .int .i8 k, .int .i16 st, .int .i16 sz], .agg #[.int .u64 a, .int .u64 b]] w fun e w' => e = .returned (.int .i64 (kv (hasB a b) (srt k st sz) : Nat)) ∧ Below w.heap.size w w' := by
  have S := Lib.hid fun W => iSortOk s k st sz h W
  obtain ⟨hl, hr⟩ := srt_in h
  have R := Lib.hid hr
  have H := Lib.hid fun (z : Int) (q0 : 0 ≤ z) (q1 : z ≤ 95) (W : World) => (iWithin_any (b0 z) (b1 z) a b W).mono fun e w' hh => (⟨hh.1.trans (by rw [within_bit a b z ha hb q0 q1]), hh.2⟩ : e = .returned (.bool (hasB a b z)) ∧ Below W.heap.size W w')
  clear h hr ha hb
  generalize srt k st sz = zs at *
  have hbw := cell_bw
  go_enter Try.func84, Try.ntmps84
  go_wp2_with (go_at_call 80; refine (S.out _).mono ?_; rintro e w1 ⟨v, rfl, hO, hB⟩; obtain ⟨ad, cp, rfl, hi⟩ := ownInts_in hO; have II := Lib.hid hi; have c0 : w1.cell? ⟨w.heap.size + 1, 0, none⟩ = some (.int .u64 a) := (hB.cell (box2_lt1 ..)).trans (box2_1 ..); have c1 : w1.cell? ⟨w.heap.size + 1, 1, none⟩ = some (.int .u64 b) := (hB.cell (box2_lt1 ..)).trans (box2_1 ..); have s1 : w.heap.size + 1 < w1.heap.size := (by have := hB.size; simp at this; omega); have b1 : Below w.heap.size w w1 := (by repeat' (first | (with_reducible exact Below.refl _ _) | (with_reducible assumption) | (with_reducible refine below_drewN ?_ _) | (with_reducible refine Below.drew ?_) | (with_reducible refine below_new ?_ _) | (with_reducible refine below_next ?_ (by with_reducible assumption)) | (with_reducible refine Below.setCell ?_ ?_ _) | go_size)); have B1 := Lib.hid b1; clear hO hi hB b1)
  go_loopw [5, 11] (fun q i wr => ∃ j : Nat, j ≤ zs.length ∧ i = .int .i64 j ∧ q = .int .i64 (kv (hasB a b) (zs.take j) : Nat) ∧ Below w1.heap.size w1 wr) (fun _ i _ => zs.length - (intOf i).toNat)
  case atStart => exact ⟨0, Nat.zero_le _, rfl, by simp [kv], Below.refl _ _⟩
  case round =>
    obtain ⟨i, hj, rfl, rfl, hB⟩ := hrel
    have BB := Lib.hid hB
    have sm := kv_small (hasB a b) (zs.take i) (by rw [List.length_take]; omega)
    have sl := kv_lt (hasB a b) (zs.take i)
    rw [List.length_take, Nat.min_eq_left hj] at sl
    by_cases hil : i < zs.length
    · have hd : decide ((i : Int) < (zs.length : Int)) = true := by simpa using hil
      obtain ⟨b2, o2, rfl, hb2, hc2⟩ := II.out i hil
      have z2 := (hB.cell (p := ⟨b2, o2 + i, none⟩) hb2).trans hc2
      have hb3 : b2 < wr.heap.size := Nat.lt_of_lt_of_le hb2 hB.size
      have d0 := (hB.cell (p := ⟨w.heap.size + 1, 0, none⟩) s1).trans c0
      have d1 := (hB.cell (p := ⟨w.heap.size + 1, 1, none⟩) s1).trans c1
      have sw : w.heap.size + 1 < wr.heap.size := Nat.lt_of_lt_of_le s1 hB.size
      obtain ⟨q0, q1⟩ := R.out i hil
      have K := Lib.hid (H.out (zs.getD i 0) q0 q1)
      have O1 := Lib.hid fun W => iOne_any (zs.getD i 0) q0 q1 W
      have kd := Lib.hid (kv_take (hasB a b) zs i hil)
      have i1 : (0 : Int) ≤ (i : Int) := by omega
      have i2 : (i : Int) < (zs.length : Int) := by omega
      have x1 : IntKind.i64.wrap ((i : Int) + 1) = (i : Int) + 1 := IntWalk.i64_in _ (by omega)
      have op := or_pow (kv (hasB a b) (zs.take i)) i sl (by omega)
      have p2 : (2 : Nat) ^ i ≤ 2 ^ 24 := Nat.pow_le_pow_right (by decide) (by omega)
      have p3 : ((2 ^ i : Nat) : Int) = (2 : Int) ^ i := by simp
      have x2 : IntKind.i64.wrap ((2 : Int) ^ i) = (2 : Int) ^ i := by rw [← p3]; exact IntWalk.i64_in _ (by omega)
      rw [p3] at op
      have OP := Lib.hid op
      clear p2 p3 op
      generalize kv (hasB a b) (zs.take i) = x at *
      clear hB hc2 c0 c1 sl
      generalize zs.getD i 0 = z at *
      cases q : hasB a b z
      · rw [q] at K kd
        clear q q0 q1
        go_wp2_with fail
        refine region_bw (by kernel_rfl) (by kernel_rfl) ?_
        repeat (go_big_quiet_step (first | (go_at_call 131; exact calls_bw (O1.out _)) | (go_at_call 136; exact calls_bw (K.out _))))
        refine wpQuiet_nil ?_; intro wq hq; replace hq := below_of_bw hq; obtain ⟨qc, qf, qz⟩ := bcell hq
        go_wp2_with fail
        exact ⟨⟨i + 1, hil, by rw [Int.natCast_succ], by have e := kd.out; simp at e; rw [e], BB.out.trans (hq.mono BB.out.size)⟩, by (simp [intOf]) <;> omega⟩
      · rw [q] at K kd
        clear q q0 q1
        go_wp2_with fail
        refine region_bw (by kernel_rfl) (by kernel_rfl) ?_
        repeat (go_big_quiet_step (first | (go_at_call 131; exact calls_bw (O1.out _)) | (go_at_call 136; exact calls_bw (K.out _))))
        refine wpQuiet_nil ?_; intro wq hq; replace hq := below_of_bw hq; obtain ⟨qc, qf, qz⟩ := bcell hq
        have op := OP.out
        go_wp2_with fail
        exact ⟨⟨i + 1, hil, by rw [Int.natCast_succ], by have e := kd.out; simp at e; rw [e]; simp, BB.out.trans (hq.mono BB.out.size)⟩, by (simp [intOf]) <;> omega⟩
    · have e : i = zs.length := by omega
      subst e
      have hd : decide ((zs.length : Int) < (zs.length : Int)) = false := by simp
      rw [List.take_length] at *
      clear hB c0 c1
      go_wp2_with fail
      go_ret
      exact ⟨rfl, below_next B1.out BB.out⟩
end Go.Proofs.Ytaiedpblfnaooab
