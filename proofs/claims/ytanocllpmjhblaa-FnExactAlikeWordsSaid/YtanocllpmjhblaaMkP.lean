/- Pairs: compared, marked, looked at by the laws' functions. -/
import Derived.Test.YtanocllpmjhblaaAlk
import Derived.Test.YtanocllpmjhblaaMkM
namespace Go.Proofs.Ytanocllpmjhblaa
open Go.ChangeShapes Go.WideShapes Go.ChangeAt Go.RowKit

set_option maxHeartbeats 400000 in
theorem eqPair_any (a b c d : Int) (w : World) :
    Calls Try.prog 57 #[.agg #[.int .i64 a, .int .i64 b], .agg #[.int .i64 c, .int .i64 d]] w fun e w' => e = .returned (.bool (a == c && b == d)) ∧ Below w.heap.size w w' := by
  go_enter Try.func57, Try.ntmps57
  go_wp2
  refine wp_loop_rounds 3 ?_
  rw [rounds_succ]; go_wp2
  go_quiet (fail)
  go_wp2
  · have h : (a != c) = true := by assumption
    go_returns
    refine ⟨by simp at h; simp [h], (by repeat' (first | (with_reducible exact Below.refl _ _) | (with_reducible assumption) | (with_reducible refine below_drewN ?_ _) | (with_reducible refine Below.drew ?_) | (with_reducible refine below_new ?_ _) | (with_reducible refine below_next ?_ (by with_reducible assumption)) | (with_reducible refine Below.setCell ?_ ?_ _) | go_size))⟩
  · have h : (a != c) = false := by assumption
    rw [rounds_succ]; go_wp2
    go_quiet (fail)
    go_wp2
    · have h2 : (b != d) = true := by assumption
      go_returns
      refine ⟨by simp at h2; simp [h2], (by repeat' (first | (with_reducible exact Below.refl _ _) | (with_reducible assumption) | (with_reducible refine below_drewN ?_ _) | (with_reducible refine Below.drew ?_) | (with_reducible refine below_new ?_ _) | (with_reducible refine below_next ?_ (by with_reducible assumption)) | (with_reducible refine Below.setCell ?_ ?_ _) | go_size))⟩
    · have h2 : (b != d) = false := by assumption
      rw [rounds_succ]; go_wp2
      go_returns
      refine ⟨by simp at h h2; simp [h, h2], (by repeat' (first | (with_reducible exact Below.refl _ _) | (with_reducible assumption) | (with_reducible refine below_drewN ?_ _) | (with_reducible refine Below.drew ?_) | (with_reducible refine below_new ?_ _) | (with_reducible refine below_next ?_ (by with_reducible assumption)) | (with_reducible refine Below.setCell ?_ ?_ _) | go_size))⟩

theorem eqPair_same (a b : Int) (w : World) :
    Calls Try.prog 57 #[.agg #[.int .i64 a, .int .i64 b], .agg #[.int .i64 a, .int .i64 b]] w fun e w' => e = .returned (.bool true) ∧ Below w.heap.size w w' :=
  (eqPair_any a b a b w).mono fun e w' ⟨he, hb⟩ => ⟨by rw [he]; simp, hb⟩


set_option maxHeartbeats 1600000 in
theorem eqPairs_same (a b : Option Addr) (ms : List (Int × Int)) (c d : Nat) (w : World) (ha : PairsIn w a ms) (hb : PairsIn w b ms) (hl : ms.length ≤ 1048576) :
    Calls Try.prog 14 #[.slice a ms.length c, .slice b ms.length d] w fun e w' => e = .returned (.bool true) ∧ Below w.heap.size w w' := by
  have A := Lib.hid ha
  have B := Lib.hid hb
  clear ha hb
  have hbw := cell_bw
  go_enter Try.func14, Try.ntmps14
  go_wp2
  go_loopw [5] (fun i wr => ∃ k : Nat, k ≤ ms.length ∧ i = .int .i64 k ∧ Below w.heap.size w wr) (fun i _ => ms.length - (intOf i).toNat)
  case atStart => exact ⟨0, Nat.zero_le _, rfl, Below.refl _ _⟩
  case round =>
    obtain ⟨k, hk, rfl, hB2⟩ := hrel
    have B3 := Lib.hid hB2
    by_cases hkl : k < ms.length
    · obtain ⟨b1, o1, rfl, h1, p0, p1⟩ := A.out k hkl
      obtain ⟨b2, o2, rfl, h2, q0, q1⟩ := B.out k hkl
      have g0 := (hB2.cell (p := ⟨b1, o1 + k * 2, none⟩) h1).trans p0
      have g1 := (hB2.cell (p := ⟨b1, o1 + k * 2 + 1, none⟩) h1).trans p1
      have g2 := (hB2.cell (p := ⟨b2, o2 + k * 2, none⟩) h2).trans q0
      have g3 := (hB2.cell (p := ⟨b2, o2 + k * 2 + 1, none⟩) h2).trans q1
      have l1 : b1 < wr.heap.size := Nat.lt_of_lt_of_le h1 hB2.size
      have l2 : b2 < wr.heap.size := Nat.lt_of_lt_of_le h2 hB2.size
      have hd : decide ((k : Int) < (ms.length : Int)) = true := by simpa using hkl
      have i1 : (0 : Int) ≤ (k : Int) := by omega
      have i2 : (k : Int) < (ms.length : Int) := by omega
      generalize (ms.getD k (0, 0)).1 = x at *
      generalize (ms.getD k (0, 0)).2 = y at *
      clear hB2 p0 p1 q0 q1
      go_upto_region 6 with fail
      refine region_bw (by kernel_rfl) (by kernel_rfl) ?_
      repeat (go_big_quiet_step (first | (go_at_call 57; exact calls_bw (eqPair_same _ _ _))))
      refine wpQuiet_nil ?_; intro wq hq
      have hq := Lib.hid (below_of_bw hq)
      go_wp2
      go_roundw
      case rel => exact ⟨k + 1, hkl, by go_num, B3.out.trans (Below.mono hq.out B3.out.size)⟩
      case measure => simp [intOf]; omega
    · have e : k = ms.length := by omega
      subst e
      clear hB2 hbw
      go_wp2
      go_ret
      exact ⟨rfl, B3.out⟩

theorem flatP_set : ∀ (ms : List (Int × Int)) (i : Nat) (m : Int × Int), ((flatP ms).set (i * 2) (.int .i64 m.1)).set (i * 2 + 1) (.int .i64 m.2) = flatP (ms.set i m)
  | [], i, m => rfl
  | d :: ms, 0, m => rfl
  | d :: ms, i + 1, m => by
    rw [show (i + 1) * 2 = i * 2 + 1 + 1 by omega]
    have := flatP_set ms i m
    simp only [flatP, List.set_cons_succ, this]

set_option maxRecDepth 100000 in
set_option maxHeartbeats 3200000 in
theorem markPsOwn_any (B : Nat) (ms : List (Int × Int)) (v : Value) (k : Nat) (w : World) (h : OwnPs B ms v w) (hk : k + 2 * ms.length ≤ 4000000) :
    Calls Try.prog 17 #[v, .int .i64 (k : Int)] w fun e w' => e = .returned (.int .i64 ((k + 2 * ms.length : Nat) : Int)) ∧ (∃ ds, ds.length = ms.length ∧ MarkedM k ds.length ds ∧ OwnPs B ds v w') ∧ Below B w w' := by
  obtain ⟨h1, h2⟩ := h
  rcases h2 with ⟨rfl, hz⟩ | ⟨g, cap, cur, rfl, hb, hg, hcap, hmax, hsz, htk⟩
  · have e : ms = [] := List.length_eq_zero_iff.1 hz
    subst e
    go_enter Try.func17, Try.ntmps17
    go_wp2
    refine wp_loop_rounds 1 ?_
    rw [rounds_succ]; go_wp2
    go_ret
    exact ⟨rfl, ⟨[], rfl, fun l hl => absurd hl (Nat.not_lt_zero _), ⟨rfl, .inl ⟨rfl, rfl⟩⟩⟩, Below.refl _ _⟩
  · have O : OwnPs B ms (.slice (some ⟨g, 0, none⟩) ms.length cap) w := ⟨h1, .inr ⟨g, cap, cur, rfl, hb, hg, hcap, hmax, hsz, htk⟩⟩
    have hgB := Lib.hid hb
    have OW := Lib.hid O
    clear h1 hg hcap hsz htk hmax cur O
    obtain ⟨n, hn⟩ : ∃ n, ms.length = n := ⟨_, rfl⟩
    rw [hn] at hk ⊢
    have NN := Lib.hid hn
    clear hn
    go_enter Try.func17, Try.ntmps17
    go_wp2
    go_loopw [1, 5] (fun q i wr => ∃ (j q0 : Nat) (ds : List (Int × Int)), j ≤ n ∧ i = .int .i64 j ∧ q = .int .i64 (q0 : Int) ∧ q0 = k + 2 * j ∧ ds.length = n ∧ MarkedM k j ds ∧ OwnPs B ds (.slice (some ⟨g, 0, none⟩) ds.length cap) wr ∧ Below B w wr) (fun _ i _ => n - (intOf i).toNat)
    case atStart => exact ⟨0, k, ms, Nat.zero_le _, rfl, rfl, by omega, NN.out, fun l hl => absurd hl (Nat.not_lt_zero _), OW.out, Below.refl _ _⟩
    case round =>
      obtain ⟨j, q0, ds, hj, rfl, rfl, hq, hds, hM, hO, hB⟩ := hrel
      have Q := Lib.hid hq
      have DS := Lib.hid hds
      have MM := Lib.hid hM
      have OO := Lib.hid hO
      have BB := Lib.hid hB
      have gl : g < wr.heap.size := (World.ownsRow.lt hO g rfl).2
      by_cases hkl : j < n
      · have hd : decide ((j : Int) < (n : Int)) = true := by simpa using hkl
        have qb : q0 ≤ 4000000 := by omega
        have i1 : (0 : Int) ≤ (j : Int) := by omega
        have i2 : (j : Int) < (n : Int) := by omega
        have hjd : j < ds.length := by omega
        have g3 := flatP_get ds j hjd
        have r0 := (World.ownsRow.cellAt hO (j * 2) (by omega)).trans g3.1
        have r1 := (World.ownsRow.cellAt hO (j * 2 + 1) (by omega)).trans g3.2
        have z0 := World.ownsRow.frozenAt hO (j * 2)
        have z1 := World.ownsRow.frozenAt hO (j * 2 + 1)
        have NX := Lib.hid (markedM_next hM hjd)
        have ST := Lib.hid (flatP_set ds j (mrkM (k + 2 * j)))
        have QM := Lib.hid (show mrkM (k + 2 * j) = ((q0 : Int), (q0 : Int) + 1) by rw [← hq]; rfl)
        have x1 : IntKind.i64.wrap ((q0 : Int) + 1) = (q0 : Int) + 1 := IntWalk.i64_in _ (by omega)
        have x2 : IntKind.i64.wrap ((q0 : Int) + 1 + 1) = (q0 : Int) + 1 + 1 := IntWalk.i64_in _ (by omega)
        have x3 : IntKind.i64.wrap (q0 : Int) = (q0 : Int) := IntWalk.i64_in _ (by omega)
        have x4 : IntKind.i64.wrap ((q0 : Int) + 1) = (q0 : Int) + 1 := IntWalk.i64_in _ (by omega)
        clear hq hds hM hO hB g3 hjd
        go_wp2
        refine wp_loop_rounds 3 ?_
        rw [rounds_succ]; go_wp2
        rw [rounds_succ]; go_wp2
        rw [rounds_succ]; go_wp2
        have s1 := World.ownsRow.stored OO.out (j * 2) (.int .i64 (q0 : Int))
        have s2 := s1.1.stored (j * 2 + 1) (.int .i64 ((q0 : Int) + 1))
        have o := s2.1
        have st := ST.out
        rw [QM.out] at st
        simp only at st
        rw [st, ← QM.out] at o
        refine ⟨⟨j + 1, q0 + 2, ds.set j (mrkM (k + 2 * j)), hkl, by rw [Int.natCast_succ], by congr 1, by have := Q.out; omega, by rw [List.length_set]; exact DS.out, NX.out, ?_, (BB.out.setCell hgB.out _).setCell hgB.out _⟩, by (simp [intOf]) <;> omega⟩
        unfold OwnPs
        rw [List.length_set]
        exact o
      · have e : j = n := by omega
        subst e
        have hd : decide ((j : Int) < (j : Int)) = false := by simp
        clear hds hM hO hB
        have hq2 := hq
        subst hq2
        clear hq
        go_wp2
        go_ret
        exact ⟨rfl, ⟨ds, DS.out, by rw [DS.out]; exact MM.out, by have := OO.out; rw [DS.out] at this; exact this⟩, BB.out⟩

set_option maxRecDepth 100000 in
set_option maxHeartbeats 3200000 in
theorem heldPs_any (a : Option Addr) (ds : List (Int × Int)) (c k : Nat) (w : World) (h : PairsIn w a ds) (hm : MarkedM k ds.length ds) (hk : k + 2 * ds.length ≤ 4000000) :
    Calls Try.prog 18 #[.slice a ds.length c, .int .i64 (k : Int)] w fun e w' => e = .returned (.int .i64 ((k + 2 * ds.length : Nat) : Int)) ∧ w = w' := by
  have H := Lib.hid h
  have M := Lib.hid hm
  clear h hm
  go_enter Try.func18, Try.ntmps18
  go_wp2
  go_loop [1, 5] (fun q i => ∃ j q0 : Nat, j ≤ ds.length ∧ i = .int .i64 j ∧ q = .int .i64 (q0 : Int) ∧ q0 = k + 2 * j) (fun _ i => ds.length - (intOf i).toNat)
  case atStart => exact ⟨0, k, Nat.zero_le _, rfl, rfl, by omega⟩
  case round =>
    obtain ⟨j, q0, hj, rfl, rfl, hq⟩ := hrel
    have Q := Lib.hid hq
    by_cases hkl : j < ds.length
    · have hd : decide ((j : Int) < (ds.length : Int)) = true := by simpa using hkl
      have qb : q0 ≤ 4000000 := by omega
      have i1 : (0 : Int) ≤ (j : Int) := by omega
      have i2 : (j : Int) < (ds.length : Int) := by omega
      obtain ⟨b, o, rfl, hb, c0, c1⟩ := H.out j hkl
      have e := M.out j hkl
      rw [← hq] at e
      rw [e] at c0 c1
      simp only [mrkM] at c0 c1
      have x1 : IntKind.i64.wrap ((q0 : Int) + 1) = (q0 : Int) + 1 := IntWalk.i64_in _ (by omega)
      have x2 : IntKind.i64.wrap ((q0 : Int) + 1 + 1) = (q0 : Int) + 1 + 1 := IntWalk.i64_in _ (by omega)
      have x3 : IntKind.i64.wrap (q0 : Int) = (q0 : Int) := IntWalk.i64_in _ (by omega)
      have x4 : IntKind.i64.wrap ((q0 : Int) + 1) = (q0 : Int) + 1 := IntWalk.i64_in _ (by omega)
      have n0 : ((q0 : Int) != (q0 : Int)) = false := by simp
      have n1 : ((q0 : Int) + 1 != (q0 : Int) + 1) = false := by simp
      clear hq e
      go_wp2
      refine wp_loop_rounds 3 ?_
      rw [rounds_succ]; go_wp2
      rw [rounds_succ]; go_wp2
      rw [rounds_succ]; go_wp2
      exact ⟨⟨j + 1, q0 + 2, hkl, by rw [Int.natCast_succ], by congr 1, by have := Q.out; omega⟩, by (simp [intOf]) <;> omega⟩
    · have e : j = ds.length := by omega
      subst e
      have hd : decide ((ds.length : Int) < (ds.length : Int)) = false := by simp
      have hq2 := hq
      subst hq2
      clear hq
      go_wp2
      go_ret
      exact ⟨rfl, rfl⟩
end Go.Proofs.Ytanocllpmjhblaa
