/- The laws' marks on masks: on an argument's, on those of the call's own; the look at them. -/
import Derived.Test.YtoippchkhknhpaaMskL
import Derived.Test.YtoippchkhknhpaaMsk
import Derived.Test.YtoippchkhknhpaaOth
namespace Go.Proofs.Ytoippchkhknhpaa
open Go.ChangeShapes Go.WideShapes Go.ChangeAt Go.RowKit

theorem cell_sm {A B : World} {b o : Nat} (h : B.heap[b]? = A.heap[b]?) : B.cell? ⟨b, o, none⟩ = A.cell? ⟨b, o, none⟩ := by unfold World.cell?; simp only [h]
theorem Wb.oth {w w' : World} {g g' m : Nat} (h : Wb w g m) (o : Oth g' w w') (hne : g ≠ g') (hg : g < w.heap.size) : Wb w' g m :=
  ⟨fun j hj => (h.1 j hj).imp fun _ hv => (cell_sm (o.block g hne hg)).trans hv, fun j hj => by have := h.2 j hj; unfold World.frozen? at this ⊢; simp only [o.block g hne hg]; exact this⟩

set_option maxHeartbeats 1600000 in
theorem toMasksW_any (ad : Option Addr) (ms : List (Int × Int)) (c : Nat) (w : World) (hc : MasksIn w ad ms) (hn : ms.length ≤ 1048576) :
    Calls Try.prog 37 #[.slice ad ms.length c] w fun e w' => ∃ g, e = .returned (.slice (some ⟨g, 0, none⟩) ms.length ms.length) ∧ (w.heap.size ≤ g ∧ g < w'.heap.size) ∧ Wb w' g (ms.length * 2) ∧ MasksIn w' (some ⟨g, 0, none⟩) ms ∧ Below w.heap.size w w' := by
  obtain ⟨i0, hi, hz0, hz1, hz2⟩ := info_parts info_mask
  have C := Lib.hid hc
  clear hc
  go_enter Try.func37, Try.ntmps37
  go_wp2_with (at_make; refine wpList_make_full _ rfl _ _ 27 rfl w.heap.size 51 i0 (.agg #[.int .u64 0, .int .u64 0]) 2 Try.underlying27 hi hz0 hz1 _ _ _ _ ms.length rfl rfl rfl rfl (by rw [hz2]; omega) (by unfold maxLen; omega) (Nat.le_refl _) ?_; intro w1 hown hgrow; have M := Lib.hid hown; have G := Lib.hid hgrow; clear hown hgrow)
  have O : w1.ownsRow w.heap.size 51 2 (.slice (some ⟨w.heap.size, 0, none⟩) ms.length ms.length) ms.length (rowM ms 0) := by rw [← rowM_zero]; exact M.out
  have B1 := Lib.hid (Below.grown (Below.refl w.heap.size w) G.out (Nat.le_refl _) (fun j hj => by cases hj))
  have OO := Lib.hid O
  clear M G O hi hz0 hz1 hz2
  go_loopw [4] (fun i wr => ∃ k : Nat, k ≤ ms.length ∧ i = .int .i64 k ∧ wr.ownsRow w.heap.size 51 2 (.slice (some ⟨w.heap.size, 0, none⟩) ms.length ms.length) ms.length (rowM ms k) ∧ Below w.heap.size w wr) (fun i _ => ms.length - (intOf i).toNat)
  case atStart => exact ⟨0, Nat.zero_le _, rfl, OO.out, B1.out⟩
  case round =>
    obtain ⟨k, hk, rfl, O2, hB⟩ := hrel
    have O3 := Lib.hid O2
    have BB := Lib.hid hB
    have gl := (O2.lt w.heap.size rfl).2
    by_cases hkl : k < ms.length
    · have hd : decide ((k : Int) < (ms.length : Int)) = true := by simpa using hkl
      obtain ⟨b1, o1, rfl, hb1, p0, p1⟩ := C.out k hkl
      have d0 := (hB.cell (p := ⟨b1, o1 + k * 2, none⟩) hb1).trans p0
      have d1 := (hB.cell (p := ⟨b1, o1 + k * 2 + 1, none⟩) hb1).trans p1
      have nx := Lib.hid (rowM_next ms k hkl)
      have i1 : (0 : Int) ≤ (k : Int) := by omega
      have i2 : (k : Int) < (ms.length : Int) := by omega
      have r0 := O2.cellAt (k * 2) (by omega)
      have r1 := O2.cellAt (k * 2 + 1) (by omega)
      rw [rowM_get ms k _ (by omega)] at r0 r1
      have fz := fun j => O2.frozenAt j
      generalize (ms.getD k (0, 0)).1 = a at *
      generalize (ms.getD k (0, 0)).2 = b at *
      have K := Lib.hid fun W => toMask_up a b W
      have R0 := Lib.hid r0
      have R1 := Lib.hid r1
      have FZ := Lib.hid fz
      clear hB p0 p1 O2 r0 r1 fz
      go_wp2_with (go_at_call 33; refine (K.out _).mono ?_; rintro e w2 ⟨rfl, hB2⟩; have t0 := (hB2.cell (p := ⟨w.heap.size, k * 2, none⟩) gl).trans R0.out; have t1 := (hB2.cell (p := ⟨w.heap.size, k * 2 + 1, none⟩) gl).trans R1.out; have u : ∀ j, w2.frozen? ⟨w.heap.size, j, none⟩ = false := (fun j => (hB2.frozen (p := ⟨w.heap.size, j, none⟩) gl).trans (FZ.out j)); have O4 := Lib.hid (ownsRow_up O3.out hB2); have B2 := Lib.hid (below_next BB.out hB2); clear hB2)
      have s0 := O4.out.stored (k * 2) (.int .u64 a)
      have s1 := s0.1.stored (k * 2 + 1) (.int .u64 b)
      have o := s1.1
      have n := nx.out
      rw [n] at o
      exact ⟨⟨k + 1, hkl, by rw [Int.natCast_succ], o, (B2.out.setCell (Nat.le_refl _) _).setCell (Nat.le_refl _) _⟩, by (simp [intOf]) <;> omega⟩
    · have e : k = ms.length := by omega
      subst e
      have hd : decide ((ms.length : Int) < (ms.length : Int)) = false := by simp
      clear O2 hB
      go_wp2
      go_ret
      refine ⟨w.heap.size, rfl, ⟨Nat.le_refl _, gl⟩, ⟨fun j hj => ⟨_, (O3.out.cellAt j (by omega)).trans (rowM_get ms _ _ hj)⟩, fun j _ => O3.out.frozenAt j⟩, fun i hi => ⟨w.heap.size, 0, rfl, gl, ?_, ?_⟩, BB.out⟩
      · rw [Nat.zero_add, O3.out.cellAt _ (by omega), rowM_get ms _ _ (by omega), show i * 2 / 2 = i by omega, if_pos hi, show i * 2 % 2 = 0 by omega]; rfl
      · rw [Nat.zero_add, O3.out.cellAt _ (by omega), rowM_get ms _ _ (by omega), show (i * 2 + 1) / 2 = i by omega, if_pos hi, show (i * 2 + 1) % 2 = 1 by omega]; rfl


set_option maxRecDepth 100000 in
set_option maxHeartbeats 1600000 in
theorem markMasks_any (n g k c : Nat) (w : World) (hW0 : Wb w g (n * 2)) (hg : g < w.heap.size) (hk : k + 2 * n ≤ 4000000) :
    Calls Try.prog 21 #[.slice (some ⟨g, 0, none⟩) n c, .int .i64 (k : Int)] w fun e w' => e = .returned (.int .i64 ((k + 2 * n : Nat) : Int)) ∧ Oth g w w' := by
  have W0 := Lib.hid hW0
  clear hW0
  go_enter Try.func21, Try.ntmps21
  go_wp2
  go_loopw [1, 5] (fun q i wr => ∃ j q0 : Nat, j ≤ n ∧ i = .int .i64 j ∧ q = .int .i64 (q0 : Int) ∧ q0 = k + 2 * j ∧ Wb wr g (n * 2) ∧ Oth g w wr) (fun _ i _ => n - (intOf i).toNat)
  case atStart => exact ⟨0, k, Nat.zero_le _, rfl, rfl, by omega, W0.out, Oth.refl _ _⟩
  case round =>
    obtain ⟨j, q0, hj, rfl, rfl, hq, hW, hO⟩ := hrel
    have Q := Lib.hid hq
    have WW := Lib.hid hW
    have OO := Lib.hid hO
    have gl : g < wr.heap.size := Nat.lt_of_lt_of_le hg hO.size
    by_cases hkl : j < n
    · have hd : decide ((j : Int) < (n : Int)) = true := by simpa using hkl
      have qb : q0 ≤ 4000000 := by omega
      have i1 : (0 : Int) ≤ (j : Int) := by omega
      have i2 : (j : Int) < (n : Int) := by omega
      obtain ⟨y0, r0⟩ := hW.1 (j * 2) (by omega)
      obtain ⟨y1, r1⟩ := hW.1 (j * 2 + 1) (by omega)
      have z0 := hW.2 (j * 2) (by omega)
      have z1 := hW.2 (j * 2 + 1) (by omega)
      have x1 : IntKind.i64.wrap ((q0 : Int) + 1) = (q0 : Int) + 1 := IntWalk.i64_in _ (by omega)
      have x2 : IntKind.i64.wrap ((q0 : Int) + 1 + 1) = (q0 : Int) + 1 + 1 := IntWalk.i64_in _ (by omega)
      have x3 : IntKind.u64.wrap (q0 : Int) = (q0 : Int) := IntWalk.u64_in _ (by omega)
      have x4 : IntKind.u64.wrap ((q0 : Int) + 1) = (q0 : Int) + 1 := IntWalk.u64_in _ (by omega)
      clear hq hW hO
      go_wp2
      refine wp_loop_rounds 3 ?_
      rw [rounds_succ]; go_wp2
      rw [rounds_succ]; go_wp2
      rw [rounds_succ]; go_wp2
      exact ⟨⟨j + 1, q0 + 2, hkl, by rw [Int.natCast_succ], by congr 1, by have := Q.out; omega, (WW.out.set _ (by omega) _).set _ (by omega) _, (OO.out.set _ _).set _ _⟩, by (simp [intOf]) <;> omega⟩
    · have e : j = n := by omega
      subst e
      have hd : decide ((j : Int) < (j : Int)) = false := by simp
      clear hW hO
      have hq2 := hq
      subst hq2
      clear hq
      go_wp2
      go_ret
      exact ⟨rfl, OO.out⟩

/-! ### Of the call's own -/
def mrkM (q : Nat) : Int × Int := ((q : Int), (q : Int) + 1)
def MarkedM (k j : Nat) (ms : List (Int × Int)) : Prop := ∀ l, l < j → ms.getD l (0, 0) = mrkM (k + 2 * l)
theorem markedM_next {k j : Nat} {ms : List (Int × Int)} (h : MarkedM k j ms) (hj : j < ms.length) : MarkedM k (j + 1) (ms.set j (mrkM (k + 2 * j))) := by
  intro l hl
  rw [List.getD, List.getElem?_set]
  by_cases e : j = l
  · subst e; simp [hj]
  · rw [if_neg e]; exact h l (by omega)
theorem flatM_set : ∀ (ms : List (Int × Int)) (i : Nat) (m : Int × Int), ((flatM ms).set (i * 2) (.int .u64 m.1)).set (i * 2 + 1) (.int .u64 m.2) = flatM (ms.set i m)
  | [], i, m => rfl
  | d :: ms, 0, m => rfl
  | d :: ms, i + 1, m => by
    rw [show (i + 1) * 2 = i * 2 + 1 + 1 by omega]
    have := flatM_set ms i m
    simp only [flatM, List.set_cons_succ, this]

set_option maxRecDepth 100000 in
set_option maxHeartbeats 3200000 in
theorem markMsOwn_any (B : Nat) (ms : List (Int × Int)) (v : Value) (k : Nat) (w : World) (h : OwnMs B ms v w) (hk : k + 2 * ms.length ≤ 4000000) :
    Calls Try.prog 21 #[v, .int .i64 (k : Int)] w fun e w' => e = .returned (.int .i64 ((k + 2 * ms.length : Nat) : Int)) ∧ (∃ ds, ds.length = ms.length ∧ MarkedM k ds.length ds ∧ OwnMs B ds v w') ∧ Below B w w' := by
  obtain ⟨h1, h2⟩ := h
  rcases h2 with ⟨rfl, hz⟩ | ⟨g, cap, cur, rfl, hb, hg, hcap, hmax, hsz, htk⟩
  · have e : ms = [] := List.length_eq_zero_iff.1 hz
    subst e
    go_enter Try.func21, Try.ntmps21
    go_wp2
    refine wp_loop_rounds 1 ?_
    rw [rounds_succ]; go_wp2
    go_ret
    exact ⟨rfl, ⟨[], rfl, fun l hl => absurd hl (Nat.not_lt_zero _), ⟨rfl, .inl ⟨rfl, rfl⟩⟩⟩, Below.refl _ _⟩
  · have O : OwnMs B ms (.slice (some ⟨g, 0, none⟩) ms.length cap) w := ⟨h1, .inr ⟨g, cap, cur, rfl, hb, hg, hcap, hmax, hsz, htk⟩⟩
    have hgB := Lib.hid hb
    have OW := Lib.hid O
    clear h1 hg hcap hsz htk hmax cur O
    obtain ⟨n, hn⟩ : ∃ n, ms.length = n := ⟨_, rfl⟩
    rw [hn] at hk ⊢
    have NN := Lib.hid hn
    clear hn
    go_enter Try.func21, Try.ntmps21
    go_wp2
    go_loopw [1, 5] (fun q i wr => ∃ (j q0 : Nat) (ds : List (Int × Int)), j ≤ n ∧ i = .int .i64 j ∧ q = .int .i64 (q0 : Int) ∧ q0 = k + 2 * j ∧ ds.length = n ∧ MarkedM k j ds ∧ OwnMs B ds (.slice (some ⟨g, 0, none⟩) ds.length cap) wr ∧ Below B w wr) (fun _ i _ => n - (intOf i).toNat)
    case atStart => exact ⟨0, k, ms, Nat.zero_le _, rfl, rfl, by omega, NN.out, fun l hl => absurd hl (Nat.not_lt_zero _), OW.out, Below.refl _ _⟩
    case round =>
      obtain ⟨j, q0, ds, hj, rfl, rfl, hq, hds, hM, hO, hB⟩ := hrel
      have Q := Lib.hid hq
      have DS := Lib.hid hds
      have MM := Lib.hid hM
      have OO := Lib.hid hO
      have BB := Lib.hid hB
      have gl : g < wr.heap.size := (World.ownsRow.lt hO g rfl).2
      by_cases hkl : j < n
      · have hd : decide ((j : Int) < (n : Int)) = true := by simpa using hkl
        have qb : q0 ≤ 4000000 := by omega
        have i1 : (0 : Int) ≤ (j : Int) := by omega
        have i2 : (j : Int) < (n : Int) := by omega
        have hjd : j < ds.length := by omega
        have g3 := flatM_get ds j hjd
        have r0 := (World.ownsRow.cellAt hO (j * 2) (by omega)).trans g3.1
        have r1 := (World.ownsRow.cellAt hO (j * 2 + 1) (by omega)).trans g3.2
        have z0 := World.ownsRow.frozenAt hO (j * 2)
        have z1 := World.ownsRow.frozenAt hO (j * 2 + 1)
        have NX := Lib.hid (markedM_next hM hjd)
        have ST := Lib.hid (flatM_set ds j (mrkM (k + 2 * j)))
        have QM := Lib.hid (show mrkM (k + 2 * j) = ((q0 : Int), (q0 : Int) + 1) by rw [← hq]; rfl)
        have x1 : IntKind.i64.wrap ((q0 : Int) + 1) = (q0 : Int) + 1 := IntWalk.i64_in _ (by omega)
        have x2 : IntKind.i64.wrap ((q0 : Int) + 1 + 1) = (q0 : Int) + 1 + 1 := IntWalk.i64_in _ (by omega)
        have x3 : IntKind.u64.wrap (q0 : Int) = (q0 : Int) := IntWalk.u64_in _ (by omega)
        have x4 : IntKind.u64.wrap ((q0 : Int) + 1) = (q0 : Int) + 1 := IntWalk.u64_in _ (by omega)
        clear hq hds hM hO hB g3 hjd
        go_wp2
        refine wp_loop_rounds 3 ?_
        rw [rounds_succ]; go_wp2
        rw [rounds_succ]; go_wp2
        rw [rounds_succ]; go_wp2
        have s1 := World.ownsRow.stored OO.out (j * 2) (.int .u64 (q0 : Int))
        have s2 := s1.1.stored (j * 2 + 1) (.int .u64 ((q0 : Int) + 1))
        have o := s2.1
        have st := ST.out
        rw [QM.out] at st
        simp only at st
        rw [st, ← QM.out] at o
        refine ⟨⟨j + 1, q0 + 2, ds.set j (mrkM (k + 2 * j)), hkl, by rw [Int.natCast_succ], by congr 1, by have := Q.out; omega, by rw [List.length_set]; exact DS.out, NX.out, ?_, (BB.out.setCell hgB.out _).setCell hgB.out _⟩, by (simp [intOf]) <;> omega⟩
        unfold OwnMs
        rw [List.length_set]
        exact o
      · have e : j = n := by omega
        subst e
        have hd : decide ((j : Int) < (j : Int)) = false := by simp
        clear hds hM hO hB
        have hq2 := hq
        subst hq2
        clear hq
        go_wp2
        go_ret
        exact ⟨rfl, ⟨ds, DS.out, by rw [DS.out]; exact MM.out, by have := OO.out; rw [DS.out] at this; exact this⟩, BB.out⟩

set_option maxRecDepth 100000 in
set_option maxHeartbeats 3200000 in
theorem heldMs_any (a : Option Addr) (ds : List (Int × Int)) (c k : Nat) (w : World) (h : MasksIn w a ds) (hm : MarkedM k ds.length ds) (hk : k + 2 * ds.length ≤ 4000000) :
    Calls Try.prog 22 #[.slice a ds.length c, .int .i64 (k : Int)] w fun e w' => e = .returned (.int .i64 ((k + 2 * ds.length : Nat) : Int)) ∧ w = w' := by
  have H := Lib.hid h
  have M := Lib.hid hm
  clear h hm
  go_enter Try.func22, Try.ntmps22
  go_wp2
  go_loop [1, 5] (fun q i => ∃ j q0 : Nat, j ≤ ds.length ∧ i = .int .i64 j ∧ q = .int .i64 (q0 : Int) ∧ q0 = k + 2 * j) (fun _ i => ds.length - (intOf i).toNat)
  case atStart => exact ⟨0, k, Nat.zero_le _, rfl, rfl, by omega⟩
  case round =>
    obtain ⟨j, q0, hj, rfl, rfl, hq⟩ := hrel
    have Q := Lib.hid hq
    by_cases hkl : j < ds.length
    · have hd : decide ((j : Int) < (ds.length : Int)) = true := by simpa using hkl
      have qb : q0 ≤ 4000000 := by omega
      have i1 : (0 : Int) ≤ (j : Int) := by omega
      have i2 : (j : Int) < (ds.length : Int) := by omega
      obtain ⟨b, o, rfl, hb, c0, c1⟩ := H.out j hkl
      have e := M.out j hkl
      rw [← hq] at e
      rw [e] at c0 c1
      simp only [mrkM] at c0 c1
      have x1 : IntKind.i64.wrap ((q0 : Int) + 1) = (q0 : Int) + 1 := IntWalk.i64_in _ (by omega)
      have x2 : IntKind.i64.wrap ((q0 : Int) + 1 + 1) = (q0 : Int) + 1 + 1 := IntWalk.i64_in _ (by omega)
      have x3 : IntKind.u64.wrap (q0 : Int) = (q0 : Int) := IntWalk.u64_in _ (by omega)
      have x4 : IntKind.u64.wrap ((q0 : Int) + 1) = (q0 : Int) + 1 := IntWalk.u64_in _ (by omega)
      have n0 : ((q0 : Int) != (q0 : Int)) = false := by simp
      have n1 : ((q0 : Int) + 1 != (q0 : Int) + 1) = false := by simp
      clear hq e
      go_wp2
      refine wp_loop_rounds 3 ?_
      rw [rounds_succ]; go_wp2
      rw [rounds_succ]; go_wp2
      rw [rounds_succ]; go_wp2
      exact ⟨⟨j + 1, q0 + 2, hkl, by rw [Int.natCast_succ], by congr 1, by have := Q.out; omega⟩, by (simp [intOf]) <;> omega⟩
    · have e : j = ds.length := by omega
      subst e
      have hd : decide ((ds.length : Int) < (ds.length : Int)) = false := by simp
      have hq2 := hq
      subst hq2
      clear hq
      go_wp2
      go_ret
      exact ⟨rfl, rfl⟩
end Go.Proofs.Ytoippchkhknhpaa
