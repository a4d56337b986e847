/- Contracts of the laws' own functions on slices of masks: measured, carried over, compared; arguments opened. -/
import Derived.Test.YtoippchkhknhpaaAsk
import Derived.Deep.Slices
import Derived.OpenShut
import Derived.OwnWalk
namespace Go.Proofs.Ytoippchkhknhpaa
open Go.ChangeShapes Go.WideShapes Go.ChangeAt Go.RowKit

theorem open_maskS {H : Type} {enc : TypeId × Value → H} {P : Program} {W : World} {t e u : TypeId} {v : Value} {d : DataW H} {p : List MemPlace} {r : Reach} {b : Nat} (ht : P.underlying t = some (.slice e)) (ha : P.underlying e = some (.array 2 u)) (hu : P.underlying u = some (.int .u64))
    (ce : P.cellsOf e = 2) (cu : P.cellsOf u = 1)
    (hv : Value.okWide P W r b t v) (h : DataW.Trod enc P W 0 (fun _ => true) true t v d p) : ∃ a ms cap, v = .slice a ms.length cap ∧ MasksIn W a ms ∧ (∀ i, i < ms.length → U64 (ms.getD i (0, 0)).1 ∧ U64 (ms.getD i (0, 0)).2) ∧ ms.length ≤ maxLen := by
  obtain ⟨a0, len, cap, rfl⟩ := okWide_slice ht hv
  obtain ⟨fuel, hf⟩ := h
  rcases Go.Deep.open_slice ht hf with ⟨hcs, _⟩ | ⟨a, len', cap', m, n, D, Pl, hcs, _, hl, hcm, hm, _, hi⟩
  · simp [Value.cells] at hcs
    obtain ⟨rfl, rfl, rfl⟩ := hcs
    exact ⟨none, [], 0, rfl, fun i hi => by simp at hi, fun i hi => by simp at hi, by simp⟩
  · simp [Value.cells] at hcs
    obtain ⟨rfl, rfl, rfl⟩ := hcs
    simp at hm
    subst hm
    have key : ∀ i, i < len → ∃ c : Int × Int, (U64 c.1 ∧ U64 c.2) ∧ W.cell? (a.add (i * 2)) = some (.int .u64 c.1) ∧ W.cell? (a.add (i * 2 + 1)) = some (.int .u64 c.2) := by
      intro i hi'
      obtain ⟨cs', hc, hd⟩ := hi i (by omega)
      rw [ce] at hc
      obtain ⟨_, hlen, hat⟩ := World.cells?_some hc
      obtain ⟨zs, n2, _, _, _, hzl, hg⟩ := DataW.trod_array ha hd
      match cs', hlen with
      | [x0, x1], _ =>
        match zs, hzl with
        | [z0, z1], _ =>
          have k0 := hg 0 (by omega)
          have k1 := hg 1 (by omega)
          rw [cu] at k0 k1
          simp at k0 k1
          obtain ⟨n3, e3, _, w3⟩ := DataW.trod_int hu k0
          obtain ⟨n4, e4, _, w4⟩ := DataW.trod_int hu k1
          simp at e3 e4
          subst e3 e4
          simp [Lit.wf, IntKind.min, IntKind.max, IntKind.signed, IntKind.bits] at w3 w4
          have u3 : U64 n3 := ⟨by omega, by omega⟩
          have u4 : U64 n4 := ⟨by omega, by omega⟩
          have a0 := hat 0 (by omega)
          have a1 := hat 1 (by omega)
          rw [Go.Deep.add_add] at a0 a1
          exact ⟨(n3, n4), ⟨u3, u4⟩, a0, a1⟩
    obtain ⟨f, hf2⟩ := Go.Deep.choose_lt key
    have gd : ∀ i, i < len → ((List.range len).map f).getD i (0, 0) = f i := fun i hi => by simp [List.getD, hi]
    refine ⟨some a, (List.range len).map f, m, by simp, fun i hi' => ?_, fun i hi' => ?_, by simp; omega⟩
    · simp at hi'
      rw [gd i hi']
      obtain ⟨_, q0, q1⟩ := hf2 i hi'
      obtain ⟨b, off, spot⟩ := a
      have hspot : spot = none := by simpa [Addr.add] using World.cell?_spot (hf2 0 (by omega)).2.1
      subst hspot
      exact ⟨b, off, rfl, by have h := World.block_lt_of_cell? _ _ q0; rw [Go.WideShapes.add_plain] at h; exact h, by rw [← Go.WideShapes.add_plain]; exact q0, by rw [Nat.add_assoc, ← Go.WideShapes.add_plain]; exact q1⟩
    · simp at hi'
      rw [gd i hi']
      exact (hf2 i hi').1

theorem szMasks_any (a : Option Addr) (ms : List (Int × Int)) (cap n : Nat) (w : World) (hl : ms.length ≤ 9223372036854775807) (hn : n ≤ 1048576) :
    Calls Try.prog 35 #[.slice a ms.length cap, .int .i64 n] w fun e w' => e = .returned (.int .i64 (if ms.length ≤ n then (n : Int) - ms.length else -1)) ∧ w = w' := by
  have v0 : wrap64 ((n : Int) - ms.length) = (n : Int) - ms.length := IntWalk.wrap64_in _ ⟨by omega, by omega⟩
  by_cases h0 : ms.length ≤ n
  · rw [if_pos h0]
    have d : decide ((n : Int) - ms.length < 0) = false := by simp; omega
    go_enter Try.func35, Try.ntmps35
    go_wp2
    go_returns
    exact ⟨rfl, rfl⟩
  · rw [if_neg h0]
    have d : decide ((n : Int) - ms.length < 0) = true := by simp; omega
    go_enter Try.func35, Try.ntmps35
    go_wp2
    go_returns
    exact ⟨rfl, rfl⟩

/-! ### Carried over -/
def cell2 (c : Int × Int) (r : Nat) : Value := if r = 0 then .int .u64 c.1 else .int .u64 c.2
def rowM (ms : List (Int × Int)) (k : Nat) : List Value := (List.range (ms.length * 2)).map fun i => cell2 (if i / 2 < k then ms.getD (i / 2) (0, 0) else (0, 0)) (i % 2)
theorem rowM_len (ms : List (Int × Int)) (k : Nat) : (rowM ms k).length = ms.length * 2 := by unfold rowM; simp
theorem rowM_get (ms : List (Int × Int)) (k i : Nat) (h : i < ms.length * 2) : (rowM ms k)[i]? = some (cell2 (if i / 2 < k then ms.getD (i / 2) (0, 0) else (0, 0)) (i % 2)) := by
  unfold rowM; rw [List.getElem?_map, List.getElem?_range h]; rfl
theorem rowM_next (ms : List (Int × Int)) (k : Nat) (h : k < ms.length) :
    ((rowM ms k).set (k * 2) (.int .u64 (ms.getD k (0, 0)).1)).set (k * 2 + 1) (.int .u64 (ms.getD k (0, 0)).2) = rowM ms (k + 1) := by
  apply List.ext_getElem?
  intro i
  rw [List.getElem?_set, List.getElem?_set]
  simp only [List.length_set, rowM_len]
  by_cases hi : i < ms.length * 2
  · rw [rowM_get ms (k + 1) i hi]
    by_cases e1 : k * 2 + 1 = i
    · subst e1
      rw [if_pos rfl, if_pos hi, show (k * 2 + 1) / 2 = k by omega, show (k * 2 + 1) % 2 = 1 by omega, if_pos (Nat.lt_succ_self k)]; rfl
    · rw [if_neg e1]
      by_cases e0 : k * 2 = i
      · subst e0
        rw [if_pos rfl, if_pos hi, show k * 2 / 2 = k by omega, show k * 2 % 2 = 0 by omega, if_pos (Nat.lt_succ_self k)]; rfl
      · rw [if_neg e0, rowM_get ms k i hi]
        by_cases c : i / 2 < k
        · rw [if_pos c, if_pos (by omega)]
        · rw [if_neg c, if_neg (by omega)]
  · rw [List.getElem?_eq_none (by rw [rowM_len]; omega), List.getElem?_eq_none (by rw [rowM_len]; omega)]
    repeat (split; · first | omega | rfl)
    first | rfl | (split <;> first | omega | rfl)
theorem rowM_zero (ms : List (Int × Int)) : (madeCells #[.int .u64 0, .int .u64 0] (ms.length * 2)).toList = rowM ms 0 := by
  apply List.ext_getElem?
  intro i
  by_cases hi : i < ms.length * 2
  · rw [rowM_get ms 0 i hi, if_neg (Nat.not_lt_zero _)]
    have h3 : i % 2 = 0 ∨ i % 2 = 1 := by omega
    rcases h3 with h | h <;> simp [madeCells, hi, h, cell2]
  · rw [List.getElem?_eq_none (by simp [madeCells]; omega), List.getElem?_eq_none (by rw [rowM_len]; omega)]
theorem info_mask : (Try.prog.info? 51).map (fun i => (i.zero, i.size, i.bytes)) = some (some (.agg #[.int .u64 0, .int .u64 0]), 2, 16) := by kernel_rfl
theorem ownsRow_up {w w' : World} {B e size n : Nat} {v : Value} {xs : List Value} (h : w.ownsRow B e size v n xs) (hb : Below w.heap.size w w') : w'.ownsRow B e size v n xs := by
  obtain ⟨h1, h2⟩ := h
  refine ⟨h1, ?_⟩
  rcases h2 with hn | ⟨g, cap, cur, rfl, hB, hg, rest⟩
  · exact .inl hn
  · exact .inr ⟨g, cap, cur, rfl, hB, (hb.block g (Array.getElem?_eq_some_iff.1 hg).1).trans hg, rest⟩
theorem toMask_up (a b : Int) (w : World) : Calls Try.prog 33 #[.agg #[.int .u64 a, .int .u64 b]] w fun e w' => e = .returned (.agg #[.int .u64 a, .int .u64 b]) ∧ Below w.heap.size w w' :=
  (toMask_any a b w).mono fun e w' ⟨he, hw⟩ => ⟨he, by subst hw; exact (by repeat' (first | (with_reducible exact Below.refl _ _) | (with_reducible assumption) | (with_reducible refine below_drewN ?_ _) | (with_reducible refine Below.drew ?_) | (with_reducible refine below_new ?_ _) | (with_reducible refine below_next ?_ (by with_reducible assumption)) | (with_reducible refine Below.setCell ?_ ?_ _) | go_size))⟩

set_option maxHeartbeats 1600000 in
theorem toMasks_any (ad : Option Addr) (ms : List (Int × Int)) (c : Nat) (w : World) (hc : MasksIn w ad ms) (hn : ms.length ≤ 1048576) :
    Calls Try.prog 37 #[.slice ad ms.length c] w fun e w' => ∃ g, e = .returned (.slice (some ⟨g, 0, none⟩) ms.length ms.length) ∧ MasksIn w' (some ⟨g, 0, none⟩) ms ∧ Below w.heap.size w w' := by
  obtain ⟨i0, hi, hz0, hz1, hz2⟩ := info_parts info_mask
  have C := Lib.hid hc
  clear hc
  go_enter Try.func37, Try.ntmps37
  go_wp2_with (at_make; refine wpList_make_full _ rfl _ _ 27 rfl w.heap.size 51 i0 (.agg #[.int .u64 0, .int .u64 0]) 2 Try.underlying27 hi hz0 hz1 _ _ _ _ ms.length rfl rfl rfl rfl (by rw [hz2]; omega) (by unfold maxLen; omega) (Nat.le_refl _) ?_; intro w1 hown hgrow; have M := Lib.hid hown; have G := Lib.hid hgrow; clear hown hgrow)
  have O : w1.ownsRow w.heap.size 51 2 (.slice (some ⟨w.heap.size, 0, none⟩) ms.length ms.length) ms.length (rowM ms 0) := by rw [← rowM_zero]; exact M.out
  have B1 := Lib.hid (Below.grown (Below.refl w.heap.size w) G.out (Nat.le_refl _) (fun j hj => by cases hj))
  have OO := Lib.hid O
  clear M G O hi hz0 hz1 hz2
  go_loopw [4] (fun i wr => ∃ k : Nat, k ≤ ms.length ∧ i = .int .i64 k ∧ wr.ownsRow w.heap.size 51 2 (.slice (some ⟨w.heap.size, 0, none⟩) ms.length ms.length) ms.length (rowM ms k) ∧ Below w.heap.size w wr) (fun i _ => ms.length - (intOf i).toNat)
  case atStart => exact ⟨0, Nat.zero_le _, rfl, OO.out, B1.out⟩
  case round =>
    obtain ⟨k, hk, rfl, O2, hB⟩ := hrel
    have O3 := Lib.hid O2
    have BB := Lib.hid hB
    have gl := (O2.lt w.heap.size rfl).2
    by_cases hkl : k < ms.length
    · have hd : decide ((k : Int) < (ms.length : Int)) = true := by simpa using hkl
      obtain ⟨b1, o1, rfl, hb1, p0, p1⟩ := C.out k hkl
      have d0 := (hB.cell (p := ⟨b1, o1 + k * 2, none⟩) hb1).trans p0
      have d1 := (hB.cell (p := ⟨b1, o1 + k * 2 + 1, none⟩) hb1).trans p1
      have nx := Lib.hid (rowM_next ms k hkl)
      have i1 : (0 : Int) ≤ (k : Int) := by omega
      have i2 : (k : Int) < (ms.length : Int) := by omega
      have r0 := O2.cellAt (k * 2) (by omega)
      have r1 := O2.cellAt (k * 2 + 1) (by omega)
      rw [rowM_get ms k _ (by omega)] at r0 r1
      have fz := fun j => O2.frozenAt j
      generalize (ms.getD k (0, 0)).1 = a at *
      generalize (ms.getD k (0, 0)).2 = b at *
      have K := Lib.hid fun W => toMask_up a b W
      have R0 := Lib.hid r0
      have R1 := Lib.hid r1
      have FZ := Lib.hid fz
      clear hB p0 p1 O2 r0 r1 fz
      go_wp2_with (go_at_call 33; refine (K.out _).mono ?_; rintro e w2 ⟨rfl, hB2⟩; have t0 := (hB2.cell (p := ⟨w.heap.size, k * 2, none⟩) gl).trans R0.out; have t1 := (hB2.cell (p := ⟨w.heap.size, k * 2 + 1, none⟩) gl).trans R1.out; have u : ∀ j, w2.frozen? ⟨w.heap.size, j, none⟩ = false := (fun j => (hB2.frozen (p := ⟨w.heap.size, j, none⟩) gl).trans (FZ.out j)); have O4 := Lib.hid (ownsRow_up O3.out hB2); have B2 := Lib.hid (below_next BB.out hB2); clear hB2)
      have s0 := O4.out.stored (k * 2) (.int .u64 a)
      have s1 := s0.1.stored (k * 2 + 1) (.int .u64 b)
      have o := s1.1
      have n := nx.out
      rw [n] at o
      exact ⟨⟨k + 1, hkl, by rw [Int.natCast_succ], o, (B2.out.setCell (Nat.le_refl _) _).setCell (Nat.le_refl _) _⟩, by (simp [intOf]) <;> omega⟩
    · have e : k = ms.length := by omega
      subst e
      have hd : decide ((ms.length : Int) < (ms.length : Int)) = false := by simp
      clear O2 hB
      go_wp2
      go_ret
      refine ⟨w.heap.size, rfl, fun i hi => ⟨w.heap.size, 0, rfl, gl, ?_, ?_⟩, BB.out⟩
      · rw [Nat.zero_add, O3.out.cellAt _ (by omega), rowM_get ms _ _ (by omega), show i * 2 / 2 = i by omega, if_pos hi, show i * 2 % 2 = 0 by omega]; rfl
      · rw [Nat.zero_add, O3.out.cellAt _ (by omega), rowM_get ms _ _ (by omega), show (i * 2 + 1) / 2 = i by omega, if_pos hi, show (i * 2 + 1) % 2 = 1 by omega]; rfl

/-! ### Compared -/
set_option maxHeartbeats 1600000 in
theorem eqMasks_same (a b : Option Addr) (ms : List (Int × Int)) (c d : Nat) (w : World) (ha : MasksIn w a ms) (hb : MasksIn w b ms) (hl : ms.length ≤ 1048576) :
    Calls Try.prog 18 #[.slice a ms.length c, .slice b ms.length d] w fun e w' => e = .returned (.bool true) ∧ Below w.heap.size w w' := by
  have A := Lib.hid ha
  have B := Lib.hid hb
  clear ha hb
  have hbw := cell_bw
  go_enter Try.func18, Try.ntmps18
  go_wp2
  go_loopw [5] (fun i wr => ∃ k : Nat, k ≤ ms.length ∧ i = .int .i64 k ∧ Below w.heap.size w wr) (fun i _ => ms.length - (intOf i).toNat)
  case atStart => exact ⟨0, Nat.zero_le _, rfl, Below.refl _ _⟩
  case round =>
    obtain ⟨k, hk, rfl, hB2⟩ := hrel
    have B3 := Lib.hid hB2
    by_cases hkl : k < ms.length
    · obtain ⟨b1, o1, rfl, h1, p0, p1⟩ := A.out k hkl
      obtain ⟨b2, o2, rfl, h2, q0, q1⟩ := B.out k hkl
      have g0 := (hB2.cell (p := ⟨b1, o1 + k * 2, none⟩) h1).trans p0
      have g1 := (hB2.cell (p := ⟨b1, o1 + k * 2 + 1, none⟩) h1).trans p1
      have g2 := (hB2.cell (p := ⟨b2, o2 + k * 2, none⟩) h2).trans q0
      have g3 := (hB2.cell (p := ⟨b2, o2 + k * 2 + 1, none⟩) h2).trans q1
      have l1 : b1 < wr.heap.size := Nat.lt_of_lt_of_le h1 hB2.size
      have l2 : b2 < wr.heap.size := Nat.lt_of_lt_of_le h2 hB2.size
      have hd : decide ((k : Int) < (ms.length : Int)) = true := by simpa using hkl
      have i1 : (0 : Int) ≤ (k : Int) := by omega
      have i2 : (k : Int) < (ms.length : Int) := by omega
      generalize (ms.getD k (0, 0)).1 = x at *
      generalize (ms.getD k (0, 0)).2 = y at *
      clear hB2 p0 p1 q0 q1
      go_upto_region 6 with fail
      refine region_bw (by kernel_rfl) (by kernel_rfl) ?_
      repeat (go_big_quiet_step (first | (go_at_call 75; exact calls_bw (eqMask_same _ _ _))))
      refine wpQuiet_nil ?_; intro wq hq
      have hq := Lib.hid (below_of_bw hq)
      go_wp2
      go_roundw
      case rel => exact ⟨k + 1, hkl, by go_num, B3.out.trans (Below.mono hq.out B3.out.size)⟩
      case measure => simp [intOf]; omega
    · have e : k = ms.length := by omega
      subst e
      clear hB2 hbw
      go_wp2
      go_ret
      exact ⟨rfl, B3.out⟩
end Go.Proofs.Ytoippchkhknhpaa
