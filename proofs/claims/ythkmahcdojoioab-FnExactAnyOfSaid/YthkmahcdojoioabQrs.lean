/- Slices of queries: opened, measured, compared, carried over, marked. -/
import Derived.Test.YthkmahcdojoioabAns
import Derived.Test.YthkmahcdojoioabQLaw
import Derived.Test.YthkmahcdojoioabMark
import Derived.Test.YthkmahcdojoioabQuiet
import Derived.Test.YthkmahcdojoioabBoxes
import Derived.Deep.Slices
import Derived.OpenShut
namespace Go.Proofs.Ythkmahcdojoioab
open Go.ChangeShapes Go.WideShapes Go.ChangeAt Go.RowKit

/-- A new slice with just these queries, in a block from B on. -/
def NewQs (B : Nat) (fs : List Qy) (v : Value) (w : World) : Prop := ∃ g, v = .slice (some ⟨g, 0, none⟩) fs.length fs.length ∧ B ≤ g ∧ g < w.heap.size ∧ QsIn w (some ⟨g, 0, none⟩) fs ∧ ∀ j, w.frozen? ⟨g, j, none⟩ = false

theorem qyAt_map (f : Nat → Qy) (n i : Nat) (h : i < n) : qyAt ((List.range n).map f) i = f i := by
  unfold qyAt; simp [List.getD, h]

theorem open_queries {H : Type} {enc : TypeId × Value → H} {P : Program} {W : World} {t e u : TypeId} {f0 f1 : Field} {v : Value} {d : DataW H} {p : List MemPlace} {r : Reach} {b : Nat} (ht : P.underlying t = some (.slice e)) (he : P.underlying e = some (.struct #[f0, f1])) (hs : P.underlying f0.type = some (.array 2 u)) (ha : P.underlying f1.type = some (.array 2 u)) (hu : P.underlying u = some (.int .u64))
    (ce : P.cellsOf e = 4) (c0 : P.cellsOf f0.type = 2) (c1 : P.cellsOf f1.type = 2) (cu : P.cellsOf u = 1) (o0 : f0.offset = 0) (o1 : f1.offset = 2)
    (hv : Value.okWide P W r b t v) (h : DataW.Trod enc P W 0 (fun _ => true) true t v d p) : ∃ a cs cap, v = .slice a cs.length cap ∧ QsIn W a cs ∧ cs.length ≤ maxLen := by
  obtain ⟨a0, len, cap, rfl⟩ := okWide_slice ht hv
  obtain ⟨fuel, hf⟩ := h
  rcases Go.Deep.open_slice ht hf with ⟨hcs, _⟩ | ⟨a, len', cap', m, n, D, Pl, hcs, _, hl, hcm, hm, _, hi⟩
  · simp [Value.cells] at hcs
    obtain ⟨rfl, rfl, rfl⟩ := hcs
    exact ⟨none, [], 0, rfl, fun i hi => by simp at hi, by simp⟩
  · simp [Value.cells] at hcs
    obtain ⟨rfl, rfl, rfl⟩ := hcs
    simp at hm
    subst hm
    have key : ∀ i, i < len → ∃ c : Qy, c.fits ∧ W.cell? (a.add (i * 4)) = some (.int .u64 c.a) ∧ W.cell? (a.add (i * 4 + 1)) = some (.int .u64 c.b) ∧ W.cell? (a.add (i * 4 + 2)) = some (.int .u64 c.c) ∧ W.cell? (a.add (i * 4 + 3)) = some (.int .u64 c.d) := by
      intro i hi'
      obtain ⟨cs', hc, hd⟩ := hi i (by omega)
      rw [ce] at hc
      obtain ⟨_, hlen, hat⟩ := World.cells?_some hc
      obtain ⟨xs, n1, _, _, _, hxl, hfs⟩ := DataW.trod_struct he hd
      match cs', hlen with
      | [x0, x1, x2, x3], _ =>
        have g0 := hfs 0 f0 rfl
        have g1 := hfs 1 f1 rfl
        rw [o0, c0] at g0
        rw [o1, c1] at g1
        match xs, hxl with
        | [y0, y1], _ =>
          simp at g0 g1
          obtain ⟨zs, n2, _, _, _, hzl, hg⟩ := DataW.trod_array hs g0
          obtain ⟨zt, n5, _, _, _, htl, hh⟩ := DataW.trod_array ha g1
          match zs, hzl, zt, htl with
          | [z0, z1], _, [z2, z3], _ =>
            have k0 := hg 0 (by omega)
            have k1 := hg 1 (by omega)
            have k2 := hh 0 (by omega)
            have k3 := hh 1 (by omega)
            rw [cu] at k0 k1 k2 k3
            simp at k0 k1 k2 k3
            obtain ⟨m0, e0, _, w0⟩ := DataW.trod_int hu k0
            obtain ⟨m1, e1, _, w1⟩ := DataW.trod_int hu k1
            obtain ⟨m2, e2, _, w2⟩ := DataW.trod_int hu k2
            obtain ⟨m3, e3, _, w3⟩ := DataW.trod_int hu k3
            simp at e0 e1 e2 e3
            subst e0 e1 e2 e3
            simp [Lit.wf, IntKind.min, IntKind.max, IntKind.signed, IntKind.bits] at w0 w1 w2 w3
            have u0 : U64 m0 := ⟨by omega, by omega⟩
            have u1 : U64 m1 := ⟨by omega, by omega⟩
            have u2 : U64 m2 := ⟨by omega, by omega⟩
            have u3 : U64 m3 := ⟨by omega, by omega⟩
            have a0 := hat 0 (by omega)
            have a1 := hat 1 (by omega)
            have a2 := hat 2 (by omega)
            have a3 := hat 3 (by omega)
            rw [Go.Deep.add_add] at a0 a1 a2 a3
            exact ⟨⟨m0, m1, m2, m3⟩, ⟨u0, u1, u2, u3⟩, a0, a1, a2, a3⟩
    obtain ⟨f, hf2⟩ := Go.Deep.choose_lt key
    refine ⟨some a, (List.range len).map f, m, by simp, fun i hi' => ?_, by simp; omega⟩
    simp at hi'
    rw [qyAt_map f len i hi']
    obtain ⟨hfit, q0, q1, q2, q3⟩ := hf2 i hi'
    obtain ⟨b, off, spot⟩ := a
    have hspot : spot = none := by simpa [Addr.add] using World.cell?_spot (hf2 0 (by omega)).2.1
    subst hspot
    exact ⟨hfit, b, off, rfl, by have h := World.block_lt_of_cell? _ _ q0; rw [Go.WideShapes.add_plain] at h; exact h, by rw [← Go.WideShapes.add_plain]; exact q0, by rw [Nat.add_assoc, ← Go.WideShapes.add_plain]; exact q1, by rw [Nat.add_assoc, ← Go.WideShapes.add_plain]; exact q2, by rw [Nat.add_assoc, ← Go.WideShapes.add_plain]; exact q3⟩

/-- What a measuring leaves. -/
def SzQ (n : Nat) (w : World) (e : Ending) (w' : World) : Prop := ∃ z : Int, e = .returned (.int .i64 z) ∧ (0 ≤ z → n ≤ 1048576) ∧ w = w'

set_option maxHeartbeats 800000 in
theorem szQueryS_any (ad : Option Addr) (n c : Nat) (l : Int) (l0 : 0 ≤ l) (l1 : l ≤ 1048576) (hn : n ≤ 9223372036854775807) (w : World) :
    Calls Try.prog 31 #[.slice ad n c, .int .i64 l] w (SzQ n w) := by
  have d1 : IntKind.i64.wrap (l - (n : Int)) = l - (n : Int) := IntWalk.i64_in _ (by omega)
  have HN := Lib.hid hn
  clear hn
  by_cases h : l - (n : Int) < 0
  · have d2 : decide (l - (n : Int) < 0) = true := by simp; omega
    go_enter Try.func31, Try.ntmps31
    go_wp2
    go_ret
    exact ⟨-1, rfl, by omega, rfl⟩
  · have d2 : decide (l - (n : Int) < 0) = false := by simp; omega
    have hk : n ≤ 1048576 := by omega
    go_enter Try.func31, Try.ntmps31
    go_wp2
    go_ret
    exact ⟨_, rfl, fun _ => hk, rfl⟩

set_option maxHeartbeats 1600000 in
theorem eqQueryS_same (ad bd : Option Addr) (cs : List Qy) (c d : Nat) (w : World) (ha : QsIn w ad cs) (hb : QsIn w bd cs) (hn : cs.length ≤ 1048576) :
    Calls Try.prog 35 #[.slice ad cs.length c, .slice bd cs.length d] w fun e w' => e = .returned (.bool true) ∧ Below w.heap.size w w' := by
  have A := Lib.hid ha
  have B := Lib.hid hb
  have hbw := cell_bw
  clear ha hb
  go_enter Try.func35, Try.ntmps35
  go_wp2
  go_loopw [5] (fun i wr => ∃ j : Nat, j ≤ cs.length ∧ i = .int .i64 j ∧ Below w.heap.size w wr) (fun i _ => cs.length - (intOf i).toNat)
  case atStart => exact ⟨0, Nat.zero_le _, rfl, Below.refl _ _⟩
  case round =>
    obtain ⟨j, hj, rfl, hB⟩ := hrel
    have BB := Lib.hid hB
    by_cases hjl : j < cs.length
    · have hd : decide ((j : Int) < (cs.length : Int)) = true := by simpa using hjl
      obtain ⟨_, b1, o1, rfl, hb1, p0, p1, p2, p3⟩ := A.out j hjl
      obtain ⟨_, b2, o2, rfl, hb2, q0, q1, q2, q3⟩ := B.out j hjl
      have d0 := (hB.cell (p := ⟨b1, o1 + j * 4, none⟩) hb1).trans p0
      have d1 := (hB.cell (p := ⟨b1, o1 + j * 4 + 1, none⟩) hb1).trans p1
      have d2 := (hB.cell (p := ⟨b1, o1 + j * 4 + 2, none⟩) hb1).trans p2
      have e0 := (hB.cell (p := ⟨b2, o2 + j * 4, none⟩) hb2).trans q0
      have e1 := (hB.cell (p := ⟨b2, o2 + j * 4 + 1, none⟩) hb2).trans q1
      have e2 := (hB.cell (p := ⟨b2, o2 + j * 4 + 2, none⟩) hb2).trans q2
      have d3 := (hB.cell (p := ⟨b1, o1 + j * 4 + 3, none⟩) hb1).trans p3
      have e3 := (hB.cell (p := ⟨b2, o2 + j * 4 + 3, none⟩) hb2).trans q3
      have y1 : b1 < wr.heap.size := Nat.lt_of_lt_of_le hb1 hB.size
      have y2 : b2 < wr.heap.size := Nat.lt_of_lt_of_le hb2 hB.size
      have i1 : (0 : Int) ≤ (j : Int) := by omega
      have i2 : (j : Int) < (cs.length : Int) := by omega
      generalize qyAt cs j = x at *
      obtain ⟨xa, xb, xc, xd⟩ := x
      simp only at d0 d1 d2 d3 e0 e1 e2 e3
      have K := Lib.hid fun W => eqQuery_same xa xb xc xd W
      clear hB p0 p1 p2 p3 q0 q1 q2 q3
      go_wp2_with fail
      refine region_bw (by kernel_rfl) (by kernel_rfl) ?_
      repeat (go_big_quiet_step (first | (go_at_call 80; exact calls_bw (K.out _))))
      refine wpQuiet_nil ?_; intro wq hq; replace hq := below_of_bw hq; obtain ⟨qc, qf, qz⟩ := bcell hq
      go_wp2_with fail
      exact ⟨⟨j + 1, hjl, by rw [Int.natCast_succ], BB.out.trans (hq.mono BB.out.size)⟩, by (simp [intOf]) <;> omega⟩
    · have e : j = cs.length := by omega
      subst e
      have hd : decide ((cs.length : Int) < (cs.length : Int)) = false := by simp
      clear hB
      go_wp2
      go_ret
      exact ⟨rfl, BB.out⟩

def cellQ (c : Qy) (r : Nat) : Value := if r = 0 then .int .u64 c.a else if r = 1 then .int .u64 c.b else if r = 2 then .int .u64 c.c else .int .u64 c.d
/-- k fields carried over, empty ones behind. -/
def rowQ (cs : List Qy) (k : Nat) : List Value := (List.range (cs.length * 4)).map fun i => cellQ (if i / 4 < k then qyAt cs (i / 4) else default) (i % 4)
theorem rowQ_len (cs : List Qy) (k : Nat) : (rowQ cs k).length = cs.length * 4 := by unfold rowQ; simp
theorem rowQ_get (cs : List Qy) (k i : Nat) (h : i < cs.length * 4) : (rowQ cs k)[i]? = some (cellQ (if i / 4 < k then qyAt cs (i / 4) else default) (i % 4)) := by
  unfold rowQ; rw [List.getElem?_map, List.getElem?_range h]; rfl
theorem rowQ_next (cs : List Qy) (k : Nat) (h : k < cs.length) :
    ((((rowQ cs k).set (k * 4) (.int .u64 (qyAt cs k).a)).set (k * 4 + 1) (.int .u64 (qyAt cs k).b)).set (k * 4 + 2) (.int .u64 (qyAt cs k).c)).set (k * 4 + 3) (.int .u64 (qyAt cs k).d) = rowQ cs (k + 1) := by
  apply List.ext_getElem?
  intro i
  rw [List.getElem?_set, List.getElem?_set, List.getElem?_set, List.getElem?_set]
  simp only [List.length_set, rowQ_len]
  by_cases hi : i < cs.length * 4
  · rw [rowQ_get cs (k + 1) i hi]
    by_cases e3 : k * 4 + 3 = i
    · subst e3
      rw [if_pos rfl, if_pos hi, show (k * 4 + 3) / 4 = k by omega, show (k * 4 + 3) % 4 = 3 by omega, if_pos (Nat.lt_succ_self k)]; rfl
    · rw [if_neg e3]
      by_cases e2 : k * 4 + 2 = i
      · subst e2
        rw [if_pos rfl, if_pos hi, show (k * 4 + 2) / 4 = k by omega, show (k * 4 + 2) % 4 = 2 by omega, if_pos (Nat.lt_succ_self k)]; rfl
      · rw [if_neg e2]
        by_cases e1 : k * 4 + 1 = i
        · subst e1
          rw [if_pos rfl, if_pos hi, show (k * 4 + 1) / 4 = k by omega, show (k * 4 + 1) % 4 = 1 by omega, if_pos (Nat.lt_succ_self k)]; rfl
        · rw [if_neg e1]
          by_cases e0 : k * 4 = i
          · subst e0
            rw [if_pos rfl, if_pos hi, show k * 4 / 4 = k by omega, show k * 4 % 4 = 0 by omega, if_pos (Nat.lt_succ_self k)]; rfl
          · rw [if_neg e0, rowQ_get cs k i hi]
            by_cases c : i / 4 < k
            · rw [if_pos c, if_pos (by omega)]
            · rw [if_neg c, if_neg (by omega)]
  · rw [List.getElem?_eq_none (by rw [rowQ_len]; omega), List.getElem?_eq_none (by rw [rowQ_len]; omega)]
    repeat (split; · first | omega | rfl)
    first | rfl | (split <;> first | omega | rfl)

theorem rowQ_zero (cs : List Qy) : (madeCells #[.int .u64 0, .int .u64 0, .int .u64 0, .int .u64 0] (cs.length * 4)).toList = rowQ cs 0 := by
  apply List.ext_getElem?
  intro i
  by_cases hi : i < cs.length * 4
  · rw [rowQ_get cs 0 i hi, if_neg (Nat.not_lt_zero _)]
    have h3 : i % 4 = 0 ∨ i % 4 = 1 ∨ i % 4 = 2 ∨ i % 4 = 3 := by omega
    rcases h3 with h | h | h | h <;> simp [madeCells, hi, h, cellQ] <;> rfl
  · rw [List.getElem?_eq_none (by simp [madeCells]; omega), List.getElem?_eq_none (by rw [rowQ_len]; omega)]

theorem info_query : (Try.prog.info? 49).map (fun i => (i.zero, i.size, i.bytes)) = some (some (.agg #[.int .u64 0, .int .u64 0, .int .u64 0, .int .u64 0]), 4, 32) := by kernel_rfl

theorem ownsRowQ_below {w w' : World} {B e size n : Nat} {v : Value} {xs : List Value} (h : w.ownsRow B e size v n xs) (hb : Below w.heap.size w w') : w'.ownsRow B e size v n xs := by
  obtain ⟨h1, h2⟩ := h
  refine ⟨h1, ?_⟩
  rcases h2 with hn | ⟨g, cap, cur, rfl, hB, hg, rest⟩
  · exact .inl hn
  · exact .inr ⟨g, cap, cur, rfl, hB, (hb.block g (Array.getElem?_eq_some_iff.1 hg).1).trans hg, rest⟩

def NewQ (cs : List Qy) (w : World) (e : Ending) (w' : World) : Prop := ∃ v, e = .returned v ∧ NewQs w.heap.size cs v w' ∧ Below w.heap.size w w'

set_option maxHeartbeats 1600000 in
theorem toQueryS_any (ad : Option Addr) (cs : List Qy) (c : Nat) (w : World) (hc : QsIn w ad cs) (hn : cs.length ≤ 1048576) :
    Calls Try.prog 33 #[.slice ad cs.length c] w (NewQ cs w) := by
  obtain ⟨i0, hi, hz0, hz1, hz2⟩ := info_parts info_query
  have C := Lib.hid hc
  clear hc
  go_enter Try.func33, Try.ntmps33
  go_wp2_with (at_make; refine wpList_make_full _ rfl _ _ 58 rfl w.heap.size 49 i0 (.agg #[.int .u64 0, .int .u64 0, .int .u64 0, .int .u64 0]) 4 Try.underlying58 hi hz0 hz1 _ _ _ _ cs.length rfl rfl rfl rfl (by rw [hz2]; omega) (by unfold maxLen; omega) (Nat.le_refl _) ?_; intro w1 hown hgrow; have M := Lib.hid hown; have G := Lib.hid hgrow; clear hown hgrow)
  have O : w1.ownsRow w.heap.size 49 4 (.slice (some ⟨w.heap.size, 0, none⟩) cs.length cs.length) cs.length (rowQ cs 0) := by rw [← rowQ_zero]; exact M.out
  have B1 := Lib.hid (Below.grown (Below.refl w.heap.size w) G.out (Nat.le_refl _) (fun j hj => by cases hj))
  have OO := Lib.hid O
  clear M G O hi hz0 hz1 hz2
  go_loopw [4] (fun i wr => ∃ k : Nat, k ≤ cs.length ∧ i = .int .i64 k ∧ wr.ownsRow w.heap.size 49 4 (.slice (some ⟨w.heap.size, 0, none⟩) cs.length cs.length) cs.length (rowQ cs k) ∧ Below w.heap.size w wr) (fun i _ => cs.length - (intOf i).toNat)
  case atStart => exact ⟨0, Nat.zero_le _, rfl, OO.out, B1.out⟩
  case round =>
    obtain ⟨k, hk, rfl, O2, hB⟩ := hrel
    have O3 := Lib.hid O2
    have BB := Lib.hid hB
    have gl := (O2.lt w.heap.size rfl).2
    by_cases hkl : k < cs.length
    · have hd : decide ((k : Int) < (cs.length : Int)) = true := by simpa using hkl
      obtain ⟨_, b1, o1, rfl, hb1, p0, p1, p2, p3⟩ := C.out k hkl
      have d0 := (hB.cell (p := ⟨b1, o1 + k * 4, none⟩) hb1).trans p0
      have d1 := (hB.cell (p := ⟨b1, o1 + k * 4 + 1, none⟩) hb1).trans p1
      have d2 := (hB.cell (p := ⟨b1, o1 + k * 4 + 2, none⟩) hb1).trans p2
      have d3 := (hB.cell (p := ⟨b1, o1 + k * 4 + 3, none⟩) hb1).trans p3
      have nx := Lib.hid (rowQ_next cs k hkl)
      have i1 : (0 : Int) ≤ (k : Int) := by omega
      have i2 : (k : Int) < (cs.length : Int) := by omega
      have r0 := O2.cellAt (k * 4) (by omega)
      have r1 := O2.cellAt (k * 4 + 1) (by omega)
      have r2 := O2.cellAt (k * 4 + 2) (by omega)
      have r3 := O2.cellAt (k * 4 + 3) (by omega)
      rw [rowQ_get cs k _ (by omega)] at r0 r1 r2 r3
      have fz := fun j => O2.frozenAt j
      generalize qyAt cs k = x at *
      obtain ⟨xa, xb, xc, xd⟩ := x
      simp only at d0 d1 d2 d3
      have K := Lib.hid fun W => toQuery_any xa xb xc xd W
      have R0 := Lib.hid r0
      have R1 := Lib.hid r1
      have R2 := Lib.hid r2
      have R3 := Lib.hid r3
      have FZ := Lib.hid fz
      clear hB p0 p1 p2 p3 O2 r0 r1 r2 r3 fz
      go_wp2_with (go_at_call 25; refine (K.out _).mono ?_; rintro e w2 ⟨rfl, hB2⟩; have t0 := (hB2.cell (p := ⟨w.heap.size, k * 4, none⟩) gl).trans R0.out; have t1 := (hB2.cell (p := ⟨w.heap.size, k * 4 + 1, none⟩) gl).trans R1.out; have t2 := (hB2.cell (p := ⟨w.heap.size, k * 4 + 2, none⟩) gl).trans R2.out; have t3 := (hB2.cell (p := ⟨w.heap.size, k * 4 + 3, none⟩) gl).trans R3.out; have u : ∀ j, w2.frozen? ⟨w.heap.size, j, none⟩ = false := (fun j => (hB2.frozen (p := ⟨w.heap.size, j, none⟩) gl).trans (FZ.out j)); have O4 := Lib.hid (ownsRowQ_below O3.out hB2); have B2 := Lib.hid (below_next BB.out hB2); clear hB2)
      have s0 := O4.out.stored (k * 4) (.int .u64 xa)
      have s1 := s0.1.stored (k * 4 + 1) (.int .u64 xb)
      have s2 := s1.1.stored (k * 4 + 2) (.int .u64 xc)
      have s3 := s2.1.stored (k * 4 + 3) (.int .u64 xd)
      have o := s3.1
      have n := nx.out
      rw [n] at o
      exact ⟨⟨k + 1, hkl, by rw [Int.natCast_succ], o, (((B2.out.setCell (Nat.le_refl _) _).setCell (Nat.le_refl _) _).setCell (Nat.le_refl _) _).setCell (Nat.le_refl _) _⟩, by (simp [intOf]) <;> omega⟩
    · have e : k = cs.length := by omega
      subst e
      have hd : decide ((cs.length : Int) < (cs.length : Int)) = false := by simp
      clear O2 hB
      go_wp2
      go_ret
      refine ⟨_, rfl, ⟨w.heap.size, rfl, Nat.le_refl _, gl, fun i hi => ⟨(C.out i hi).1, w.heap.size, 0, rfl, gl, ?_, ?_, ?_, ?_⟩, fun j => O3.out.frozenAt j⟩, BB.out⟩
      · rw [Nat.zero_add, O3.out.cellAt _ (by omega), rowQ_get cs _ _ (by omega), show i * 4 / 4 = i by omega, if_pos hi, show i * 4 % 4 = 0 by omega]; rfl
      · rw [Nat.zero_add, O3.out.cellAt _ (by omega), rowQ_get cs _ _ (by omega), show (i * 4 + 1) / 4 = i by omega, if_pos hi, show (i * 4 + 1) % 4 = 1 by omega]; rfl
      · rw [Nat.zero_add, O3.out.cellAt _ (by omega), rowQ_get cs _ _ (by omega), show (i * 4 + 2) / 4 = i by omega, if_pos hi, show (i * 4 + 2) % 4 = 2 by omega]; rfl
      · rw [Nat.zero_add, O3.out.cellAt _ (by omega), rowQ_get cs _ _ (by omega), show (i * 4 + 3) / 4 = i by omega, if_pos hi, show (i * 4 + 3) % 4 = 3 by omega]; rfl

set_option maxRecDepth 100000 in
set_option maxHeartbeats 1600000 in
theorem markQs_any (n g k c : Nat) (w : World) (hW0 : Wr w g (n * 4)) (_hg : g < w.heap.size) (hk : k + 4 * n ≤ 12000000) :
    Calls Try.prog 36 #[.slice (some ⟨g, 0, none⟩) n c, .int .i64 (k : Int)] w fun e w' => e = .returned (.int .i64 ((k + 4 * n : Nat) : Int)) ∧ Oth g w w' := by
  have W0 := Lib.hid hW0
  clear hW0
  go_enter Try.func36, Try.ntmps36
  go_wp2
  go_loopw [1, 5] (fun q i wr => ∃ j q0 : Nat, j ≤ n ∧ i = .int .i64 j ∧ q = .int .i64 (q0 : Int) ∧ q0 = k + 4 * j ∧ Wr wr g (n * 4) ∧ Oth g w wr) (fun _ i _ => n - (intOf i).toNat)
  case atStart => exact ⟨0, k, Nat.zero_le _, rfl, rfl, by omega, W0.out, Oth.refl _ _⟩
  case round =>
    obtain ⟨j, q0, hj, rfl, rfl, hq, hW, hO⟩ := hrel
    have Q := Lib.hid hq
    have WW := Lib.hid hW
    have OO := Lib.hid hO
    by_cases hkl : j < n
    · have hd : decide ((j : Int) < (n : Int)) = true := by simpa using hkl
      have qb : q0 ≤ 12000000 := by omega
      have i1 : (0 : Int) ≤ (j : Int) := by omega
      have i2 : (j : Int) < (n : Int) := by omega
      obtain ⟨y0, r0⟩ := hW.1 (j * 4) (by omega)
      obtain ⟨y1, r1⟩ := hW.1 (j * 4 + 1) (by omega)
      obtain ⟨y2, r2⟩ := hW.1 (j * 4 + 2) (by omega)
      obtain ⟨y3, r3⟩ := hW.1 (j * 4 + 3) (by omega)
      have u := hW.2
      have x1 : IntKind.i64.wrap ((q0 : Int) + 1) = (q0 : Int) + 1 := IntWalk.i64_in _ (by omega)
      have x2 : IntKind.i64.wrap ((q0 : Int) + 1 + 1) = (q0 : Int) + 1 + 1 := IntWalk.i64_in _ (by omega)
      have x3 : IntKind.i64.wrap ((q0 : Int) + 1 + 1 + 1) = (q0 : Int) + 1 + 1 + 1 := IntWalk.i64_in _ (by omega)
      have x4 : IntKind.i64.wrap ((q0 : Int) + 1 + 1 + 1 + 1) = (q0 : Int) + 1 + 1 + 1 + 1 := IntWalk.i64_in _ (by omega)
      have z0 : IntKind.u64.wrap (q0 : Int) = (q0 : Int) := IntWalk.u64_in _ (by omega)
      have z1 : IntKind.u64.wrap ((q0 : Int) + 1) = (q0 : Int) + 1 := IntWalk.u64_in _ (by omega)
      have z2 : IntKind.u64.wrap ((q0 : Int) + 1 + 1) = (q0 : Int) + 1 + 1 := IntWalk.u64_in _ (by omega)
      have z3 : IntKind.u64.wrap ((q0 : Int) + 1 + 1 + 1) = (q0 : Int) + 1 + 1 + 1 := IntWalk.u64_in _ (by omega)
      clear hq hW hO
      go_wp2
      refine wp_loop_rounds 3 ?_
      rw [rounds_succ]; go_wp2
      rw [rounds_succ]; go_wp2
      rw [rounds_succ]; go_wp2
      refine wp_loop_rounds 3 ?_
      rw [rounds_succ]; go_wp2
      rw [rounds_succ]; go_wp2
      rw [rounds_succ]; go_wp2
      exact ⟨⟨j + 1, q0 + 4, hkl, by rw [Int.natCast_succ], by congr 1, by have := Q.out; omega, (((WW.out.set _ (by omega) _).set _ (by omega) _).set _ (by omega) _).set _ (by omega) _, (((OO.out.set _ _).set _ _).set _ _).set _ _⟩, by (simp [intOf]) <;> omega⟩
    · have e : j = n := by omega
      subst e
      have hd : decide ((j : Int) < (j : Int)) = false := by simp
      clear hW hO
      have hq2 := hq
      subst hq2
      clear hq
      go_wp2
      go_ret
      exact ⟨rfl, OO.out⟩
end Go.Proofs.Ythkmahcdojoioab
