/- Contracts: what one of several queries drops; by the model. -/
import Derived.Test.YthkmahcdojoioabDrops
import Derived.Test.YthkmahcdojoioabDeckI
import Derived.Test.YthkmahcdojoioabHoles
import Derived.Test.YthkmahcdojoioabFloat
import Derived.Deep.DeepCutAuto
namespace Go.Proofs.Ythkmahcdojoioab
open Go.ChangeShapes Go.WideShapes Go.ChangeAt Go.RowKit

/-- A query as it lies in memory: four cells. -/
structure Qy where
  a : Int
  b : Int
  c : Int
  d : Int
instance : Inhabited Qy := ⟨⟨0, 0, 0, 0⟩⟩
def Qy.fits (q : Qy) : Prop := U64 q.a ∧ U64 q.b ∧ U64 q.c ∧ U64 q.d
def qyAt (qs : List Qy) (i : Nat) : Qy := qs.getD i default
def QyCell (w : World) (a : Option Addr) (i : Nat) (q : Qy) : Prop := q.fits ∧ ∃ b off, a = some ⟨b, off, none⟩ ∧ b < w.heap.size ∧
  w.cell? ⟨b, off + i * 4, none⟩ = some (.int .u64 q.a) ∧ w.cell? ⟨b, off + i * 4 + 1, none⟩ = some (.int .u64 q.b) ∧ w.cell? ⟨b, off + i * 4 + 2, none⟩ = some (.int .u64 q.c) ∧ w.cell? ⟨b, off + i * 4 + 3, none⟩ = some (.int .u64 q.d)
def QsIn (w : World) (a : Option Addr) (qs : List Qy) : Prop := ∀ i, i < qs.length → QyCell w a i (qyAt qs i)
theorem qyCell_below {w w' : World} {a : Option Addr} {i : Nat} {q : Qy} (h : QyCell w a i q) (hb : Below w.heap.size w w') : QyCell w' a i q := by
  obtain ⟨hf, b, off, ha, hlt, h0, h1, h2, h3⟩ := h
  exact ⟨hf, b, off, ha, Nat.lt_of_lt_of_le hlt hb.size, (hb.cell hlt).trans h0, (hb.cell hlt).trans h1, (hb.cell hlt).trans h2, (hb.cell hlt).trans h3⟩
theorem qsIn_below {w w' : World} {a : Option Addr} {qs : List Qy} (h : QsIn w a qs) (hb : Below w.heap.size w w') : QsIn w' a qs := fun i hi => qyCell_below (h i hi) hb
theorem qsIn_one {w : World} {g : Nat} {q : Qy} {t : TypeId} (hq : q.fits) (h : w.heap[g]? = some (.cells #[.int .u64 q.a, .int .u64 q.b, .int .u64 q.c, .int .u64 q.d] t (0, 0))) : QsIn w (some ⟨g, 0, none⟩) [q] := by
  intro i hi
  obtain rfl : i = 0 := by simp at hi; omega
  have c := cell_of_block h
  exact ⟨hq, g, 0, rfl, lt_of_block h, c 0, c 1, c 2, c 3⟩

/-- Does one of the queries drop the card with index i? -/
def qAt (cs : List Cd) (q : Qy) (i : Nat) : Bool := qdrop q.a q.b q.c q.d (cdAt cs i).a (cdAt cs i).b
def qAny (cs : List Cd) (qs : List Qy) (i : Nat) : Bool := qs.any fun q => qAt cs q i
theorem qyAt_mem {qs : List Qy} {k : Nat} (h : k < qs.length) : qyAt qs k ∈ qs := by
  unfold qyAt; rw [List.getD, List.getElem?_eq_getElem h]; exact List.getElem_mem h
theorem qAny_yes {cs : List Cd} {qs : List Qy} {i k : Nat} (hk : k < qs.length) (h : qAt cs (qyAt qs k) i = true) : qAny cs qs i = true := by
  unfold qAny; rw [List.any_eq_true]; exact ⟨_, qyAt_mem hk, h⟩
theorem qAny_no {cs : List Cd} {qs : List Qy} {i : Nat} (h : ∀ k, k < qs.length → qAt cs (qyAt qs k) i = false) : qAny cs qs i = false := by
  unfold qAny
  rw [List.any_eq_false]
  intro q hq
  obtain ⟨k, hk, rfl⟩ := List.mem_iff_getElem.1 hq
  have := h k hk
  unfold qyAt at this
  rw [List.getD, List.getElem?_eq_getElem hk] at this
  simpa using this
/-- The answer over the first k cards. -/
def ansTo (cs : List Cd) (qs : List Qy) (k : Nat) : List Int := hol (fun i => qAny cs qs i.toNat) k
theorem ans_zero (cs : List Cd) (qs : List Qy) : ansTo cs qs 0 = [] := rfl
theorem ans_yes {cs : List Cd} {qs : List Qy} {k : Nat} (h : qAny cs qs k = true) : ansTo cs qs (k + 1) = ansTo cs qs k ++ [(k : Int)] := hol_yes (by simpa using h)
theorem ans_no {cs : List Cd} {qs : List Qy} {k : Nat} (h : qAny cs qs k = false) : ansTo cs qs (k + 1) = ansTo cs qs k := hol_no (by simpa using h)
theorem ans_len (cs : List Cd) (qs : List Qy) (k : Nat) : (ansTo cs qs k).length ≤ k := hol_len _ k
theorem own_grow {B : Nat} {w w' : World} {v : Value} {zs : List Int} (h : OwnInts B zs v w) (hb : Below w.heap.size w w') : OwnInts B zs v w' := ownInts_kept h hb

set_option maxHeartbeats 3200000 in
theorem sAnswer_any (ad : Option Addr) (cs : List Cd) (c : Nat) (bd : Option Addr) (qs : List Qy) (d : Nat) (w : World) (hc : CardsIn w ad cs) (hq0 : QsIn w bd qs) (hn : cs.length ≤ 80) (hm : qs.length ≤ 9223372036854775806) :
    Calls Try.prog 73 #[.slice ad cs.length c, .slice bd qs.length d] w fun e w' => ∃ v, e = .returned v ∧ OwnInts w.heap.size (ansTo cs qs cs.length) v w' ∧ Below w.heap.size w w' := by
  obtain ⟨i0, hi, hz0, hz1, hz2⟩ := info_parts info_i64
  have C := Lib.hid hc
  have Q := Lib.hid hq0
  have HM := Lib.hid hm
  have hbw := cell_bw
  clear hc hq0 hm
  go_enter Try.func73, Try.ntmps73
  go_wp2
  go_loopw [5, 6, 7] (fun v i _ wr => ∃ j : Nat, j ≤ cs.length ∧ i = .int .i64 j ∧ OwnInts w.heap.size (ansTo cs qs j) v wr ∧ Below w.heap.size w wr) (fun _ i _ _ => cs.length - (intOf i).toNat)
  case atStart => exact ⟨0, Nat.zero_le _, rfl, own_none rfl (Nat.le_refl _), below_new (Below.refl _ _) _⟩
  case round =>
    obtain ⟨j, hj, rfl, O, hB⟩ := hrel
    have BB := Lib.hid hB
    have OO := Lib.hid O
    clear O
    by_cases hjl : j < cs.length
    · have hd : decide ((j : Int) < (cs.length : Int)) = true := by simpa using hjl
      obtain ⟨⟨_, fa, fb⟩, b1, o1, rfl, hb1, p0, p1, p2⟩ := C.out j hjl
      have i1 : (0 : Int) ≤ (j : Int) := by omega
      have i2 : (j : Int) < (cs.length : Int) := by omega
      have P1 := Lib.hid p1
      have P2 := Lib.hid p2
      have D : Hid (∀ l, l < qs.length → ∀ (g o : Nat) (W : World), W.cell? ⟨g, o, none⟩ = some (.int .u64 (qyAt qs l).a) → W.cell? ⟨g, o + 1, none⟩ = some (.int .u64 (qyAt qs l).b) → W.cell? ⟨g, o + 2, none⟩ = some (.int .u64 (qyAt qs l).c) → W.cell? ⟨g, o + 3, none⟩ = some (.int .u64 (qyAt qs l).d) →
          Calls Try.prog 125 #[.pointer (some ⟨g, o, none⟩), .agg #[.int .u64 (cdAt cs j).a, .int .u64 (cdAt cs j).b]] W fun e w' => e = .returned (.bool (qAt cs (qyAt qs l) j)) ∧ Below W.heap.size W w') :=
        Lib.hid fun l hl g o W c0 c1 c2 c3 => sDrops_any _ _ _ _ _ _ (Q.out l hl).1.1 (Q.out l hl).1.2.1 fa fb g o W c0 c1 c2 c3
      have yes : Hid (∀ l, l < qs.length → qAt cs (qyAt qs l) j = true → ansTo cs qs (j + 1) = ansTo cs qs j ++ [(j : Int)]) := Lib.hid fun l hl h => ans_yes (qAny_yes hl h)
      have no : Hid ((∀ l, l < qs.length → qAt cs (qyAt qs l) j = false) → ansTo cs qs (j + 1) = ansTo cs qs j) := Lib.hid fun h => ans_no (qAny_no h)
      have al := ans_len cs qs j
      clear hB p0 p1 p2 fa fb
      go_wp2
      go_loopw [5, 7] (fun v u wr => ∃ l : Nat, l ≤ qs.length ∧ u = .int .i64 l ∧ (∀ m, m < l → qAt cs (qyAt qs m) j = false) ∧ OwnInts w.heap.size (ansTo cs qs j) v wr ∧ Below w.heap.size w wr) (fun _ u _ => qs.length - (intOf u).toNat)
      case atStart => exact ⟨0, Nat.zero_le _, rfl, fun m hm => absurd hm (Nat.not_lt_zero _), OO.out, BB.out⟩
      case round =>
        obtain ⟨l, hl, rfl, hs, O, hB⟩ := hrel
        have BC := Lib.hid hB
        have OC := Lib.hid O
        have S := Lib.hid hs
        clear hs O BB OO
        by_cases hll : l < qs.length
        · have hd : decide ((l : Int) < (qs.length : Int)) = true := by simpa using hll
          have K := Lib.hid (D.out l hll)
          obtain ⟨_, b2, o2, rfl, hb2, q0, q1, q2, q3⟩ := Q.out l hll
          have d1 := (hB.cell (p := ⟨b1, o1 + j * 3 + 1, none⟩) hb1).trans P1.out
          have d2 := (hB.cell (p := ⟨b1, o1 + j * 3 + 2, none⟩) hb1).trans P2.out
          have e0 := (hB.cell (p := ⟨b2, o2 + l * 4, none⟩) hb2).trans q0
          have e1 := (hB.cell (p := ⟨b2, o2 + l * 4 + 1, none⟩) hb2).trans q1
          have e2 := (hB.cell (p := ⟨b2, o2 + l * 4 + 2, none⟩) hb2).trans q2
          have e3 := (hB.cell (p := ⟨b2, o2 + l * 4 + 3, none⟩) hb2).trans q3
          have y1 : b1 < wr.heap.size := Nat.lt_of_lt_of_le hb1 hB.size
          have y2 : b2 < wr.heap.size := Nat.lt_of_lt_of_le hb2 hB.size
          have i3 : (0 : Int) ≤ (l : Int) := by omega
          have i4 : (l : Int) < (qs.length : Int) := by omega
          have v5 : IntKind.i64.wrap ((l : Int) + 1) = (l : Int) + 1 := IntWalk.i64_in _ (by have := HM.out; omega)
          have yes1 := Lib.hid (yes.out l hll)
          have nx : Hid (qAt cs (qyAt qs l) j = false → ∀ m, m < l + 1 → qAt cs (qyAt qs m) j = false) := Lib.hid fun h m hm => by
            by_cases e : m = l
            · subst e; exact h
            · exact S.out m (by omega)
          clear hB q0 q1 q2 q3
          cases hq : qAt cs (qyAt qs l) j
          · rw [hq] at K
            have NX := Lib.hid (nx.out hq)
            clear nx yes1 hq
            generalize qyAt qs l = x at *
            generalize cdAt cs j = y at *
            obtain ⟨ys, ya, yb⟩ := y
            simp only at d1 d2 K
            go_wp2_with fail
            refine region_bw (by kernel_rfl) (by kernel_rfl) ?_
            repeat (go_big_quiet_step (first | (go_at_call 125; refine calls_bw (K.out _ _ _ ?_ ?_ ?_ ?_); exact (hbw _ _ _ _ y2).trans e0; exact (hbw _ _ _ _ y2).trans e1; exact (hbw _ _ _ _ y2).trans e2; exact (hbw _ _ _ _ y2).trans e3)))
            refine wpQuiet_nil ?_; intro wq hq; replace hq := below_of_bw hq; obtain ⟨qc, qf, qz⟩ := bcell hq
            go_wp2_with fail
            exact ⟨⟨l + 1, hll, by rw [Int.natCast_succ], NX.out, own_grow OC.out hq, BC.out.trans (hq.mono BC.out.size)⟩, by (simp [intOf]) <;> omega⟩
          · rw [hq] at K
            have YE := Lib.hid (yes1.out hq)
            clear nx yes1 hq
            generalize qyAt qs l = x at *
            generalize cdAt cs j = y at *
            obtain ⟨ys, ya, yb⟩ := y
            simp only at d1 d2 K
            go_wp2_with fail
            refine region_bw (by kernel_rfl) (by kernel_rfl) ?_
            repeat (go_big_quiet_step (first | (go_at_call 125; refine calls_bw (K.out _ _ _ ?_ ?_ ?_ ?_); exact (hbw _ _ _ _ y2).trans e0; exact (hbw _ _ _ _ y2).trans e1; exact (hbw _ _ _ _ y2).trans e2; exact (hbw _ _ _ _ y2).trans e3)))
            refine wpQuiet_nil ?_; intro wq hq; replace hq := below_of_bw hq; obtain ⟨qc, qf, qz⟩ := bcell hq
            have O1 := Lib.hid (own_grow OC.out hq)
            have B1 := Lib.hid (BC.out.trans (hq.mono BC.out.size))
            have s1 := B1.out.size
            clear e0 e1 e2 e3 d1 d2 y1 y2 hq qc qf qz hbw
            go_wp2_with (at_builtin; refine wpList_append_own _ rfl _ _ 44 rfl w.heap.size 2 i0 (.int .i64 0) 1 8 Try.underlying44 hi hz0 hz1 hz2 rfl (by decide) _ _ _ rfl (O1.out.alloc _) ⟨wq.heap.size, 0, none⟩ 1 1 [.int .i64 (j : Int)] rfl rfl (one_new _ _ _) (fun x hx => by simp at hx; subst hx; rfl) (by unfold maxLen; omega) (by omega) (by simp; omega) ?_; intro v' w2 hown hgrow _; have P := Lib.hid (own_push hown); have G := Lib.hid hgrow; clear hown hgrow)
            refine ⟨⟨j + 1, hjl, by rw [Int.natCast_succ], by rw [YE.out]; exact P.out, ?_⟩, by (simp [intOf]) <;> omega⟩
            exact Below.grown (B1.out.alloc s1 _) G.out (by simp; omega) (fun k hk => own_lt O1.out k hk)
        · have hd : decide ((l : Int) < (qs.length : Int)) = false := by simp; omega
          have NO := Lib.hid (no.out fun m hm => S.out m (by omega))
          clear hB
          go_wp2
          exact ⟨⟨j + 1, hjl, by rw [Int.natCast_succ], by rw [NO.out]; exact OC.out, BC.out⟩, by (simp [intOf]) <;> omega⟩
    · have e : j = cs.length := by omega
      subst e
      have hd : decide ((cs.length : Int) < (cs.length : Int)) = false := by simp
      clear hB
      go_wp2
      go_ret
      exact ⟨_, rfl, OO.out, BB.out⟩
end Go.Proofs.Ythkmahcdojoioab
