/- Contracts: what one of several queries drops; by the program (slices.ContainsFunc with a closure over a closure). -/
import Derived.Test.YthkmahcdojoioabAns
import Derived.Test.YthkmahcdojoioabMake1
import Derived.Test.YthkmahcdojoioabFind
import Derived.Test.YthkmahcdojoioabISort
namespace Go.Proofs.Ythkmahcdojoioab
open Go.ChangeShapes Go.WideShapes Go.ChangeAt Go.RowKit

theorem iDropsFor_x (a b c d : Int) (w : World) :
    Calls Try.prog 79 #[.agg #[.int .u64 a, .int .u64 b, .int .u64 c, .int .u64 d]] w fun e w' => e = .returned (.func (.func 128) #[] #[.pointer (some ⟨w.heap.size, 0, none⟩)]) ∧ w.alloc (.cells #[.int .u64 a, .int .u64 b, .int .u64 c, .int .u64 d] 49) = w' := by
  have hmf : ∀ (fn : Fn) (first cap : Array Value) (w : World), (Instr.makeFunc fn first cap).run Try.prog w = .ok (.func fn first cap) w := fun _ _ _ _ => rfl
  go_enter Try.func79, Try.ntmps79
  go_wp2
  go_returns
  exact ⟨rfl, rfl⟩

/-- The query of a closure. -/
def ClQ (q : Qy) (x : Option Addr) (w : World) : Prop := ∃ b, x = some ⟨b, 0, none⟩ ∧ w.heap[b]? = some (.cells #[.int .u64 q.a, .int .u64 q.b, .int .u64 q.c, .int .u64 q.d] 49 (0, 0))

set_option maxRecDepth 100000 in
set_option maxHeartbeats 1600000 in
theorem iAny1 (q : Qy) (y : Cd) (g : Nat) (w : World) (hg : w.heap[g]? = some (.cells #[.string y.s, .int .u64 y.a, .int .u64 y.b] 95 (0, 0))) :
    Calls Try.prog 78 #[.agg #[.int .u64 q.a, .int .u64 q.b, .int .u64 q.c, .int .u64 q.d], .pointer (some ⟨g, 0, none⟩)] w fun e w' => e = .returned (.bool (qdrop q.a q.b q.c q.d y.a y.b)) ∧ Below w.heap.size w w' := by
  obtain ⟨a, b, c, d⟩ := q
  obtain ⟨ys, m, n⟩ := y
  simp only at hg ⊢
  have D := Lib.hid fun W => iDropsFor_x a b c d W
  have R := Lib.hid fun (b9 : Nat) (W : World) h0 h1 h2 h3 => iDrop_any a b c d m n b9 0 W h0 h1 h2 h3
  have HB := block_alloc w (.cells #[.int .u64 a, .int .u64 b, .int .u64 c, .int .u64 d] 49)
  have kk : Below w.heap.size w (w.alloc (.cells #[.int .u64 a, .int .u64 b, .int .u64 c, .int .u64 d] 49)) := below_new (Below.refl _ _) _
  have hg2 := Ab.block kk hg
  generalize qdrop a b c d m n = r at *
  go_enter Try.func78, Try.ntmps78
  go_upto_region 1 with fail
  generalize w.alloc (.cells #[.int .u64 a, .int .u64 b, .int .u64 c, .int .u64 d] 49) = V at *
  have HB := Lib.hid HB
  have HG := Lib.hid hg2
  have KK := Lib.hid kk
  clear hg hg2 kk
  refine wp_region_make1_at (Y := Unit) 1 2 (ClQ ⟨a, b, c, d⟩) (fun _ _ => True) (fun _ _ _ h hb => by obtain ⟨b9, h1, h2⟩ := h; exact ⟨b9, h1, hb.block h2⟩) (fun _ _ _ _ _ => trivial) (fun x => .func (.func 128) #[] #[.pointer x]) (fun _ => .bool r) (by kernel_rfl) rfl rfl rfl (by kernel_rfl) rfl rfl () ?_
  simp only [Nat.reduceAdd, List.take_succ_cons, List.take_zero, List.drop_succ_cons, List.drop_zero]
  have hbw := cell_bw
  intro v1 hv1
  have c0 := cell_of_block (hv1.block HB.out)
  have z0 := lt_of_block (hv1.block HB.out)
  repeat (go_big_quiet_step (fail))
  refine wpQuiet_nil ?_
  clear c0 z0
  refine ⟨?_, ?_⟩
  · intro v2 hv2
    go_simp
    simp only [Yld]
    refine ⟨trivial, (D.out v2).mono ?_⟩
    rintro e v3 ⟨rfl, rfl⟩
    exact ⟨_, rfl, some ⟨v2.heap.size, 0, none⟩, rfl, below_new (Below.refl _ _) _, _, rfl, block_alloc _ _⟩
  intro x v2 hv2
  simp only [Act.put, List.setIfInBounds_toArray, List.set_cons_succ, List.set_cons_zero]
  have c1 := cell_of_block (hv2.block HG.out)
  have z1 := lt_of_block (hv2.block HG.out)
  repeat (go_big_quiet_step (fail))
  refine wpQuiet_nil ?_
  clear c1 z1
  refine ⟨?_, ?_⟩
  · intro v3 _ hx
    unfold ClQ at hx
    obtain ⟨b9, hx9, hb9⟩ := hx
    subst hx9
    have e9 := cell_of_block hb9
    go_simp
    simp only [Yld]
    refine ⟨trivial, (R.out b9 v3 (e9 0) (e9 1) (e9 2) (e9 3)).mono ?_⟩
    rintro e v4 ⟨rfl, hb⟩
    exact ⟨_, rfl, rfl, hb⟩
  rintro ⟨⟩
  simp only [List.setIfInBounds_toArray, List.set_cons_succ, List.set_cons_zero]
  refine ⟨rfl, _, fun _ => rfl, ?_⟩
  simp only [Act.put, List.setIfInBounds_toArray, List.set_cons_succ, List.set_cons_zero]
  intro w3 hw3 _ _
  go_wp2
  go_returns
  exact ⟨rfl, KK.out.trans (Below.mono hw3 KK.out.size)⟩

/-- The box of a card. -/
def CdB (g : Nat) (y : Cd) (w : World) : Prop := w.heap[g]? = some (.cells #[.string y.s, .int .u64 y.a, .int .u64 y.b] 95 (0, 0))

set_option maxHeartbeats 1600000 in
theorem iIndexQ (bd : Option Addr) (qs : List Qy) (d : Nat) (cs : List Cd) (j : Nat) (g : Nat) (w : World) (hq0 : QsIn w bd qs) (hm : qs.length ≤ 9223372036854775806) (hg : CdB g (cdAt cs j) w) :
    Calls Try.prog 127 #[.slice bd qs.length d, .func (.func 78) #[] #[.pointer (some ⟨g, 0, none⟩)]] w fun e w' => ∃ z : Int, e = .returned (.int .i64 z) ∧ decide (0 ≤ z) = qAny cs qs j ∧ Below w.heap.size w w' := by
  have Q := Lib.hid hq0
  have G := Lib.hid hg
  have HM := Lib.hid hm
  have V : Hid (∀ l (W : World), CdB g (cdAt cs j) W → Calls Try.prog 78 #[.agg #[.int .u64 (qyAt qs l).a, .int .u64 (qyAt qs l).b, .int .u64 (qyAt qs l).c, .int .u64 (qyAt qs l).d], .pointer (some ⟨g, 0, none⟩)] W fun e w' => e = .returned (.bool (qAt cs (qyAt qs l) j)) ∧ Below W.heap.size W w') :=
    Lib.hid fun l W h => iAny1 (qyAt qs l) (cdAt cs j) g W h
  clear hq0 hm hg
  go_enter Try.func127, Try.ntmps127
  go_wp2
  go_loopw [8] (fun u wr => ∃ l : Nat, l ≤ qs.length ∧ u = .int .i64 l ∧ (∀ m, m < l → qAt cs (qyAt qs m) j = false) ∧ Below w.heap.size w wr) (fun u _ => qs.length - (intOf u).toNat)
  case atStart => exact ⟨0, Nat.zero_le _, rfl, fun m hm => absurd hm (Nat.not_lt_zero _), Below.refl _ _⟩
  case round =>
    obtain ⟨l, hl, rfl, hs, hB⟩ := hrel
    have BC := Lib.hid hB
    have S := Lib.hid hs
    clear hs
    by_cases hll : l < qs.length
    · have hd : decide ((l : Int) < (qs.length : Int)) = true := by simpa using hll
      obtain ⟨_, b2, o2, rfl, hb2, q0, q1, q2, q3⟩ := Q.out l hll
      have e0 := (hB.cell (p := ⟨b2, o2 + l * 4, none⟩) hb2).trans q0
      have e1 := (hB.cell (p := ⟨b2, o2 + l * 4 + 1, none⟩) hb2).trans q1
      have e2 := (hB.cell (p := ⟨b2, o2 + l * 4 + 2, none⟩) hb2).trans q2
      have e3 := (hB.cell (p := ⟨b2, o2 + l * 4 + 3, none⟩) hb2).trans q3
      have i3 : (0 : Int) ≤ (l : Int) := by omega
      have i4 : (l : Int) < (qs.length : Int) := by omega
      have v5 : IntKind.i64.wrap ((l : Int) + 1) = (l : Int) + 1 := IntWalk.i64_in _ (by have := HM.out; omega)
      have K := Lib.hid (V.out l wr (Ab.block hB G.out))
      have yes1 : Hid (qAt cs (qyAt qs l) j = true → decide (0 ≤ (l : Int)) = qAny cs qs j) := Lib.hid fun h => by rw [qAny_yes hll h]; exact decide_eq_true i3
      have nx : Hid (qAt cs (qyAt qs l) j = false → ∀ m, m < l + 1 → qAt cs (qyAt qs m) j = false) := Lib.hid fun h m hm => by
        by_cases e : m = l
        · subst e; exact h
        · exact S.out m (by omega)
      clear hB q0 q1 q2 q3
      cases hq : qAt cs (qyAt qs l) j
      · rw [hq] at K
        have NX := Lib.hid (nx.out hq)
        clear nx yes1 hq
        generalize qyAt qs l = x at *
        go_wp2_with (go_at_call 78; refine K.out.mono ?_; rintro e w1 ⟨rfl, hB1⟩; have B1 := Lib.hid (BC.out.trans (Below.mono hB1 BC.out.size)); clear hB1)
        exact ⟨⟨l + 1, hll, by rw [Int.natCast_succ], NX.out, B1.out⟩, by (simp [intOf]) <;> omega⟩
      · rw [hq] at K
        have YE := Lib.hid (yes1.out hq)
        clear nx yes1 hq
        generalize qyAt qs l = x at *
        go_wp2_with (go_at_call 78; refine K.out.mono ?_; rintro e w1 ⟨rfl, hB1⟩; have B1 := Lib.hid (BC.out.trans (Below.mono hB1 BC.out.size)); clear hB1)
        go_ret
        exact ⟨_, rfl, YE.out, B1.out⟩
    · have hd : decide ((l : Int) < (qs.length : Int)) = false := by simp; omega
      have NO := Lib.hid (qAny_no (cs := cs) (qs := qs) (i := j) fun m hm => S.out m (by omega))
      clear hB
      go_wp2
      go_ret
      exact ⟨_, rfl, by rw [NO.out]; rfl, BC.out⟩

theorem iContainsQ (bd : Option Addr) (qs : List Qy) (d : Nat) (cs : List Cd) (j : Nat) (g : Nat) (w : World) (hq0 : QsIn w bd qs) (hm : qs.length ≤ 9223372036854775806) (hg : CdB g (cdAt cs j) w) :
    Calls Try.prog 77 #[.slice bd qs.length d, .func (.func 78) #[] #[.pointer (some ⟨g, 0, none⟩)]] w fun e w' => e = .returned (.bool (qAny cs qs j)) ∧ Below w.heap.size w w' := by
  have I := Lib.hid (iIndexQ bd qs d cs j g w hq0 hm hg)
  clear hq0 hm hg
  generalize qAny cs qs j = r at *
  go_enter Try.func77, Try.ntmps77
  go_wp2_with (go_at_call 127; refine I.out.mono ?_; rintro e w1 ⟨z, rfl, hz, hB⟩; have B := Lib.hid hB; clear hB)
  go_returns
  exact ⟨by rw [← hz]; rfl, B.out⟩
end Go.Proofs.Ythkmahcdojoioab
