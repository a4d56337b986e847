/- Contracts: is a deck in order, by the program (slices.IsSortedFunc with a closure over a method value). -/
import Derived.Test.YtdbkplfkilaoeaaSorted
import Derived.Test.YtdbkplfkilaoeaaFind
import Derived.Test.YtdbkplfkilaoeaaCmp
namespace Go.Proofs.Ytdbkplfkilaoeaa
open Go.ChangeShapes Go.WideShapes Go.ChangeAt Go.RowKit

/-- The method value: the key by a field. -/
def keyFn (s : ByteArray) (k st sz : Int) : Value := .func (.func 39) #[.agg #[.string s, .int .i8 k, .int .i16 st, .int .i16 sz]] #[]

set_option maxHeartbeats 1600000 in
theorem iCmp_any (s : ByteArray) (k st sz : Int) (hf : fieldOk s k st sz = true) (c d : Cd) (hc : c.fits) (hd : d.fits) (g : Nat) (w : World) (hg : w.cell? ⟨g, 0, none⟩ = some (.func (.func 39) #[.agg #[.string s, .int .i8 k, .int .i16 st, .int .i16 sz]] #[])) :
    Calls Try.prog 61 #[.agg #[.string c.s, .int .u64 c.a, .int .u64 c.b], .agg #[.string d.s, .int .u64 d.a, .int .u64 d.b], .pointer (some ⟨g, 0, none⟩)] w fun e w' =>
      e = .returned (.int .i64 (cmpV (kv (hasB c.a c.b) (srt k st sz) : Nat) (kv (hasB d.a d.b) (srt k st sz) : Nat))) ∧ Below w.heap.size w w' := by
  have K1 := Lib.hid fun W => iKey_any s k st sz hf c.a c.b hc.2.1 hc.2.2 W
  have K2 := Lib.hid fun W => iKey_any s k st sz hf d.a d.b hd.2.1 hd.2.2 W
  have hgl := World.block_lt_of_cell? _ _ hg
  have hbw := cell_bw
  clear hf hc hd
  obtain ⟨cs, ca, cb⟩ := c
  obtain ⟨ds, da, db⟩ := d
  simp only at K1 K2 ⊢
  generalize ((kv (hasB ca cb) (srt k st sz) : Nat) : Int) = x at *
  generalize ((kv (hasB da db) (srt k st sz) : Nat) : Int) = y at *
  have HB := block_alloc2 w (.cells #[.string cs, .int .u64 ca, .int .u64 cb] 50) (.cells #[.string ds, .int .u64 da, .int .u64 db] 50)
  have kk : Below w.heap.size w ((w.alloc (.cells #[.string cs, .int .u64 ca, .int .u64 cb] 50)).alloc (.cells #[.string ds, .int .u64 da, .int .u64 db] 50)) := below_new (below_new (Below.refl _ _) _) _
  go_enter Try.func61, Try.ntmps61
  go_wp2_with fail
  generalize (w.alloc (.cells #[.string cs, .int .u64 ca, .int .u64 cb] 50)).alloc (.cells #[.string ds, .int .u64 da, .int .u64 db] 50) = W at *
  have c0 := cell_of_block HB.1
  have z0 := lt_of_block HB.1
  have c1 := cell_of_block HB.2
  have z1 := lt_of_block HB.2
  have cg := (kk.cell (p := ⟨g, 0, none⟩) hgl).trans hg
  have zg : g < W.heap.size := Nat.lt_of_lt_of_le hgl kk.size
  have KK := Lib.hid kk
  clear hg HB kk
  refine region_bw (by kernel_rfl) (by kernel_rfl) ?_
  repeat (go_big_quiet_step (first | (go_at_call_of 39 (Value.int IntKind.u64 ca); exact calls_bw (K1.out _)) | (go_at_call_of 39 (Value.int IntKind.u64 da); exact calls_bw (K2.out _)) | (go_at_call 62; exact calls_bw_same (cmp_any _ _ _))))
  refine wpQuiet_nil ?_; intro wq hq; replace hq := below_of_bw hq; obtain ⟨qc, qf, qz⟩ := bcell hq
  go_wp2
  go_returns
  exact ⟨rfl, KK.out.trans (hq.mono KK.out.size)⟩

set_option maxHeartbeats 3200000 in
theorem iSortedF_any (s : ByteArray) (k st sz : Int) (hf : fieldOk s k st sz = true) (ad : Option Addr) (cs : List Cd) (c : Nat) (g : Nat) (w : World) (hc : CardsIn w ad cs) (hn : cs.length ≤ 80) (hg : w.cell? ⟨g, 0, none⟩ = some (.func (.func 39) #[.agg #[.string s, .int .i8 k, .int .i16 st, .int .i16 sz]] #[])) :
    Calls Try.prog 60 #[.slice ad cs.length c, .func (.func 61) #[] #[.pointer (some ⟨g, 0, none⟩)]] w fun e w' => e = .returned (.bool (ordC k st sz cs)) ∧ Below w.heap.size w w' := by
  have C := Lib.hid hc
  have hgl := World.block_lt_of_cell? _ _ hg
  have V : Hid (∀ i j, i < cs.length → j < cs.length → ∀ W : World, W.cell? ⟨g, 0, none⟩ = some (.func (.func 39) #[.agg #[.string s, .int .i8 k, .int .i16 st, .int .i16 sz]] #[]) →
      Calls Try.prog 61 #[.agg #[.string (cdAt cs i).s, .int .u64 (cdAt cs i).a, .int .u64 (cdAt cs i).b], .agg #[.string (cdAt cs j).s, .int .u64 (cdAt cs j).a, .int .u64 (cdAt cs j).b], .pointer (some ⟨g, 0, none⟩)] W fun e w' => e = .returned (.int .i64 (cmpV (kyAt k st sz cs i) (kyAt k st sz cs j))) ∧ Below W.heap.size W w') :=
    Lib.hid fun i j hi hj W h => iCmp_any s k st sz hf _ _ (hc i hi).1 (hc j hj).1 g W h
  have no : Hid (∀ i, i + 1 < cs.length → kyAt k st sz cs (i + 1) < kyAt k st sz cs i → ordC k st sz cs = false) := Lib.hid fun i h1 h2 => ordB_no h1 h2
  have yes : Hid ((∀ i, i + 1 < cs.length → kyAt k st sz cs i ≤ kyAt k st sz cs (i + 1)) → ordC k st sz cs = true) := Lib.hid fun h => ordB_yes fun i hi => Int.not_lt.2 (h i hi)
  have hbw := cell_bw
  have HG := Lib.hid hg
  clear hc hf hg
  generalize ordC k st sz cs = q at *
  generalize kyAt k st sz cs = ky at *
  have v0 : IntKind.i64.wrap ((cs.length : Int) - 1) = (cs.length : Int) - 1 := IntWalk.i64_in _ (by omega)
  go_enter Try.func60, Try.ntmps60
  go_wp2
  go_loopw [5] (fun i wr => ∃ m : Nat, i = .int .i64 ((m : Int) - 1) ∧ m ≤ cs.length ∧ (∀ l, m ≤ l + 1 → l + 1 < cs.length → ky l ≤ ky (l + 1)) ∧ Below w.heap.size w wr) (fun i _ => (intOf i + 1).toNat)
  case atStart => exact ⟨cs.length, rfl, Nat.le_refl _, fun l h1 h2 => absurd h2 (by omega), Below.refl _ _⟩
  case round =>
    obtain ⟨m, rfl, hm, hs, hB⟩ := hrel
    have BB := Lib.hid hB
    have S := Lib.hid hs
    clear hs v0
    by_cases hjl : 2 ≤ m
    · obtain ⟨n, rfl⟩ : ∃ n, m = n + 2 := ⟨m - 2, by omega⟩
      have ex : ((n + 2 : Nat) : Int) - 1 = (n : Int) + 1 := by omega
      rw [ex]
      have hd : decide (0 < (n : Int) + 1) = true := decide_eq_true (by omega)
      obtain ⟨_, b1, o1, rfl, hb1, p0, p1, p2⟩ := C.out (n + 1) (by omega)
      obtain ⟨_, b2, o2, he, hb2, q0, q1, q2⟩ := C.out n (by omega)
      cases he
      have d0 := (hB.cell (p := ⟨b1, o1 + (n + 1) * 3, none⟩) hb1).trans p0
      have d1 := (hB.cell (p := ⟨b1, o1 + (n + 1) * 3 + 1, none⟩) hb1).trans p1
      have d2 := (hB.cell (p := ⟨b1, o1 + (n + 1) * 3 + 2, none⟩) hb1).trans p2
      have e0 := (hB.cell (p := ⟨b1, o1 + n * 3, none⟩) hb1).trans q0
      have e1 := (hB.cell (p := ⟨b1, o1 + n * 3 + 1, none⟩) hb1).trans q1
      have e2 := (hB.cell (p := ⟨b1, o1 + n * 3 + 2, none⟩) hb1).trans q2
      have f1 := (hB.cell (p := ⟨g, 0, none⟩) hgl).trans HG.out
      have y1 : b1 < wr.heap.size := Nat.lt_of_lt_of_le hb1 hB.size
      have yg : g < wr.heap.size := Nat.lt_of_lt_of_le hgl hB.size
      have i1 : (0 : Int) ≤ (n : Int) := by omega
      have i2 : (n : Int) < (cs.length : Int) := by omega
      have i3 : (0 : Int) ≤ (n : Int) + 1 := by omega
      have i4 : (n : Int) + 1 < (cs.length : Int) := by omega
      have t1 : ((n : Int) + 1).toNat = n + 1 := by omega
      have v1 : IntKind.i64.wrap ((n : Int) + 1 - 1) = (n : Int) := by rw [Int.add_sub_cancel]; exact IntWalk.i64_in _ (by omega)
      have W := Lib.hid (V.out (n + 1) n (by omega) (by omega))
      have no1 := Lib.hid (no.out n (by omega))
      have nx : Hid (ky n ≤ ky (n + 1) → ∀ l, n + 1 ≤ l + 1 → l + 1 < cs.length → ky l ≤ ky (l + 1)) := Lib.hid fun h l h1 h2 => by
        by_cases e : l = n
        · subst e; exact h
        · exact S.out l (by omega) h2
      clear hB p0 p1 p2 q0 q1 q2 hb2 S
      generalize cdAt cs (n + 1) = x at *
      generalize cdAt cs n = y at *
      obtain ⟨xs, xa, xb⟩ := x
      obtain ⟨ys, ya, yb⟩ := y
      simp only at d0 d1 d2 e0 e1 e2 W
      by_cases hxy : ky (n + 1) < ky n
      · have hcv : cmpV (ky (n + 1)) (ky n) = -1 := by unfold cmpV; rw [if_pos hxy]
        rw [hcv] at W
        clear hcv nx
        go_wp2_with fail
        refine region_bw (by kernel_rfl) (by kernel_rfl) ?_
        repeat (go_big_quiet_step (first | (go_at_call 61; refine calls_bw (W.out _ ?_); exact (hbw _ _ _ _ yg).trans f1)))
        refine wpQuiet_nil ?_; intro wq hq; replace hq := below_of_bw hq; obtain ⟨qc, qf, qz⟩ := bcell hq
        go_wp2_with fail
        go_ret
        exact ⟨retB (no1.out hxy), BB.out.trans (hq.mono BB.out.size)⟩
      · have hcv : decide (cmpV (ky (n + 1)) (ky n) < 0) = false := by unfold cmpV; rw [if_neg hxy]; split <;> rfl
        generalize cmpV (ky (n + 1)) (ky n) = z at *
        go_wp2_with fail
        refine region_bw (by kernel_rfl) (by kernel_rfl) ?_
        repeat (go_big_quiet_step (first | (go_at_call 61; refine calls_bw (W.out _ ?_); exact (hbw _ _ _ _ yg).trans f1)))
        refine wpQuiet_nil ?_; intro wq hq; replace hq := below_of_bw hq; obtain ⟨qc, qf, qz⟩ := bcell hq
        go_wp2_with fail
        exact ⟨⟨n + 1, by rw [Int.natCast_succ]; congr 1; omega, by omega, nx.out (by omega), BB.out.trans (hq.mono BB.out.size)⟩, by (simp [intOf]) <;> omega⟩
    · have hd : decide (0 < (m : Int) - 1) = false := by simp; omega
      have fin := Lib.hid (yes.out fun i hi => S.out i (by omega) hi)
      clear hB
      go_wp2
      go_ret
      exact ⟨retB fin.out, BB.out⟩

set_option maxHeartbeats 1600000 in
theorem iOrder_any (s : ByteArray) (k st sz : Int) (hf : fieldOk s k st sz = true) (ad : Option Addr) (cs : List Cd) (c : Nat) (w : World) (hc : CardsIn w ad cs) (hn : cs.length ≤ 80) :
    Calls Try.prog 38 #[.slice ad cs.length c, .func (.func 39) #[.agg #[.string s, .int .i8 k, .int .i16 st, .int .i16 sz]] #[]] w fun e w' => e = .returned (.bool (ordC k st sz cs)) ∧ Below w.heap.size w w' := by
  have hmf : ∀ (fn : Fn) (first cap : Array Value) (w : World), (Instr.makeFunc fn first cap).run Try.prog w = .ok (.func fn first cap) w := fun _ _ _ _ => rfl
  have B := Lib.hid (below_new (Below.refl w.heap.size w) (.cells #[.func (.func 39) #[.agg #[.string s, .int .i8 k, .int .i16 st, .int .i16 sz]] #[]] 75))
  have M := Lib.hid (block_alloc w (.cells #[.func (.func 39) #[.agg #[.string s, .int .i8 k, .int .i16 st, .int .i16 sz]] #[]] 75))
  have F := Lib.hid fun W h => iSortedF_any s k st sz hf ad cs c w.heap.size W h hn
  have H := Lib.hid (cardsIn_below hc B.out)
  clear hf hc hn
  go_enter Try.func38, Try.ntmps38
  go_wp2_with (go_at_call 60; refine (F.out _ H.out (cell_of_block M.out 0)).mono ?_; rintro e w1 ⟨rfl, hB⟩)
  go_returns
  exact ⟨rfl, B.out.trans (Below.mono hB B.out.size)⟩
end Go.Proofs.Ytdbkplfkilaoeaa
