/- Contract: the program's reader of a field. -/
import Derived.Test.YtnbijfeidgddmaaGreatDoorRsZ5
import Derived.Test.YtnbijfeidgddmaaGreatDoorRcIC
namespace Go.Proofs.YtnbijfeidgddmaaGreatDoor
open Go.ChangeShapes Go.WideShapes Go.ChangeAt Go.RowKit

/-- The field that a line tells of, the program's way. -/
def rfW (s kw a b : ByteArray) : Option Fd := match kdO kw, pIn 16 a, pIn 16 b with
  | some k, some x, some y => some ⟨s, k, IntKind.i16.wrap x, IntKind.i16.wrap y⟩
  | _, _, _ => none
def rfI (line : ByteArray) : Option Fd := match pieces 32 line with
  | [s, kw, a, b] => rfW s kw a b
  | _ => none
theorem rfI_four {line s kw a b : ByteArray} (hp : pieces 32 line = [s, kw, a, b]) : rfI line = rfW s kw a b := by unfold rfI; rw [hp]
theorem rfI_len {line : ByteArray} (h : (pieces 32 line).length ≠ 4) : rfI line = none := by
  unfold rfI
  split
  · rename_i hp; rw [hp] at h; exact absurd rfl h
  · rfl
theorem four_of {l : List ByteArray} (h : l.length = 4) : ∃ s kw a b, l = [s, kw, a, b] := by
  match l, h with
  | [s, kw, a, b], _ => exact ⟨s, kw, a, b, rfl⟩
theorem rfW_k {s kw a b : ByteArray} (h : kdO kw = none) : rfW s kw a b = none := by unfold rfW; rw [h]
theorem rfW_a {s kw a b : ByteArray} (h : pIn 16 a = none) : rfW s kw a b = none := by
  unfold rfW; rw [h]; cases kdO kw <;> rfl
theorem rfW_b {s kw a b : ByteArray} (h : pIn 16 b = none) : rfW s kw a b = none := by
  unfold rfW; rw [h]; cases kdO kw <;> cases pIn 16 a <;> rfl
theorem rfW_all {s kw a b : ByteArray} {k x y : Int} (h1 : kdO kw = some k) (h2 : pIn 16 a = some x) (h3 : pIn 16 b = some y) : rfW s kw a b = some ⟨s, k, IntKind.i16.wrap x, IntKind.i16.wrap y⟩ := by
  unfold rfW; rw [h1, h2, h3]
theorem parse16_any (s : ByteArray) (hs : s.size ≤ 1048576) (w : World) (hP : PE w) :
    Calls Tryz.prog 39 #[.string s, .int .i64 10, .int .i64 16] w fun e w' => ∃ n v, e = .returned (.tuple #[.int .i64 n, v]) ∧ Below w.heap.size w w' := by
  cases h : pIn 16 s with
  | none => exact (parse16_bad s hs h w hP).mono fun e w' ⟨n, t, q, he, hb⟩ => ⟨n, _, he, hb⟩
  | some v => exact (parse16_ok s hs v h w).mono fun e w' ⟨he, hb⟩ => ⟨v, _, he, hb⟩
/-- What the program's reader of a field tells. -/
def RfR (line : ByteArray) (w : World) (e : Ending) (w' : World) : Prop := ∃ x : Fd, e = .returned (.tuple #[.agg #[.string x.s, .int .i8 x.k, .int .i16 x.t, .int .i16 x.z], .bool (rfI line).isSome]) ∧ (∀ v, rfI line = some v → v = x) ∧ Below w.heap.size w w'
theorem rfR_no {line : ByteArray} {k t z : Int} {s : ByteArray} {w w' : World} (hn : rfI line = none) (hb : Below w.heap.size w w') : RfR line w (.returned (.tuple #[.agg #[.string s, .int .i8 k, .int .i16 t, .int .i16 z], .bool false])) w' :=
  ⟨⟨s, k, t, z⟩, by rw [hn]; rfl, fun v e => (by rw [hn] at e; cases e), hb⟩
theorem rfR_yes {line : ByteArray} {k t z : Int} {s : ByteArray} {w w' : World} (hn : rfI line = some ⟨s, k, t, z⟩) (hb : Below w.heap.size w w') : RfR line w (.returned (.tuple #[.agg #[.string s, .int .i8 k, .int .i16 t, .int .i16 z], .bool true])) w' :=
  ⟨⟨s, k, t, z⟩, by rw [hn]; rfl, fun v e => (by rw [hn] at e; exact (Option.some.inj e).symm), hb⟩

set_option maxRecDepth 100000 in
set_option maxHeartbeats 3200000 in
theorem iReadField_any (line : ByteArray) (hs : line.size ≤ 1048576) (w : World) (hP : PE w) (ht : TxIs Tryz.prog w "loop.example/g01261/impl.kindWords" kdWd) :
    Calls Tryz.prog 19 #[.string line] w (RfR line w) := by
  have SP := Lib.hid fun W => splitC_at line 32 hs W
  have R0 := Lib.hid (block_alloc w (.cells #[.string ⟨#[]⟩, .int .i8 0, .int .i16 0, .int .i16 0] 38))
  have B0 := Lib.hid (below_new (Below.refl w.heap.size w) (.cells #[.string ⟨#[]⟩, .int .i8 0, .int .i16 0, .int .i16 0] 38))
  have P0 := Lib.hid hP
  have T0 := Lib.hid ht
  have hfit := pieces_fit 32 line
  clear hP ht
  by_cases h4 : (pieces 32 line).length = 4
  · obtain ⟨s, kw, a, b, hp⟩ := four_of h4
    have hr := rfI_four hp
    rw [hp] at SP hfit
    simp only [List.length_cons, List.length_nil, List.map_cons, List.map_nil] at SP
    have fa : a.size ≤ 1048576 := Nat.le_trans (hfit a (by simp)) hs
    have fb : b.size ≤ 1048576 := Nat.le_trans (hfit b (by simp)) hs
    have KW := Lib.hid fun W h => iKwOf_any kw W h
    clear hp h4 hfit
    cases hk : kdO kw with
    | none =>
      have EQ := Lib.hid (hr.trans (rfW_k hk))
      rw [hk] at KW
      have AP := Lib.hid fun W h => parse16_any a fa W h
      have BP := Lib.hid fun W h => parse16_any b fb W h
      have tok1 : True := trivial
      clear hr hs
      go_enter Tryz.func19, Tryz.ntmps19
      go_upto_region 7 with (first | (go_at_call 37; refine (SP.out _).mono ?_; rintro e w1 ⟨rfl, hw⟩; have hB := (Below.refl (w.heap.size + 1) (w.alloc (.cells #[.string ⟨#[]⟩, .int .i8 0, .int .i16 0, .int .i16 0] 38))).alloc (by simp) (.cells #[.string s, .string kw, .string a, .string b] 9); rw [← hw] at hB; have C1 := Lib.hid (show w1.heap[w.heap.size + 1]? = some (.cells #[.string s, .string kw, .string a, .string b] 9 (0, 0)) from by rw [hw, show w.heap.size + 1 = (w.alloc (.cells #[.string ⟨#[]⟩, .int .i8 0, .int .i16 0, .int .i16 0] 38)).heap.size from by simp]; exact block_alloc _ _); have R1 := Lib.hid ((hB.block _ (by simp)).trans R0.out); have B1 := Lib.hid (B0.out.trans (Below.mono hB (by simp))); have c0 := cell_of_block C1.out 0; have c1 := cell_of_block C1.out 1; have c2 := cell_of_block C1.out 2; have c3 := cell_of_block C1.out 3; have l1 := lt_of_block C1.out; clear hw hB) | (go_at_call 38; refine (KW.out _ (tx_below T0.out B1.out)).mono ?_; rintro e w2 ⟨rfl, hB⟩; have C2 := Lib.hid (Ab.block hB C1.out); have R2 := Lib.hid (Ab.block hB R1.out); have B2 := Lib.hid (B1.out.trans (Below.mono hB B1.out.size)); clear hB c0 c1 c2 c3 l1; have c0 := cell_of_block C2.out 0; have c1 := cell_of_block C2.out 1; have c2 := cell_of_block C2.out 2; have c3 := cell_of_block C2.out 3; have l1 := lt_of_block C2.out) | (go_at_call 39; have _t := tok1; clear _t tok1; refine (AP.out _ (P0.out.kept (Below.refl _ _) B2.out (Nat.le_refl _))).mono ?_; rintro e w3 ⟨na, va, rfl, hB⟩; have C3 := Lib.hid (Ab.block hB C2.out); have R3 := Lib.hid (Ab.block hB R2.out); have B3 := Lib.hid (B2.out.trans (Below.mono hB B2.out.size)); clear hB c0 c1 c2 c3 l1; have c0 := cell_of_block C3.out 0; have c1 := cell_of_block C3.out 1; have c2 := cell_of_block C3.out 2; have c3 := cell_of_block C3.out 3; have l1 := lt_of_block C3.out) | (go_at_call 39; refine (BP.out _ (P0.out.kept (Below.refl _ _) B3.out (Nat.le_refl _))).mono ?_; rintro e w4 ⟨nb, vb, rfl, hB⟩; have C4 := Lib.hid (Ab.block hB C3.out); have R4 := Lib.hid (Ab.block hB R3.out); have B4 := Lib.hid (B3.out.trans (Below.mono hB B3.out.size)); clear hB c0 c1 c2 c3 l1; have c0 := cell_of_block C4.out 0; have c1 := cell_of_block C4.out 1; have c2 := cell_of_block C4.out 2; have c3 := cell_of_block C4.out 3; have l1 := lt_of_block C4.out))
      have r0 := cell_of_block R4.out 0
      have r1 := cell_of_block R4.out 1
      have r2 := cell_of_block R4.out 2
      have r3 := cell_of_block R4.out 3
      have r9 := lt_of_block R4.out
      have rf := free_of_block R4.out
      go_wp2
      refine bodyPost_ret (by simp [results, Tryz.results19, go_sem,  r0, r1, r2, r3]; try rfl) rfl ?_
      exact rfR_no EQ.out ((((B4.out.setCell (by simp) _).setCell (by simp) _).setCell (by simp) _).setCell (by simp) _)
    | some k =>
      rw [hk] at KW
      cases ha : pIn 16 a with
      | none =>
        have EQ := Lib.hid (hr.trans (rfW_a ha))
        have AP := Lib.hid fun W h => parse16_bad a fa ha W h
        have BP := Lib.hid fun W h => parse16_any b fb W h
        have tok1 : True := trivial
        clear hr hs
        go_enter Tryz.func19, Tryz.ntmps19
        go_upto_region 7 with (first | (go_at_call 37; refine (SP.out _).mono ?_; rintro e w1 ⟨rfl, hw⟩; have hB := (Below.refl (w.heap.size + 1) (w.alloc (.cells #[.string ⟨#[]⟩, .int .i8 0, .int .i16 0, .int .i16 0] 38))).alloc (by simp) (.cells #[.string s, .string kw, .string a, .string b] 9); rw [← hw] at hB; have C1 := Lib.hid (show w1.heap[w.heap.size + 1]? = some (.cells #[.string s, .string kw, .string a, .string b] 9 (0, 0)) from by rw [hw, show w.heap.size + 1 = (w.alloc (.cells #[.string ⟨#[]⟩, .int .i8 0, .int .i16 0, .int .i16 0] 38)).heap.size from by simp]; exact block_alloc _ _); have R1 := Lib.hid ((hB.block _ (by simp)).trans R0.out); have B1 := Lib.hid (B0.out.trans (Below.mono hB (by simp))); have c0 := cell_of_block C1.out 0; have c1 := cell_of_block C1.out 1; have c2 := cell_of_block C1.out 2; have c3 := cell_of_block C1.out 3; have l1 := lt_of_block C1.out; clear hw hB) | (go_at_call 38; refine (KW.out _ (tx_below T0.out B1.out)).mono ?_; rintro e w2 ⟨rfl, hB⟩; have C2 := Lib.hid (Ab.block hB C1.out); have R2 := Lib.hid (Ab.block hB R1.out); have B2 := Lib.hid (B1.out.trans (Below.mono hB B1.out.size)); clear hB c0 c1 c2 c3 l1; have c0 := cell_of_block C2.out 0; have c1 := cell_of_block C2.out 1; have c2 := cell_of_block C2.out 2; have c3 := cell_of_block C2.out 3; have l1 := lt_of_block C2.out) | (go_at_call 39; have _t := tok1; clear _t tok1; refine (AP.out _ (P0.out.kept (Below.refl _ _) B2.out (Nat.le_refl _))).mono ?_; rintro e w3 ⟨na, ta, qa, rfl, hB⟩; have C3 := Lib.hid (Ab.block hB C2.out); have R3 := Lib.hid (Ab.block hB R2.out); have B3 := Lib.hid (B2.out.trans (Below.mono hB B2.out.size)); clear hB c0 c1 c2 c3 l1; have c0 := cell_of_block C3.out 0; have c1 := cell_of_block C3.out 1; have c2 := cell_of_block C3.out 2; have c3 := cell_of_block C3.out 3; have l1 := lt_of_block C3.out) | (go_at_call 39; refine (BP.out _ (P0.out.kept (Below.refl _ _) B3.out (Nat.le_refl _))).mono ?_; rintro e w4 ⟨nb, vb, rfl, hB⟩; have C4 := Lib.hid (Ab.block hB C3.out); have R4 := Lib.hid (Ab.block hB R3.out); have B4 := Lib.hid (B3.out.trans (Below.mono hB B3.out.size)); clear hB c0 c1 c2 c3 l1; have c0 := cell_of_block C4.out 0; have c1 := cell_of_block C4.out 1; have c2 := cell_of_block C4.out 2; have c3 := cell_of_block C4.out 3; have l1 := lt_of_block C4.out))
        have r0 := cell_of_block R4.out 0
        have r1 := cell_of_block R4.out 1
        have r2 := cell_of_block R4.out 2
        have r3 := cell_of_block R4.out 3
        have r9 := lt_of_block R4.out
        have rf := free_of_block R4.out
        go_wp2
        refine bodyPost_ret (by simp [results, Tryz.results19, go_sem,  r0, r1, r2, r3]; try rfl) rfl ?_
        exact rfR_no EQ.out ((((B4.out.setCell (by simp) _).setCell (by simp) _).setCell (by simp) _).setCell (by simp) _)
      | some x =>
        cases hb : pIn 16 b with
        | none =>
          have EQ := Lib.hid (hr.trans (rfW_b hb))
          have AP := Lib.hid fun W => parse16_ok a fa x ha W
          have BP := Lib.hid fun W h => parse16_bad b fb hb W h
          have tok1 : True := trivial
          clear hr hs
          go_enter Tryz.func19, Tryz.ntmps19
          go_upto_region 7 with (first | (go_at_call 37; refine (SP.out _).mono ?_; rintro e w1 ⟨rfl, hw⟩; have hB := (Below.refl (w.heap.size + 1) (w.alloc (.cells #[.string ⟨#[]⟩, .int .i8 0, .int .i16 0, .int .i16 0] 38))).alloc (by simp) (.cells #[.string s, .string kw, .string a, .string b] 9); rw [← hw] at hB; have C1 := Lib.hid (show w1.heap[w.heap.size + 1]? = some (.cells #[.string s, .string kw, .string a, .string b] 9 (0, 0)) from by rw [hw, show w.heap.size + 1 = (w.alloc (.cells #[.string ⟨#[]⟩, .int .i8 0, .int .i16 0, .int .i16 0] 38)).heap.size from by simp]; exact block_alloc _ _); have R1 := Lib.hid ((hB.block _ (by simp)).trans R0.out); have B1 := Lib.hid (B0.out.trans (Below.mono hB (by simp))); have c0 := cell_of_block C1.out 0; have c1 := cell_of_block C1.out 1; have c2 := cell_of_block C1.out 2; have c3 := cell_of_block C1.out 3; have l1 := lt_of_block C1.out; clear hw hB) | (go_at_call 38; refine (KW.out _ (tx_below T0.out B1.out)).mono ?_; rintro e w2 ⟨rfl, hB⟩; have C2 := Lib.hid (Ab.block hB C1.out); have R2 := Lib.hid (Ab.block hB R1.out); have B2 := Lib.hid (B1.out.trans (Below.mono hB B1.out.size)); clear hB c0 c1 c2 c3 l1; have c0 := cell_of_block C2.out 0; have c1 := cell_of_block C2.out 1; have c2 := cell_of_block C2.out 2; have c3 := cell_of_block C2.out 3; have l1 := lt_of_block C2.out) | (go_at_call 39; have _t := tok1; clear _t tok1; refine (AP.out _).mono ?_; rintro e w3 ⟨rfl, hB⟩; have C3 := Lib.hid (Ab.block hB C2.out); have R3 := Lib.hid (Ab.block hB R2.out); have B3 := Lib.hid (B2.out.trans (Below.mono hB B2.out.size)); clear hB c0 c1 c2 c3 l1; have c0 := cell_of_block C3.out 0; have c1 := cell_of_block C3.out 1; have c2 := cell_of_block C3.out 2; have c3 := cell_of_block C3.out 3; have l1 := lt_of_block C3.out) | (go_at_call 39; refine (BP.out _ (P0.out.kept (Below.refl _ _) B3.out (Nat.le_refl _))).mono ?_; rintro e w4 ⟨nb, tb, qb, rfl, hB⟩; have C4 := Lib.hid (Ab.block hB C3.out); have R4 := Lib.hid (Ab.block hB R3.out); have B4 := Lib.hid (B3.out.trans (Below.mono hB B3.out.size)); clear hB c0 c1 c2 c3 l1; have c0 := cell_of_block C4.out 0; have c1 := cell_of_block C4.out 1; have c2 := cell_of_block C4.out 2; have c3 := cell_of_block C4.out 3; have l1 := lt_of_block C4.out))
          have r0 := cell_of_block R4.out 0
          have r1 := cell_of_block R4.out 1
          have r2 := cell_of_block R4.out 2
          have r3 := cell_of_block R4.out 3
          have r9 := lt_of_block R4.out
          have rf := free_of_block R4.out
          go_wp2
          refine bodyPost_ret (by simp [results, Tryz.results19, go_sem,  r0, r1, r2, r3]; try rfl) rfl ?_
          exact rfR_no EQ.out ((((B4.out.setCell (by simp) _).setCell (by simp) _).setCell (by simp) _).setCell (by simp) _)
        | some y =>
          have EQ := Lib.hid (hr.trans (rfW_all hk ha hb))
          have AP := Lib.hid fun W => parse16_ok a fa x ha W
          have BP := Lib.hid fun W => parse16_ok b fb y hb W
          have tok1 : True := trivial
          clear hr hs
          go_enter Tryz.func19, Tryz.ntmps19
          go_upto_region 7 with (first | (go_at_call 37; refine (SP.out _).mono ?_; rintro e w1 ⟨rfl, hw⟩; have hB := (Below.refl (w.heap.size + 1) (w.alloc (.cells #[.string ⟨#[]⟩, .int .i8 0, .int .i16 0, .int .i16 0] 38))).alloc (by simp) (.cells #[.string s, .string kw, .string a, .string b] 9); rw [← hw] at hB; have C1 := Lib.hid (show w1.heap[w.heap.size + 1]? = some (.cells #[.string s, .string kw, .string a, .string b] 9 (0, 0)) from by rw [hw, show w.heap.size + 1 = (w.alloc (.cells #[.string ⟨#[]⟩, .int .i8 0, .int .i16 0, .int .i16 0] 38)).heap.size from by simp]; exact block_alloc _ _); have R1 := Lib.hid ((hB.block _ (by simp)).trans R0.out); have B1 := Lib.hid (B0.out.trans (Below.mono hB (by simp))); have c0 := cell_of_block C1.out 0; have c1 := cell_of_block C1.out 1; have c2 := cell_of_block C1.out 2; have c3 := cell_of_block C1.out 3; have l1 := lt_of_block C1.out; clear hw hB) | (go_at_call 38; refine (KW.out _ (tx_below T0.out B1.out)).mono ?_; rintro e w2 ⟨rfl, hB⟩; have C2 := Lib.hid (Ab.block hB C1.out); have R2 := Lib.hid (Ab.block hB R1.out); have B2 := Lib.hid (B1.out.trans (Below.mono hB B1.out.size)); clear hB c0 c1 c2 c3 l1; have c0 := cell_of_block C2.out 0; have c1 := cell_of_block C2.out 1; have c2 := cell_of_block C2.out 2; have c3 := cell_of_block C2.out 3; have l1 := lt_of_block C2.out) | (go_at_call 39; have _t := tok1; clear _t tok1; refine (AP.out _).mono ?_; rintro e w3 ⟨rfl, hB⟩; have C3 := Lib.hid (Ab.block hB C2.out); have R3 := Lib.hid (Ab.block hB R2.out); have B3 := Lib.hid (B2.out.trans (Below.mono hB B2.out.size)); clear hB c0 c1 c2 c3 l1; have c0 := cell_of_block C3.out 0; have c1 := cell_of_block C3.out 1; have c2 := cell_of_block C3.out 2; have c3 := cell_of_block C3.out 3; have l1 := lt_of_block C3.out) | (go_at_call 39; refine (BP.out _).mono ?_; rintro e w4 ⟨rfl, hB⟩; have C4 := Lib.hid (Ab.block hB C3.out); have R4 := Lib.hid (Ab.block hB R3.out); have B4 := Lib.hid (B3.out.trans (Below.mono hB B3.out.size)); clear hB c0 c1 c2 c3 l1; have c0 := cell_of_block C4.out 0; have c1 := cell_of_block C4.out 1; have c2 := cell_of_block C4.out 2; have c3 := cell_of_block C4.out 3; have l1 := lt_of_block C4.out))
          have r0 := cell_of_block R4.out 0
          have r1 := cell_of_block R4.out 1
          have r2 := cell_of_block R4.out 2
          have r3 := cell_of_block R4.out 3
          have r9 := lt_of_block R4.out
          have rf := free_of_block R4.out
          go_wp2
          refine bodyPost_ret (by simp [results, Tryz.results19, go_sem,  r0, r1, r2, r3]; try rfl) rfl ?_
          exact rfR_yes EQ.out ((((B4.out.setCell (by simp) _).setCell (by simp) _).setCell (by simp) _).setCell (by simp) _)
  · have EQ := Lib.hid (rfI_len h4)
    generalize pieces 32 line = ps at *
    have l4 : ((ps.length : Int) == 4) = false := by simp; omega
    clear h4 hfit hs
    go_enter Tryz.func19, Tryz.ntmps19
    go_upto_region 2 with (go_at_call 37; refine (SP.out _).mono ?_; rintro e w1 ⟨rfl, hw⟩; have hB := (Below.refl (w.heap.size + 1) (w.alloc (.cells #[.string ⟨#[]⟩, .int .i8 0, .int .i16 0, .int .i16 0] 38))).alloc (by simp) (.cells (ps.map Value.string).toArray 9); rw [← hw] at hB; have R1 := Lib.hid ((hB.block _ (by simp)).trans R0.out); have B1 := Lib.hid (B0.out.trans (Below.mono hB (by simp))); clear hw hB)
    have r0 := cell_of_block R1.out 0
    have r1 := cell_of_block R1.out 1
    have r2 := cell_of_block R1.out 2
    have r3 := cell_of_block R1.out 3
    have r9 := lt_of_block R1.out
    have rf := free_of_block R1.out
    go_wp2
    refine bodyPost_ret (by simp [results, Tryz.results19, go_sem,  r0, r1, r2, r3]; try rfl) rfl ?_
    exact rfR_no EQ.out ((((B1.out.setCell (by simp) _).setCell (by simp) _).setCell (by simp) _).setCell (by simp) _)
end Go.Proofs.YtnbijfeidgddmaaGreatDoor
