/- Contracts: the text of wear, the model's. -/
import Derived.Test.YtbmjghkdhhcffaaDoorWtC
namespace Go.Proofs.YtbmjghkdhhcffaaDoor
open Go.ChangeShapes Go.WideShapes Go.ChangeAt Go.RowKit

theorem retS {x y : ByteArray} (h : x = y) : Ending.returned (.string y) = Ending.returned (.string x) := by rw [h]
theorem jn_none {s y : ByteArray} (h : s.size = 0) : jn s y = s ++ y := by
  have : s = ByteArray.empty := by
    apply ByteArray.ext
    exact Array.eq_empty_of_size_eq_zero h
  unfold jn
  rw [if_pos h, this, ByteArray.empty_append]
theorem jn_some {s y : ByteArray} (h : ¬ s.size = 0) : jn s y = (s ++ ⟨#[32]⟩) ++ y := if_neg h
theorem toL_size (s : ByteArray) : s.toList.length = s.size := by rw [ByteArray.toList_eq, Array.length_toList]; rfl

set_option maxRecDepth 100000 in
set_option maxHeartbeats 3200000 in
theorem sText_any (a b c d : Int) (ha : U64 a) (hb : U64 b) (hc : U64 c) (hd : U64 d) (g o : Nat) (w : World) (h0 : w.cell? ⟨g, o, none⟩ = some (.int .u64 a)) (h1 : w.cell? ⟨g, o + 1, none⟩ = some (.int .u64 b)) (h2 : w.cell? ⟨g, o + 2, none⟩ = some (.int .u64 c)) (h3 : w.cell? ⟨g, o + 3, none⟩ = some (.int .u64 d)) :
    Calls Tryd.prog 46 #[.pointer (some ⟨g, o, none⟩)] w fun e w' => e = .returned (.string (moT a b c d 96)) ∧ Below w.heap.size w w' := by
  have hg := World.block_lt_of_cell? _ _ h0
  have T := fun (k : Nat) (hk : k < 96) W => sHas_any a b k ha hb (by omega) (by omega) W
  have F := fun (k : Nat) (hk : k < 96) W => sHas_any c d k hc hd (by omega) (by omega) W
  have h0 := Lib.hid h0
  have h1 := Lib.hid h1
  have h2 := Lib.hid h2
  have h3 := Lib.hid h3
  have HG := Lib.hid hg
  clear ha hb hc hd hg
  have q1 : ((ByteArray.mk #[43]).toList == (ByteArray.mk #[]).toList) = false := by decide +kernel
  have q2 : ((ByteArray.mk #[45]).toList == (ByteArray.mk #[]).toList) = false := by decide +kernel
  have z32 : (ByteArray.mk #[32]).size = 1 := rfl
  have z43 : (ByteArray.mk #[43]).size = 1 := rfl
  have z45 : (ByteArray.mk #[45]).size = 1 := rfl
  go_enter Tryd.func46, Tryd.ntmps46
  go_wp2
  go_loopw [3, 4] (fun v i wr => ∃ n : Nat, n ≤ 96 ∧ i = .int .i64 (n : Int) ∧ v = .string (moT a b c d n) ∧ Below w.heap.size w wr) (fun _ i _ => 96 - (intOf i).toNat)
  case atStart => exact ⟨0, by omega, rfl, rfl, Below.refl _ _⟩
  case round =>
    obtain ⟨n, hn, rfl, rfl, hB⟩ := hrel
    have BB := Lib.hid hB
    by_cases hnl : n < 96
    · have hd1 : decide ((n : Int) < 96) = true := decide_eq_true (by omega)
      have T := T n hnl
      have F := F n hnl
      have x1 : IntKind.i64.wrap ((n : Int) + 1) = (n : Int) + 1 := IntWalk.i64_in _ (by omega)
      have e0 := (hB.cell (p := ⟨g, o, none⟩) HG.out).trans h0.out
      have e1 := (hB.cell (p := ⟨g, o + 1, none⟩) HG.out).trans h1.out
      have z0 : g < wr.heap.size := Nat.lt_of_lt_of_le HG.out hB.size
      have ms := moT_size a b c d n hn
      have ys := dec2_size (n := n) (by omega)
      have D := Lib.hid fun W => sDec_any n (by omega) W
      have MF := Lib.hid fun h => moT_f (a := a) (b := b) (c := c) (d := d) (n := n) h
      have MT := Lib.hid fun h h2 => moT_t (a := a) (b := b) (c := c) (d := d) (n := n) h h2
      have MN := Lib.hid fun h h2 => moT_n (a := a) (b := b) (c := c) (d := d) (n := n) h h2
      generalize moT a b c d n = s at *
      clear hB
      have tok1 : True := trivial
      cases hf : hasB c d n
      · rw [hf] at F
        cases ht : hasB a b n
        · rw [ht] at T
          have MX := Lib.hid (MN.out hf ht)
          replace T := Lib.hid T
          replace F := Lib.hid F
          clear hf ht MF MT MN ms ys
          go_wp2_with (first
            | (go_at_call 91; have _t := tok1; clear _t tok1; refine (T.out _).mono ?_; rintro e w1 ⟨rfl, hB⟩; have B1 := Lib.hid (BB.out.trans (Below.mono hB BB.out.size)); clear e0 e1 z0; have e2 := (B1.out.cell (p := ⟨g, o + 2, none⟩) HG.out).trans h2.out; have e3 := (B1.out.cell (p := ⟨g, o + 3, none⟩) HG.out).trans h3.out; have z1 : g < w1.heap.size := Nat.lt_of_lt_of_le HG.out B1.out.size; clear hB)
            | (go_at_call 91; refine (F.out _).mono ?_; rintro e w2 ⟨rfl, hB⟩; have B2 := Lib.hid (B1.out.trans (Below.mono hB B1.out.size)); clear hB e2 e3 z1))
          exact ⟨⟨n + 1, hnl, by rw [Int.natCast_succ], by rw [MX.out], B2.out⟩, by (simp [intOf]) <;> omega⟩
        · rw [ht] at T
          have MX := Lib.hid (MT.out hf ht)
          clear hf ht
          replace T := Lib.hid T
          replace F := Lib.hid F
          generalize dec2 n = y at *
          have sl1 : ¬ 9223372036854775807 < 1 + y.size := by omega
          have sl2 : ¬ 9223372036854775807 < s.size + 1 := by omega
          have sl3 : ¬ 9223372036854775807 < s.size + 1 + (1 + y.size) := by omega
          have sl4 : ¬ 9223372036854775807 < s.size + (1 + y.size) := by omega
          clear MF MT MN
          by_cases hs : s.size = 0
          · have q4 : s.toList.isEmpty = true := by
              rw [List.isEmpty_iff_length_eq_zero, toL_size]; exact hs
            have JN := Lib.hid (jn_none (s := s) (y := ⟨#[43]⟩ ++ y) hs)
            clear hs ms
            go_wp2_with (first
              | (go_at_call 91; have _t := tok1; clear _t tok1; refine (T.out _).mono ?_; rintro e w1 ⟨rfl, hB⟩; have B1 := Lib.hid (BB.out.trans (Below.mono hB BB.out.size)); clear e0 e1 z0; have e2 := (B1.out.cell (p := ⟨g, o + 2, none⟩) HG.out).trans h2.out; have e3 := (B1.out.cell (p := ⟨g, o + 3, none⟩) HG.out).trans h3.out; have z1 : g < w1.heap.size := Nat.lt_of_lt_of_le HG.out B1.out.size; clear hB)
              | (go_at_call 91; refine (F.out _).mono ?_; rintro e w2 ⟨rfl, hB⟩; have B2 := Lib.hid (B1.out.trans (Below.mono hB B1.out.size)); clear hB e2 e3 z1)
              | (go_at_call 92; refine (D.out _).mono ?_; rintro e w3 ⟨rfl, hB⟩; have B3 := Lib.hid (B2.out.trans (Below.mono hB B2.out.size)); clear hB))
            exact ⟨⟨n + 1, hnl, by rw [Int.natCast_succ], by rw [MX.out, JN.out], B3.out⟩, by (simp [intOf]) <;> omega⟩
          · have q4 : s.toList.isEmpty = false := by
              cases q : s.toList.isEmpty
              · rfl
              · rw [List.isEmpty_iff_length_eq_zero, toL_size] at q; exact absurd q hs
            have JN := Lib.hid (jn_some (s := s) (y := ⟨#[43]⟩ ++ y) hs)
            clear hs ms
            go_wp2_with (first
              | (go_at_call 91; have _t := tok1; clear _t tok1; refine (T.out _).mono ?_; rintro e w1 ⟨rfl, hB⟩; have B1 := Lib.hid (BB.out.trans (Below.mono hB BB.out.size)); clear e0 e1 z0; have e2 := (B1.out.cell (p := ⟨g, o + 2, none⟩) HG.out).trans h2.out; have e3 := (B1.out.cell (p := ⟨g, o + 3, none⟩) HG.out).trans h3.out; have z1 : g < w1.heap.size := Nat.lt_of_lt_of_le HG.out B1.out.size; clear hB)
              | (go_at_call 91; refine (F.out _).mono ?_; rintro e w2 ⟨rfl, hB⟩; have B2 := Lib.hid (B1.out.trans (Below.mono hB B1.out.size)); clear hB e2 e3 z1)
              | (go_at_call 92; refine (D.out _).mono ?_; rintro e w3 ⟨rfl, hB⟩; have B3 := Lib.hid (B2.out.trans (Below.mono hB B2.out.size)); clear hB))
            exact ⟨⟨n + 1, hnl, by rw [Int.natCast_succ], by rw [MX.out, JN.out], B3.out⟩, by (simp [intOf]) <;> omega⟩
      · rw [hf] at F
        cases ht : hasB a b n
        · rw [ht] at T
          have MX := Lib.hid (MF.out hf)
          clear hf ht
          replace T := Lib.hid T
          replace F := Lib.hid F
          generalize dec2 n = y at *
          have sl1 : ¬ 9223372036854775807 < 1 + y.size := by omega
          have sl2 : ¬ 9223372036854775807 < s.size + 1 := by omega
          have sl3 : ¬ 9223372036854775807 < s.size + 1 + (1 + y.size) := by omega
          have sl4 : ¬ 9223372036854775807 < s.size + (1 + y.size) := by omega
          clear MF MT MN
          by_cases hs : s.size = 0
          · have q4 : s.toList.isEmpty = true := by
              rw [List.isEmpty_iff_length_eq_zero, toL_size]; exact hs
            have JN := Lib.hid (jn_none (s := s) (y := ⟨#[45]⟩ ++ y) hs)
            clear hs ms
            go_wp2_with (first
              | (go_at_call 91; have _t := tok1; clear _t tok1; refine (T.out _).mono ?_; rintro e w1 ⟨rfl, hB⟩; have B1 := Lib.hid (BB.out.trans (Below.mono hB BB.out.size)); clear e0 e1 z0; have e2 := (B1.out.cell (p := ⟨g, o + 2, none⟩) HG.out).trans h2.out; have e3 := (B1.out.cell (p := ⟨g, o + 3, none⟩) HG.out).trans h3.out; have z1 : g < w1.heap.size := Nat.lt_of_lt_of_le HG.out B1.out.size; clear hB)
              | (go_at_call 91; refine (F.out _).mono ?_; rintro e w2 ⟨rfl, hB⟩; have B2 := Lib.hid (B1.out.trans (Below.mono hB B1.out.size)); clear hB e2 e3 z1)
              | (go_at_call 92; refine (D.out _).mono ?_; rintro e w3 ⟨rfl, hB⟩; have B3 := Lib.hid (B2.out.trans (Below.mono hB B2.out.size)); clear hB))
            exact ⟨⟨n + 1, hnl, by rw [Int.natCast_succ], by rw [MX.out, JN.out], B3.out⟩, by (simp [intOf]) <;> omega⟩
          · have q4 : s.toList.isEmpty = false := by
              cases q : s.toList.isEmpty
              · rfl
              · rw [List.isEmpty_iff_length_eq_zero, toL_size] at q; exact absurd q hs
            have JN := Lib.hid (jn_some (s := s) (y := ⟨#[45]⟩ ++ y) hs)
            clear hs ms
            go_wp2_with (first
              | (go_at_call 91; have _t := tok1; clear _t tok1; refine (T.out _).mono ?_; rintro e w1 ⟨rfl, hB⟩; have B1 := Lib.hid (BB.out.trans (Below.mono hB BB.out.size)); clear e0 e1 z0; have e2 := (B1.out.cell (p := ⟨g, o + 2, none⟩) HG.out).trans h2.out; have e3 := (B1.out.cell (p := ⟨g, o + 3, none⟩) HG.out).trans h3.out; have z1 : g < w1.heap.size := Nat.lt_of_lt_of_le HG.out B1.out.size; clear hB)
              | (go_at_call 91; refine (F.out _).mono ?_; rintro e w2 ⟨rfl, hB⟩; have B2 := Lib.hid (B1.out.trans (Below.mono hB B1.out.size)); clear hB e2 e3 z1)
              | (go_at_call 92; refine (D.out _).mono ?_; rintro e w3 ⟨rfl, hB⟩; have B3 := Lib.hid (B2.out.trans (Below.mono hB B2.out.size)); clear hB))
            exact ⟨⟨n + 1, hnl, by rw [Int.natCast_succ], by rw [MX.out, JN.out], B3.out⟩, by (simp [intOf]) <;> omega⟩
        · rw [ht] at T
          have MX := Lib.hid (MF.out hf)
          clear hf ht
          replace T := Lib.hid T
          replace F := Lib.hid F
          generalize dec2 n = y at *
          have sl1 : ¬ 9223372036854775807 < 1 + y.size := by omega
          have sl2 : ¬ 9223372036854775807 < s.size + 1 := by omega
          have sl3 : ¬ 9223372036854775807 < s.size + 1 + (1 + y.size) := by omega
          have sl4 : ¬ 9223372036854775807 < s.size + (1 + y.size) := by omega
          clear MF MT MN
          by_cases hs : s.size = 0
          · have q4 : s.toList.isEmpty = true := by
              rw [List.isEmpty_iff_length_eq_zero, toL_size]; exact hs
            have JN := Lib.hid (jn_none (s := s) (y := ⟨#[45]⟩ ++ y) hs)
            clear hs ms
            go_wp2_with (first
              | (go_at_call 91; have _t := tok1; clear _t tok1; refine (T.out _).mono ?_; rintro e w1 ⟨rfl, hB⟩; have B1 := Lib.hid (BB.out.trans (Below.mono hB BB.out.size)); clear e0 e1 z0; have e2 := (B1.out.cell (p := ⟨g, o + 2, none⟩) HG.out).trans h2.out; have e3 := (B1.out.cell (p := ⟨g, o + 3, none⟩) HG.out).trans h3.out; have z1 : g < w1.heap.size := Nat.lt_of_lt_of_le HG.out B1.out.size; clear hB)
              | (go_at_call 91; refine (F.out _).mono ?_; rintro e w2 ⟨rfl, hB⟩; have B2 := Lib.hid (B1.out.trans (Below.mono hB B1.out.size)); clear hB e2 e3 z1)
              | (go_at_call 92; refine (D.out _).mono ?_; rintro e w3 ⟨rfl, hB⟩; have B3 := Lib.hid (B2.out.trans (Below.mono hB B2.out.size)); clear hB))
            exact ⟨⟨n + 1, hnl, by rw [Int.natCast_succ], by rw [MX.out, JN.out], B3.out⟩, by (simp [intOf]) <;> omega⟩
          · have q4 : s.toList.isEmpty = false := by
              cases q : s.toList.isEmpty
              · rfl
              · rw [List.isEmpty_iff_length_eq_zero, toL_size] at q; exact absurd q hs
            have JN := Lib.hid (jn_some (s := s) (y := ⟨#[45]⟩ ++ y) hs)
            clear hs ms
            go_wp2_with (first
              | (go_at_call 91; have _t := tok1; clear _t tok1; refine (T.out _).mono ?_; rintro e w1 ⟨rfl, hB⟩; have B1 := Lib.hid (BB.out.trans (Below.mono hB BB.out.size)); clear e0 e1 z0; have e2 := (B1.out.cell (p := ⟨g, o + 2, none⟩) HG.out).trans h2.out; have e3 := (B1.out.cell (p := ⟨g, o + 3, none⟩) HG.out).trans h3.out; have z1 : g < w1.heap.size := Nat.lt_of_lt_of_le HG.out B1.out.size; clear hB)
              | (go_at_call 91; refine (F.out _).mono ?_; rintro e w2 ⟨rfl, hB⟩; have B2 := Lib.hid (B1.out.trans (Below.mono hB B1.out.size)); clear hB e2 e3 z1)
              | (go_at_call 92; refine (D.out _).mono ?_; rintro e w3 ⟨rfl, hB⟩; have B3 := Lib.hid (B2.out.trans (Below.mono hB B2.out.size)); clear hB))
            exact ⟨⟨n + 1, hnl, by rw [Int.natCast_succ], by rw [MX.out, JN.out], B3.out⟩, by (simp [intOf]) <;> omega⟩
    · have e : n = 96 := by omega
      subst e
      clear hB
      go_wp2
      go_ret
      exact ⟨rfl, BB.out⟩

set_option maxRecDepth 100000 in
set_option maxHeartbeats 3200000 in
theorem sWearText_any (a b c d : Int) (ha : U64 a) (hb : U64 b) (hc : U64 c) (hd : U64 d) (w : World) :
    Calls Tryd.prog 16 #[.agg #[.int .u64 a, .int .u64 b, .int .u64 c, .int .u64 d]] w fun e w' => e = .returned (.string (wtT a b c d)) ∧ Below w.heap.size w w' := by
  have V := fun o W h0 h1 h2 h3 => sWr_any a b c d w.heap.size o W h0 h1 h2 h3
  have BX := Lib.hid (below_new (Below.refl w.heap.size w) (.cells #[.int .u64 a, .int .u64 b, .int .u64 c, .int .u64 d] 41))
  have NX := Lib.hid (block_alloc w (.cells #[.int .u64 a, .int .u64 b, .int .u64 c, .int .u64 d] 41))
  unfold wtT
  cases hk : qOk a b c d
  · rw [hk] at V
    replace V := Lib.hid V
    simp only [Bool.false_eq_true, if_false]
    clear hk ha hb hc hd
    go_enter Tryd.func16, Tryd.ntmps16
    go_wp2_with (go_at_call 45; refine Calls.mono (V.out 0 _ ?_ ?_ ?_ ?_) ?_; exact cell_of_block NX.out 0; exact cell_of_block NX.out 1; exact cell_of_block NX.out 2; exact cell_of_block NX.out 3; rintro e w1 ⟨rfl, hB⟩; have B1 := Lib.hid (BX.out.trans (Below.mono hB BX.out.size)); clear hB)
    go_returns
    exact ⟨rfl, B1.out⟩
  · rw [hk] at V
    have MJ := moT_join ha hb hc hd (qOk_inv hk).2.2 96 (Nat.le_refl _)
    have S := fun o W h0 h1 h2 h3 => sText_any a b c d ha hb hc hd w.heap.size o W h0 h1 h2 h3
    rw [MJ] at S
    simp only [if_true]
    generalize joinT (wds a b (hol (hasB (bits .or .u64 a c) (bits .or .u64 b d)) 96)) = s at *
    replace V := Lib.hid V
    replace S := Lib.hid S
    clear hk ha hb hc hd MJ
    go_enter Tryd.func16, Tryd.ntmps16
    go_wp2_with (first
      | (go_at_call 45; refine Calls.mono (V.out 0 _ ?_ ?_ ?_ ?_) ?_; exact cell_of_block NX.out 0; exact cell_of_block NX.out 1; exact cell_of_block NX.out 2; exact cell_of_block NX.out 3; rintro e w1 ⟨rfl, hB⟩; have B1 := Lib.hid (BX.out.trans (Below.mono hB BX.out.size)); have N1 := Lib.hid (Ab.block hB NX.out); clear hB)
      | (go_at_call 46; refine Calls.mono (S.out 0 _ ?_ ?_ ?_ ?_) ?_; exact cell_of_block N1.out 0; exact cell_of_block N1.out 1; exact cell_of_block N1.out 2; exact cell_of_block N1.out 3; rintro e w2 ⟨rfl, hB⟩; have B2 := Lib.hid (B1.out.trans (Below.mono hB B1.out.size)); clear hB))
    go_returns
    exact ⟨rfl, B2.out⟩
end Go.Proofs.YtbmjghkdhhcffaaDoor
