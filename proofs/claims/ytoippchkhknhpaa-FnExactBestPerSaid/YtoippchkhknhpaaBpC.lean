/- Contracts: BestPer, the program's and the model's. -/
import Derived.Test.YtoippchkhknhpaaCfZ
namespace Go.Proofs.Ytoippchkhknhpaa
open Go.ChangeShapes Go.WideShapes Go.ChangeAt Go.RowKit

/-- The best number of 1 .. k, and how many false drops it has. -/
def bpTo (f : Nat → Nat) : Nat → Nat × Nat
  | 0 => (0, 0)
  | k + 1 => if (bpTo f k).1 = 0 ∨ f (k + 1) < (bpTo f k).2 then (k + 1, f (k + 1)) else bpTo f k
theorem bpTo_up {f : Nat → Nat} {k : Nat} (h : (bpTo f k).1 = 0 ∨ f (k + 1) < (bpTo f k).2) : bpTo f (k + 1) = (k + 1, f (k + 1)) := if_pos h
theorem bpTo_as {f : Nat → Nat} {k : Nat} (h0 : (bpTo f k).1 ≠ 0) (h : ¬ f (k + 1) < (bpTo f k).2) : bpTo f (k + 1) = bpTo f k := if_neg (by rintro (h1 | h1); exact h0 h1; exact h h1)
def bpV (c : Int) (q : Nat × Nat) : Value := .tuple #[.int .i64 (if c = 0 then (q.1 : Int) else 0), .int .i64 (if c = 0 then (q.2 : Int) else 0), .int .i64 c]
theorem bpV_no {c : Int} (q : Nat × Nat) (h : c ≠ 0) : bpV c q = .tuple #[.int .i64 0, .int .i64 0, .int .i64 c] := by unfold bpV; rw [if_neg h, if_neg h]
theorem bpV_yes (x y : Nat) : bpV 0 (x, y) = .tuple #[.int .i64 (x : Int), .int .i64 (y : Int), .int .i64 0] := rfl
/-- A number of steps for each number of holes. -/
def StopsP (t z : Int) (Fs : Nat → Int → Nat) : Prop := ∀ k : Nat, 1 ≤ k → k ≤ 8 → 2 * (k : Int) ≤ z → StopF t z (k : Int) (Fs k)
theorem stopsP_some {t z : Int} (t0 : 0 ≤ t) (z0 : 4 ≤ z) (tz : t + z ≤ 96) : ∃ Fs, StopsP t z Fs := by
  have h : ∀ k : Nat, ∃ F, 1 ≤ k → k ≤ 8 → 2 * (k : Int) ≤ z → StopF t z (k : Int) F := fun k => by
    by_cases hk : 2 * (k : Int) ≤ z
    · obtain ⟨F, hF⟩ := stopF_some (p := (k : Int)) t0 (show 0 < z by omega) tz (by omega)
      exact ⟨F, fun _ _ _ => hF⟩
    · exact ⟨fun _ => 0, fun _ _ h => absurd h hk⟩
  exact ⟨fun k => (h k).choose, fun k => (h k).choose_spec⟩
theorem mostP_in {z : Int} (h : 4 ≤ z) : ∃ m : Nat, mostP z = (m : Int) ∧ m ≤ 8 := by
  have h1 := (mostP_le (z := z) (p := mostP z)).1 (Int.le_refl _)
  have h2 := (mostP_le (z := z) (p := 0)).2 ⟨by omega, by omega⟩
  exact ⟨(mostP z).toNat, by omega, by omega⟩

set_option maxRecDepth 100000 in
set_option maxHeartbeats 1600000 in
theorem iBp_any (t z p : Int) (ht : I16 t) (hz : I16 z) (Fs : Nat → Int → Nat) (hF : mixOk t z p = true → StopsP t z Fs) (al : Option Addr) (ls : List (List ByteArray)) (cl : Nat) (w : World) (hL : LotN w al ls) (hn : ls.length ≤ 9223372036854775807) :
    Calls Try.prog 44 #[.agg #[.int .i16 t, .int .i16 z, .int .i16 p], .slice al ls.length cl] w fun e w' => e = .returned (bpV (mlC (mixOk t z p) ls) (bpTo (fun k => cfAll t z (Fs k) ls) (mostP z).toNat)) ∧ Below w.heap.size w w' := by
  have V := fun W => iValidMix_any t z p ht hz W
  have M0 := Lib.hid (block_alloc w (.cells #[.int .i16 t, .int .i16 z, .int .i16 p] 30))
  have B0 := Lib.hid (below_new (Below.refl w.heap.size w) (.cells #[.int .i16 t, .int .i16 z, .int .i16 p] 30))
  have K := fun W (hb : Below w.heap.size w W) => iIsLot_any al ls cl W (lotIn_below (lotN_in hL) hb) hn
  have LL := Lib.hid hL
  clear hL ht hz
  cases hv : mixOk t z p
  · rw [hv] at V
    rw [mlC_mix, bpV_no _ (by decide)]
    have V := Lib.hid V
    clear hv hF K
    go_enter Try.func44, Try.ntmps44
    go_wp2_with (go_at_call 72; refine (V.out _).mono ?_; rintro e w1 ⟨rfl, hB⟩; have b1 := Lib.hid (B0.out.trans (Below.mono hB B0.out.size)); clear hB)
    go_ret3
    exact ⟨rfl, b1.out⟩
  · rw [hv] at V
    have V := Lib.hid V
    have hF := hF hv
    obtain ⟨t0, z0, tz, p1, p8, pz⟩ := mix_inv hv
    rw [mlC_ok]
    clear hv
    cases h1 : lotOk ls
    · rw [h1] at K
      rw [lotC_no h1, bpV_no _ (by decide)]
      have K := Lib.hid K
      clear h1 hF
      go_enter Try.func44, Try.ntmps44
      go_wp2_with (first | (go_at_call 72; refine (V.out _).mono ?_; rintro e w1 ⟨rfl, hB⟩; have b1 := Lib.hid (B0.out.trans (Below.mono hB B0.out.size)); clear hB) | (go_at_call 73; refine (K.out _ b1.out).mono ?_; rintro e w2 ⟨rfl, rfl⟩))
      go_ret3
      exact ⟨rfl, b1.out⟩
    · rw [h1] at K
      rw [lotC_yes h1]
      have K := Lib.hid K
      obtain ⟨m, hm, m8⟩ := mostP_in z0
      have MP := fun W => iMost_any t z p z0 (by omega) W
      have MI := fun k : Nat => (mostP_le (z := z) (p := ((k + 1 : Nat) : Int)))
      simp only [hm] at MP MI ⊢
      have MP := Lib.hid MP
      have MI := Lib.hid MI
      rw [Int.toNat_natCast]
      have CF := Lib.hid fun (k : Nat) (hk : ((k + 1 : Nat) : Int) ≤ (m : Int)) W h => iCountF_any t z ((k + 1 : Nat) : Int) (Fs (k + 1)) (hF (k + 1) (by omega) (by have := ((MI.out k).1 hk).1; omega) ((MI.out k).1 hk).2) t0 z0 tz (by omega) ((MI.out k).1 hk).1 al ls cl W h h1
      generalize hf : (fun k => cfAll t z (Fs k) ls) = f
      have FE := Lib.hid fun k : Nat => (show cfAll t z (Fs (k + 1)) ls = f (k + 1) by rw [← hf])
      have FB := Lib.hid fun k : Nat => (show f (k + 1) ≤ 43200 by rw [← hf]; exact cfAll_le (lot_60 h1) (by have := nWords_lot h1 ls.length (Nat.le_refl _); have := lot_60 h1; omega))
      clear h1 hF hf hm MI
      go_enter Try.func44, Try.ntmps44
      go_wp2_with (first | (go_at_call 72; refine (V.out _).mono ?_; rintro e w1 ⟨rfl, hB⟩; have b1 := Lib.hid (B0.out.trans (Below.mono hB B0.out.size)); have a1 := Lib.hid (Ab.block hB M0.out); clear hB) | (go_at_call 73; refine (K.out _ b1.out).mono ?_; rintro e w2 ⟨rfl, rfl⟩))
      go_loopw [7, 8, 9] (fun x y i wr => ∃ k : Nat, k ≤ m ∧ i = .int .i16 ((k : Int) + 1) ∧ x = .int .i64 ((bpTo f k).1 : Int) ∧ y = .int .i64 ((bpTo f k).2 : Int) ∧ wr.heap[w.heap.size]? = some (.cells #[.int .i16 t, .int .i16 z, .int .i16 p] 30 (0, 0)) ∧ Below w.heap.size w wr) (fun _ _ i _ => 20 - (intOf i).toNat)
      case atStart => exact ⟨0, Nat.zero_le _, rfl, rfl, rfl, a1.out, b1.out⟩
      case round =>
        obtain ⟨k, hk, rfl, rfl, rfl, hM, hB⟩ := hrel
        have MM := Lib.hid hM
        have BB := Lib.hid hB
        have g0 := cell_of_block hM 0
        have g1 := cell_of_block hM 1
        have g2 := cell_of_block hM 2
        have s0 := lt_of_block hM
        clear hM hB V K
        by_cases hkm : k < m
        · have d2 : decide ((k : Int) + 1 ≤ (m : Int)) = true := decide_eq_true (by omega)
          have C1 := CF.out k (by omega)
          rw [FE.out k, Int.natCast_succ] at C1
          have fb := FB.out k
          have up := Lib.hid fun h => bpTo_up (f := f) (k := k) h
          have sm := Lib.hid fun h h' => bpTo_as (f := f) (k := k) h h'
          have x1 : IntKind.i16.wrap ((k : Int) + 1 + 1) = (k : Int) + 1 + 1 := i16_in _ (by omega)
          have x2 : IntKind.i64.wrap ((k : Int) + 1) = (k : Int) + 1 := IntWalk.i64_in _ (by omega)
          have C1 := Lib.hid C1
          generalize hq : bpTo f k = q at *
          obtain ⟨q1, q2⟩ := q
          generalize hn1 : f (k + 1) = n at *
          simp only at up sm
          by_cases c1 : q1 = 0
          · have UP := Lib.hid (up.out (.inl c1))
            subst c1
            clear up sm hq hn1
            go_wp2_with (first | (go_at_call 92; refine (MP.out _).mono ?_; rintro e w3 ⟨rfl, hB⟩; have b3 := Lib.hid (BB.out.trans (Below.mono hB BB.out.size)); have a3 := Ab.block hB MM.out; have j0 := cell_of_block a3 0; have j1 := cell_of_block a3 1; have j2 := cell_of_block a3 2; have r0 := lt_of_block a3; have A3 := Lib.hid a3; clear hB a3) | (go_at_call 91; refine (C1.out _ (lotN_below LL.out b3.out)).mono ?_; rintro e w4 ⟨rfl, hB⟩; have B4 := Lib.hid (b3.out.trans (Below.mono hB b3.out.size)); have A4 := Lib.hid (Ab.block hB A3.out); clear hB))
            exact ⟨⟨k + 1, hkm, by rw [Int.natCast_succ], by rw [UP.out, Int.natCast_succ], by rw [UP.out], A4.out, B4.out⟩, by (simp [intOf]) <;> omega⟩
          · have e1 : (q1 == 0) = false := by simp [c1]
            by_cases c2 : n < q2
            · have e2 : decide (n < q2) = true := decide_eq_true c2
              have UP := Lib.hid (up.out (.inr c2))
              clear up sm hq hn1 c2
              go_wp2_with (first | (go_at_call 92; refine (MP.out _).mono ?_; rintro e w3 ⟨rfl, hB⟩; have b3 := Lib.hid (BB.out.trans (Below.mono hB BB.out.size)); have a3 := Ab.block hB MM.out; have j0 := cell_of_block a3 0; have j1 := cell_of_block a3 1; have j2 := cell_of_block a3 2; have r0 := lt_of_block a3; have A3 := Lib.hid a3; clear hB a3) | (go_at_call 91; refine (C1.out _ (lotN_below LL.out b3.out)).mono ?_; rintro e w4 ⟨rfl, hB⟩; have B4 := Lib.hid (b3.out.trans (Below.mono hB b3.out.size)); have A4 := Lib.hid (Ab.block hB A3.out); clear hB))
              exact ⟨⟨k + 1, hkm, by rw [Int.natCast_succ], by rw [UP.out, Int.natCast_succ], by rw [UP.out], A4.out, B4.out⟩, by (simp [intOf]) <;> omega⟩
            · have e2 : decide (n < q2) = false := decide_eq_false c2
              have AS := Lib.hid (sm.out c1 c2)
              clear up sm hq hn1 c2
              go_wp2_with (first | (go_at_call 92; refine (MP.out _).mono ?_; rintro e w3 ⟨rfl, hB⟩; have b3 := Lib.hid (BB.out.trans (Below.mono hB BB.out.size)); have a3 := Ab.block hB MM.out; have j0 := cell_of_block a3 0; have j1 := cell_of_block a3 1; have j2 := cell_of_block a3 2; have r0 := lt_of_block a3; have A3 := Lib.hid a3; clear hB a3) | (go_at_call 91; refine (C1.out _ (lotN_below LL.out b3.out)).mono ?_; rintro e w4 ⟨rfl, hB⟩; have B4 := Lib.hid (b3.out.trans (Below.mono hB b3.out.size)); have A4 := Lib.hid (Ab.block hB A3.out); clear hB))
              exact ⟨⟨k + 1, hkm, by rw [Int.natCast_succ], by rw [AS.out], by rw [AS.out], A4.out, B4.out⟩, by (simp [intOf]) <;> omega⟩
        · have e : k = m := by omega
          subst e
          have d2 : decide ((k : Int) + 1 ≤ (k : Int)) = false := decide_eq_false (by omega)
          generalize hq : bpTo f k = q at *
          obtain ⟨q1, q2⟩ := q
          have f9 := Lib.hid (show bpV 0 (bpTo f k) = .tuple #[.int .i64 (q1 : Int), .int .i64 (q2 : Int), .int .i64 0] by rw [hq]; rfl)
          clear hq
          go_wp2_with (first | (go_at_call 92; refine (MP.out _).mono ?_; rintro e w3 ⟨rfl, hB⟩; have b3 := Lib.hid (BB.out.trans (Below.mono hB BB.out.size)); clear hB))
          go_ret3
          exact ⟨ret_v f9.out, b3.out⟩

set_option maxRecDepth 100000 in
set_option maxHeartbeats 1600000 in
theorem sBp_any (t z p : Int) (ht : I16 t) (hz : I16 z) (hp : I16 p) (Fs : Nat → Int → Nat) (hF : mixOk t z p = true → StopsP t z Fs) (al : Option Addr) (ls : List (List ByteArray)) (cl : Nat) (w : World) (hL : LotIn w al ls) (hn : ls.length ≤ 9223372036854775807) :
    Calls Try.prog 43 #[.agg #[.int .i16 t, .int .i16 z, .int .i16 p], .slice al ls.length cl] w fun e w' => e = .returned (bpV (mlC (mixOk t z p) ls) (bpTo (fun k => cfAll t z (Fs k) ls) (mostP z).toNat)) ∧ Below w.heap.size w w' := by
  have V := sOkMix_any t z p ht hz hp w.heap.size 0 (w.alloc (.cells #[.int .i16 t, .int .i16 z, .int .i16 p] 30)) (by simp) (by simp) (by simp)
  have M0 := Lib.hid (block_alloc w (.cells #[.int .i16 t, .int .i16 z, .int .i16 p] 30))
  have B0 := Lib.hid (below_new (Below.refl w.heap.size w) (.cells #[.int .i16 t, .int .i16 z, .int .i16 p] 30))
  have K := fun W (hb : Below w.heap.size w W) => sLot_any al ls cl W (lotIn_below hL hb) hn
  have LL := Lib.hid hL
  clear hL ht hz hp
  cases hv : mixOk t z p
  · rw [hv] at V
    rw [mlC_mix, bpV_no _ (by decide)]
    have V := Lib.hid V
    clear hv hF K
    go_enter Try.func43, Try.ntmps43
    go_wp2_with (go_at_call 69; refine V.out.mono ?_; rintro e w1 ⟨rfl, hB⟩; have b1 := Lib.hid (B0.out.trans (Below.mono hB B0.out.size)); clear hB)
    go_ret3
    exact ⟨rfl, b1.out⟩
  · rw [hv] at V
    have V := Lib.hid V
    have hF := hF hv
    obtain ⟨t0, z0, tz, p1, p8, pz⟩ := mix_inv hv
    rw [mlC_ok]
    clear hv
    cases h1 : lotOk ls
    · rw [lotC_no h1] at K
      rw [lotC_no h1, bpV_no _ (by decide)]
      have K := Lib.hid K
      clear h1 hF
      go_enter Try.func43, Try.ntmps43
      go_wp2_with (first | (go_at_call 69; refine V.out.mono ?_; rintro e w1 ⟨rfl, hB⟩; have b1 := Lib.hid (B0.out.trans (Below.mono hB B0.out.size)); clear hB) | (go_at_call 70; refine (K.out _ b1.out).mono ?_; rintro e w2 ⟨rfl, rfl⟩))
      go_ret3
      exact ⟨rfl, b1.out⟩
    · rw [lotC_yes h1] at K
      rw [lotC_yes h1]
      have K := Lib.hid K
      obtain ⟨m, hm, m8⟩ := mostP_in z0
      have MI := fun k : Nat => (mostP_le (z := z) (p := ((k + 1 : Nat) : Int)))
      simp only [hm] at MI ⊢
      have MI := Lib.hid MI
      rw [Int.toNat_natCast]
      have SM := Lib.hid fun (k : Nat) (hk : ((k + 1 : Nat) : Int) ≤ (m : Int)) g W h q0 q1 q2 => sSum_any t z ((k + 1 : Nat) : Int) (Fs (k + 1)) (hF (k + 1) (by omega) (by have := ((MI.out k).1 hk).1; omega) ((MI.out k).1 hk).2) t0 z0 tz (by omega) ((MI.out k).1 hk).1 g 0 al ls cl W h h1 q0 q1 q2
      generalize hf : (fun k => cfAll t z (Fs k) ls) = f
      have FE := Lib.hid fun k : Nat => (show cfAll t z (Fs (k + 1)) ls = f (k + 1) by rw [← hf])
      have FB := Lib.hid fun k : Nat => (show f (k + 1) ≤ 43200 by rw [← hf]; exact cfAll_le (lot_60 h1) (by have := nWords_lot h1 ls.length (Nat.le_refl _); have := lot_60 h1; omega))
      clear h1 hF hf hm
      go_enter Try.func43, Try.ntmps43
      go_wp2_with (first | (go_at_call 69; refine V.out.mono ?_; rintro e w1 ⟨rfl, hB⟩; have b1 := Lib.hid (B0.out.trans (Below.mono hB B0.out.size)); have a1 := Lib.hid (Ab.block hB M0.out); clear hB) | (go_at_call 70; refine (K.out _ b1.out).mono ?_; rintro e w2 ⟨rfl, rfl⟩))
      go_loopw [8, 9, 10] (fun x y i wr => ∃ k : Nat, k ≤ m ∧ i = .int .i64 ((k : Int) + 1) ∧ x = .int .i64 ((bpTo f k).1 : Int) ∧ y = .int .i64 ((bpTo f k).2 : Int) ∧ wr.heap[w.heap.size]? = some (.cells #[.int .i16 t, .int .i16 z, .int .i16 p] 30 (0, 0)) ∧ Below w.heap.size w wr) (fun _ _ i _ => 20 - (intOf i).toNat)
      case atStart => exact ⟨0, Nat.zero_le _, rfl, rfl, rfl, a1.out, b1.out⟩
      case round =>
        obtain ⟨k, hk, rfl, rfl, rfl, hM, hB⟩ := hrel
        have MM := Lib.hid hM
        have BB := Lib.hid hB
        have g0 := cell_of_block hM 0
        have g1 := cell_of_block hM 1
        have g2 := cell_of_block hM 2
        have s0 := lt_of_block hM
        have mi := MI.out k
        rw [Int.natCast_succ] at mi
        have x1 : IntKind.i64.wrap ((k : Int) + 1 + 1) = (k : Int) + 1 + 1 := IntWalk.i64_in _ (by omega)
        have x2 : IntKind.i64.wrap (2 * ((k : Int) + 1)) = 2 * ((k : Int) + 1) := IntWalk.i64_in _ (by omega)
        have x3 : IntKind.i16.wrap ((k : Int) + 1) = (k : Int) + 1 := i16_in _ (by omega)
        have x4 : IntKind.i64.wrap z = z := IntWalk.i64_in _ (by omega)
        clear hM hB V K
        by_cases hkm : k < m
        · obtain ⟨m1, m2⟩ := mi.1 (by omega)
          have d1 : decide ((k : Int) + 1 ≤ 8) = true := decide_eq_true (by omega)
          have d2 : decide (2 * ((k : Int) + 1) ≤ z) = true := decide_eq_true (by omega)
          have C1 := SM.out k (by omega)
          rw [FE.out k, Int.natCast_succ] at C1
          have fb := FB.out k
          have up := Lib.hid fun h => bpTo_up (f := f) (k := k) h
          have sm := Lib.hid fun h h' => bpTo_as (f := f) (k := k) h h'
          have C1 := Lib.hid C1
          clear mi m1 m2
          generalize hq : bpTo f k = q at *
          obtain ⟨q1, q2⟩ := q
          generalize hn1 : f (k + 1) = n at *
          simp only at up sm
          by_cases c1 : q1 = 0
          · have UP := Lib.hid (up.out (.inl c1))
            subst c1
            clear up sm hq hn1
            go_wp2_with (go_at_call 90; have hb4 := Lib.hid (BB.out.alloc BB.out.size (.cells #[.int .i16 t, .int .i16 z, .int .i16 ((k : Int) + 1)] 30)); refine (C1.out _ _ (lotIn_below LL.out hb4.out) (by simp) (by simp) (by simp)).mono ?_; rintro e w4 ⟨rfl, hB⟩; have B4 := Lib.hid (hb4.out.trans (Below.mono hB hb4.out.size)); have A4 := Lib.hid (Ab.block hB (Ab.block (ab_new _ _) MM.out)); clear hB)
            exact ⟨⟨k + 1, hkm, by rw [Int.natCast_succ], by rw [UP.out, Int.natCast_succ], by rw [UP.out], A4.out, B4.out⟩, by (simp [intOf]) <;> omega⟩
          · have e1 : (q1 == 0) = false := by simp [c1]
            by_cases c2 : n < q2
            · have e2 : decide (n < q2) = true := decide_eq_true c2
              have UP := Lib.hid (up.out (.inr c2))
              clear up sm hq hn1 c2
              go_wp2_with (go_at_call 90; have hb4 := Lib.hid (BB.out.alloc BB.out.size (.cells #[.int .i16 t, .int .i16 z, .int .i16 ((k : Int) + 1)] 30)); refine (C1.out _ _ (lotIn_below LL.out hb4.out) (by simp) (by simp) (by simp)).mono ?_; rintro e w4 ⟨rfl, hB⟩; have B4 := Lib.hid (hb4.out.trans (Below.mono hB hb4.out.size)); have A4 := Lib.hid (Ab.block hB (Ab.block (ab_new _ _) MM.out)); clear hB)
              exact ⟨⟨k + 1, hkm, by rw [Int.natCast_succ], by rw [UP.out, Int.natCast_succ], by rw [UP.out], A4.out, B4.out⟩, by (simp [intOf]) <;> omega⟩
            · have e2 : decide (n < q2) = false := decide_eq_false c2
              have AS := Lib.hid (sm.out c1 c2)
              clear up sm hq hn1 c2
              go_wp2_with (go_at_call 90; have hb4 := Lib.hid (BB.out.alloc BB.out.size (.cells #[.int .i16 t, .int .i16 z, .int .i16 ((k : Int) + 1)] 30)); refine (C1.out _ _ (lotIn_below LL.out hb4.out) (by simp) (by simp) (by simp)).mono ?_; rintro e w4 ⟨rfl, hB⟩; have B4 := Lib.hid (hb4.out.trans (Below.mono hB hb4.out.size)); have A4 := Lib.hid (Ab.block hB (Ab.block (ab_new _ _) MM.out)); clear hB)
              exact ⟨⟨k + 1, hkm, by rw [Int.natCast_succ], by rw [AS.out], by rw [AS.out], A4.out, B4.out⟩, by (simp [intOf]) <;> omega⟩
        · have e : k = m := by omega
          subst e
          have d3 : ¬ ((k : Int) + 1 ≤ 8 ∧ 2 * ((k : Int) + 1) ≤ z) := fun h => absurd (mi.2 h) (by omega)
          clear mi
          generalize hq : bpTo f k = q at *
          obtain ⟨q1, q2⟩ := q
          have f9 := Lib.hid (show bpV 0 (bpTo f k) = .tuple #[.int .i64 (q1 : Int), .int .i64 (q2 : Int), .int .i64 0] by rw [hq]; rfl)
          clear hq
          by_cases c1 : (k : Int) + 1 ≤ 8
          · have d1 : decide ((k : Int) + 1 ≤ 8) = true := decide_eq_true c1
            have d2 : decide (2 * ((k : Int) + 1) ≤ z) = false := decide_eq_false fun h => d3 ⟨c1, h⟩
            clear d3 c1
            go_wp2
            go_ret3
            exact ⟨ret_v f9.out, BB.out⟩
          · have d1 : decide ((k : Int) + 1 ≤ 8) = false := decide_eq_false c1
            clear d3 c1
            go_wp2
            go_ret3
            exact ⟨ret_v f9.out, BB.out⟩
end Go.Proofs.Ytoippchkhknhpaa
