/- Contracts: how two words are filed, the program's. -/
import Derived.Test.YtnfhhckkealkpaaDoorCnS
import Derived.Shelf.Strings.SlTrimAscii
namespace Go.Proofs.YtnfhhckkealkpaaDoor
open Go.ChangeShapes Go.WideShapes Go.ChangeAt Go.RowKit

theorem cmpS_any (a b : ByteArray) (w : World) : Calls Tryd.prog 46 #[.string a, .string b] w fun e w' => e = .returned (.int .i64 (ordB a b)) ∧ w = w' :=
  (Any.strings_Compare Tryd.lays106 a b w).mono fun _ _ ⟨h1, h2⟩ => ⟨h1, h2.symm⟩
theorem cmpInt_any (x y : Int) (w : World) : Calls Tryd.prog 56 #[.int .i64 x, .int .i64 y] w fun e w' => e = .returned (.int .i64 (cmpI x y)) ∧ w = w' :=
  (Any.cmp_Compare_int Tryd.lays122 x y w).mono fun _ _ ⟨h1, h2⟩ => ⟨by rw [h1]; unfold Lib.compareInt cmpI; rfl, h2.symm⟩
theorem trimZ_any (u : ByteArray) (w : World) : Calls Tryd.prog 111 #[.string u, .string ⟨#[48]⟩] w fun e w' => e = .returned (.string (vaL u)) ∧ w = w' :=
  (Any.strings_TrimLeft_one Tryd.lays161 u 48 (by decide) w).mono fun _ _ ⟨h1, h2⟩ => ⟨h1, h2.symm⟩
/-- The first of two numbers that is not zero. -/
def orI (x y : Int) : Int := if x ≠ 0 then x else y
theorem orI_any (x y : Int) (b : Nat) (w : World) (h0 : w.cell? ⟨b, 0, none⟩ = some (.int .i64 x)) (h1 : w.cell? ⟨b, 1, none⟩ = some (.int .i64 y)) :
    Calls Tryd.prog 43 #[.slice (some ⟨b, 0, none⟩) 2 2] w fun e w' => e = .returned (.int .i64 (orI x y)) ∧ w = w' := by
  unfold orI
  have hb := World.block_lt_of_cell? _ _ h0
  by_cases hx : x = 0
  · subst hx
    rw [if_neg (by simp)]
    by_cases hy : y = 0
    · subst hy
      go_enter Tryd.func43, Tryd.ntmps43
      go_wp2
      refine wp_loop_rounds 3 ?_
      rw [rounds_succ]; go_wp2
      rw [rounds_succ]; go_wp2
      rw [rounds_succ]; go_wp2
      go_returns
      exact ⟨rfl, rfl⟩
    · have hn : (y != 0) = true := by rw [bne_iff_ne]; exact hy
      go_enter Tryd.func43, Tryd.ntmps43
      go_wp2
      refine wp_loop_rounds 3 ?_
      rw [rounds_succ]; go_wp2
      rw [rounds_succ]; go_wp2
      go_returns
      exact ⟨rfl, rfl⟩
  · rw [if_pos hx]
    have hn : (x != 0) = true := by rw [bne_iff_ne]; exact hx
    go_enter Tryd.func43, Tryd.ntmps43
    go_wp2
    refine wp_loop_rounds 3 ?_
    rw [rounds_succ]; go_wp2
    go_returns
    exact ⟨rfl, rfl⟩
theorem isNum_any (u : ByteArray) (hu : u.size ≤ 1048576) (hp : Plain u) (w : World) : Calls Tryd.prog 108 #[.string u] w fun e w' => e = .returned (.bool (dig u)) ∧ Below w.heap.size w w' := by
  have V := fun W => madeOf_any u digSet (by unfold maxLen; omega) (by decide) (by decide) W
  rw [dig_in hp] at V
  have V := Lib.hid V
  clear hp
  generalize dig u = b at *
  go_enter Tryd.func108, Tryd.ntmps108
  go_wp2_with (go_at_call 42; refine (V.out _).mono ?_; rintro e w1 ⟨rfl, hB⟩; have BB := Lib.hid hB; clear hB)
  go_returns
  exact ⟨rfl, BB.out⟩
theorem valC_or (u v : ByteArray) : orI (cmpI (vaL u).size (vaL v).size) (ordB (vaL u) (vaL v)) = valC u v := rfl
set_option maxHeartbeats 1600000 in
theorem cmpVal_any (u v : ByteArray) (w : World) : Calls Tryd.prog 109 #[.string u, .string v] w fun e w' => e = .returned (.int .i64 (valC u v)) ∧ Below w.heap.size w w' := by
  rw [← valC_or]
  have T1 := trimZ_any u
  have T2 := trimZ_any v
  generalize vaL u = x at *
  generalize vaL v = y at *
  have T1 := Lib.hid T1
  have T2 := Lib.hid T2
  have K := Lib.hid fun b W h0 h1 => orI_any (cmpI x.size y.size) (ordB x y) b W h0 h1
  have C1 := Lib.hid (cmpInt_any (x.size : Int) (y.size : Int))
  have C2 := Lib.hid (cmpS_any x y)
  generalize cmpI (x.size : Int) (y.size : Int) = p at *
  generalize ordB x y = q at *
  generalize orI p q = r at *
  have tok1 : True := trivial
  go_enter Tryd.func109, Tryd.ntmps109
  go_wp2_with (first
    | (go_at_call 111; have _t := tok1; clear _t tok1; refine (T1.out _).mono ?_; rintro e w1 ⟨rfl, rfl⟩)
    | (go_at_call 111; refine (T2.out _).mono ?_; rintro e w1 ⟨rfl, rfl⟩)
    | (go_at_call 56; refine (C1.out _).mono ?_; rintro e w1 ⟨rfl, rfl⟩)
    | (go_at_call 46; refine (C2.out _).mono ?_; rintro e w1 ⟨rfl, rfl⟩)
    | (go_at_call 43; refine (K.out _ _ (by simp) (by simp)).mono ?_; rintro e w1 ⟨rfl, rfl⟩))
  go_returns
  exact ⟨rfl, (by repeat' (first | (with_reducible exact Below.refl _ _) | (with_reducible assumption) | (with_reducible refine below_drewN ?_ _) | (with_reducible refine Below.drew ?_) | (with_reducible refine below_new ?_ _) | (with_reducible refine below_next ?_ (by with_reducible assumption)) | (with_reducible refine Below.setCell ?_ ?_ _) | go_size))⟩
theorem cmpF_any (u v : ByteArray) (w : World) : Calls Tryd.prog 110 #[.string u, .string v] w fun e w' => e = .returned (.int .i64 (ordB u v)) ∧ w = w' := by
  rw [ordB_is]
  have nu : ∀ (x : ByteArray) (W : World), Calls Tryd.prog 112 #[.string x] W fun e w' => e = .returned (.bool false) ∧ W = w' := fun x W => by
    have h : (x.toList != x.toList) = false := by simp
    go_enter Tryd.func112, Tryd.ntmps112
    go_wp2
    go_returns
    exact ⟨rfl, rfl⟩
  have NU := Lib.hid nu
  obtain ⟨b1, h1⟩ : ∃ b, Op.bytesLess u.toList v.toList = b := ⟨_, rfl⟩
  obtain ⟨b2, h2⟩ : ∃ b, (u.toList == v.toList) = b := ⟨_, rfl⟩
  rw [h1, h2]
  clear nu
  cases b1 <;> cases b2
  all_goals
    go_enter Tryd.func110, Tryd.ntmps110
    go_wp2_with (go_at_call 112; refine (NU.out _ _).mono ?_; rintro e w1 ⟨rfl, rfl⟩)
    go_returns
    exact ⟨rfl, rfl⟩
set_option maxHeartbeats 1600000 in
theorem iCmp_any (u v : ByteArray) (hu : u.size ≤ 1048576) (hv : v.size ≤ 1048576) (pu : Plain u) (pv : Plain v) (w : World) : Calls Tryd.prog 107 #[.string u, .string v] w fun e w' => e = .returned (.int .i64 (wcmp u v)) ∧ Below w.heap.size w w' := by
  have N1 := isNum_any u hu pu
  have N2 := isNum_any v hv pv
  have V := Lib.hid (cmpVal_any u v)
  have tok1 : True := trivial
  cases h1 : dig u <;> cases h2 : dig v
  all_goals
    rw [h1] at N1
    rw [h2] at N2
    have N1 := Lib.hid N1
    have N2 := Lib.hid N2
  · rw [wcmp_nn h1 h2]
    clear h1 h2 pu pv
    go_enter Tryd.func107, Tryd.ntmps107
    go_wp2_with (first
      | (go_at_call 108; have _t := tok1; clear _t tok1; refine (N1.out _).mono ?_; rintro e w1 ⟨rfl, hB⟩; have B1 := Lib.hid hB; clear hB)
      | (go_at_call 108; refine (N2.out _).mono ?_; rintro e w2 ⟨rfl, hB⟩; have B2 := Lib.hid (B1.out.trans (Below.mono hB B1.out.size)); clear hB)
      | (go_at_call 110; refine (cmpF_any _ _ _).mono ?_; rintro e w3 ⟨rfl, rfl⟩))
    go_returns
    exact ⟨rfl, B2.out⟩
  · rw [wcmp_1v h1 h2]
    clear h1 h2 pu pv
    go_enter Tryd.func107, Tryd.ntmps107
    go_wp2_with (first
      | (go_at_call 108; have _t := tok1; clear _t tok1; refine (N1.out _).mono ?_; rintro e w1 ⟨rfl, hB⟩; have B1 := Lib.hid hB; clear hB)
      | (go_at_call 108; refine (N2.out _).mono ?_; rintro e w2 ⟨rfl, hB⟩; have B2 := Lib.hid (B1.out.trans (Below.mono hB B1.out.size)); clear hB))
    go_returns
    exact ⟨rfl, B2.out⟩
  · rw [wcmp_v1 h1 h2]
    clear h1 h2 pu pv
    go_enter Tryd.func107, Tryd.ntmps107
    go_wp2_with (first
      | (go_at_call 108; have _t := tok1; clear _t tok1; refine (N1.out _).mono ?_; rintro e w1 ⟨rfl, hB⟩; have B1 := Lib.hid hB; clear hB)
      | (go_at_call 108; refine (N2.out _).mono ?_; rintro e w2 ⟨rfl, hB⟩; have B2 := Lib.hid (B1.out.trans (Below.mono hB B1.out.size)); clear hB))
    go_returns
    exact ⟨rfl, B2.out⟩
  · rw [wcmp_vv h1 h2]
    clear h1 h2 pu pv
    go_enter Tryd.func107, Tryd.ntmps107
    go_wp2_with (first
      | (go_at_call 108; have _t := tok1; clear _t tok1; refine (N1.out _).mono ?_; rintro e w1 ⟨rfl, hB⟩; have B1 := Lib.hid hB; clear hB)
      | (go_at_call 108; refine (N2.out _).mono ?_; rintro e w2 ⟨rfl, hB⟩; have B2 := Lib.hid (B1.out.trans (Below.mono hB B1.out.size)); clear hB)
      | (go_at_call 109; refine (V.out _).mono ?_; rintro e w3 ⟨rfl, hB⟩; have B3 := Lib.hid (B2.out.trans (Below.mono hB B2.out.size)); clear hB))
    go_returns
    exact ⟨rfl, B3.out⟩

/-! ### Two lists of words -/
def WsOk (ws : List ByteArray) : Prop := ∀ i, i < ws.length → Plain (ws.getD i ByteArray.empty) ∧ (ws.getD i ByteArray.empty).size ≤ 1048576
set_option maxRecDepth 100000 in
set_option maxHeartbeats 3200000 in
theorem iEach_any (aa ab : Option Addr) (xs ys : List ByteArray) (c d : Nat) (w : World) (hx : StrsIn w aa xs) (hy : StrsIn w ab ys) (px : WsOk xs) (py : WsOk ys) (lx : xs.length ≤ 1048577) (_ly : ys.length ≤ 1048577) :
    Calls Tryd.prog 44 #[.slice aa xs.length c, .slice ab ys.length d] w fun e w' => e = .returned (.int .i64 (lc xs ys)) ∧ Below w.heap.size w w' := by
  have X := Lib.hid hx
  have Y := Lib.hid hy
  have hbw := cell_bw
  obtain ⟨m, hm⟩ : ∃ m, m = min xs.length ys.length := ⟨_, rfl⟩
  have mn : (if (ys.length : Int) < (xs.length : Int) then (ys.length : Int) else (xs.length : Int)) = (m : Int) := by
    rw [hm]; split <;> omega
  have mm : min (xs.length : Int) (ys.length : Int) = (m : Int) := by rw [hm]; omega
  have C1 := Lib.hid (cmpInt_any (xs.length : Int) (ys.length : Int))
  clear hx hy
  have PX := Lib.hid px
  have PY := Lib.hid py
  obtain ⟨n, hn⟩ : ∃ n, xs.length = n := ⟨_, rfl⟩
  obtain ⟨k, hk⟩ : ∃ k, ys.length = k := ⟨_, rfl⟩
  have HN := Lib.hid hn
  have HK := Lib.hid hk
  have HM := Lib.hid hm
  rw [hn, hk] at mn mm hm C1 ⊢
  have m1 : m ≤ n := by omega
  have m2 : m ≤ k := by omega
  have m3 : m ≤ 1048577 := by omega
  clear px py hn hk hm
  go_enter Tryd.func44, Tryd.ntmps44
  go_wp2
  go_loopw [12] (fun i wr => ∃ j : Nat, i = .int .i64 (j : Int) ∧ j ≤ m ∧ Hid (lcN xs ys j = none) ∧ Below w.heap.size w wr) (fun i _ => m - (intOf i).toNat)
  case atStart => exact ⟨0, rfl, Nat.zero_le _, Lib.hid rfl, Below.refl _ _⟩
  case round =>
    obtain ⟨j, rfl, hj, LC, hB⟩ := hrel
    have BB := Lib.hid hB
    by_cases hlt : j < m
    · have d1 : decide ((j : Int) < (m : Int)) = true := decide_eq_true (by omega)
      have i0 : (0 : Int) ≤ (j : Int) := by omega
      have i1 : (j : Int) < (n : Int) := by omega
      have i2 : (j : Int) < (k : Int) := by omega
      have hj1 : j < xs.length := by rw [HN.out]; omega
      have hj2 : j < ys.length := by rw [HK.out]; omega
      obtain ⟨b1, o1, rfl, hb1, hc1⟩ := X.out j hj1
      obtain ⟨b2, o2, rfl, hb2, hc2⟩ := Y.out j hj2
      have c1 := (hB.cell (p := ⟨b1, o1 + j, none⟩) hb1).trans hc1
      have c2 := (hB.cell (p := ⟨b2, o2 + j, none⟩) hb2).trans hc2
      have y1 := Nat.lt_of_lt_of_le hb1 hB.size
      have y2 := Nat.lt_of_lt_of_le hb2 hB.size
      have CM := fun W => iCmp_any (xs.getD j ⟨#[]⟩) (ys.getD j ⟨#[]⟩) (PX.out j hj1).2 (PY.out j hj2).2 (PX.out j hj1).1 (PY.out j hj2).1 W
      have x5 : IntKind.i64.wrap ((j : Int) + 1) = (j : Int) + 1 := IntWalk.i64_in _ (by omega)
      have FN : Hid (∀ z, wcmp (xs.getD j ⟨#[]⟩) (ys.getD j ⟨#[]⟩) = z → (z = 0 → lcN xs ys (j + 1) = none) ∧ (z ≠ 0 → lc xs ys = z)) := Lib.hid fun z hz => ⟨fun h0 => lcN_next LC.out (hz.trans h0), fun h0 => (lc_hit LC.out (by rw [show wcmp (xs.getD j ByteArray.empty) (ys.getD j ByteArray.empty) = z from hz]; exact h0) (by rw [← HM.out]; exact hlt)).trans hz⟩
      have FN2 := FN.out _ rfl
      generalize wcmp (xs.getD j ⟨#[]⟩) (ys.getD j ⟨#[]⟩) = z at *
      have FZ := Lib.hid FN2
      have CM := Lib.hid CM
      generalize xs.getD j ⟨#[]⟩ = u at *
      generalize ys.getD j ⟨#[]⟩ = v at *
      clear hB hc1 hc2 FN FN2
      by_cases h0 : z = 0
      · subst h0
        have LN := Lib.hid (FZ.out.1 rfl)
        go_wp2_with fail
        refine region_bw (by kernel_rfl) (by kernel_rfl) ?_
        repeat (go_big_quiet_step (fail))
        refine BigFrame.wpQuiet_want (by rfl) fun K hK => ⟨.int .i64 0, ?_, hK _ ?_⟩
        · rintro w' ⟨p, rfl⟩
          unfold Oper.quietAt
          go_simp
          first | exact ⟨trivial, calls_bw (CM.out _)⟩ | exact ⟨rfl, calls_bw (CM.out _)⟩ | exact calls_bw (CM.out _)
        clear hK K
        simp only [Act.put, List.setIfInBounds_toArray, List.set_cons_succ, List.set_cons_zero]
        repeat (go_big_quiet_step (fail))
        refine wpQuiet_nil ?_; intro wq hq; replace hq := below_of_bw hq; obtain ⟨qc, qf, qz⟩ := bcell hq
        have B3 := Lib.hid (BB.out.trans (Below.mono hq BB.out.size))
        clear hq qc qf qz
        go_wp2
        exact ⟨⟨j + 1, by rw [Int.natCast_succ], hlt, LN, B3.out⟩, by (simp [intOf]) <;> omega⟩
      · have LN := Lib.hid (FZ.out.2 h0)
        have nz : (z != 0) = true := by rw [bne_iff_ne]; exact h0
        clear h0
        go_wp2_with fail
        refine region_bw (by kernel_rfl) (by kernel_rfl) ?_
        repeat (go_big_quiet_step (fail))
        refine BigFrame.wpQuiet_want (by rfl) fun K hK => ⟨.int .i64 z, ?_, hK _ ?_⟩
        · rintro w' ⟨p, rfl⟩
          unfold Oper.quietAt
          go_simp
          first | exact ⟨trivial, calls_bw (CM.out _)⟩ | exact ⟨rfl, calls_bw (CM.out _)⟩ | exact calls_bw (CM.out _)
        clear hK K
        simp only [Act.put, List.setIfInBounds_toArray, List.set_cons_succ, List.set_cons_zero]
        repeat (go_big_quiet_step (fail))
        refine wpQuiet_nil ?_; intro wq hq; replace hq := below_of_bw hq; obtain ⟨qc, qf, qz⟩ := bcell hq
        have B3 := Lib.hid (BB.out.trans (Below.mono hq BB.out.size))
        clear hq qc qf qz
        go_wp2
        go_returns
        exact ⟨by rw [LN.out]; rfl, B3.out⟩
    · have e : j = m := by omega
      have d1 : decide ((j : Int) < (m : Int)) = false := decide_eq_false (by omega)
      have LN := Lib.hid (show lc xs ys = cmpI (n : Int) (k : Int) by rw [lc_end (by rw [← HM.out, ← e]; exact LC.out), HN.out, HK.out])
      clear hB e
      go_wp2_with (go_at_call 56; refine (C1.out _).mono ?_; rintro e w1 ⟨rfl, rfl⟩)
      go_returns
      exact ⟨by rw [LN.out]; rfl, BB.out⟩
end Go.Proofs.YtnfhhckkealkpaaDoor
