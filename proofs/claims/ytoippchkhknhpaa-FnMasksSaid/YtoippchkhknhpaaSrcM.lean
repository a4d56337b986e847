/- Any mask, as the model draws it. -/
import Derived.Test.YtoippchkhknhpaaSrc
import Derived.Test.YtoippchkhknhpaaWith
import Derived.Deep.RegionWith
namespace Go.Proofs.Ytoippchkhknhpaa
open Go.ChangeShapes Go.WideShapes Go.ChangeAt Go.RowKit

theorem u64_orS {x y : Int} (hx : U64 x) (hy : U64 y) : U64 (bits .or .u64 x y) := by
  obtain ⟨a, rfl⟩ := Int.eq_ofNat_of_zero_le hx.1
  obtain ⟨b, rfl⟩ := Int.eq_ofNat_of_zero_le hy.1
  have ha : a < 18446744073709551616 := by have := hx.2; omega
  have hb : b < 18446744073709551616 := by have := hy.2; omega
  rw [Go.u64_or_nat a b ha hb]
  have : a ||| b < 2 ^ 64 := Nat.or_lt_two_pow (by omega) (by omega)
  exact ⟨by omega, by omega⟩

/-- The boxes of the drawing: the answer's, still empty, and the mask's; the source; all else as it was. -/
structure MA (w w' : World) (g : Nat) (a : Option Addr) (zs : List Int) (cap k : Nat) (x y : Int) : Prop where
  sz : w.heap.size + 2 ≤ w'.heap.size
  r0 : w'.cell? ⟨w.heap.size, 0, none⟩ = some (.int .u64 0)
  r1 : w'.cell? ⟨w.heap.size, 1, none⟩ = some (.int .u64 0)
  m0 : w'.cell? ⟨w.heap.size + 1, 0, none⟩ = some (.int .u64 x)
  m1 : w'.cell? ⟨w.heap.size + 1, 1, none⟩ = some (.int .u64 y)
  fr : ∀ j, w'.frozen? ⟨w.heap.size, j, none⟩ = false
  fm : ∀ j, w'.frozen? ⟨w.heap.size + 1, j, none⟩ = false
  ux : U64 x
  uy : U64 y
  lt : g < w.heap.size
  row : ∀ i, i < zs.length → ∀ b off, a = some ⟨b, off, none⟩ → b < w.heap.size
  src : Src w' g a zs cap k
  oth : Oth g w w'
theorem MA.next {w w' w2 : World} {g : Nat} {a : Option Addr} {zs : List Int} {cap k k2 : Nat} {x y : Int} (h : MA w w' g a zs cap k x y) (o : Oth g w' w2) (s : Src w2 g a zs cap k2) : MA w w2 g a zs cap k2 x y := by
  obtain ⟨sz, r0, r1, m0, m1, fr, fm, ux, uy, lt, row, src, oth⟩ := h
  have C : ∀ b j, b ≠ g → b < w'.heap.size → w2.cell? ⟨b, j, none⟩ = w'.cell? ⟨b, j, none⟩ := fun b j hb hl => by unfold World.cell?; simp only [o.block b hb hl]
  have F : ∀ b j, b ≠ g → b < w'.heap.size → w2.frozen? ⟨b, j, none⟩ = w'.frozen? ⟨b, j, none⟩ := fun b j hb hl => by unfold World.frozen?; simp only [o.block b hb hl]
  refine ⟨Nat.le_trans sz o.size, (C _ _ (by omega) (by omega)).trans r0, (C _ _ (by omega) (by omega)).trans r1, (C _ _ (by omega) (by omega)).trans m0, (C _ _ (by omega) (by omega)).trans m1, fun j => (F _ _ (by omega) (by omega)).trans (fr j), fun j => (F _ _ (by omega) (by omega)).trans (fm j), ux, uy, lt, row, s, oth.trans o⟩
theorem MA.below {w w' w2 : World} {g : Nat} {a : Option Addr} {zs : List Int} {cap k : Nat} {x y : Int} (h : MA w w' g a zs cap k x y) (b : Below w'.heap.size w' w2) : MA w w2 g a zs cap k x y := h.next (Oth.of b) (h.src.below b)
theorem MA.drew {w w' : World} {g : Nat} {a : Option Addr} {zs : List Int} {cap k : Nat} {x y : Int} (h : MA w w' g a zs cap k x y) : MA w w'.drew g a zs cap k x y := h.below ((Below.refl _ _).drew)
theorem MA.set {w w' : World} {g : Nat} {a : Option Addr} {zs : List Int} {cap k : Nat} {x y x2 y2 : Int} (h : MA w w' g a zs cap k x y) (u : U64 x2) (v : U64 y2) :
    MA w ((w'.setCell ⟨w.heap.size + 1, 0, none⟩ (.int .u64 x2)).setCell ⟨w.heap.size + 1, 1, none⟩ (.int .u64 y2)) g a zs cap k x2 y2 := by
  obtain ⟨sz, r0, r1, m0, m1, fr, fm, ux, uy, lt, row, src, oth⟩ := h
  have O : Oth (w.heap.size + 1) w' ((w'.setCell ⟨w.heap.size + 1, 0, none⟩ (.int .u64 x2)).setCell ⟨w.heap.size + 1, 1, none⟩ (.int .u64 y2)) := ((Oth.refl _ _).set 0 _).set 1 _
  have e1 : (w'.setCell ⟨w.heap.size + 1, 0, none⟩ (.int .u64 x2)).cell? ⟨w.heap.size + 1, 0, none⟩ = some (.int .u64 x2) := World.cell?_setCell_same' _ _ _ (by rw [m0]; rfl)
  have e2 : (w'.setCell ⟨w.heap.size + 1, 0, none⟩ (.int .u64 x2)).cell? ⟨w.heap.size + 1, 1, none⟩ = some (.int .u64 y) := (World.cell?_setCell_other _ _ _ _ (by simp)).trans m1
  have C : ∀ b j, b ≠ w.heap.size + 1 → b < w'.heap.size → ((w'.setCell ⟨w.heap.size + 1, 0, none⟩ (.int .u64 x2)).setCell ⟨w.heap.size + 1, 1, none⟩ (.int .u64 y2)).cell? ⟨b, j, none⟩ = w'.cell? ⟨b, j, none⟩ := fun b j hb hl => by unfold World.cell?; simp only [O.block b hb hl]
  refine ⟨by simpa using sz, (C _ _ (by omega) (by omega)).trans r0, (C _ _ (by omega) (by omega)).trans r1, (World.cell?_setCell_other _ _ _ _ (by simp)).trans e1, World.cell?_setCell_same' _ _ _ (by rw [e2]; rfl), fun j => by simpa using fr j, fun j => by simpa using fm j, u, v, lt, row, src.oth O (by omega) (fun i hi b off ha => by have := row i hi b off ha; omega), ?_⟩
  exact ⟨oth.os, oth.tape, oth.output, by simpa using oth.size, fun j hj hl => (O.block j (by omega) (by have := oth.size; omega)).trans (oth.block j hj hl)⟩
theorem MA.set1 {w w' : World} {g : Nat} {a : Option Addr} {zs : List Int} {cap k : Nat} {x y y2 : Int} (h : MA w w' g a zs cap k x y) (v : U64 y2) :
    MA w (w'.setCell ⟨w.heap.size + 1, 1, none⟩ (.int .u64 y2)) g a zs cap k x y2 := by
  obtain ⟨sz, r0, r1, m0, m1, fr, fm, ux, uy, lt, row, src, oth⟩ := h
  have O : Oth (w.heap.size + 1) w' (w'.setCell ⟨w.heap.size + 1, 1, none⟩ (.int .u64 y2)) := (Oth.refl _ _).set 1 _
  have C : ∀ b j, b ≠ w.heap.size + 1 → b < w'.heap.size → (w'.setCell ⟨w.heap.size + 1, 1, none⟩ (.int .u64 y2)).cell? ⟨b, j, none⟩ = w'.cell? ⟨b, j, none⟩ := fun b j hb hl => by unfold World.cell?; simp only [O.block b hb hl]
  refine ⟨by simpa using sz, (C _ _ (by omega) (by omega)).trans r0, (C _ _ (by omega) (by omega)).trans r1, (World.cell?_setCell_other _ _ _ _ (by simp)).trans m0, World.cell?_setCell_same' _ _ _ (by rw [m1]; rfl), fun j => by simpa using fr j, fun j => by simpa using fm j, ux, v, lt, row, src.oth O (by omega) (fun i hi b off ha => by have := row i hi b off ha; omega), ?_⟩
  exact ⟨oth.os, oth.tape, oth.output, by simpa using oth.size, fun j hj hl => (O.block j (by omega) (by have := oth.size; omega)).trans (oth.block j hj hl)⟩

theorem MA.more {w w' : World} {g : Nat} {a : Option Addr} {zs : List Int} {cap k k2 : Nat} {x y : Int} (h : MA w w' g a zs cap k x y) (hk : k ≤ k2) : MA w w' g a zs cap k2 x y :=
  ⟨h.sz, h.r0, h.r1, h.m0, h.m1, h.fr, h.fm, h.ux, h.uy, h.lt, h.row, h.src.more hk, h.oth⟩
theorem Oth.fresh {g : Nat} {a w : World} (h : Oth g a w) (b j : Nat) (hb : a.heap.size ≤ b) (u : Value) : Oth g a (w.setCell ⟨b, j, none⟩ u) :=
  ⟨h.os, h.tape, h.output, by simpa using h.size, fun k hk hl => (Below.heap_setCell w ⟨b, j, none⟩ u k (show k ≠ b by omega)).trans (h.block k hk hl)⟩
theorem u64_shl (u : Int) : U64 (IntKind.u64.wrap u) := u64_wrap u

set_option maxHeartbeats 1600000 in
theorem any_any (g : Nat) (a : Option Addr) (zs : List Int) (cap k : Nat) (w : World) (h : Src w g a zs cap k) (hk : k < 1000) :
    Calls Try.prog 100 #[.pointer (some ⟨g, 0, none⟩)] w fun e w' => ∃ x y : Int, e = .returned (.agg #[.int .u64 x, .int .u64 y]) ∧ U64 x ∧ U64 y ∧ Oth g w w' := by
  have M : MA w ((w.alloc (.cells #[.int .u64 0, .int .u64 0] 51)).alloc (.cells #[.int .u64 0, .int .u64 0] 51)) g a zs cap k 0 0 := by
    have B : Below w.heap.size w ((w.alloc (.cells #[.int .u64 0, .int .u64 0] 51)).alloc (.cells #[.int .u64 0, .int .u64 0] 51)) := below_new (below_new (Below.refl _ _) _) _
    refine ⟨by simp, by simp, by simp, by simp, by simp, fun j => by simp, fun j => by simp, by constructor <;> omega, by constructor <;> omega, h.lt, fun i hi b off ha => ?_, h.below B, Oth.of B⟩
    obtain ⟨b1, o1, h1, _, h2, _⟩ := h.row i hi
    rw [ha] at h1; cases h1; exact h2
  have M0 := Lib.hid M
  clear M h
  go_enter Try.func100, Try.ntmps100
  go_wp2_with (go_at_call 129; refine Calls.mono (pick_any 8 (by omega) (by omega) g a zs cap k _ ?_ ?_) ?_; exact M0.out.src; omega; rintro e w1 ⟨v, rfl, v0, v1, S1, O1⟩; have M1 := Lib.hid (M0.out.next O1 S1); clear S1 O1)
  go_loopw [4] (fun i wr => ∃ v x y : Int, 0 ≤ v ∧ v ≤ 7 ∧ i = .int .i64 v ∧ MA w wr g a zs cap (k + 8 - v.toNat) x y) (fun i _ => (intOf i).toNat)
  case atStart => exact ⟨v, 0, 0, v0, by omega, rfl, M1.out.more (by omega)⟩
  case round =>
    obtain ⟨v, x, y, v0, v1, rfl, hM⟩ := hrel
    have M2 := Lib.hid hM
    clear hM M1 M0
    obtain ⟨sz, r0, r1, m0, m1, fr, fm, ux, uy, lt, _, _, _⟩ := M2.out
    have fr0 := fr 0
    have fr1 := fr 1
    have fm0 := fm 0
    have fm1 := fm 1
    have z0 : w.heap.size + 1 < wr.heap.size := by omega
    have z1 : w.heap.size < wr.heap.size := by omega
    have UX := Lib.hid ux
    have UY := Lib.hid uy
    clear fr fm sz ux uy
    by_cases hv : 0 < v
    · have hd : decide (0 < v) = true := by simpa using hv
      go_wp2_with fail
      go_region_with (first
        | (go_at_call 129; refine Calls.mono (pick_any 96 (by omega) (by omega) g a zs cap (k + 8 - v.toNat) _ ?_ ?_) ?_; exact M2.out.drew.src; omega; rintro e w2 ⟨u, rfl, u0, u1, S3, O3⟩; have M3 := Lib.hid (M2.out.drew.next O3 S3); have u2 : u ≤ 95 := by omega
           have c0 := M3.out.m0; have c1 := M3.out.m1; clear S3 O3)
        | (go_at_call 130; refine (sBit_any _ u0 u2 _).mono ?_; rintro e w3 ⟨rfl, hB⟩; have M4 := Lib.hid (M3.out.below hB); have g0 := M4.out.m0; have g1 := M4.out.m1; clear hB)
        | (go_at_call 103; refine (sJoin_below _ _ _ _ _).mono ?_; rintro e w4 ⟨rfl, hB⟩; have M5 := Lib.hid (M4.out.below hB); have q0 := M5.out.m0; have q1 := M5.out.m1; have q2 := M5.out.fm 0; have q3 := M5.out.fm 1; clear hB))
      all_goals go_wp2
      all_goals exact ⟨⟨v - 1, _, _, by omega, by omega, rfl, (M5.out.set (u64_orS UX.out (u64_b0 u u0)) (u64_orS UY.out (u64_b1 u u2))).more (by omega)⟩, by simp [intOf]; omega⟩
    · have hd : decide (0 < v) = false := by simpa using hv
      go_wp2_with (go_at_call 129; refine Calls.mono (pick_any 24 (by omega) (by omega) g a zs cap (k + 8 - v.toNat) _ ?_ ?_) ?_; exact M2.out.src; omega; rintro e w2 ⟨u, rfl, u0, u1, S3, O3⟩; have M3 := Lib.hid (M2.out.next O3 S3); have c0 := M3.out.m0; have c1 := M3.out.m1; have c2 := M3.out.r0; have c3 := M3.out.r1; have d0 := M3.out.fr 0; have d1 := M3.out.fr 1; have d2 := M3.out.fm 0; have d3 := M3.out.fm 1; clear S3 O3)
      · go_region_with (first
          | (go_at_call 129; refine Calls.mono (pick_any 33 (by omega) (by omega) g a zs cap (k + 8 - v.toNat + 1) _ ?_ ?_) ?_; exact M3.out.drew.src; omega; rintro e w3 ⟨t, rfl, t0, t1, S4, O4⟩; have M4 := Lib.hid (M3.out.drew.next O4 S4); have e0 := M4.out.m0; have e1 := M4.out.m1; have e2 := M4.out.r0; have e3 := M4.out.r1; have f0 := M4.out.fr 0; have f1 := M4.out.fr 1; have f2 := M4.out.fm 0; have f3 := M4.out.fm 1; clear S4 O4))
        all_goals go_wp2
        all_goals refine bodyPost_ret (by simp [results, Try.results100, go_sem, e2, e3]; try rfl) rfl ?_
        all_goals exact ⟨_, _, rfl, UX.out, u64_orS UY.out (u64_wrap _), ((M4.out.oth.fresh _ _ (by omega) _).fresh _ _ (by omega) _).fresh _ _ (by omega) _⟩
      · refine bodyPost_ret (by simp [results, Try.results100, go_sem, c2, c3]; try rfl) rfl ?_
        exact ⟨_, _, rfl, by constructor <;> omega, by constructor <;> omega, (((M3.out.oth.fresh _ _ (by omega) _).fresh _ _ (by omega) _).fresh _ _ (by omega) _).fresh _ _ (by omega) _⟩
      · refine bodyPost_ret (by simp [results, Try.results100, go_sem, c2, c3]; try rfl) rfl ?_
        exact ⟨_, _, rfl, UX.out, UY.out, (M3.out.oth.fresh _ _ (by omega) _).fresh _ _ (by omega) _⟩

set_option maxHeartbeats 400000 in
theorem from_any (a : Option Addr) (zs : List Int) (cap : Nat) (w : World) (h : BytesIn w a zs) :
    Calls Try.prog 101 #[.slice a zs.length cap] w fun e w' => ∃ g, e = .returned (.pointer (some ⟨g, 0, none⟩)) ∧ g = w.heap.size ∧ Src w' g a zs cap 0 ∧ Below w.heap.size w w' := by
  have B := Lib.hid h
  clear h
  go_enter Try.func101, Try.ntmps101
  go_wp2
  go_returns
  have K : Below w.heap.size w (w.alloc (.cells #[.slice a zs.length cap, .int .i64 0, .int .u64 0] 148)) := below_new (Below.refl _ _) _
  refine ⟨w.heap.size, rfl, rfl, ⟨by simp, by simp, ⟨0, Nat.le_refl _, by simp⟩, ⟨0, by constructor <;> omega, by simp⟩, fun j _ => by simp, fun i hi => ?_⟩, K⟩
  obtain ⟨b, off, ha, hb, hc, hz⟩ := B.out i hi
  exact ⟨b, off, ha, by omega, by simp; omega, (K.cell hb).trans hc, hz⟩

theorem bytesIn_below {w w' : World} {a : Option Addr} {zs : List Int} (h : BytesIn w a zs) (hb : Below w.heap.size w w') : BytesIn w' a zs := fun i hi => by
  obtain ⟨b, off, ha, hlt, hc, hz⟩ := h i hi
  exact ⟨b, off, ha, Nat.lt_of_lt_of_le hlt hb.size, (hb.cell hlt).trans hc, hz⟩

theorem Oth.cell {g b : Nat} {w w' : World} (o : Oth g w w') (j : Nat) (hb : b ≠ g) (hl : b < w.heap.size) : w'.cell? ⟨b, j, none⟩ = w.cell? ⟨b, j, none⟩ := by unfold World.cell?; simp only [o.block b hb hl]
theorem Oth.frozen {g b : Nat} {w w' : World} (o : Oth g w w') (j : Nat) (hb : b ≠ g) (hl : b < w.heap.size) : w'.frozen? ⟨b, j, none⟩ = w.frozen? ⟨b, j, none⟩ := by unfold World.frozen?; simp only [o.block b hb hl]
theorem oth_below {g : Nat} {w w1 w2 : World} (h : Below w.heap.size w w1) (o : Oth g w1 w2) (hg : w.heap.size ≤ g) : Below w.heap.size w w2 :=
  ⟨o.os.trans h.os, o.tape.trans h.tape, o.output.trans h.output, Nat.le_trans h.size o.size, fun j hj => (o.block j (by omega) (by have := h.size; omega)).trans (h.block j hj)⟩
theorem two_cells0 {w : World} {b : Nat} {o : Obj} {z : Value} (lt : b < w.heap.size) (p : w.cell? ⟨b, 0, none⟩ = some z) (u v : Value) : (((w.setCell ⟨b, 0, none⟩ u).setCell ⟨b, 1, none⟩ v).alloc o).cell? ⟨b, 0, none⟩ = some u := by
  refine ((below_new (Below.refl _ _) o).cell (p := ⟨b, 0, none⟩) (by simpa using lt)).trans ?_
  exact (World.cell?_setCell_other _ _ _ _ (by simp)).trans (World.cell?_setCell_same' _ _ _ (by rw [p]; rfl))
theorem two_cells1 {w : World} {b : Nat} {o : Obj} {z : Value} (lt : b < w.heap.size) (p : w.cell? ⟨b, 1, none⟩ = some z) (u v : Value) : (((w.setCell ⟨b, 0, none⟩ u).setCell ⟨b, 1, none⟩ v).alloc o).cell? ⟨b, 1, none⟩ = some v := by
  refine ((below_new (Below.refl _ _) o).cell (p := ⟨b, 1, none⟩) (by simpa using lt)).trans ?_
  exact World.cell?_setCell_same' _ _ _ (by rw [World.cell?_setCell_other _ _ _ _ (by simp), p]; rfl)
theorem half_in (y : Int) : 0 ≤ IntKind.u64.wrap (y * 4294967296) / 4294967296 ∧ IntKind.u64.wrap (y * 4294967296) / 4294967296 < 4294967296 := by
  obtain ⟨h0, h1⟩ := u64_wrap (y * 4294967296)
  omega

set_option maxHeartbeats 1600000 in
theorem a2Mask_any (a : Option Addr) (zs : List Int) (cap : Nat) (w : World) (h : BytesIn w a zs) :
    Calls Try.prog 53 #[.slice a zs.length cap] w fun e w' => ∃ x y : Int, e = .returned (.agg #[.int .u64 x, .int .u64 y]) ∧ U64 x ∧ 0 ≤ y ∧ y < 4294967296 ∧ Below w.heap.size w w' := by
  have B := Lib.hid h
  clear h
  go_enter Try.func53, Try.ntmps53
  go_wp2_with (first
    | (go_at_call 101; refine Calls.mono (from_any a zs cap _ ?_) ?_; exact bytesIn_below B.out (below_new (Below.refl _ _) _); rintro e w1 ⟨g, rfl, hg, S1, B1⟩; have hg2 : g = w.heap.size + 1 := (by simpa using hg); subst hg2; clear hg)
    | (go_at_call 100; refine Calls.mono (any_any (w.heap.size + 1) a zs cap 0 _ ?_ ?_) ?_; exact S1; omega; rintro e w2 ⟨x, y, rfl, ux, uy, O2⟩; have K1 : Below w.heap.size w w1 := (below_new (Below.refl _ _) _).trans (B1.mono (by simp)); have K := oth_below K1 O2 (Nat.le_succ _); have lt1 : w.heap.size < w1.heap.size := Nat.lt_of_lt_of_le (by simp) B1.size; have lt2 : w.heap.size < w2.heap.size := Nat.lt_of_lt_of_le lt1 O2.size
       have p0 : w2.cell? ⟨w.heap.size, 0, none⟩ = some (.int .u64 0) := (O2.cell _ (by omega) lt1).trans ((B1.cell (by simp)).trans (by simp)); have p1 : w2.cell? ⟨w.heap.size, 1, none⟩ = some (.int .u64 0) := (O2.cell _ (by omega) lt1).trans ((B1.cell (by simp)).trans (by simp)); have p2 : w2.frozen? ⟨w.heap.size, 0, none⟩ = false := (O2.frozen _ (by omega) lt1).trans ((B1.frozen (by simp)).trans (by simp)); have p3 : w2.frozen? ⟨w.heap.size, 1, none⟩ = false := (O2.frozen _ (by omega) lt1).trans ((B1.frozen (by simp)).trans (by simp))))
  have e0 := two_cells0 (o := .cells #[.int .u64 x, .int .u64 (IntKind.u64.wrap (y * 4294967296) / 4294967296)] 51) lt2 p0 (.int .u64 x) (.int .u64 (IntKind.u64.wrap (y * 4294967296) / 4294967296))
  have e1 := two_cells1 (o := .cells #[.int .u64 x, .int .u64 (IntKind.u64.wrap (y * 4294967296) / 4294967296)] 51) lt2 p1 (.int .u64 x) (.int .u64 (IntKind.u64.wrap (y * 4294967296) / 4294967296))
  refine bodyPost_ret (by simp [results, Try.results53, go_sem, e0, e1]; try rfl) rfl ?_
  obtain ⟨y0, y1⟩ := half_in y
  exact ⟨_, _, rfl, ux, y0, y1, below_new ((K.setCell (Nat.le_refl _) _).setCell (Nat.le_refl _) _) _⟩
end Go.Proofs.Ytoippchkhknhpaa
