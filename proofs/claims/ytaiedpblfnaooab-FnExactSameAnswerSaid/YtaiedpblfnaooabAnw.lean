/- Answers with witnesses, as they come in: opened, measured, carried over. -/
import Derived.Test.YtaiedpblfnaooabWts2
import Derived.Test.YtaiedpblfnaooabKn
import Derived.Test.YtaiedpblfnaooabOpen
import Derived.Test.YtaiedpblfnaooabQLaw
import Derived.Test.YtaiedpblfnaooabKnL
import Derived.Deep.DeepCutAuto
namespace Go.Proofs.Ytaiedpblfnaooab
open Go.ChangeShapes Go.WideShapes Go.ChangeAt Go.RowKit

/-- What an answer says. -/
structure Aw where
  a : Int
  b : Int
  c : Int
  d : Int
  zs : List Int
  ws : List Wt
def Aw.fits (x : Aw) : Prop := U64 x.a ∧ U64 x.b ∧ U64 x.c ∧ U64 x.d ∧ (∀ i, i < x.zs.length → I64 (x.zs.getD i 0)) ∧ x.zs.length ≤ maxLen ∧ x.ws.length ≤ maxLen

theorem open_answer {H : Type} {enc : TypeId × Value → H} {P : Program} {W : World} {t u ei e : TypeId} {f0 f1 f2 g0 g1 : Field} {v : Value} {d : DataW H} {p : List MemPlace} {r : Reach} {b : Nat} (he : P.underlying t = some (.struct #[f0, f1, f2])) (hu : P.underlying u = some (.int .u64)) (hts : P.cellTypes P.depth t = some [u, u, u, u, f1.type, f2.type]) (hc : P.cellsOf t = 6)
    (h1 : P.underlying f1.type = some (.slice ei)) (k1 : P.underlying ei = some (.int .i64)) (s1 : P.cellsOf ei = 1) (h2 : P.underlying f2.type = some (.slice e)) (he2 : P.underlying e = some (.struct #[g0, g1])) (t0 : P.underlying g0.type = some (.int .i64)) (t1 : P.underlying g1.type = some (.int .i16))
    (ce : P.cellsOf e = 2) (c0 : P.cellsOf g0.type = 1) (c1 : P.cellsOf g1.type = 1) (o0 : g0.offset = 0) (o1 : g1.offset = 1) (q1 : P.cellsOf f1.type = 1) (q2 : P.cellsOf f2.type = 1) (p1 : f1.offset = 4) (p2 : f2.offset = 5)
    (hv : Value.okWide P W r b t v) (h : DataW.Trod enc P W 0 (fun _ => true) true t v d p) :
    ∃ (x : Aw) (ai : Option Addr) (ci : Nat) (aw : Option Addr) (cw : Nat), v = .agg #[.int .u64 x.a, .int .u64 x.b, .int .u64 x.c, .int .u64 x.d, .slice ai x.zs.length ci, .slice aw x.ws.length cw] ∧ x.fits ∧ IntsIn W ai x.zs ∧ WitsIn W aw x.ws := by
  obtain ⟨cs, rfl, hsz, hcell⟩ := open_cells ⟨_, he, .inl ⟨_, rfl⟩⟩ hts hc hv
  obtain ⟨fuel, hf⟩ := h
  obtain ⟨cs⟩ := cs
  match cs, hsz with
  | [x0, x1, x2, x3, x4, x5], _ =>
    obtain ⟨n0, rfl, m0⟩ := cell_u64 hu (hcell 0 x0 u rfl rfl)
    obtain ⟨n1, rfl, m1⟩ := cell_u64 hu (hcell 1 x1 u rfl rfl)
    obtain ⟨n2, rfl, m2⟩ := cell_u64 hu (hcell 2 x2 u rfl rfl)
    obtain ⟨n3, rfl, m3⟩ := cell_u64 hu (hcell 3 x3 u rfl rfl)
    simp only [Value.cells] at hf
    obtain ⟨xs, k0, _, _, _, hxl, hfs⟩ := DataW.trod_struct he hf
    match xs, hxl with
    | [y0, y1, y2], _ =>
      have g1 := hfs 1 f1 rfl
      have g2 := hfs 2 f2 rfl
      rw [p1, q1] at g1
      rw [p2, q2] at g2
      simp at g1 g2
      obtain ⟨va, vs, vc, rfl, vl, vw, vi⟩ := open_sub h1 k1 s1 g1
      obtain ⟨wa, ws, wc, rfl, wi, wl⟩ := open_wits h2 he2 t0 t1 ce c0 c1 o0 o1 g2
      have u0 : U64 (n0 : Int) := ⟨by omega, by omega⟩
      have u1 : U64 (n1 : Int) := ⟨by omega, by omega⟩
      have u2 : U64 (n2 : Int) := ⟨by omega, by omega⟩
      have u3 : U64 (n3 : Int) := ⟨by omega, by omega⟩
      refine ⟨⟨n0, n1, n2, n3, vs, ws⟩, va, vc, wa, wc, rfl, ⟨u0, u1, u2, u3, fun j hj => ?_, vl, wl⟩, vi, wi⟩
      have := vw j hj
      simp [Lit.wf, IntKind.min, IntKind.max, IntKind.signed, IntKind.bits] at this
      show I64 (vs.getD j 0)
      unfold I64
      simp only [List.getD] at *
      omega

/-- What a measuring leaves of an answer: no more than there was; none of its lists is longer than it. -/
def SzA (x : Aw) (w : World) (e : Ending) (w' : World) : Prop := ∃ z : Int, e = .returned (.int .i64 z) ∧ -1 ≤ z ∧ z ≤ 1048576 ∧ (0 ≤ z → x.zs.length ≤ 1048576 ∧ x.ws.length ≤ 1048576) ∧ Below w.heap.size w w'

set_option maxHeartbeats 1600000 in
theorem szAnswer_any (x : Aw) (ai : Option Addr) (ci : Nat) (aw : Option Addr) (cw : Nat) (l : Int) (hx : x.fits) (l0 : 0 ≤ l) (l1 : l ≤ 1048576) (w : World) :
    Calls Try.prog 59 #[.agg #[.int .u64 x.a, .int .u64 x.b, .int .u64 x.c, .int .u64 x.d, .slice ai x.zs.length ci, .slice aw x.ws.length cw], .int .i64 l] w (SzA x w) := by
  obtain ⟨_, _, _, _, _, n1, n2⟩ := hx
  have m1 := n1
  have m2 := n2
  unfold maxLen at m1 m2
  obtain ⟨a, b, c, d, zs, ws⟩ := x
  simp only at n1 n2 m1 m2 ⊢
  have K1 := Lib.hid fun W => szInts_any ai zs.length ci l n1 l0 l1 W
  by_cases h1 : l - (zs.length : Int) < 0
  · rw [szn_no h1] at K1
    clear n1 n2 m1 m2 h1
    go_enter Try.func59, Try.ntmps59
    go_wp2_with (go_at_call 109; refine (K1.out _).mono ?_; rintro e w2 ⟨rfl, rfl⟩)
    go_ret
    exact ⟨-1, rfl, by omega, by omega, by omega, (by repeat' (first | (with_reducible exact Below.refl _ _) | (with_reducible assumption) | (with_reducible refine below_drewN ?_ _) | (with_reducible refine Below.drew ?_) | (with_reducible refine below_new ?_ _) | (with_reducible refine below_next ?_ (by with_reducible assumption)) | (with_reducible refine Below.setCell ?_ ?_ _) | go_size))⟩
  rw [szn_yes h1] at K1
  have p1 : 0 ≤ l - (zs.length : Int) := by omega
  have q1 : l - (zs.length : Int) ≤ 1048576 := by omega
  have r1 : zs.length ≤ 1048576 := by omega
  have d1 : decide (l - (zs.length : Int) < 0) = false := by simp; omega
  generalize l - (zs.length : Int) = z at *
  have K2 := Lib.hid fun W => szWitnessS_any aw ws.length cw z n2 p1 q1 W
  by_cases h2 : z - (ws.length : Int) < 0
  · rw [wtz_no h2] at K2
    clear n1 n2 m1 m2 h1 h2 r1
    go_enter Try.func59, Try.ntmps59
    go_wp2_with (first | (go_at_call 109; refine (K1.out _).mono ?_; rintro e w2 ⟨rfl, rfl⟩) | (go_at_call 110; refine (K2.out _).mono ?_; rintro e w2 ⟨rfl, rfl⟩))
    go_ret
    exact ⟨-1, rfl, by omega, by omega, by omega, (by repeat' (first | (with_reducible exact Below.refl _ _) | (with_reducible assumption) | (with_reducible refine below_drewN ?_ _) | (with_reducible refine Below.drew ?_) | (with_reducible refine below_new ?_ _) | (with_reducible refine below_next ?_ (by with_reducible assumption)) | (with_reducible refine Below.setCell ?_ ?_ _) | go_size))⟩
  rw [wtz_yes h2] at K2
  have p2 : 0 ≤ z - (ws.length : Int) := by omega
  have q2 : z - (ws.length : Int) ≤ 1048576 := by omega
  have r2 : ws.length ≤ 1048576 := by omega
  have d2 : decide (z - (ws.length : Int) < 0) = false := by simp; omega
  generalize z - (ws.length : Int) = y at *
  have R := Lib.hid (And.intro r1 r2)
  clear n1 n2 m1 m2 h1 h2 r1 r2
  go_enter Try.func59, Try.ntmps59
  go_wp2_with (first | (go_at_call 109; refine (K1.out _).mono ?_; rintro e w2 ⟨rfl, rfl⟩) | (go_at_call 110; refine (K2.out _).mono ?_; rintro e w2 ⟨rfl, rfl⟩))
  go_ret
  exact ⟨y, rfl, by omega, by omega, fun _ => R.out, (by repeat' (first | (with_reducible exact Below.refl _ _) | (with_reducible assumption) | (with_reducible refine below_drewN ?_ _) | (with_reducible refine Below.drew ?_) | (with_reducible refine below_new ?_ _) | (with_reducible refine below_next ?_ (by with_reducible assumption)) | (with_reducible refine Below.setCell ?_ ?_ _) | go_size))⟩
end Go.Proofs.Ytaiedpblfnaooab
