/- Several texts in one, as a claim has at most 60 files: MkA0 AwP MkA1 MkA2 MkA3 Ss MkA4. -/
import Derived.Test.YtanocllpmjhblaaWitM
import Derived.Test.YtanocllpmjhblaaWtsOwn
import Derived.Test.YtanocllpmjhblaaHolesIn
import Derived.Test.YtanocllpmjhblaaNear
import Derived.Test.YtanocllpmjhblaaSplit
import Derived.Test.YtanocllpmjhblaaWear2
import Derived.Deep.AppendLies
import Derived.Deep.RegionLaw
import Derived.Test.YtanocllpmjhblaaWts2
import Derived.Test.YtanocllpmjhblaaQLaw
import Derived.Test.YtanocllpmjhblaaFloat
import Derived.Test.YtanocllpmjhblaaOwns
import Derived.Test.YtanocllpmjhblaaOth
import Derived.Test.YtanocllpmjhblaaQuiet
import Derived.OneCell
import Derived.Deep.DeepCutAuto
import Derived.Below
namespace Go.Proofs.Ytanocllpmjhblaa
open Go.ChangeShapes Go.WideShapes Go.ChangeAt Go.RowKit

theorem iMeet_bA (a b c d : Int) (w : World) : Calls Try.prog 116 #[.agg #[.int .u64 a, .int .u64 b], .agg #[.int .u64 c, .int .u64 d]] w fun e w' => e = .returned (.agg #[.int .u64 (bits .and .u64 a c), .int .u64 (bits .and .u64 b d)]) ∧ Below w.heap.size w w' :=
  (iMeet_any a b c d w).mono fun e w' ⟨he, hw⟩ => ⟨he, by subst hw; exact (by repeat' (first | (with_reducible exact Below.refl _ _) | (with_reducible assumption) | (with_reducible refine below_drewN ?_ _) | (with_reducible refine Below.drew ?_) | (with_reducible refine below_new ?_ _) | (with_reducible refine below_next ?_ (by with_reducible assumption)) | (with_reducible refine Below.setCell ?_ ?_ _) | go_size))⟩

set_option maxHeartbeats 800000 in
theorem iWit_any (a b c d m n : Int) (w : World) :
    Calls Try.prog 72 #[.agg #[.int .u64 a, .int .u64 b, .int .u64 c, .int .u64 d], .agg #[.int .u64 m, .int .u64 n]] w fun e w' => e = .returned (.agg #[.int .u64 (wit0 a c m), .int .u64 (wit0 b d n)]) ∧ Below w.heap.size w w' := by
  have HB := Lib.hid (wblock_three w (.cells #[.int .u64 a, .int .u64 b, .int .u64 c, .int .u64 d] 55) (.cells #[.int .u64 m, .int .u64 n] 53) (.cells #[.int .u64 0, .int .u64 0] 53))
  have k3 : Below w.heap.size w (((w.alloc (.cells #[.int .u64 a, .int .u64 b, .int .u64 c, .int .u64 d] 55)).alloc (.cells #[.int .u64 m, .int .u64 n] 53)).alloc (.cells #[.int .u64 0, .int .u64 0] 53)) := (below_new (below_new (below_new (Below.refl _ _) _) _) _)
  have hbw := cell_bw
  go_enter Try.func72, Try.ntmps72
  go_upto_region 1 with fail
  generalize ((w.alloc (.cells #[.int .u64 a, .int .u64 b, .int .u64 c, .int .u64 d] 55)).alloc (.cells #[.int .u64 m, .int .u64 n] 53)).alloc (.cells #[.int .u64 0, .int .u64 0] 53) = W at *
  refine wp_region_last 9 (by kernel_rfl) rfl rfl (by kernel_rfl) (by kernel_rfl) rfl ?_
  simp only [List.take_succ_cons, List.take_zero]
  intro w3 h3
  have c0 := cell_of_block (h3.block HB.out.1)
  have z0 := lt_of_block (h3.block HB.out.1)
  have c1 := cell_of_block (h3.block HB.out.2.1)
  have z1 := lt_of_block (h3.block HB.out.2.1)
  repeat (go_big_quiet_step (first | (go_at_call 118; exact calls_bw (iLess_below _ _ _ _ _)) | (go_at_call 116; exact calls_bw (iMeet_bA _ _ _ _ _)) | (go_at_call 107; exact calls_bw (iJoin_below _ _ _ _ _))))
  refine wpQuiet_nil ?_
  intro w4 h4
  have l3 : Below w.heap.size w w4 := k3.trans (Below.mono h4 k3.size)
  have f2 := cell_of_block (h4.block HB.out.2.2)
  have g2 := free_of_block (h4.block HB.out.2.2)
  clear c0 c1 z0 z1 h4 h3 k3
  go_simp
  simp only [Yld]
  go_wp2
  refine bodyPost_ret (by simp [results, Try.results72, go_sem, f2]; try rfl) rfl ?_
  exact ⟨rfl, ((l3.setCell (by simp <;> omega) _).setCell (by simp <;> omega) _)⟩

theorem sHas_is {a b k : Int} (ha : U64 a) (hb : U64 b) (k0 : 0 ≤ k) (k1 : k ≤ 95) {x : Bool} (h : hasB a b k = x) : Hid (∀ w : World, Calls Try.prog 144 #[.agg #[.int .u64 a, .int .u64 b], .int .i64 k] w fun e w' => e = .returned (.bool x) ∧ Below w.heap.size w w') := Lib.hid fun w => by rw [← h]; exact sHas_any a b k ha hb k0 k1 w
set_option maxHeartbeats 1600000 in
theorem sShows_any (a b c d m n k : Int) (ha : U64 a) (hb : U64 b) (hc : U64 c) (hd : U64 d) (hm : U64 m) (hn : U64 n) (k0 : 0 ≤ k) (k1 : k ≤ 95) (g o : Nat) (w : World) (h0 : w.cell? ⟨g, o, none⟩ = some (.int .u64 a)) (h1 : w.cell? ⟨g, o + 1, none⟩ = some (.int .u64 b)) (h2 : w.cell? ⟨g, o + 2, none⟩ = some (.int .u64 c)) (h3 : w.cell? ⟨g, o + 3, none⟩ = some (.int .u64 d)) :
    Calls Try.prog 115 #[.pointer (some ⟨g, o, none⟩), .agg #[.int .u64 m, .int .u64 n], .int .i64 k] w fun e w' => e = .returned (.bool (shw a b c d m n k)) ∧ Below w.heap.size w w' := by
  have hg := World.block_lt_of_cell? _ _ h0
  have K0 := Lib.hid (below_new (Below.refl w.heap.size w) (.cells #[.int .u64 m, .int .u64 n] 53))
  have HB := Lib.hid (block_alloc w (.cells #[.int .u64 m, .int .u64 n] 53))
  have H := Lib.hid (And.intro h0 (And.intro h1 (And.intro h2 h3)))
  have X := Lib.hid fun (p q : Int) (hp : U64 p) (hq : U64 q) (x : Bool) (h : hasB p q k = x) => (sHas_is hp hq k0 k1 h).out
  have HH := Lib.hid fun W (hB : Below w.heap.size w W) => And.intro ((hB.cell (p := ⟨g, o, none⟩) hg).trans H.out.1) (And.intro ((hB.cell (p := ⟨g, o + 1, none⟩) hg).trans H.out.2.1) (And.intro ((hB.cell (p := ⟨g, o + 2, none⟩) hg).trans H.out.2.2.1) ((hB.cell (p := ⟨g, o + 3, none⟩) hg).trans H.out.2.2.2)))
  cases q1 : hasB a b k
  · cases q2 : hasB c d k
    · have e := show shw a b c d m n k = false by unfold shw; rw [q1, q2]; rfl
      have F := Lib.hid (e)
      have A := Lib.hid (X.out a b ha hb _ q1)
      have C := Lib.hid (X.out c d hc hd _ q2)
      clear e q1 q2 ha hb hc hd hm hn H X k0 k1
      have tok1 : True := trivial
      go_enter Try.func115, Try.ntmps115
      go_wp2_with (first
        | (go_at_call 144; have _t := tok1; clear _t tok1; refine (A.out _).mono ?_; rintro e w1 ⟨rfl, hB⟩; have K1 := Lib.hid (K0.out.trans (Below.mono hB K0.out.size)); have B1 := Lib.hid (Ab.block hB HB.out); clear h0 h1 h2 h3 hB; have cb := cell_of_block B1.out; obtain ⟨h0, h1, h2, h3⟩ := HH.out _ K1.out)
        | (go_at_call 144; refine (C.out _).mono ?_; rintro e w2 ⟨rfl, hB⟩; have K2 := Lib.hid (K1.out.trans (Below.mono hB K1.out.size)); have B2 := Lib.hid (Ab.block hB B1.out); clear h0 h1 h2 h3 cb hB; have cb := cell_of_block B2.out; obtain ⟨h0, h1, h2, h3⟩ := HH.out _ K2.out))
      go_returns
      exact ⟨ret_bool F.out.symm, K2.out⟩
    · cases qm : hasB m n k
      · have e := show shw a b c d m n k = false by unfold shw; rw [q1, q2, qm]; rfl
        have F := Lib.hid (e)
        have A := Lib.hid (X.out a b ha hb _ q1)
        have M := Lib.hid (X.out m n hm hn _ qm)
        have C := Lib.hid (X.out c d hc hd _ q2)
        clear e qm q1 q2 ha hb hc hd hm hn H X k0 k1
        have tok1 : True := trivial
        have tok2 : True := trivial
        go_enter Try.func115, Try.ntmps115
        go_wp2_with (first
          | (go_at_call 144; have _t := tok1; clear _t tok1; refine (A.out _).mono ?_; rintro e w1 ⟨rfl, hB⟩; have K1 := Lib.hid (K0.out.trans (Below.mono hB K0.out.size)); have B1 := Lib.hid (Ab.block hB HB.out); clear h0 h1 h2 h3 hB; have cb := cell_of_block B1.out; obtain ⟨h0, h1, h2, h3⟩ := HH.out _ K1.out)
          | (go_at_call 144; have _t := tok2; clear _t tok2; refine (C.out _).mono ?_; rintro e w2 ⟨rfl, hB⟩; have K2 := Lib.hid (K1.out.trans (Below.mono hB K1.out.size)); have B2 := Lib.hid (Ab.block hB B1.out); clear h0 h1 h2 h3 cb hB; have cb := cell_of_block B2.out; obtain ⟨h0, h1, h2, h3⟩ := HH.out _ K2.out)
          | (go_at_call 144; refine (M.out _).mono ?_; rintro e w3 ⟨rfl, hB⟩; have K3 := Lib.hid (K2.out.trans (Below.mono hB K2.out.size)); have B3 := Lib.hid (Ab.block hB B2.out); clear h0 h1 h2 h3 cb hB; have cb := cell_of_block B3.out; obtain ⟨h0, h1, h2, h3⟩ := HH.out _ K3.out))
        go_returns
        exact ⟨ret_bool F.out.symm, K3.out⟩
      · have e := show shw a b c d m n k = true by unfold shw; rw [q1, q2, qm]; rfl
        have F := Lib.hid (e)
        have A := Lib.hid (X.out a b ha hb _ q1)
        have M := Lib.hid (X.out m n hm hn _ qm)
        have C := Lib.hid (X.out c d hc hd _ q2)
        clear e qm q1 q2 ha hb hc hd hm hn H X k0 k1
        have tok1 : True := trivial
        have tok2 : True := trivial
        go_enter Try.func115, Try.ntmps115
        go_wp2_with (first
          | (go_at_call 144; have _t := tok1; clear _t tok1; refine (A.out _).mono ?_; rintro e w1 ⟨rfl, hB⟩; have K1 := Lib.hid (K0.out.trans (Below.mono hB K0.out.size)); have B1 := Lib.hid (Ab.block hB HB.out); clear h0 h1 h2 h3 hB; have cb := cell_of_block B1.out; obtain ⟨h0, h1, h2, h3⟩ := HH.out _ K1.out)
          | (go_at_call 144; have _t := tok2; clear _t tok2; refine (C.out _).mono ?_; rintro e w2 ⟨rfl, hB⟩; have K2 := Lib.hid (K1.out.trans (Below.mono hB K1.out.size)); have B2 := Lib.hid (Ab.block hB B1.out); clear h0 h1 h2 h3 cb hB; have cb := cell_of_block B2.out; obtain ⟨h0, h1, h2, h3⟩ := HH.out _ K2.out)
          | (go_at_call 144; refine (M.out _).mono ?_; rintro e w3 ⟨rfl, hB⟩; have K3 := Lib.hid (K2.out.trans (Below.mono hB K2.out.size)); have B3 := Lib.hid (Ab.block hB B2.out); clear h0 h1 h2 h3 cb hB; have cb := cell_of_block B3.out; obtain ⟨h0, h1, h2, h3⟩ := HH.out _ K3.out))
        go_returns
        exact ⟨ret_bool F.out.symm, K3.out⟩
  · cases qm : hasB m n k
    · have e := show shw a b c d m n k = true by unfold shw; rw [q1, qm]; rfl
      have F := Lib.hid (e)
      have A := Lib.hid (X.out a b ha hb _ q1)
      have M := Lib.hid (X.out m n hm hn _ qm)
      clear e qm q1 ha hb hc hd hm hn H X k0 k1
      have tok1 : True := trivial
      go_enter Try.func115, Try.ntmps115
      go_wp2_with (first
        | (go_at_call 144; have _t := tok1; clear _t tok1; refine (A.out _).mono ?_; rintro e w1 ⟨rfl, hB⟩; have K1 := Lib.hid (K0.out.trans (Below.mono hB K0.out.size)); have B1 := Lib.hid (Ab.block hB HB.out); clear h0 h1 h2 h3 hB; have cb := cell_of_block B1.out; obtain ⟨h0, h1, h2, h3⟩ := HH.out _ K1.out)
        | (go_at_call 144; refine (M.out _).mono ?_; rintro e w2 ⟨rfl, hB⟩; have K2 := Lib.hid (K1.out.trans (Below.mono hB K1.out.size)); have B2 := Lib.hid (Ab.block hB B1.out); clear h0 h1 h2 h3 cb hB; have cb := cell_of_block B2.out; obtain ⟨h0, h1, h2, h3⟩ := HH.out _ K2.out))
      go_returns
      exact ⟨ret_bool F.out.symm, K2.out⟩
    · cases q2 : hasB c d k
      · have e := show shw a b c d m n k = false by unfold shw; rw [q1, q2, qm]; rfl
        have F := Lib.hid (e)
        have A := Lib.hid (X.out a b ha hb _ q1)
        have M := Lib.hid (X.out m n hm hn _ qm)
        have C := Lib.hid (X.out c d hc hd _ q2)
        clear e qm q1 q2 ha hb hc hd hm hn H X k0 k1
        have tok1 : True := trivial
        have tok2 : True := trivial
        go_enter Try.func115, Try.ntmps115
        go_wp2_with (first
          | (go_at_call 144; have _t := tok1; clear _t tok1; refine (A.out _).mono ?_; rintro e w1 ⟨rfl, hB⟩; have K1 := Lib.hid (K0.out.trans (Below.mono hB K0.out.size)); have B1 := Lib.hid (Ab.block hB HB.out); clear h0 h1 h2 h3 hB; have cb := cell_of_block B1.out; obtain ⟨h0, h1, h2, h3⟩ := HH.out _ K1.out)
          | (go_at_call 144; have _t := tok2; clear _t tok2; refine (M.out _).mono ?_; rintro e w2 ⟨rfl, hB⟩; have K2 := Lib.hid (K1.out.trans (Below.mono hB K1.out.size)); have B2 := Lib.hid (Ab.block hB B1.out); clear h0 h1 h2 h3 cb hB; have cb := cell_of_block B2.out; obtain ⟨h0, h1, h2, h3⟩ := HH.out _ K2.out)
          | (go_at_call 144; refine (C.out _).mono ?_; rintro e w3 ⟨rfl, hB⟩; have K3 := Lib.hid (K2.out.trans (Below.mono hB K2.out.size)); have B3 := Lib.hid (Ab.block hB B2.out); clear h0 h1 h2 h3 cb hB; have cb := cell_of_block B3.out; obtain ⟨h0, h1, h2, h3⟩ := HH.out _ K3.out))
        go_returns
        exact ⟨ret_bool F.out.symm, K3.out⟩
      · have e := show shw a b c d m n k = true by unfold shw; rw [q1, q2, qm]; rfl
        have F := Lib.hid (e)
        have A := Lib.hid (X.out a b ha hb _ q1)
        have M := Lib.hid (X.out m n hm hn _ qm)
        have C := Lib.hid (X.out c d hc hd _ q2)
        clear e qm q1 q2 ha hb hc hd hm hn H X k0 k1
        have tok1 : True := trivial
        have tok2 : True := trivial
        have tok3 : True := trivial
        go_enter Try.func115, Try.ntmps115
        go_wp2_with (first
          | (go_at_call 144; have _t := tok1; clear _t tok1; refine (A.out _).mono ?_; rintro e w1 ⟨rfl, hB⟩; have K1 := Lib.hid (K0.out.trans (Below.mono hB K0.out.size)); have B1 := Lib.hid (Ab.block hB HB.out); clear h0 h1 h2 h3 hB; have cb := cell_of_block B1.out; obtain ⟨h0, h1, h2, h3⟩ := HH.out _ K1.out)
          | (go_at_call 144; have _t := tok2; clear _t tok2; refine (M.out _).mono ?_; rintro e w2 ⟨rfl, hB⟩; have K2 := Lib.hid (K1.out.trans (Below.mono hB K1.out.size)); have B2 := Lib.hid (Ab.block hB B1.out); clear h0 h1 h2 h3 cb hB; have cb := cell_of_block B2.out; obtain ⟨h0, h1, h2, h3⟩ := HH.out _ K2.out)
          | (go_at_call 144; have _t := tok3; clear _t tok3; refine (C.out _).mono ?_; rintro e w3 ⟨rfl, hB⟩; have K3 := Lib.hid (K2.out.trans (Below.mono hB K2.out.size)); have B3 := Lib.hid (Ab.block hB B2.out); clear h0 h1 h2 h3 cb hB; have cb := cell_of_block B3.out; obtain ⟨h0, h1, h2, h3⟩ := HH.out _ K3.out)
          | (go_at_call 144; refine (M.out _).mono ?_; rintro e w4 ⟨rfl, hB⟩; have K4 := Lib.hid (K3.out.trans (Below.mono hB K3.out.size)); have B4 := Lib.hid (Ab.block hB B3.out); clear h0 h1 h2 h3 cb hB; have cb := cell_of_block B4.out; obtain ⟨h0, h1, h2, h3⟩ := HH.out _ K4.out))
        go_returns
        exact ⟨ret_bool F.out.symm, K4.out⟩
end Go.Proofs.Ytanocllpmjhblaa

namespace Go.Proofs.Ytanocllpmjhblaa
open Go.ChangeShapes Go.WideShapes Go.ChangeAt Go.RowKit

/-- What an answer says. -/
structure Aw where
  a : Int
  b : Int
  c : Int
  d : Int
  zs : List Int
  ws : List Wt

def Aw.fits (x : Aw) : Prop := U64 x.a ∧ U64 x.b ∧ U64 x.c ∧ U64 x.d ∧ (∀ i, i < x.zs.length → I64 (x.zs.getD i 0)) ∧ x.zs.length ≤ maxLen ∧ x.ws.length ≤ maxLen
theorem intsIn_setA {w : World} {a : Option Addr} {zs : List Int} {G j : Nat} {v : Value} (h : IntsIn w a zs) (hne : ∀ b off, a = some ⟨b, off, none⟩ → G ≠ b) : IntsIn (w.setCell ⟨G, j, none⟩ v) a zs := fun i hi => by
  obtain ⟨b, off, ha, hlt, hc⟩ := h i hi
  exact ⟨b, off, ha, by rw [World.size_setCell]; exact hlt, (World.cell?_setCell_far w ⟨G, j, none⟩ ⟨b, off + i, none⟩ v (hne b off ha)).trans hc⟩
theorem witsIn_setA {w : World} {a : Option Addr} {zs : List Wt} {G j : Nat} {v : Value} (h : WitsIn w a zs) (hne : ∀ b off, a = some ⟨b, off, none⟩ → G ≠ b) : WitsIn (w.setCell ⟨G, j, none⟩ v) a zs := fun i hi => by
  obtain ⟨hf, b, off, ha, hlt, h0, h1⟩ := h i hi
  exact ⟨hf, b, off, ha, by rw [World.size_setCell]; exact hlt, (World.cell?_setCell_far w ⟨G, j, none⟩ ⟨b, off + i * 2, none⟩ v (hne b off ha)).trans h0, (World.cell?_setCell_far w ⟨G, j, none⟩ ⟨b, off + i * 2 + 1, none⟩ v (hne b off ha)).trans h1⟩
theorem ne_atA {g G : Nat} (h : G < g) : ∀ b off, (some ⟨g, 0, none⟩ : Option Addr) = some ⟨b, off, none⟩ → G ≠ b := fun b off e => by injection e with e; injection e with e1; omega
set_option maxRecDepth 100000 in
set_option maxHeartbeats 1600000 in
theorem eqAnswer_same (x : Aw) (ai : Option Addr) (ci : Nat) (aw : Option Addr) (cw : Nat) (bi : Option Addr) (di : Nat) (bw : Option Addr) (dw : Nat) (w : World) (hi : IntsIn w ai x.zs) (hw : WitsIn w aw x.ws) (ki : IntsIn w bi x.zs) (kw : WitsIn w bw x.ws) (h1 : x.zs.length ≤ 1048576) (h2 : x.ws.length ≤ 1048576) :
    Calls Try.prog 31 #[.agg #[.int .u64 x.a, .int .u64 x.b, .int .u64 x.c, .int .u64 x.d, .slice ai x.zs.length ci, .slice aw x.ws.length cw], .agg #[.int .u64 x.a, .int .u64 x.b, .int .u64 x.c, .int .u64 x.d, .slice bi x.zs.length di, .slice bw x.ws.length dw]] w fun e w' => e = .returned (.bool true) ∧ Below w.heap.size w w' := by
  obtain ⟨a, b, c, d, zs, ws⟩ := x
  simp only at hi hw ki kw h1 h2 ⊢
  have A := Lib.hid (And.intro hi (And.intro hw (And.intro ki kw)))
  have E1 := Lib.hid fun W p q => eqInts_same ai bi zs ci di W p q (by omega)
  have E2 := Lib.hid fun W p q => eqWitnessS_same aw bw ws cw dw W p q h2
  clear hi hw ki kw h1 h2
  have HB := Lib.hid (block_alloc2 w (.cells #[.int .u64 a, .int .u64 b, .int .u64 c, .int .u64 d, .slice ai zs.length ci, .slice aw ws.length cw] 59) (.cells #[.int .u64 a, .int .u64 b, .int .u64 c, .int .u64 d, .slice bi zs.length di, .slice bw ws.length dw] 59))
  have kk : Below w.heap.size w ((w.alloc (.cells #[.int .u64 a, .int .u64 b, .int .u64 c, .int .u64 d, .slice ai zs.length ci, .slice aw ws.length cw] 59)).alloc (.cells #[.int .u64 a, .int .u64 b, .int .u64 c, .int .u64 d, .slice bi zs.length di, .slice bw ws.length dw] 59)) := below_new (below_new (Below.refl _ _) _) _
  have KK := Lib.hid kk
  clear kk
  go_enter Try.func31, Try.ntmps31
  go_wp2_with (first
    | (go_at_call 73; refine (eqQuery_same _ _ _ _ _).mono ?_; rintro e w1 ⟨rfl, hB⟩; have k1 := Lib.hid (KK.out.trans (Below.mono hB KK.out.size)); have b10 := Lib.hid (Ab.block hB HB.out.1); have b11 := Lib.hid (Ab.block hB HB.out.2); have c0 := cell_of_block b10.out; have c1 := cell_of_block b11.out; clear hB)
    | (go_at_call 63; refine (E1.out _ (intsIn_below A.out.1 k1.out) (intsIn_below A.out.2.2.1 k1.out)).mono ?_; rintro e w2 ⟨rfl, hB⟩; have k2 := Lib.hid (k1.out.trans (Below.mono hB k1.out.size)); have b20 := Lib.hid (Ab.block hB b10.out); have b21 := Lib.hid (Ab.block hB b11.out); clear hB c0 c1; have c0 := cell_of_block b20.out; have c1 := cell_of_block b21.out)
    | (go_at_call 74; refine (E2.out _ (witsIn_below A.out.2.1 k2.out) (witsIn_below A.out.2.2.2 k2.out)).mono ?_; rintro e w3 ⟨rfl, hB⟩; have k3 := Lib.hid (k2.out.trans (Below.mono hB k2.out.size)); clear hB c0 c1))
  all_goals go_returns
  all_goals exact ⟨rfl, k3.out⟩

end Go.Proofs.Ytanocllpmjhblaa

namespace Go.Proofs.Ytanocllpmjhblaa
open Go.ChangeShapes Go.WideShapes Go.ChangeAt Go.RowKit

/-- Does a query drop card j. -/
def drK (cs : List Cd) (a b c d : Int) (j : Nat) : Bool := qdrop a b c d (cdAt cs j).a (cdAt cs j).b
/-- The lowest hole that shows that it does not. -/
def loK (cs : List Cd) (a b c d : Int) (j : Nat) : Nat := lowH (shw a b c d (cdAt cs j).a (cdAt cs j).b)
/-- Those of the first ones that p tells; the others, each with its number h. -/
def inK (p : Nat → Bool) : Nat → List Int
  | 0 => []
  | n + 1 => if p n then inK p n ++ [(n : Int)] else inK p n
def outK (p : Nat → Bool) (h : Nat → Nat) : Nat → List Wt
  | 0 => []
  | n + 1 => if p n then outK p h n else outK p h n ++ [⟨(n : Int), (h n : Int)⟩]
theorem inK_len (p : Nat → Bool) : ∀ n, (inK p n).length ≤ n
  | 0 => Nat.le_refl _
  | n + 1 => by
    have := inK_len p n
    unfold inK
    split
    · rw [List.length_append, List.length_singleton]; omega
    · omega
theorem outK_len (p : Nat → Bool) (h : Nat → Nat) : ∀ n, (outK p h n).length ≤ n
  | 0 => Nat.le_refl _
  | n + 1 => by
    have := outK_len p h n
    unfold outK
    split
    · omega
    · rw [List.length_append, List.length_singleton]; omega
theorem k_yes {p : Nat → Bool} (h : Nat → Nat) {n : Nat} (e : p n = true) : inK p (n + 1) = inK p n ++ [(n : Int)] ∧ outK p h (n + 1) = outK p h n := by
  constructor
  · show (if p n then inK p n ++ [(n : Int)] else inK p n) = _; rw [if_pos e]
  · show (if p n then outK p h n else outK p h n ++ [⟨(n : Int), (h n : Int)⟩]) = _; rw [if_pos e]
theorem k_no {p : Nat → Bool} (h : Nat → Nat) {n : Nat} (e : p n = false) : inK p (n + 1) = inK p n ∧ outK p h (n + 1) = outK p h n ++ [⟨(n : Int), (h n : Int)⟩] := by
  constructor
  · show (if p n then inK p n ++ [(n : Int)] else inK p n) = _; rw [if_neg (by simp [e])]
  · show (if p n then outK p h n else outK p h n ++ [⟨(n : Int), (h n : Int)⟩]) = _; rw [if_neg (by simp [e])]
theorem inK_i64 {p : Nat → Bool} : ∀ {n : Nat}, n ≤ 1048576 → ∀ x ∈ inK p n, 0 ≤ x ∧ x < 1048576
  | 0, _, x, h => by cases h
  | n + 1, hn, x, h => by
    unfold inK at h
    split at h
    · rcases List.mem_append.1 h with h | h
      · exact inK_i64 (by omega) x h
      · simp at h; omega
    · exact inK_i64 (by omega) x h
theorem outK_fits {p : Nat → Bool} {h : Nat → Nat} : ∀ {n : Nat}, n ≤ 1048576 → (∀ j, j < n → p j = false → h j < 96) → ∀ x ∈ outK p h n, x.fits
  | 0, _, _, x, hx => by cases hx
  | n + 1, hn, hh, x, hx => by
    unfold outK at hx
    split at hx
    · exact outK_fits (by omega) (fun j hj => hh j (by omega)) x hx
    · rename_i hp
      rcases List.mem_append.1 hx with hx | hx
      · exact outK_fits (by omega) (fun j hj => hh j (by omega)) x hx
      · simp at hx
        subst hx
        have := hh n (by omega) (by simpa using hp)
        exact ⟨⟨by simp only; omega, by simp only; omega⟩, ⟨by simp only; omega, by simp only; omega⟩⟩

/-- What a valid deck and a valid query tell of a card. -/
theorem card_shw {cs : List Cd} {a b c d : Int} (ha : U64 a) (hb : U64 b) (hc : U64 c) (hd : U64 d) (hq : qOk a b c d = true) (_hk : deckOk cs = true) {j : Nat} (_hj : j < cs.length) (hm : U64 (cdAt cs j).a) (hn : U64 (cdAt cs j).b) :
    (wit0 b d (cdAt cs j).b / 4294967296 == 0) = true ∧ U64 (wit0 a c (cdAt cs j).a) ∧ U64 (wit0 b d (cdAt cs j).b) ∧ hzL (wit0 a c (cdAt cs j).a) (wit0 b d (cdAt cs j).b) = hol (shw a b c d (cdAt cs j).a (cdAt cs j).b) 96 := by
  unfold qOk at hq
  simp only [Bool.and_eq_true] at hq
  have l := wit_low hb hd hn hq.1.1 hq.1.2
  refine ⟨l, wit_u64 ha hc hm, wit_u64 hb hd hn, ?_⟩
  rw [hz_yes _ l]
  have key : ∀ n : Nat, n ≤ 96 → hol (hasB (wit0 a c (cdAt cs j).a) (wit0 b d (cdAt cs j).b)) n = hol (shw a b c d (cdAt cs j).a (cdAt cs j).b) n := by
    intro n
    induction n with
    | zero => intro _; rfl
    | succ n ih =>
      intro h
      have e := wit_has (k := n) ha hb hc hd hm hn (by omega)
      cases hs : shw a b c d (cdAt cs j).a (cdAt cs j).b (n : Int)
      · rw [hol_no hs, hol_no (e.trans hs), ih (by omega)]
      · rw [hol_yes hs, hol_yes (e.trans hs), ih (by omega)]
  exact key 96 (Nat.le_refl _)
theorem card_drop {cs : List Cd} {a b c d : Int} (ha : U64 a) (hb : U64 b) (hc : U64 c) (hd : U64 d) {j : Nat} (hm : U64 (cdAt cs j).a) (hn : U64 (cdAt cs j).b) (h : drK cs a b c d j = true) : hol (shw a b c d (cdAt cs j).a (cdAt cs j).b) 96 = [] :=
  hol_none 96 fun k hk => shw_none ha hb hc hd hm hn h k (by omega)
theorem card_keep {cs : List Cd} {a b c d : Int} (ha : U64 a) (hb : U64 b) (hc : U64 c) (hd : U64 d) (hq : qOk a b c d = true) {j : Nat} (hm : U64 (cdAt cs j).a) (hn : U64 (cdAt cs j).b) (h : drK cs a b c d j = false) :
    loK cs a b c d j < 96 ∧ shw a b c d (cdAt cs j).a (cdAt cs j).b (loK cs a b c d j : Int) = true ∧ (∀ k : Nat, k < loK cs a b c d j → shw a b c d (cdAt cs j).a (cdAt cs j).b (k : Int) = false) ∧ ∃ u, hol (shw a b c d (cdAt cs j).a (cdAt cs j).b) 96 = (loK cs a b c d j : Int) :: u := by
  unfold qOk at hq
  simp only [Bool.and_eq_true] at hq
  exact low_some (shw_some ha hb hc hd hm hn hq.1.1 hq.1.2 h)

/-- The answer, and its code. -/
def mkW (ok : Bool) (cs : List Cd) (a b c d : Int) : Aw := if ok then ⟨a, b, c, d, inK (drK cs a b c d) cs.length, outK (drK cs a b c d) (loK cs a b c d) cs.length⟩ else ⟨0, 0, 0, 0, [], []⟩
def anC (ok : Bool) : Int := if ok then 0 else 1
theorem mk_no (cs : List Cd) (a b c d : Int) : mkW false cs a b c d = ⟨0, 0, 0, 0, [], []⟩ := rfl
theorem mk_yes (cs : List Cd) (a b c d : Int) : mkW true cs a b c d = ⟨a, b, c, d, inK (drK cs a b c d) cs.length, outK (drK cs a b c d) (loK cs a b c d) cs.length⟩ := rfl
/-- An answer of the call's own, and a code. -/
def MkR (x : Aw) (k : Int) (w : World) (e : Ending) (w' : World) : Prop := ∃ v u, e = .returned (.tuple #[.agg #[.int .u64 x.a, .int .u64 x.b, .int .u64 x.c, .int .u64 x.d, v, u], .int .i64 k]) ∧ OwnInts w.heap.size x.zs v w' ∧ OwnWits w.heap.size x.ws u w' ∧ Apart v u ∧ Below w.heap.size w w'

/-- The box that is filled. -/
def Mk (G : Nat) (a b c d : Int) (xs : List Int) (ws : List Wt) (v u : Value) (W : World) : Prop := W.heap[G]? = some (.cells #[.int .u64 a, .int .u64 b, .int .u64 c, .int .u64 d, v, u] 59 (0, 0)) ∧ OwnInts (G + 1) xs v W ∧ OwnWits (G + 1) ws u W ∧ Apart v u
theorem Mk.ab {G : Nat} {a b c d : Int} {xs : List Int} {ws : List Wt} {v u : Value} {W W' : World} (h : Mk G a b c d xs ws v u W) (k : Below W.heap.size W W') : Mk G a b c d xs ws v u W' := ⟨Ab.block k h.1, ownInts_kept h.2.1 k, ownWits_kept h.2.2.1 k, h.2.2.2⟩
theorem mk_start (W : World) (a b c d : Int) : Mk W.heap.size a b c d [] [] (.slice none 0 0) (.slice none 0 0) (W.alloc (.cells #[.int .u64 a, .int .u64 b, .int .u64 c, .int .u64 d, .slice none 0 0, .slice none 0 0] 59)) :=
  ⟨block_alloc _ _, own_nil _ _, ownWits_nil _ _, fun k hk => by cases hk⟩
theorem Mk.pushI {G : Nat} {a b c d : Int} {xs : List Int} {ws : List Wt} {v u : Value} {W w' : World} {g cap : Nat} {x : Int} (k : Mk G a b c d xs ws v u W) (hown : w'.ownsRow (G + 1) 2 1 (.slice (some ⟨g, 0, none⟩) (xs.length + 1) cap) (xs.length + 1) (xs.map (Value.int .i64) ++ [.int .i64 x])) (hg : W.grownBy w' v.ownBlock) (hat : v.ownBlock = some g ∨ g = W.heap.size) :
    w'.heap[G]? = some (.cells #[.int .u64 a, .int .u64 b, .int .u64 c, .int .u64 d, v, u] 59 (0, 0)) ∧ Mk G a b c d (xs ++ [x]) ws (.slice (some ⟨g, 0, none⟩) (xs.length + 1) cap) u (w'.setCell ⟨G, 4, none⟩ (.slice (some ⟨g, 0, none⟩) (xs.length + 1) cap)) := by
  have hb := blk_grown k.1 hg (own_ne k.2.1 (Nat.lt_succ_self _))
  refine ⟨hb, ?_, ownsRow_setCell_below (own_push hown) (show G < G + 1 by omega) _, ownsRow_setCell_below (row_grown k.2.2.1 hg (fun j hj e => k.2.2.2 j e hj)) (show G < G + 1 by omega) _, ?_⟩
  · exact block_setCell (j := 4) _ hb
  · intro j hj hu
    cases hj
    rcases hat with e | e
    · exact k.2.2.2 _ e hu
    · have h2 : g < W.heap.size := (World.ownsRow.lt k.2.2.1 _ hu).2
      omega
theorem Mk.pushW {G : Nat} {a b c d : Int} {xs : List Int} {ws : List Wt} {v u : Value} {W w' : World} {g cap : Nat} {x h : Int} (k : Mk G a b c d xs ws v u W) (hown : w'.ownsRow (G + 1) 118 2 (.slice (some ⟨g, 0, none⟩) (ws.length + 1) cap) (ws.length + 1) (flwt ws ++ [.int .i64 x, .int .i16 h])) (hg : W.grownBy w' u.ownBlock) (hat : u.ownBlock = some g ∨ g = W.heap.size) :
    w'.heap[G]? = some (.cells #[.int .u64 a, .int .u64 b, .int .u64 c, .int .u64 d, v, u] 59 (0, 0)) ∧ Mk G a b c d xs (ws ++ [⟨x, h⟩]) v (.slice (some ⟨g, 0, none⟩) (ws.length + 1) cap) (w'.setCell ⟨G, 5, none⟩ (.slice (some ⟨g, 0, none⟩) (ws.length + 1) cap)) := by
  have hb := blk_grown k.1 hg (fun e => by have := (World.ownsRow.lt k.2.2.1 _ e).1; omega)
  refine ⟨hb, ?_, ownsRow_setCell_below (row_grown k.2.1 hg (fun j hj e => k.2.2.2 j hj e)) (show G < G + 1 by omega) _, ownsRow_setCell_below (ownWits_push hown) (show G < G + 1 by omega) _, ?_⟩
  · exact block_setCell (j := 5) _ hb
  · intro j hj hu
    cases hu
    rcases hat with e | e
    · exact k.2.2.2 _ hj e
    · have h2 : g < W.heap.size := (World.ownsRow.lt k.2.1 _ hj).2
      omega
theorem wt_new (w : World) (x y : Value) (t : TypeId) : ∀ j u, [x, y][j]? = some u → (w.alloc (.cells #[x, y] t)).cell? ((⟨w.heap.size, 0, none⟩ : Addr).add j) = some u := by
  intro j u h
  match j, h with
  | 0, h => simp at h; subst h; simp [Addr.add]
  | 1, h => simp at h; subst h; simp [Addr.add]
end Go.Proofs.Ytanocllpmjhblaa

namespace Go.Proofs.Ytanocllpmjhblaa
open Go.ChangeShapes Go.WideShapes Go.ChangeAt Go.RowKit

theorem mk_store {w W : World} {v0 v1 v2 v3 v4 v5 : Value} (h : Below w.heap.size w W) : Below w.heap.size w ((((((W.setCell ⟨w.heap.size + 1, 0, none⟩ v0).setCell ⟨w.heap.size + 1, 1, none⟩ v1).setCell ⟨w.heap.size + 1, 2, none⟩ v2).setCell ⟨w.heap.size + 1, 3, none⟩ v3).setCell ⟨w.heap.size + 1, 4, none⟩ v4).setCell ⟨w.heap.size + 1, 5, none⟩ v5) :=
  (((((h.setCell (Nat.le_succ _) _).setCell (Nat.le_succ _) _).setCell (Nat.le_succ _) _).setCell (Nat.le_succ _) _).setCell (Nat.le_succ _) _).setCell (Nat.le_succ _) _
theorem mk_outI {w W : World} {B b : Nat} {xs : List Int} {v : Value} {v0 v1 v2 v3 v4 v5 : Value} (h : OwnInts B xs v W) (hw : w.heap.size ≤ B) (hb : b < B) : OwnInts w.heap.size xs v ((((((W.setCell ⟨b, 0, none⟩ v0).setCell ⟨b, 1, none⟩ v1).setCell ⟨b, 2, none⟩ v2).setCell ⟨b, 3, none⟩ v3).setCell ⟨b, 4, none⟩ v4).setCell ⟨b, 5, none⟩ v5) :=
  own_low (ownsRow_setCell_below (ownsRow_setCell_below (ownsRow_setCell_below (ownsRow_setCell_below (ownsRow_setCell_below (ownsRow_setCell_below h hb _) hb _) hb _) hb _) hb _) hb _) hw
theorem mk_outW {w W : World} {B b : Nat} {xs : List Wt} {v : Value} {v0 v1 v2 v3 v4 v5 : Value} (h : OwnWits B xs v W) (hw : w.heap.size ≤ B) (hb : b < B) : OwnWits w.heap.size xs v ((((((W.setCell ⟨b, 0, none⟩ v0).setCell ⟨b, 1, none⟩ v1).setCell ⟨b, 2, none⟩ v2).setCell ⟨b, 3, none⟩ v3).setCell ⟨b, 4, none⟩ v4).setCell ⟨b, 5, none⟩ v5) :=
  ownWits_weaken (ownsRow_setCell_below (ownsRow_setCell_below (ownsRow_setCell_below (ownsRow_setCell_below (ownsRow_setCell_below (ownsRow_setCell_below h hb _) hb _) hb _) hb _) hb _) hb _) hw

set_option maxRecDepth 100000 in
set_option maxHeartbeats 3200000 in
theorem iMkA_any (ad : Option Addr) (cs : List Cd) (cap : Nat) (a b c d : Int) (ha : U64 a) (hb : U64 b) (hc : U64 c) (hd : U64 d) (w : World) (hcs : CardsIn w ad cs) :
    Calls Try.prog 30 #[.slice ad cs.length cap, .agg #[.int .u64 a, .int .u64 b, .int .u64 c, .int .u64 d]] w (MkR (mkW (deckOk cs && qOk a b c d) cs a b c d) (anC (deckOk cs && qOk a b c d)) w) := by
  obtain ⟨i0, hi, hz0, hz1, hz2⟩ := info_parts info_i64
  obtain ⟨j0, gi, gz0, gz1, gz2⟩ := info_parts info_wt
  have HB := Lib.hid (block_alloc2 w (.cells #[.int .u64 a, .int .u64 b, .int .u64 c, .int .u64 d] 55) (.cells #[.int .u64 0, .int .u64 0, .int .u64 0, .int .u64 0, .slice none 0 0, .slice none 0 0] 59))
  have B0 := Lib.hid (below_new (below_new (Below.refl w.heap.size w) (.cells #[.int .u64 a, .int .u64 b, .int .u64 c, .int .u64 d] 55)) (.cells #[.int .u64 0, .int .u64 0, .int .u64 0, .int .u64 0, .slice none 0 0, .slice none 0 0] 59))
  have C0 := Lib.hid (cardsIn_below hcs B0.out)
  have HC := Lib.hid hcs
  have V := Lib.hid fun W h => iDeckOk_any ad cs cap W h
  have VQ := Lib.hid fun W => iQOk_any a b c d W
  clear hcs
  cases hk : deckOk cs
  · rw [hk] at V
    clear hk ha hb hc hd
    go_enter Try.func30, Try.ntmps30
    go_wp2_with (go_at_call 62; refine (V.out _ C0.out).mono ?_; rintro e w1 ⟨rfl, hB⟩; have b1 := Lib.hid (B0.out.trans (Below.mono hB B0.out.size)); have m1 := Ab.block hB HB.out.2; have x1 := cell_of_block m1; have f1 := free_of_block m1; clear hB m1)
    refine bodyPost_ret (by simp [results, Try.results30, go_sem, x1]; try rfl) rfl ?_
    exact ⟨_, _, rfl, own_nil _ _, ownWits_nil _ _, (fun k hk => by cases hk), mk_store b1.out⟩
  · rw [hk] at V
    rw [Bool.true_and]
    cases hq : qOk a b c d
    · rw [hq] at VQ
      clear hk hq ha hb hc hd
      go_enter Try.func30, Try.ntmps30
      go_wp2_with (first
        | (go_at_call 62; refine (V.out _ C0.out).mono ?_; rintro e w1 ⟨rfl, hB⟩; have b1 := Lib.hid (B0.out.trans (Below.mono hB B0.out.size)); have q1 := Lib.hid (Ab.block hB HB.out.1); have m1 := Lib.hid (Ab.block hB HB.out.2); have x0 := cell_of_block q1.out; clear hB)
        | (go_at_call 70; refine (VQ.out _).mono ?_; rintro e w2 ⟨rfl, hB⟩; have b2 := Lib.hid (b1.out.trans (Below.mono hB b1.out.size)); have m2 := Lib.hid (Ab.block hB m1.out); clear hB x0; have x1 := cell_of_block m2.out; have f1 := free_of_block m2.out))
      refine bodyPost_ret (by simp [results, Try.results30, go_sem, x1]; try rfl) rfl ?_
      exact ⟨_, _, rfl, own_nil _ _, ownWits_nil _ _, (fun k hk => by cases hk), mk_store b2.out⟩
    · rw [hq] at VQ
      have n80 := deckOk_80 hk
      have CK := Lib.hid fun j (hj : j < cs.length) hm hn => card_shw ha hb hc hd hq hk hj (j := j) hm hn
      have CD := Lib.hid fun j hm hn h => card_drop (cs := cs) ha hb hc hd (j := j) hm hn h
      have CE := Lib.hid fun j hm hn h => card_keep (cs := cs) ha hb hc hd hq (j := j) hm hn h
      rw [mk_yes]
      clear hk hq ha hb hc hd
      go_enter Try.func30, Try.ntmps30
      go_wp2_with (first
        | (go_at_call 62; refine (V.out _ C0.out).mono ?_; rintro e w1 ⟨rfl, hB⟩; have b1 := Lib.hid (B0.out.trans (Below.mono hB B0.out.size)); have q1 := Lib.hid (Ab.block hB HB.out.1); have m1 := Lib.hid (Ab.block hB HB.out.2); have x0 := cell_of_block q1.out; clear hB)
        | (go_at_call 70; refine (VQ.out _).mono ?_; rintro e w2 ⟨rfl, hB⟩; have b2 := Lib.hid (b1.out.trans (Below.mono hB b1.out.size)); have q2 := Lib.hid (Ab.block hB q1.out); have m2 := Lib.hid (Ab.block hB m1.out); clear hB x0; have x0 := cell_of_block q2.out))
      have S0 := Lib.hid (mk_start w2 a b c d)
      have A0 := Lib.hid (below_new (Below.refl w2.heap.size w2) (.cells #[.int .u64 a, .int .u64 b, .int .u64 c, .int .u64 d, .slice none 0 0, .slice none 0 0] 59))
      clear x0
      go_loopw [24] (fun i wr => ∃ j : Nat, j ≤ cs.length ∧ i = .int .i64 (j : Int) ∧ ∃ v u, Mk w2.heap.size a b c d (inK (drK cs a b c d) j) (outK (drK cs a b c d) (loK cs a b c d) j) v u wr ∧ Below w2.heap.size w2 wr) (fun i _ => cs.length - (intOf i).toNat)
      case atStart => exact ⟨0, Nat.zero_le _, rfl, _, _, S0.out, A0.out⟩
      case round =>
        obtain ⟨j, hj, rfl, v, u, hM, hB⟩ := hrel
        obtain ⟨av, cv, rfl, _⟩ := ownInts_in hM.2.1
        obtain ⟨au, cu, rfl, _⟩ := ownWits_in hM.2.2.1
        have BC := Lib.hid hB
        have MC := Lib.hid hM
        have QC := Lib.hid (Ab.block hB q2.out)
        have BW := Lib.hid (b2.out.trans (Below.mono hB b2.out.size))
        clear hM hB
        by_cases hjl : j < cs.length
        · have hd : decide ((j : Int) < (cs.length : Int)) = true := by simpa using hjl
          obtain ⟨⟨_, u1, u2⟩, b1, o1, rfl, hb1, p0, p1, p2⟩ := HC.out j hjl
          have d0 := (BW.out.cell (p := ⟨b1, o1 + j * 3, none⟩) hb1).trans p0
          have d1 := (BW.out.cell (p := ⟨b1, o1 + j * 3 + 1, none⟩) hb1).trans p1
          have d2 := (BW.out.cell (p := ⟨b1, o1 + j * 3 + 2, none⟩) hb1).trans p2
          have i1 : (0 : Int) ≤ (j : Int) := by omega
          have i2 : (j : Int) < (cs.length : Int) := by omega
          obtain ⟨kl, k0, k1, kh⟩ := CK.out j hjl u1 u2
          have W := Lib.hid fun W => iWit_any a b c d (cdAt cs j).a (cdAt cs j).b W
          have H := Lib.hid fun W => iHolesIn_any _ _ k0 k1 W
          rw [kh, hzC_yes kl] at H
          have li := inK_len (drK cs a b c d) j
          have lo := outK_len (drK cs a b c d) (loK cs a b c d) j
          have hA : Ab wr (wr.alloc (.cells #[.string (cdAt cs j).s, .int .u64 (cdAt cs j).a, .int .u64 (cdAt cs j).b] 89)) := below_new (Below.refl _ _) _
          have AA := Lib.hid hA
          have Y := Lib.hid fun e => k_yes (p := drK cs a b c d) (loK cs a b c d) (n := j) e
          have N := Lib.hid fun e => k_no (p := drK cs a b c d) (loK cs a b c d) (n := j) e
          have qc := cell_of_block QC.out
          have s0 := lt_of_block QC.out
          clear kl k0 k1 kh p0 p1 p2 hA
          cases hp : drK cs a b c d j
          · obtain ⟨lt, _, _, t, ht⟩ := CE.out j u1 u2 hp
            rw [ht] at H
            have Y := Lib.hid (N.out hp)
            have wl : IntKind.i16.wrap (loK cs a b c d j : Int) = (loK cs a b c d j : Int) := IntWalk.i16_in _ (by omega)
            clear N hp u1 u2 ht lt
            generalize cdAt cs j = x at *
            obtain ⟨xs, xa, xb⟩ := x
            simp only at d0 d1 d2 AA W H
            generalize wit0 a c xa = w0 at *
            generalize wit0 b d xb = w1 at *
            generalize loK cs a b c d j = lw at *
            generalize inK (drK cs a b c d) j = is at *
            generalize outK (drK cs a b c d) (loK cs a b c d) j = os at *
            have dl : ((((lw : Int) :: t).length : Int) == 0) = false := by simp; omega
            have gl : decide (0 < (((lw : Int) :: t).length : Int)) = true := by simp
            have gl2 : 0 < (((lw : Int) :: t).length : Int) := by simp
            generalize hL : ((lw : Int) :: t) = L at *
            have g0 : L.getD 0 0 = (lw : Int) := by rw [← hL]; rfl
            have gn : 0 < L.length := by rw [← hL]; simp
            clear hL
            go_wp2_with (first
              | (go_at_call 72; refine (W.out _).mono ?_; rintro e w3 ⟨rfl, hB3⟩; have A3 := Lib.hid (AA.out.trans hB3); clear hB3 qc s0 d0 d1 d2)
              | (go_at_call 71; refine (H.out _).mono ?_; rintro e w4 ⟨vh, rfl, hO, hB4⟩; obtain ⟨ah, ch, rfl, hI⟩ := ownInts_in hO; have A4 := Lib.hid (A3.out.trans hB4); obtain ⟨bh, oh, rfl, hbh, hch⟩ := hI 0 gn; have M4 := Lib.hid (MC.out.ab A4.out); have c4 := cell_of_block M4.out.1; have s4 := lt_of_block M4.out.1; rw [g0, Nat.add_zero] at hch; clear hO hB4 hI))
            have B4 := Lib.hid (BC.out.trans (Below.mono A4.out BC.out.size))
            have M5 := Lib.hid (M4.out.ab ((below_new (Below.refl w4.heap.size w4) (.cells #[.int .i64 (j : Int), .int .i16 (lw : Int)] 118)).drew))
            go_region_law (refine step_append_lies _ (by rfl) _ _ 57 (by rfl) (w2.heap.size + 1) 118 j0 (.agg #[.int .i64 0, .int .i16 0]) 2 16 Try.underlying57 gi gz0 gz1 gz2 rfl (by decide) _ _ _ (by rfl) M5.out.2.2.1 ⟨w4.heap.size, 0, none⟩ 1 1 [.int .i64 (j : Int), .int .i16 (lw : Int)] (by rfl) rfl (fun j u h => wt_new w4 _ _ _ j u h) (fun x hx => by simp at hx; rcases hx with rfl | rfl <;> rfl) (by omega) (by unfold maxLen; omega) (by omega) (by simp; omega) _ rfl ?_; intro gg cap2 w7 hown hgrow hat _; have P := Lib.hid (Mk.pushW M5.out hown hgrow hat); have G := Lib.hid hgrow; have c7 := cell_of_block P.out.1; have f7 := free_of_block P.out.1; clear hown hgrow hat)
            all_goals go_wp2
            all_goals
              refine ⟨⟨j + 1, hjl, by rw [Int.natCast_succ], _, _, by rw [Y.out.1, Y.out.2]; exact P.out.2, ?_⟩, by (simp [intOf]) <;> omega⟩
              exact (Below.grown (B4.out.trans (Below.mono (below_new (Below.refl w4.heap.size w4) (.cells #[.int .i64 (j : Int), .int .i16 (lw : Int)] 118)).drew B4.out.size)) G.out (by simp; have := B4.out.size; omega) (fun k hk => by have := (World.ownsRow.lt MC.out.2.2.1 k hk).1; omega)).setCell (Nat.le_refl _) _
          · rw [CD.out j u1 u2 hp] at H
            have Y := Lib.hid (Y.out hp)
            clear N hp u1 u2
            generalize cdAt cs j = x at *
            obtain ⟨xs, xa, xb⟩ := x
            simp only at d0 d1 d2 AA W H
            generalize wit0 a c xa = w0 at *
            generalize wit0 b d xb = w1 at *
            generalize inK (drK cs a b c d) j = is at *
            generalize outK (drK cs a b c d) (loK cs a b c d) j = os at *
            go_wp2_with (first
              | (go_at_call 72; refine (W.out _).mono ?_; rintro e w3 ⟨rfl, hB3⟩; have A3 := Lib.hid (AA.out.trans hB3); clear hB3 qc s0 d0 d1 d2)
              | (go_at_call 71; refine (H.out _).mono ?_; rintro e w4 ⟨vh, rfl, hO, hB4⟩; obtain ⟨ah, ch, rfl, _⟩ := ownInts_in hO; have A4 := Lib.hid (A3.out.trans hB4); have M4 := Lib.hid (MC.out.ab A4.out); have c4 := cell_of_block M4.out.1; have s4 := lt_of_block M4.out.1; clear hO hB4)
              | (at_builtin; refine wpList_append_lies _ rfl _ _ 56 rfl (w2.heap.size + 1) 2 i0 (.int .i64 0) 1 8 Try.underlying56 hi hz0 hz1 hz2 rfl (by decide) _ _ _ rfl (M4.out.2.1.alloc _) ⟨w4.heap.size, 0, none⟩ 1 1 [.int .i64 (j : Int)] rfl rfl (one_new _ _ _) (fun x hx => by simp at hx; subst hx; rfl) (by omega) (by unfold maxLen; omega) (by omega) (by simp; omega) _ rfl ?_; intro gg cap2 w5 hown hgrow hat _; have P := Lib.hid (Mk.pushI (M4.out.ab (below_new (Below.refl _ _) (.cells #[.int .i64 (j : Int)] 2))) hown hgrow hat); have G := Lib.hid hgrow; have c5 := cell_of_block P.out.1; have f5 := free_of_block P.out.1; clear hown hgrow hat c4))
            refine ⟨⟨j + 1, hjl, by rw [Int.natCast_succ], _, _, by rw [Y.out.1, Y.out.2]; exact P.out.2, ?_⟩, by (simp [intOf]) <;> omega⟩
            have B4 := BC.out.trans (Below.mono A4.out BC.out.size)
            exact (Below.grown (B4.alloc B4.size _) G.out (by simp; have := B4.size; omega) (fun k hk => Nat.le_of_succ_le (own_lt MC.out.2.1 k hk))).setCell (Nat.le_refl _) _
        · have e : j = cs.length := by omega
          subst e
          have hd : decide ((cs.length : Int) < (cs.length : Int)) = false := by simp
          have mc := cell_of_block MC.out.1
          have mb := Lib.hid (lt_of_block MC.out.1)
          have z1 := cell_of_block (Ab.block BC.out m2.out)
          have z2 := free_of_block (Ab.block BC.out m2.out)
          go_wp2
          refine bodyPost_ret (by simp [results, Try.results30, go_sem, z1]; try rfl) rfl ?_
          exact ⟨_, _, rfl, mk_outI MC.out.2.1 (Nat.le_succ_of_le b2.out.size) (by have := lt_of_block m2.out; omega), mk_outW MC.out.2.2.1 (Nat.le_succ_of_le b2.out.size) (by have := lt_of_block m2.out; omega), MC.out.2.2.2, mk_store BW.out⟩
end Go.Proofs.Ytanocllpmjhblaa

namespace Go.Proofs.Ytanocllpmjhblaa
open Go.ChangeShapes Go.WideShapes Go.ChangeAt Go.RowKit

/-- The model's boxes: the answer that is given back, still empty, and the one that is filled. -/
def Ms (w : World) (a b c d : Int) (xs : List Int) (ws : List Wt) (v u : Value) (W : World) : Prop := Mk (w.heap.size + 1) a b c d xs ws v u W ∧ W.heap[w.heap.size]? = some (.cells #[.int .u64 0, .int .u64 0, .int .u64 0, .int .u64 0, .slice none 0 0, .slice none 0 0] 59 (0, 0)) ∧ Below w.heap.size w W
theorem Ms.ab {w : World} {a b c d : Int} {xs : List Int} {ws : List Wt} {v u : Value} {W W' : World} (h : Ms w a b c d xs ws v u W) (k : Below W.heap.size W W') : Ms w a b c d xs ws v u W' := ⟨h.1.ab k, Ab.block k h.2.1, h.2.2.trans (Below.mono k h.2.2.size)⟩
theorem ms_start (w : World) (a b c d : Int) : Ms w a b c d [] [] (.slice none 0 0) (.slice none 0 0) ((w.alloc (.cells #[.int .u64 0, .int .u64 0, .int .u64 0, .int .u64 0, .slice none 0 0, .slice none 0 0] 59)).alloc (.cells #[.int .u64 a, .int .u64 b, .int .u64 c, .int .u64 d, .slice none 0 0, .slice none 0 0] 59)) := by
  have h := mk_start (w.alloc (.cells #[.int .u64 0, .int .u64 0, .int .u64 0, .int .u64 0, .slice none 0 0, .slice none 0 0] 59)) a b c d
  have e : (w.alloc (.cells #[.int .u64 0, .int .u64 0, .int .u64 0, .int .u64 0, .slice none 0 0, .slice none 0 0] 59)).heap.size = w.heap.size + 1 := by simp
  rw [e] at h
  exact ⟨h, (block_alloc2 _ _ _).1, below_new (below_new (Below.refl _ _) _) _⟩
theorem Ms.pushI {w : World} {a b c d : Int} {xs : List Int} {ws : List Wt} {v u : Value} {W w' : World} {g cap : Nat} {x : Int} (k : Ms w a b c d xs ws v u W) (hown : w'.ownsRow (w.heap.size + 1 + 1) 2 1 (.slice (some ⟨g, 0, none⟩) (xs.length + 1) cap) (xs.length + 1) (xs.map (Value.int .i64) ++ [.int .i64 x])) (hg : W.grownBy w' v.ownBlock) (hat : v.ownBlock = some g ∨ g = W.heap.size) :
    w'.heap[w.heap.size + 1]? = some (.cells #[.int .u64 a, .int .u64 b, .int .u64 c, .int .u64 d, v, u] 59 (0, 0)) ∧ Ms w a b c d (xs ++ [x]) ws (.slice (some ⟨g, 0, none⟩) (xs.length + 1) cap) u (w'.setCell ⟨w.heap.size + 1, 4, none⟩ (.slice (some ⟨g, 0, none⟩) (xs.length + 1) cap)) := by
  have h := k.1.pushI hown hg hat
  refine ⟨h.1, h.2, ?_, ?_⟩
  · rw [Below.heap_setCell _ _ _ _ (show w.heap.size ≠ w.heap.size + 1 by omega)]
    exact blk_grown k.2.1 hg (own_ne k.1.2.1 (by omega))
  · exact (Below.grown k.2.2 hg k.2.2.size (fun j hj => by have := own_lt k.1.2.1 j hj; omega)).setCell (Nat.le_succ _) _
theorem Ms.pushW {w : World} {a b c d : Int} {xs : List Int} {ws : List Wt} {v u : Value} {W w' : World} {g cap : Nat} {x h : Int} (k : Ms w a b c d xs ws v u W) (hown : w'.ownsRow (w.heap.size + 1 + 1) 118 2 (.slice (some ⟨g, 0, none⟩) (ws.length + 1) cap) (ws.length + 1) (flwt ws ++ [.int .i64 x, .int .i16 h])) (hg : W.grownBy w' u.ownBlock) (hat : u.ownBlock = some g ∨ g = W.heap.size) :
    w'.heap[w.heap.size + 1]? = some (.cells #[.int .u64 a, .int .u64 b, .int .u64 c, .int .u64 d, v, u] 59 (0, 0)) ∧ Ms w a b c d xs (ws ++ [⟨x, h⟩]) v (.slice (some ⟨g, 0, none⟩) (ws.length + 1) cap) (w'.setCell ⟨w.heap.size + 1, 5, none⟩ (.slice (some ⟨g, 0, none⟩) (ws.length + 1) cap)) := by
  have hh := k.1.pushW hown hg hat
  refine ⟨hh.1, hh.2, ?_, ?_⟩
  · rw [Below.heap_setCell _ _ _ _ (show w.heap.size ≠ w.heap.size + 1 by omega)]
    exact blk_grown k.2.1 hg (fun e => by have := (World.ownsRow.lt k.1.2.2.1 _ e).1; omega)
  · exact (Below.grown k.2.2 hg k.2.2.size (fun j hj => by have := (World.ownsRow.lt k.1.2.2.1 _ hj).1; omega)).setCell (Nat.le_succ _) _
/-- The answer alone. -/
def MsR (x : Aw) (w : World) (e : Ending) (w' : World) : Prop := ∃ v u, e = .returned (.agg #[.int .u64 x.a, .int .u64 x.b, .int .u64 x.c, .int .u64 x.d, v, u]) ∧ OwnInts w.heap.size x.zs v w' ∧ OwnWits w.heap.size x.ws u w' ∧ Apart v u ∧ Below w.heap.size w w'
theorem ms_store {w W : World} {v0 v1 v2 v3 v4 v5 : Value} (h : Below w.heap.size w W) : Below w.heap.size w ((((((W.setCell ⟨w.heap.size, 0, none⟩ v0).setCell ⟨w.heap.size, 1, none⟩ v1).setCell ⟨w.heap.size, 2, none⟩ v2).setCell ⟨w.heap.size, 3, none⟩ v3).setCell ⟨w.heap.size, 4, none⟩ v4).setCell ⟨w.heap.size, 5, none⟩ v5) :=
  (((((h.setCell (Nat.le_refl _) _).setCell (Nat.le_refl _) _).setCell (Nat.le_refl _) _).setCell (Nat.le_refl _) _).setCell (Nat.le_refl _) _).setCell (Nat.le_refl _) _

set_option maxRecDepth 100000 in
set_option maxHeartbeats 3200000 in
theorem sMkL_any (ad : Option Addr) (cs : List Cd) (cap : Nat) (a b c d : Int) (ha : U64 a) (hb : U64 b) (hc : U64 c) (hd : U64 d) (hq : qOk a b c d = true) (hk : deckOk cs = true) (g : Nat) (w : World) (hcs : CardsIn w ad cs) (hg : w.heap[g]? = some (.cells #[.int .u64 a, .int .u64 b, .int .u64 c, .int .u64 d] 55 (0, 0))) :
    Calls Try.prog 68 #[.slice ad cs.length cap, .pointer (some ⟨g, 0, none⟩)] w (MsR ⟨a, b, c, d, inK (drK cs a b c d) cs.length, outK (drK cs a b c d) (loK cs a b c d) cs.length⟩ w) := by
  obtain ⟨i0, hi, hz0, hz1, hz2⟩ := info_parts info_i64
  obtain ⟨j0, gi, gz0, gz1, gz2⟩ := info_parts info_wt
  have n80 := deckOk_80 hk
  have CE := Lib.hid fun j hm hn h => card_keep (cs := cs) ha hb hc hd hq (j := j) hm hn h
  have SD := Lib.hid fun m n (hm : U64 m) (hn : U64 n) W h0 h1 h2 h3 => sDrops_any a b c d m n ha hb hm hn g 0 W h0 h1 h2 h3
  have SS := Lib.hid fun m n (hm : U64 m) (hn : U64 n) k (k0 : 0 ≤ k) (k1 : k ≤ 95) W h0 h1 h2 h3 => sShows_any a b c d m n k ha hb hc hd hm hn k0 k1 g 0 W h0 h1 h2 h3
  have S0 := Lib.hid (ms_start w a b c d)
  have HC := Lib.hid hcs
  have HG := Lib.hid hg
  have x0 := cell_of_block hg
  have y0 := lt_of_block hg
  clear hk hq ha hb hc hd hcs hg
  go_enter Try.func68, Try.ntmps68
  go_wp2
  clear x0
  go_loopw [6, 7] (fun i _ wr => ∃ j : Nat, j ≤ cs.length ∧ i = .int .i64 (j : Int) ∧ ∃ v u, Ms w a b c d (inK (drK cs a b c d) j) (outK (drK cs a b c d) (loK cs a b c d) j) v u wr) (fun i _ _ => cs.length - (intOf i).toNat)
  case atStart => exact ⟨0, Nat.zero_le _, rfl, _, _, S0.out⟩
  case round =>
    obtain ⟨j, hj, rfl, v, u, hM⟩ := hrel
    obtain ⟨av, cv, rfl, _⟩ := ownInts_in hM.1.2.1
    obtain ⟨au, cu, rfl, _⟩ := ownWits_in hM.1.2.2.1
    have MC := Lib.hid hM
    have QC := Lib.hid (hM.2.2.block g y0 |>.trans HG.out)
    clear hM
    by_cases hjl : j < cs.length
    · have hd : decide ((j : Int) < (cs.length : Int)) = true := by simpa using hjl
      obtain ⟨⟨_, u1, u2⟩, b1, o1, rfl, hb1, p0, p1, p2⟩ := HC.out j hjl
      have d1 := (MC.out.2.2.cell (p := ⟨b1, o1 + j * 3 + 1, none⟩) hb1).trans p1
      have d2 := (MC.out.2.2.cell (p := ⟨b1, o1 + j * 3 + 2, none⟩) hb1).trans p2
      have i1 : (0 : Int) ≤ (j : Int) := by omega
      have i2 : (j : Int) < (cs.length : Int) := by omega
      have z1 : b1 < wr.heap.size := Nat.lt_of_lt_of_le hb1 MC.out.2.2.size
      have D := Lib.hid fun W => SD.out (cdAt cs j).a (cdAt cs j).b u1 u2 W
      have S := Lib.hid fun k k0 k1 W => SS.out (cdAt cs j).a (cdAt cs j).b u1 u2 k k0 k1 W
      have li := inK_len (drK cs a b c d) j
      have lo := outK_len (drK cs a b c d) (loK cs a b c d) j
      have Y := Lib.hid fun e => k_yes (p := drK cs a b c d) (loK cs a b c d) (n := j) e
      have N := Lib.hid fun e => k_no (p := drK cs a b c d) (loK cs a b c d) (n := j) e
      have CJ := Lib.hid (CE.out j u1 u2)
      have eD : qdrop a b c d (cdAt cs j).a (cdAt cs j).b = drK cs a b c d j := rfl
      rw [eD] at D
      clear p0 p1 p2 eD u1 u2
      cases hp : drK cs a b c d j
      · obtain ⟨lt, l1, l2, _⟩ := CJ.out hp
        have Y := Lib.hid (N.out hp)
        have wl : IntKind.i16.wrap (loK cs a b c d j : Int) = (loK cs a b c d j : Int) := IntWalk.i16_in _ (by omega)
        rw [hp] at D
        clear N hp CJ
        generalize cdAt cs j = x at *
        obtain ⟨xs, xa, xb⟩ := x
        simp only at d1 d2 D S l1 l2
        generalize loK cs a b c d j = lw at *
        generalize inK (drK cs a b c d) j = is at *
        generalize outK (drK cs a b c d) (loK cs a b c d) j = os at *
        go_wp2_with (go_at_call 114; refine Calls.mono (D.out _ ?_ ?_ ?_ ?_) ?_; exact cell_of_block QC.out 0; exact cell_of_block QC.out 1; exact cell_of_block QC.out 2; exact cell_of_block QC.out 3; rintro e w3 ⟨rfl, hB3⟩; have A3 := Lib.hid hB3; have M3 := Lib.hid (MC.out.ab hB3); have Q3 := Lib.hid (Ab.block hB3 QC.out); have d1 := (hB3.cell (p := ⟨b1, o1 + j * 3 + 1, none⟩) z1).trans d1; have d2 := (hB3.cell (p := ⟨b1, o1 + j * 3 + 2, none⟩) z1).trans d2; have z1 := Nat.lt_of_lt_of_le z1 hB3.size; clear hB3)
        have E1 := Lib.hid d1
        have E2 := Lib.hid d2
        have E3 := Lib.hid z1
        clear d1 d2 z1
        generalize wr = W2 at *
        go_loopw [7] (fun i wq => ∃ k : Nat, k ≤ lw ∧ i = .int .i64 (k : Int) ∧ Below w3.heap.size w3 wq) (fun i _ => lw - (intOf i).toNat)
        case atStart => exact ⟨0, Nat.zero_le _, rfl, Below.refl _ _⟩
        case round =>
          obtain ⟨k, hk, rfl, hB⟩ := hrel
          have BK := Lib.hid hB
          have d1 := (hB.cell (p := ⟨b1, o1 + j * 3 + 1, none⟩) E3.out).trans E1.out
          have d2 := (hB.cell (p := ⟨b1, o1 + j * 3 + 2, none⟩) E3.out).trans E2.out
          have z1 := Nat.lt_of_lt_of_le E3.out hB.size
          have QK := Lib.hid (Ab.block hB Q3.out)
          have MK := Lib.hid (M3.out.ab hB)
          have T := S.out (k : Int) (by omega) (by omega)
          clear hB
          by_cases hkl : k < lw
          · rw [l2 k hkl] at T
            have T := Lib.hid T
            clear l1 l2
            go_wp2_with (go_at_call 115; refine Calls.mono (T.out _ ?_ ?_ ?_ ?_) ?_; exact cell_of_block QK.out 0; exact cell_of_block QK.out 1; exact cell_of_block QK.out 2; exact cell_of_block QK.out 3; rintro e w4 ⟨rfl, hB4⟩; have B4 := Lib.hid (BK.out.trans (Below.mono hB4 BK.out.size)); clear hB4)
            exact ⟨⟨k + 1, hkl, by rw [Int.natCast_succ], B4.out⟩, by (simp [intOf]) <;> omega⟩
          · have e : k = lw := by omega
            subst e
            rw [l1] at T
            have T := Lib.hid T
            clear l1 l2 hkl
            go_wp2_with (first
              | (go_at_call 115; refine Calls.mono (T.out _ ?_ ?_ ?_ ?_) ?_; exact cell_of_block QK.out 0; exact cell_of_block QK.out 1; exact cell_of_block QK.out 2; exact cell_of_block QK.out 3; rintro e w4 ⟨rfl, hB4⟩; have M4 := Lib.hid (MK.out.ab hB4); have c4 := cell_of_block M4.out.1.1; have s4 := lt_of_block M4.out.1.1; clear hB4)
              | (at_builtin; refine wpList_append_lies _ rfl _ _ 57 rfl (w.heap.size + 1 + 1) 118 j0 (.agg #[.int .i64 0, .int .i16 0]) 2 16 Try.underlying57 gi gz0 gz1 gz2 rfl (by decide) _ _ _ rfl (M4.out.1.2.2.1.alloc _) ⟨w4.heap.size, 0, none⟩ 1 1 [.int .i64 (j : Int), .int .i16 (k : Int)] rfl rfl (wt_new _ _ _ _) (fun x hx => by simp at hx; rcases hx with rfl | rfl <;> rfl) (by omega) (by unfold maxLen; omega) (by omega) (by simp; omega) _ rfl ?_; intro gg cap2 w5 hown hgrow hat _; have P := Lib.hid (Ms.pushW (M4.out.ab (below_new (Below.refl _ _) (.cells #[.int .i64 (j : Int), .int .i16 (k : Int)] 118))) hown hgrow hat); have c5 := cell_of_block P.out.1; have f5 := free_of_block P.out.1; clear hown hgrow hat c4))
            exact ⟨⟨j + 1, hjl, by rw [Int.natCast_succ], _, _, by rw [Y.out.1, Y.out.2]; exact P.out.2⟩, by (simp [intOf]) <;> omega⟩
      · have Y := Lib.hid (Y.out hp)
        rw [hp] at D
        clear N hp CJ S
        generalize cdAt cs j = x at *
        obtain ⟨xs, xa, xb⟩ := x
        simp only at d1 d2 D
        generalize inK (drK cs a b c d) j = is at *
        generalize outK (drK cs a b c d) (loK cs a b c d) j = os at *
        go_wp2_with (first
          | (go_at_call 114; refine Calls.mono (D.out _ ?_ ?_ ?_ ?_) ?_; exact cell_of_block QC.out 0; exact cell_of_block QC.out 1; exact cell_of_block QC.out 2; exact cell_of_block QC.out 3; rintro e w3 ⟨rfl, hB3⟩; have A3 := Lib.hid hB3; have M3 := Lib.hid (MC.out.ab hB3); have c4 := cell_of_block M3.out.1.1; have s4 := lt_of_block M3.out.1.1; clear hB3)
          | (at_builtin; refine wpList_append_lies _ rfl _ _ 56 rfl (w.heap.size + 1 + 1) 2 i0 (.int .i64 0) 1 8 Try.underlying56 hi hz0 hz1 hz2 rfl (by decide) _ _ _ rfl (M3.out.1.2.1.alloc _) ⟨w3.heap.size, 0, none⟩ 1 1 [.int .i64 (j : Int)] rfl rfl (one_new _ _ _) (fun x hx => by simp at hx; subst hx; rfl) (by omega) (by unfold maxLen; omega) (by omega) (by simp; omega) _ rfl ?_; intro gg cap2 w5 hown hgrow hat _; have P := Lib.hid (Ms.pushI (M3.out.ab (below_new (Below.refl _ _) (.cells #[.int .i64 (j : Int)] 2))) hown hgrow hat); have c5 := cell_of_block P.out.1; have f5 := free_of_block P.out.1; clear hown hgrow hat c4))
        exact ⟨⟨j + 1, hjl, by rw [Int.natCast_succ], _, _, by rw [Y.out.1, Y.out.2]; exact P.out.2⟩, by (simp [intOf]) <;> omega⟩
    · have e : j = cs.length := by omega
      subst e
      have hd : decide ((cs.length : Int) < (cs.length : Int)) = false := by simp
      have mc := cell_of_block MC.out.1.1
      have mb := Lib.hid (lt_of_block MC.out.1.1)
      have z1 := cell_of_block MC.out.2.1
      have z2 := free_of_block MC.out.2.1
      go_wp2
      refine bodyPost_ret (by simp [results, Try.results68, go_sem, z1]; try rfl) rfl ?_
      exact ⟨_, _, rfl, mk_outI MC.out.1.2.1 (by omega) (by omega), mk_outW MC.out.1.2.2.1 (by omega) (by omega), MC.out.1.2.2.2, ms_store MC.out.2.2⟩

theorem sMk_no {w w1 : World} (cs : List Cd) (a b c d : Int) (h : Below w.heap.size w w1) {v0 v1 v2 v3 v4 v5 : Value} : MkR (mkW false cs a b c d) (anC false) w (.returned (.tuple #[.agg #[.int .u64 0, .int .u64 0, .int .u64 0, .int .u64 0, .slice none 0 0, .slice none 0 0], .int .i64 1])) ((((((w1.setCell ⟨w.heap.size + 1, 0, none⟩ v0).setCell ⟨w.heap.size + 1, 1, none⟩ v1).setCell ⟨w.heap.size + 1, 2, none⟩ v2).setCell ⟨w.heap.size + 1, 3, none⟩ v3).setCell ⟨w.heap.size + 1, 4, none⟩ v4).setCell ⟨w.heap.size + 1, 5, none⟩ v5) :=
  ⟨_, _, rfl, own_nil _ _, ownWits_nil _ _, (fun k hk => by cases hk), mk_store h⟩

set_option maxRecDepth 100000 in
set_option maxHeartbeats 3200000 in
theorem sMkA_any (ad : Option Addr) (cs : List Cd) (cap : Nat) (a b c d : Int) (ha : U64 a) (hb : U64 b) (hc : U64 c) (hd : U64 d) (w : World) (hcs : CardsIn w ad cs) :
    Calls Try.prog 28 #[.slice ad cs.length cap, .agg #[.int .u64 a, .int .u64 b, .int .u64 c, .int .u64 d]] w (MkR (mkW (deckOk cs && qOk a b c d) cs a b c d) (anC (deckOk cs && qOk a b c d)) w) := by
  have HB := Lib.hid (block_alloc2 w (.cells #[.int .u64 a, .int .u64 b, .int .u64 c, .int .u64 d] 55) (.cells #[.int .u64 0, .int .u64 0, .int .u64 0, .int .u64 0, .slice none 0 0, .slice none 0 0] 59))
  have B0 := Lib.hid (below_new (below_new (Below.refl w.heap.size w) (.cells #[.int .u64 a, .int .u64 b, .int .u64 c, .int .u64 d] 55)) (.cells #[.int .u64 0, .int .u64 0, .int .u64 0, .int .u64 0, .slice none 0 0, .slice none 0 0] 59))
  have C0 := Lib.hid (cardsIn_below hcs B0.out)
  have V := Lib.hid fun W h => sDeckOk_any ad cs cap W h
  have VQ := Lib.hid fun W h0 h1 h2 h3 => sQOk_any a b c d w.heap.size 0 W h0 h1 h2 h3
  cases hk : deckOk cs
  · rw [hk] at V
    rw [Bool.false_and]
    clear hk ha hb hc hd hcs
    go_enter Try.func28, Try.ntmps28
    go_wp2_with (go_at_call 60; refine (V.out _ C0.out).mono ?_; rintro e w1 ⟨rfl, hB⟩; have b1 := Lib.hid (B0.out.trans (Below.mono hB B0.out.size)); have m1 := Ab.block hB HB.out.2; have x1 := cell_of_block m1; have f1 := free_of_block m1; clear hB m1)
    refine bodyPost_ret (by simp [results, Try.results28, go_sem, x1]; try rfl) rfl ?_
    exact sMk_no cs a b c d b1.out
  · rw [hk] at V
    rw [Bool.true_and]
    cases hq : qOk a b c d
    · rw [hq] at VQ
      clear hk hq ha hb hc hd hcs
      go_enter Try.func28, Try.ntmps28
      go_wp2_with (first
        | (go_at_call 60; refine (V.out _ C0.out).mono ?_; rintro e w1 ⟨rfl, hB⟩; have b1 := Lib.hid (B0.out.trans (Below.mono hB B0.out.size)); have q1 := Lib.hid (Ab.block hB HB.out.1); have m1 := Lib.hid (Ab.block hB HB.out.2); clear hB)
        | (go_at_call 67; refine Calls.mono (VQ.out _ ?_ ?_ ?_ ?_) ?_; exact cell_of_block q1.out 0; exact cell_of_block q1.out 1; exact cell_of_block q1.out 2; exact cell_of_block q1.out 3; rintro e w2 ⟨rfl, hB⟩; have b2 := Lib.hid (b1.out.trans (Below.mono hB b1.out.size)); have m2 := Lib.hid (Ab.block hB m1.out); clear hB; have x1 := cell_of_block m2.out; have f1 := free_of_block m2.out))
      refine bodyPost_ret (by simp [results, Try.results28, go_sem, x1]; try rfl) rfl ?_
      exact sMk_no cs a b c d b2.out
    · rw [hq] at VQ
      have A := Lib.hid fun W h1 h2 => sMkL_any ad cs cap a b c d ha hb hc hd hq hk w.heap.size W h1 h2
      rw [mk_yes]
      generalize inK (drK cs a b c d) cs.length = is at *
      generalize outK (drK cs a b c d) (loK cs a b c d) cs.length = os at *
      have HC := Lib.hid hcs
      clear hk hq ha hb hc hd hcs
      go_enter Try.func28, Try.ntmps28
      go_wp2_with (first
        | (go_at_call 60; refine (V.out _ C0.out).mono ?_; rintro e w1 ⟨rfl, hB⟩; have b1 := Lib.hid (B0.out.trans (Below.mono hB B0.out.size)); have q1 := Lib.hid (Ab.block hB HB.out.1); have m1 := Lib.hid (Ab.block hB HB.out.2); clear hB)
        | (go_at_call 67; refine Calls.mono (VQ.out _ ?_ ?_ ?_ ?_) ?_; exact cell_of_block q1.out 0; exact cell_of_block q1.out 1; exact cell_of_block q1.out 2; exact cell_of_block q1.out 3; rintro e w2 ⟨rfl, hB⟩; have b2 := Lib.hid (b1.out.trans (Below.mono hB b1.out.size)); have q2 := Lib.hid (Ab.block hB q1.out); have m2 := Lib.hid (Ab.block hB m1.out); clear hB)
        | (go_at_call 68; refine (A.out _ (cardsIn_below HC.out b2.out) q2.out).mono ?_; rintro e w3 ⟨v, u, rfl, hO, hW, hA, hB⟩; obtain ⟨av, cv, rfl, _⟩ := ownInts_in hO; obtain ⟨au, cu, rfl, _⟩ := ownWits_in hW; have O3 := Lib.hid hO; have W3 := Lib.hid hW; have A3 := Lib.hid hA; have b3 := Lib.hid (b2.out.trans (Below.mono hB b2.out.size)); have m3 := Lib.hid (Ab.block hB m2.out); have x1 := cell_of_block m3.out; have f1 := free_of_block m3.out; clear hB hO hW hA))
      refine bodyPost_ret (by simp [results, Try.results28, go_sem, x1]; try rfl) rfl ?_
      exact ⟨_, _, rfl, mk_outI O3.out b2.out.size (by have := lt_of_block m2.out; omega), mk_outW W3.out b2.out.size (by have := lt_of_block m2.out; omega), A3.out, mk_store b3.out⟩
end Go.Proofs.Ytanocllpmjhblaa

namespace Go.Proofs.Ytanocllpmjhblaa
open Go.ChangeShapes Go.WideShapes Go.ChangeAt Go.RowKit

theorem ss_ne {w : World} {B C e f k l n m : Nat} {u v : Value} {xs ys : List Value} (h : w.ownsRow B e k v n xs) (g : w.ownsRow C f l u m ys) (hne : e ≠ f) : ∀ j, v.ownBlock = some j → u.ownBlock ≠ some j := by
  obtain ⟨_, h2⟩ := h
  obtain ⟨_, g2⟩ := g
  intro j hj hk
  rcases h2 with ⟨rfl, _⟩ | ⟨b, _, _, rfl, _, hb, _⟩
  · cases hj
  rcases g2 with ⟨rfl, _⟩ | ⟨b2, _, _, rfl, _, hb2, _⟩
  · cases hk
  cases hj
  cases hk
  have e2 := hb.symm.trans hb2
  injection e2 with e2
  injection e2 with _ e2 _
  exact hne e2
theorem ints_grown {w w' : World} {B : Nat} {v : Value} {r : Option Nat} {zs : List Int} (h : OwnInts B zs v w) (hg : w.grownBy w' r) (hne : ∀ j, v.ownBlock = some j → r ≠ some j) : OwnInts B zs v w' := by
  obtain ⟨h1, h2⟩ := h
  refine ⟨h1, ?_⟩
  rcases h2 with hn | ⟨b, cap, cur, rfl, hB, hb, rest⟩
  · exact .inl hn
  · exact .inr ⟨b, cap, cur, rfl, hB, (hg.block b (Array.getElem?_eq_some_iff.1 hb).1 (fun e => hne b rfl e.symm)).trans hb, rest⟩
theorem ints_weaken {B B' : Nat} {zs : List Int} {v : Value} {w : World} (h : OwnInts B zs v w) (hb : B' ≤ B) : OwnInts B' zs v w := by
  obtain ⟨h1, h2⟩ := h
  refine ⟨h1, ?_⟩
  rcases h2 with hn | ⟨g, cap, cur, rfl, hB, rest⟩
  · exact .inl hn
  · exact .inr ⟨g, cap, cur, rfl, Nat.le_trans hb hB, rest⟩
theorem ints_one {B : Nat} {zs : List Int} {v : Value} {w : World} (h : OwnInts B zs v w) : v.oneCell' = true := by
  obtain ⟨_, h2⟩ := h
  rcases h2 with ⟨rfl, _⟩ | ⟨g, cap, cur, rfl, _⟩ <;> rfl
/-- Do two slices lie in different blocks (or in none)? -/
def Ap (u v : Value) : Prop := u.ownBlock = none ∨ u.ownBlock ≠ v.ownBlock
/-- A row of rows of numbers: each in a block of its own. -/
def OwnSS (B : Nat) (gs : List (List Int)) (v : Value) (w : World) : Prop := ∃ xs : List Value, w.ownsRow B 56 1 v gs.length xs ∧ xs.length = gs.length ∧ (∀ i, i < gs.length → ∃ u, xs[i]? = some u ∧ OwnInts B (gs.getD i []) u w) ∧ ∀ (i j : Nat) (u u' : Value), i < j → xs[i]? = some u → xs[j]? = some u' → Ap u u' ∧ Ap u' u
theorem ownSS_nil (B : Nat) (w : World) : OwnSS B [] (.slice none 0 0) w := ⟨[], World.ownsRow_nil w B _ _, rfl, fun i h => absurd h (Nat.not_lt_zero _), fun (i j : Nat) (u u' : Value) _ (h : ([] : List Value)[i]? = some u) => by simp at h⟩
theorem ownSS_none {w : World} {n B : Nat} (hn : n = w.heap.size) (hB : B ≤ w.heap.size) : OwnSS B [] (.slice (some ⟨n, 0, none⟩) 0 0) (w.alloc (.cells #[] 56)) := by
  subst hn; exact ⟨[], World.ownsRow_made w #[] 0 hB (Nat.zero_le _) rfl, rfl, fun i h => absurd h (Nat.not_lt_zero _), fun (i j : Nat) (u u' : Value) _ (h : ([] : List Value)[i]? = some u) => by simp at h⟩
theorem OwnSS.kept {B : Nat} {gs : List (List Int)} {v : Value} {w w' : World} (h : OwnSS B gs v w) (hb : Below w.heap.size w w') : OwnSS B gs v w' := by
  obtain ⟨xs, h1, h2, h3, h4⟩ := h
  refine ⟨xs, ?_, h2, fun i hi => (h3 i hi).imp fun u hu => ⟨hu.1, ownInts_kept hu.2 hb⟩, h4⟩
  obtain ⟨a1, a2⟩ := h1
  refine ⟨a1, ?_⟩
  rcases a2 with hn | ⟨b, cap, cur, rfl, hB, hh, rest⟩
  · exact .inl hn
  · exact .inr ⟨b, cap, cur, rfl, hB, (hb.block b (Array.getElem?_eq_some_iff.1 hh).1).trans hh, rest⟩
theorem OwnSS.weaken {B B' : Nat} {gs : List (List Int)} {v : Value} {w : World} (h : OwnSS B gs v w) (hb : B' ≤ B) : OwnSS B' gs v w := by
  obtain ⟨xs, h1, h2, h3, h4⟩ := h
  refine ⟨xs, ?_, h2, fun i hi => (h3 i hi).imp fun u hu => ⟨hu.1, ints_weaken hu.2 hb⟩, h4⟩
  obtain ⟨a1, a2⟩ := h1
  refine ⟨a1, ?_⟩
  rcases a2 with hn | ⟨b, cap, cur, rfl, hB, rest⟩
  · exact .inl hn
  · exact .inr ⟨b, cap, cur, rfl, Nat.le_trans hb hB, rest⟩
/-- A row is pushed: what an append leaves. -/
theorem ownSS_push {B : Nat} {gs : List (List Int)} {zs : List Int} {v v' u : Value} {w w' : World} {xs : List Value} (hx : xs.length = gs.length) (h3 : ∀ i, i < gs.length → ∃ u, xs[i]? = some u ∧ OwnInts B (gs.getD i []) u w) (h4 : ∀ (i j : Nat) (u u' : Value), i < j → xs[i]? = some u → xs[j]? = some u' → Ap u u' ∧ Ap u' u)
    (hv : w.ownsRow B 56 1 v gs.length xs) (hu : OwnInts B zs u w) (hg : w.grownBy w' v.ownBlock) (hap : ∀ (i : Nat) (u' : Value), xs[i]? = some u' → Ap u u' ∧ Ap u' u) (ho : w'.ownsRow B 56 1 v' (gs.length + 1) (xs ++ [u])) : OwnSS B (gs ++ [zs]) v' w' := by
  have key : ∀ {ys : List Int} {x : Value}, OwnInts B ys x w → OwnInts B ys x w' := fun hy => ints_grown hy hg (fun j hj => ss_ne hy hv (by decide) j hj)
  refine ⟨xs ++ [u], by rw [List.length_append]; exact ho, by simp [hx], fun i hi => ?_, fun i j a b hij ha hb => ?_⟩
  · rw [List.length_append, List.length_singleton] at hi
    by_cases e : i < gs.length
    · obtain ⟨a, ha, hq⟩ := h3 i e
      refine ⟨a, by rw [List.getElem?_append_left (by omega)]; exact ha, ?_⟩
      rw [show (gs ++ [zs]).getD i [] = gs.getD i [] by simp [List.getD, List.getElem?_append_left e]]
      exact key hq
    · have : i = gs.length := by omega
      subst this
      refine ⟨u, by rw [List.getElem?_append_right (by omega), hx, Nat.sub_self]; rfl, ?_⟩
      rw [show (gs ++ [zs]).getD gs.length [] = zs by simp [List.getD]]
      exact key hu
  · have hi : i < xs.length + 1 := by have := (List.getElem?_eq_some_iff.1 ha).1; simpa using this
    have hj : j < xs.length + 1 := by have := (List.getElem?_eq_some_iff.1 hb).1; simpa using this
    have ia : xs[i]? = some a := by rwa [List.getElem?_append_left (by omega)] at ha
    by_cases e : j < xs.length
    · rw [List.getElem?_append_left e] at hb
      exact h4 i j a b hij ia hb
    · have : j = xs.length := by omega
      subst this
      rw [List.getElem?_append_right (Nat.le_refl _), Nat.sub_self] at hb
      cases hb
      exact ⟨(hap i a ia).2, (hap i a ia).1⟩
/-- Rows of numbers that lie in memory. -/
def SsIn (w : World) (a : Option Addr) (gs : List (List Int)) : Prop := ∀ i, i < gs.length → ∃ b off c n, a = some ⟨b, off, none⟩ ∧ b < w.heap.size ∧ w.cell? ⟨b, off + i, none⟩ = some (.slice c (gs.getD i []).length n) ∧ IntsIn w c (gs.getD i [])
theorem ssIn_below {w w' : World} {a : Option Addr} {gs : List (List Int)} (h : SsIn w a gs) (hb : Below w.heap.size w w') : SsIn w' a gs := fun i hi => by
  obtain ⟨b, off, c, n, ha, hlt, hc, hi⟩ := h i hi
  exact ⟨b, off, c, n, ha, Nat.lt_of_lt_of_le hlt hb.size, (hb.cell hlt).trans hc, intsIn_below hi hb⟩
theorem OwnSS.in {B : Nat} {gs : List (List Int)} {v : Value} {w : World} (h : OwnSS B gs v w) : ∃ a c, v = .slice a gs.length c ∧ SsIn w a gs := by
  obtain ⟨xs, h1, h2, h3, _⟩ := h
  have h0 := h1
  obtain ⟨_, a2⟩ := h1
  rcases a2 with ⟨rfl, hn⟩ | ⟨g, cap, cur, rfl, hb, hg, _⟩
  · exact ⟨none, 0, by rw [hn], fun i hi => by omega⟩
  · refine ⟨_, cap, rfl, fun i hi => ?_⟩
    obtain ⟨u, hu, ho⟩ := h3 i hi
    obtain ⟨c, n, rfl, hin⟩ := ownInts_in ho
    exact ⟨g, 0, c, n, rfl, (Array.getElem?_eq_some_iff.1 hg).1, by rw [Nat.zero_add, World.ownsRow.cellAt h0 _ (by omega)]; exact hu, hin⟩

set_option maxHeartbeats 1600000 in
theorem eqSS_same (a b : Option Addr) (gs : List (List Int)) (c d : Nat) (w : World) (ha : SsIn w a gs) (hb : SsIn w b gs) (hl : gs.length ≤ 1048576) (hm : ∀ i, i < gs.length → (gs.getD i []).length ≤ 1048576) :
    Calls Try.prog 23 #[.slice a gs.length c, .slice b gs.length d] w fun e w' => e = .returned (.bool true) ∧ Below w.heap.size w w' := by
  have A := Lib.hid ha
  have B := Lib.hid hb
  have M := Lib.hid hm
  clear ha hb hm
  go_enter Try.func23, Try.ntmps23
  go_wp2
  go_loopw [5] (fun i wr => ∃ k : Nat, k ≤ gs.length ∧ i = .int .i64 k ∧ Below w.heap.size w wr) (fun i _ => gs.length - (intOf i).toNat)
  case atStart => exact ⟨0, Nat.zero_le _, rfl, Below.refl _ _⟩
  case round =>
    obtain ⟨k, hk, rfl, hB2⟩ := hrel
    have B3 := Lib.hid hB2
    by_cases hkl : k < gs.length
    · obtain ⟨b1, o1, a1, n1, rfl, h1, p0, p1⟩ := A.out k hkl
      obtain ⟨b2, o2, a2, n2, rfl, h2, q0, q1⟩ := B.out k hkl
      have g0 := (hB2.cell (p := ⟨b1, o1 + k, none⟩) h1).trans p0
      have g2 := (hB2.cell (p := ⟨b2, o2 + k, none⟩) h2).trans q0
      have l1 : b1 < wr.heap.size := Nat.lt_of_lt_of_le h1 hB2.size
      have l2 : b2 < wr.heap.size := Nat.lt_of_lt_of_le h2 hB2.size
      have hd : decide ((k : Int) < (gs.length : Int)) = true := by simpa using hkl
      have i1 : (0 : Int) ≤ (k : Int) := by omega
      have i2 : (k : Int) < (gs.length : Int) := by omega
      have I1 := Lib.hid (intsIn_below p1 hB2)
      have I2 := Lib.hid (intsIn_below q1 hB2)
      have LL := Lib.hid (M.out k hkl)
      clear hB2 p0 p1 q0 q1
      generalize gs.getD k [] = zs at *
      have E := Lib.hid fun W (hb : Below wr.heap.size wr W) => eqInts_same a1 a2 zs n1 n2 W (intsIn_below I1.out hb) (intsIn_below I2.out hb) (Nat.le_trans LL.out (by omega))
      have hbw := cell_bw
      go_upto_region 6 with fail
      refine region_bw (by kernel_rfl) (by kernel_rfl) ?_
      repeat (go_big_quiet_step (first | (go_at_call 63; refine calls_bw (E.out _ ?_); exact below_bw _ _)))
      refine wpQuiet_nil ?_; intro wq hq
      have hq := Lib.hid (below_of_bw hq)
      clear hbw
      go_wp2
      go_roundw
      case rel => exact ⟨k + 1, hkl, by go_num, B3.out.trans (Below.mono hq.out B3.out.size)⟩
      case measure => simp [intOf]; omega
    · have e : k = gs.length := by omega
      subst e
      clear hB2
      go_wp2
      go_ret
      exact ⟨rfl, B3.out⟩

/-! ### Marks -/
/-- Nothing lies otherwise but the slice's own block. -/
structure OthV (v : Value) (w w' : World) : Prop where
  size : w'.heap.size = w.heap.size
  block : ∀ j, v.ownBlock ≠ some j → w'.heap[j]? = w.heap[j]?
set_option maxHeartbeats 1600000 in
theorem markIntsV_any (B : Nat) (zs : List Int) (v : Value) (k : Int) (w : World) (h : OwnInts B zs v w) (hn : zs.length ≤ 1048576) (k0 : 0 ≤ k) (k1 : k ≤ 1000000) :
    Calls Try.prog 65 #[v, .int .i64 k] w fun e w' => e = .returned (.int .i64 (k + (zs.length : Int))) ∧ OwnInts B (marks k zs.length) v w' ∧ Below B w w' ∧ OthV v w w' := by
  obtain ⟨h1, h2⟩ := h
  rcases h2 with ⟨rfl, hz⟩ | ⟨g, cap, cur, rfl, hb, hg, hcap, hmax, hsz, htk⟩
  · have e : zs = [] := List.length_eq_zero_iff.1 hz
    subst e
    go_enter Try.func65, Try.ntmps65
    go_wp2
    refine wp_loop_rounds 1 ?_
    rw [rounds_succ]; go_wp2
    go_ret
    exact ⟨by simp, ⟨by simp [marks], .inl ⟨rfl, by simp [marks]⟩⟩, Below.refl _ _, ⟨rfl, fun _ _ => rfl⟩⟩
  · have O : w.ownsRow B 2 1 (.slice (some ⟨g, 0, none⟩) zs.length cap) zs.length ((markTo zs k 0).map (Value.int .i64)) := by
      rw [markTo_zero]; exact ⟨h1, .inr ⟨g, cap, cur, rfl, hb, hg, hcap, hmax, hsz, htk⟩⟩
    have hgB := Lib.hid hb
    clear h1 hg hcap hsz htk hmax cur
    go_enter Try.func65, Try.ntmps65
    go_wp2
    go_loopw [1, 5] (fun q i wr => ∃ j : Nat, j ≤ zs.length ∧ i = .int .i64 j ∧ q = .int .i64 (k + (j : Int)) ∧ wr.ownsRow B 2 1 (.slice (some ⟨g, 0, none⟩) zs.length cap) zs.length ((markTo zs k j).map (Value.int .i64)) ∧ Below B w wr ∧ OthV (.slice (some ⟨g, 0, none⟩) zs.length cap) w wr) (fun _ i _ => zs.length - (intOf i).toNat)
    case atStart => exact ⟨0, Nat.zero_le _, rfl, by simp, O, Below.refl _ _, ⟨rfl, fun _ _ => rfl⟩⟩
    case round =>
      obtain ⟨j, hj, rfl, rfl, O2, hB2, hO2⟩ := hrel
      clear O
      have O3 := Lib.hid O2
      have B3 := Lib.hid hB2
      have T3 := Lib.hid hO2
      by_cases hkl : j < zs.length
      · have hd : decide ((j : Int) < (zs.length : Int)) = true := by simpa using hkl
        have v1 : IntKind.i64.wrap (k + (j : Int)) = k + (j : Int) := IntWalk.i64_in _ (by omega)
        have v2 : IntKind.i64.wrap (k + (j : Int) + 1) = k + (j : Int) + 1 := IntWalk.i64_in _ (by omega)
        have hdst := O2.cellAt j (by omega)
        rw [List.getElem?_map, List.getElem?_eq_getElem (by rw [markTo_len]; exact hkl)] at hdst
        simp only [Option.map_some] at hdst
        generalize (markTo zs k j)[j]'(by rw [markTo_len]; exact hkl) = old at hdst
        have hfz := O2.frozenAt j
        clear O2 hB2 hO2
        go_wp2
        have hs := O3.out.stored j (.int .i64 (k + (j : Int)))
        rw [markTo_next zs k j hkl] at hs
        refine ⟨⟨j + 1, hkl, by rw [Int.natCast_succ], by rw [Int.natCast_succ, Int.add_assoc], hs.1, B3.out.setCell hgB.out _, ⟨by rw [World.size_setCell]; exact T3.out.size, fun i hi => (Below.heap_setCell _ _ _ _ (fun e => hi (by subst e; rfl))).trans (T3.out.block i hi)⟩⟩, by simp [intOf]; omega⟩
      · have e : j = zs.length := by omega
        subst e
        clear O2 hB2 hO2
        go_wp2
        go_ret
        have o := O3.out
        rw [markTo_all] at o
        exact ⟨rfl, by unfold OwnInts; rw [marks_len]; exact o, B3.out, T3.out⟩
/-- The first j rows marked from k on, the others as they were. -/
def mkSS (k : Nat) (gs : List (List Int)) : Nat → Nat × List (List Int)
  | 0 => (k, gs)
  | j + 1 => ((mkSS k gs j).1 + (gs.getD j []).length, (mkSS k gs j).2.set j (marks ((mkSS k gs j).1 : Int) (gs.getD j []).length))
theorem mkSS_len (k : Nat) (gs : List (List Int)) : ∀ j, (mkSS k gs j).2.length = gs.length
  | 0 => rfl
  | j + 1 => by show ((mkSS k gs j).2.set _ _).length = _; rw [List.length_set]; exact mkSS_len k gs j
theorem mkSS_old (k : Nat) (gs : List (List Int)) : ∀ j i, j ≤ i → (mkSS k gs j).2.getD i [] = gs.getD i []
  | 0, _, _ => rfl
  | j + 1, i, h => by
    show ((mkSS k gs j).2.set _ _).getD i [] = _
    rw [List.getD, List.getElem?_set, if_neg (by omega)]
    exact mkSS_old k gs j i (by omega)
theorem mkSS_new (k : Nat) (gs : List (List Int)) : ∀ j i, i < j → j ≤ gs.length → (mkSS k gs j).2.getD i [] = marks ((mkSS k gs i).1 : Int) (gs.getD i []).length
  | 0, _, h, _ => absurd h (Nat.not_lt_zero _)
  | j + 1, i, h, hj => by
    show ((mkSS k gs j).2.set _ _).getD i [] = _
    rw [List.getD, List.getElem?_set]
    by_cases e : j = i
    · subst e; rw [if_pos rfl, if_pos (by rw [mkSS_len]; omega)]; rfl
    · rw [if_neg e]; exact mkSS_new k gs j i (by omega) (by omega)
theorem mkSS_mono (k : Nat) (gs : List (List Int)) (i : Nat) : ∀ d, (mkSS k gs i).1 ≤ (mkSS k gs (i + d)).1
  | 0 => Nat.le_refl _
  | d + 1 => Nat.le_trans (mkSS_mono k gs i d) (Nat.le_add_right _ _)
theorem set_row {xs : List Value} {B : Nat} {gs gs' : List (List Int)} {u0 : Value} {j : Nat} {w w' : World} (_hx : xs.length = gs.length) (hl : gs'.length = gs.length) (h3 : ∀ i, i < gs.length → ∃ u, xs[i]? = some u ∧ OwnInts B (gs.getD i []) u w) (h4 : ∀ (i j : Nat) (u u' : Value), i < j → xs[i]? = some u → xs[j]? = some u' → Ap u u' ∧ Ap u' u)
    (hu : xs[j]? = some u0) (ho : OthV u0 w w') (hn : OwnInts B (gs'.getD j []) u0 w') (hsame : ∀ i, i ≠ j → gs'.getD i [] = gs.getD i []) : ∀ i, i < gs'.length → ∃ u, xs[i]? = some u ∧ OwnInts B (gs'.getD i []) u w' := fun i hi => by
  by_cases e : i = j
  · subst e; exact ⟨u0, hu, hn⟩
  · obtain ⟨u, h1, h2⟩ := h3 i (by omega)
    refine ⟨u, h1, ?_⟩
    rw [hsame i e]
    have ap : Ap u u0 := by
      rcases Nat.lt_or_gt_of_ne e with h | h
      · exact (h4 i j u u0 h h1 hu).1
      · exact (h4 j i u0 u h hu h1).2
    obtain ⟨a1, a2⟩ := h2
    refine ⟨a1, ?_⟩
    rcases a2 with hn | ⟨b, cap, cur, rfl, hB, hh, rest⟩
    · exact .inl hn
    · refine .inr ⟨b, cap, cur, rfl, hB, (ho.block b (fun e1 => ?_)).trans hh, rest⟩
      rcases ap with ap | ap
      · cases ap
      · exact ap (by rw [e1]; rfl)

/-- Total length. -/
def totSS (gs : List (List Int)) : Nat := (mkSS 0 gs gs.length).1
theorem mkSS_add (k : Nat) (gs : List (List Int)) : ∀ j, (mkSS k gs j).1 = k + (mkSS 0 gs j).1
  | 0 => rfl
  | j + 1 => by
    show (mkSS k gs j).1 + _ = k + ((mkSS 0 gs j).1 + _)
    rw [mkSS_add k gs j]; omega
theorem mkSS_le (k : Nat) (gs : List (List Int)) {j : Nat} (h : j ≤ gs.length) : (mkSS k gs j).1 ≤ k + totSS gs := by
  have := mkSS_mono 0 gs j (gs.length - j)
  rw [show j + (gs.length - j) = gs.length by omega] at this
  rw [mkSS_add]; unfold totSS; omega

set_option maxHeartbeats 1600000 in
theorem markSS_any (B : Nat) (gs : List (List Int)) (v : Value) (k : Nat) (w : World) (h : OwnSS B gs v w) (hl : gs.length ≤ 1048576) (hm : ∀ i, i < gs.length → (gs.getD i []).length ≤ 1048576) (hk : k + totSS gs ≤ 1000000) :
    Calls Try.prog 26 #[v, .int .i64 (k : Int)] w fun e w' => e = .returned (.int .i64 ((k + totSS gs : Nat) : Int)) ∧ OwnSS B (mkSS k gs gs.length).2 v w' ∧ Below B w w' := by
  have H := Lib.hid h
  have M := Lib.hid hm
  obtain ⟨a, c, rfl, _⟩ := h.in
  clear h hm
  go_enter Try.func26, Try.ntmps26
  go_wp2
  go_loopw [1, 5] (fun q i wr => ∃ j : Nat, j ≤ gs.length ∧ i = .int .i64 j ∧ q = .int .i64 ((mkSS k gs j).1 : Int) ∧ OwnSS B (mkSS k gs j).2 (.slice a gs.length c) wr ∧ Below B w wr) (fun _ i _ => gs.length - (intOf i).toNat)
  case atStart => exact ⟨0, Nat.zero_le _, rfl, rfl, H.out, Below.refl _ _⟩
  case round =>
    obtain ⟨j, hj, rfl, rfl, O, hB⟩ := hrel
    have OO := Lib.hid O
    have BB := Lib.hid hB
    have LE := Lib.hid (mkSS_le k gs hj)
    by_cases hkl : j < gs.length
    · have hd : decide ((j : Int) < (gs.length : Int)) = true := by simpa using hkl
      have LN := mkSS_len k gs j
      obtain ⟨xs, x1, x2, x3, x4⟩ := O
      obtain ⟨u, hu, hO⟩ := x3 j (by omega)
      rw [mkSS_old k gs j j (Nat.le_refl _)] at hO
      obtain ⟨au, cu, rfl, _⟩ := ownInts_in hO
      have hx := x1
      obtain ⟨_, hx2⟩ := hx
      rcases hx2 with ⟨hn, hz⟩ | ⟨g, cap, cur, hv, hgB, hg, _⟩
      · rw [LN] at hz; omega
      injection hv with ha hv2 hv3
      clear hv2 hv3
      subst ha
      have x1' := x1
      rw [LN] at x1'
      have cell := World.ownsRow.cellAt x1' j (by omega)
      rw [hu] at cell
      clear x1'
      have gl := (Array.getElem?_eq_some_iff.1 hg).1
      have MK := Lib.hid (markIntsV_any B (gs.getD j []) (.slice au (gs.getD j []).length cu) ((mkSS k gs j).1 : Int) wr hO (M.out j hkl) (by omega) (by have := LE.out; omega))
      have NX : ∀ W, OthV (.slice au (gs.getD j []).length cu) wr W → OwnInts B (marks ((mkSS k gs j).1 : Int) (gs.getD j []).length) (.slice au (gs.getD j []).length cu) W → OwnSS B (mkSS k gs (j + 1)).2 (.slice (some ⟨g, 0, none⟩) gs.length c) W := fun W ho hn => by
        have e1 : (mkSS k gs (j + 1)).2.getD j [] = marks ((mkSS k gs j).1 : Int) (gs.getD j []).length := mkSS_new k gs (j + 1) j (Nat.lt_succ_self j) hkl
        refine ⟨xs, ?_, by rw [mkSS_len]; omega, set_row (gs := (mkSS k gs j).2) (gs' := (mkSS k gs (j + 1)).2) x2 (by rw [mkSS_len, mkSS_len]) x3 x4 hu ho (by rw [e1]; exact hn) (fun i hi => ?_), x4⟩
        · rw [mkSS_len]
          rw [LN] at x1
          obtain ⟨a1, a2⟩ := x1
          refine ⟨a1, ?_⟩
          rcases a2 with hn2 | ⟨b, cap2, cur2, hv2, hB2, hh, rest⟩
          · exact .inl hn2
          · injection hv2 with hb2 _ hc2
            injection hb2 with hb2
            injection hb2 with hb2
            subst hb2
            subst hc2
            have x9 : wr.ownsRow B 56 1 (.slice (some ⟨g, 0, none⟩) gs.length c) gs.length xs := ⟨a1, .inr ⟨g, c, cur2, rfl, hB2, hh, rest⟩⟩
            refine .inr ⟨g, c, cur2, rfl, hB2, (ho.block g (fun e1 => ss_ne x9 hO (by decide) g rfl e1)).trans hh, rest⟩
        · show ((mkSS k gs j).2.set j _).getD i [] = _
          rw [List.getD, List.getElem?_set, if_neg (Ne.symm hi)]
          rfl
      have NX := Lib.hid NX
      have i1 : (0 : Int) ≤ (j : Int) := by omega
      have i2 : (j : Int) < (gs.length : Int) := by omega
      have S1 := Lib.hid (show ((mkSS k gs (j + 1)).1 : Int) = ((mkSS k gs j).1 : Int) + ((gs.getD j []).length : Int) from by show (((mkSS k gs j).1 + (gs.getD j []).length : Nat) : Int) = _; rw [Int.natCast_add])
      clear x1 x2 x3 x4 hu hO hg hB hgB LN
      generalize (gs.getD j []).length = n at *
      generalize ((mkSS k gs j).1 : Int) = q at *
      go_wp2_with (go_at_call 65; refine MK.out.mono ?_; rintro e w2 ⟨rfl, hO2, hB2, hT2⟩; have O2 := Lib.hid (NX.out _ hT2 hO2); have B2 := Lib.hid (BB.out.trans hB2); clear hO2 hB2 hT2)
      exact ⟨⟨j + 1, hkl, by rw [Int.natCast_succ], by rw [S1.out], O2.out, B2.out⟩, by (simp [intOf]) <;> omega⟩
    · have e : j = gs.length := by omega
      subst e
      have hd : decide ((gs.length : Int) < (gs.length : Int)) = false := by simp
      have E := Lib.hid (mkSS_add k gs gs.length)
      clear O hB
      go_wp2
      go_ret
      exact ⟨by rw [E.out]; rfl, OO.out, BB.out⟩

set_option maxHeartbeats 1600000 in
theorem heldSS_any (a : Option Addr) (gs : List (List Int)) (k : Nat) (c n : Nat) (hn : n = gs.length) (w : World) (h : SsIn w a (mkSS k gs gs.length).2) (hl : gs.length ≤ 1048576) (hm : ∀ i, i < gs.length → (gs.getD i []).length ≤ 1048576) (hk : k + totSS gs ≤ 1000000) :
    Calls Try.prog 27 #[.slice a n c, .int .i64 (k : Int)] w fun e w' => e = .returned (.int .i64 ((k + totSS gs : Nat) : Int)) ∧ w = w' := by
  subst hn
  have H := Lib.hid h
  have M := Lib.hid hm
  clear h hm
  go_enter Try.func27, Try.ntmps27
  go_wp2
  go_loop [1, 5] (fun q i => ∃ j : Nat, j ≤ gs.length ∧ i = .int .i64 j ∧ q = .int .i64 ((mkSS k gs j).1 : Int)) (fun _ i => gs.length - (intOf i).toNat)
  case atStart => exact ⟨0, Nat.zero_le _, rfl, rfl⟩
  case round =>
    obtain ⟨j, hj, rfl, rfl⟩ := hrel
    have LE := Lib.hid (mkSS_le k gs hj)
    by_cases hkl : j < gs.length
    · have hd : decide ((j : Int) < (gs.length : Int)) = true := by simpa using hkl
      obtain ⟨b, off, c1, n1, rfl, hb, hc, hi⟩ := H.out j (by rw [mkSS_len]; exact hkl)
      rw [mkSS_new k gs gs.length j hkl (Nat.le_refl _)] at hc hi
      rw [marks_len] at hc
      have HE := Lib.hid (heldInts_any c1 ((mkSS k gs j).1 : Int) (gs.getD j []).length n1 w hi (Nat.le_trans (M.out j hkl) (by omega)) (by omega) (by have := LE.out; omega))
      have i1 : (0 : Int) ≤ (j : Int) := by omega
      have i2 : (j : Int) < (gs.length : Int) := by omega
      have S1 := Lib.hid (show ((mkSS k gs (j + 1)).1 : Int) = ((mkSS k gs j).1 : Int) + ((gs.getD j []).length : Int) from by show (((mkSS k gs j).1 + (gs.getD j []).length : Nat) : Int) = _; rw [Int.natCast_add])
      have ng : decide (((mkSS k gs j).1 : Int) + ((gs.getD j []).length : Int) < 0) = false := decide_eq_false (by omega)
      clear hi
      generalize (gs.getD j []).length = n at *
      generalize ((mkSS k gs j).1 : Int) = q at *
      go_wp2_with (go_at_call 66; refine HE.out.mono ?_; rintro e w2 ⟨rfl, rfl⟩)
      exact ⟨⟨j + 1, hkl, by rw [Int.natCast_succ], by rw [S1.out]⟩, by (simp [intOf]) <;> omega⟩
    · have e : j = gs.length := by omega
      subst e
      have hd : decide ((gs.length : Int) < (gs.length : Int)) = false := by simp
      have E := Lib.hid (mkSS_add k gs gs.length)
      go_wp2
      go_ret
      exact ⟨by rw [E.out]; rfl, rfl⟩
end Go.Proofs.Ytanocllpmjhblaa

namespace Go.Proofs.Ytanocllpmjhblaa
open Go.ChangeShapes Go.WideShapes Go.ChangeAt Go.RowKit

/-- The witness that is written with the number q. -/
def mrkW (q : Nat) : Wt := ⟨(q : Int), (q : Int) + 1⟩
def MarkedW (k j : Nat) (ds : List Wt) : Prop := ∀ l, l < j → wtAt ds l = mrkW (k + 2 * l)
theorem markedW_next {k j : Nat} {ds : List Wt} (h : MarkedW k j ds) (hj : j < ds.length) : MarkedW k (j + 1) (ds.set j (mrkW (k + 2 * j))) := by
  intro l hl
  unfold wtAt
  rw [List.getD, List.getElem?_set]
  by_cases e : j = l
  · subst e; simp [hj]
  · rw [if_neg e]; exact h l (by omega)

set_option maxRecDepth 100000 in
set_option maxHeartbeats 3200000 in
theorem markWits_any (B : Nat) (ms : List Wt) (v : Value) (k : Nat) (w : World) (h : OwnWits B ms v w) (hk : k + 2 * ms.length ≤ 30000) :
    Calls Try.prog 75 #[v, .int .i64 (k : Int)] w fun e w' => e = .returned (.int .i64 ((k + 2 * ms.length : Nat) : Int)) ∧ (∃ ds, ds.length = ms.length ∧ MarkedW k ds.length ds ∧ OwnWits B ds v w') ∧ Below B w w' ∧ OthV v w w' := by
  obtain ⟨h1, h2⟩ := h
  rcases h2 with ⟨rfl, hz⟩ | ⟨g, cap, cur, rfl, hb, hg, hcap, hmax, hsz, htk⟩
  · have e : ms = [] := List.length_eq_zero_iff.1 hz
    subst e
    go_enter Try.func75, Try.ntmps75
    go_wp2
    refine wp_loop_rounds 1 ?_
    rw [rounds_succ]; go_wp2
    go_ret
    exact ⟨rfl, ⟨[], rfl, fun l hl => absurd hl (Nat.not_lt_zero _), ⟨rfl, .inl ⟨rfl, rfl⟩⟩⟩, Below.refl _ _, ⟨rfl, fun _ _ => rfl⟩⟩
  · have O : OwnWits B ms (.slice (some ⟨g, 0, none⟩) ms.length cap) w := ⟨h1, .inr ⟨g, cap, cur, rfl, hb, hg, hcap, hmax, hsz, htk⟩⟩
    have hgB := Lib.hid hb
    have OW := Lib.hid O
    clear h1 hg hcap hsz htk hmax cur O
    obtain ⟨n, hn⟩ : ∃ n, ms.length = n := ⟨_, rfl⟩
    rw [hn] at hk ⊢
    have NN := Lib.hid hn
    clear hn
    go_enter Try.func75, Try.ntmps75
    go_wp2
    go_loopw [1, 5] (fun q i wr => ∃ (j q0 : Nat) (ds : List Wt), j ≤ n ∧ i = .int .i64 j ∧ q = .int .i64 (q0 : Int) ∧ q0 = k + 2 * j ∧ ds.length = n ∧ MarkedW k j ds ∧ OwnWits B ds (.slice (some ⟨g, 0, none⟩) ds.length cap) wr ∧ Below B w wr ∧ OthV (.slice (some ⟨g, 0, none⟩) n cap) w wr) (fun _ i _ => n - (intOf i).toNat)
    case atStart => exact ⟨0, k, ms, Nat.zero_le _, rfl, rfl, by omega, NN.out, fun l hl => absurd hl (Nat.not_lt_zero _), OW.out, Below.refl _ _, ⟨rfl, fun _ _ => rfl⟩⟩
    case round =>
      obtain ⟨j, q0, ds, hj, rfl, rfl, hq, hds, hM, hO, hB, hV⟩ := hrel
      have Q := Lib.hid hq
      have DS := Lib.hid hds
      have MM := Lib.hid hM
      have OO := Lib.hid hO
      have BB := Lib.hid hB
      have VV := Lib.hid hV
      have gl : g < wr.heap.size := (World.ownsRow.lt hO g rfl).2
      by_cases hkl : j < n
      · have hd : decide ((j : Int) < (n : Int)) = true := by simpa using hkl
        have qb : q0 + 1 ≤ 30000 := by omega
        have i1 : (0 : Int) ≤ (j : Int) := by omega
        have i2 : (j : Int) < (n : Int) := by omega
        have hjd : j < ds.length := by omega
        have g3 := flwt_get ds j hjd
        have r0 := (World.ownsRow.cellAt hO (j * 2) (by omega)).trans g3.1
        have r1 := (World.ownsRow.cellAt hO (j * 2 + 1) (by omega)).trans g3.2
        have z0 := World.ownsRow.frozenAt hO (j * 2)
        have z1 := World.ownsRow.frozenAt hO (j * 2 + 1)
        have NX := Lib.hid (markedW_next hM hjd)
        have ST := Lib.hid (flwt_set ds j (mrkW (k + 2 * j)))
        have QM := Lib.hid (show mrkW (k + 2 * j) = ⟨(q0 : Int), (q0 : Int) + 1⟩ by rw [← hq]; rfl)
        have x1 : IntKind.i64.wrap ((q0 : Int) + 1) = (q0 : Int) + 1 := IntWalk.i64_in _ (by omega)
        have x2 : IntKind.i64.wrap ((q0 : Int) + 1 + 1) = (q0 : Int) + 1 + 1 := IntWalk.i64_in _ (by omega)
        have x3 : IntKind.i64.wrap (q0 : Int) = (q0 : Int) := IntWalk.i64_in _ (by omega)
        have x4 : IntKind.i16.wrap ((q0 : Int) + 1) = (q0 : Int) + 1 := IntWalk.i16_in _ (by omega)
        clear hq hds hM hO hB hV g3 hjd
        go_wp2
        have s1 := World.ownsRow.stored OO.out (j * 2) (.int .i64 (q0 : Int))
        have s2 := s1.1.stored (j * 2 + 1) (.int .i16 ((q0 : Int) + 1))
        have o := s2.1
        have st := ST.out
        rw [QM.out] at st
        simp only at st
        rw [st, ← QM.out] at o
        refine ⟨⟨j + 1, q0 + 2, ds.set j (mrkW (k + 2 * j)), hkl, by rw [Int.natCast_succ], by congr 1, by have := Q.out; omega, by rw [List.length_set]; exact DS.out, NX.out, ?_, (BB.out.setCell hgB.out _).setCell hgB.out _, ⟨by rw [World.size_setCell, World.size_setCell]; exact VV.out.size, fun i hi => (Below.heap_setCell _ _ _ _ (fun e => hi (by subst e; rfl))).trans ((Below.heap_setCell _ _ _ _ (fun e => hi (by subst e; rfl))).trans (VV.out.block i hi))⟩⟩, by (simp [intOf]) <;> omega⟩
        unfold OwnWits
        rw [List.length_set]
        exact o
      · have e : j = n := by omega
        subst e
        have hd : decide ((j : Int) < (j : Int)) = false := by simp
        clear hds hM hO hB hV
        have hq2 := hq
        subst hq2
        clear hq
        go_wp2
        go_ret
        exact ⟨rfl, ⟨ds, DS.out, by rw [DS.out]; exact MM.out, by have := OO.out; rw [DS.out] at this; exact this⟩, BB.out, VV.out⟩

set_option maxRecDepth 100000 in
set_option maxHeartbeats 3200000 in
theorem heldWits_any (a : Option Addr) (ds : List Wt) (c k n : Nat) (hn : n = ds.length) (w : World) (h : Cellswt w a ds) (hm : MarkedW k ds.length ds) (hk : k + 2 * ds.length ≤ 30000) :
    Calls Try.prog 76 #[.slice a n c, .int .i64 (k : Int)] w fun e w' => e = .returned (.int .i64 ((k + 2 * n : Nat) : Int)) ∧ w = w' := by
  subst hn
  have H := Lib.hid h
  have M := Lib.hid hm
  clear h hm
  go_enter Try.func76, Try.ntmps76
  go_wp2
  go_loop [1, 5] (fun q i => ∃ j q0 : Nat, j ≤ ds.length ∧ i = .int .i64 j ∧ q = .int .i64 (q0 : Int) ∧ q0 = k + 2 * j) (fun _ i => ds.length - (intOf i).toNat)
  case atStart => exact ⟨0, k, Nat.zero_le _, rfl, rfl, by omega⟩
  case round =>
    obtain ⟨j, q0, hj, rfl, rfl, hq⟩ := hrel
    have Q := Lib.hid hq
    by_cases hkl : j < ds.length
    · have hd : decide ((j : Int) < (ds.length : Int)) = true := by simpa using hkl
      have qb : q0 + 1 ≤ 30000 := by omega
      have i1 : (0 : Int) ≤ (j : Int) := by omega
      have i2 : (j : Int) < (ds.length : Int) := by omega
      obtain ⟨b, o, rfl, hb, c0, c1⟩ := H.out j hkl
      have e := M.out j hkl
      rw [← hq] at e
      rw [e] at c0 c1
      simp only [mrkW] at c0 c1
      have x1 : IntKind.i64.wrap ((q0 : Int) + 1) = (q0 : Int) + 1 := IntWalk.i64_in _ (by omega)
      have x2 : IntKind.i64.wrap ((q0 : Int) + 1 + 1) = (q0 : Int) + 1 + 1 := IntWalk.i64_in _ (by omega)
      have x3 : IntKind.i64.wrap (q0 : Int) = (q0 : Int) := IntWalk.i64_in _ (by omega)
      have x4 : IntKind.i16.wrap ((q0 : Int) + 1) = (q0 : Int) + 1 := IntWalk.i16_in _ (by omega)
      have n0 : ((q0 : Int) != (q0 : Int)) = false := by simp
      have n1 : ((q0 : Int) + 1 != (q0 : Int) + 1) = false := by simp
      clear hq e
      go_wp2
      exact ⟨⟨j + 1, q0 + 2, hkl, by rw [Int.natCast_succ], by congr 1, by have := Q.out; omega⟩, by (simp [intOf]) <;> omega⟩
    · have e : j = ds.length := by omega
      subst e
      have hd : decide ((ds.length : Int) < (ds.length : Int)) = false := by simp
      have hq2 := hq
      subst hq2
      clear hq
      go_wp2
      go_ret
      exact ⟨rfl, rfl⟩

/-- A row that lies in another block stays. -/
theorem row_othV {w w' : World} {B e k n : Nat} {v u : Value} {xs : List Value} (h : w.ownsRow B e k v n xs) (ho : OthV u w w') (hne : ∀ j, v.ownBlock = some j → u.ownBlock ≠ some j) : w'.ownsRow B e k v n xs := by
  obtain ⟨h1, h2⟩ := h
  refine ⟨h1, ?_⟩
  rcases h2 with hn | ⟨b, cap, cur, rfl, hB, hb, rest⟩
  · exact .inl hn
  · exact .inr ⟨b, cap, cur, rfl, hB, (ho.block b (hne b rfl)).trans hb, rest⟩

set_option maxRecDepth 100000 in
set_option maxHeartbeats 3200000 in
theorem markAns_any (B : Nat) (a b c d : Int) (zs : List Int) (ws : List Wt) (v u : Value) (w : World) (hv : OwnInts B zs v w) (hu : OwnWits B ws u w) (hB : B ≤ w.heap.size) (hA : Apart v u) (hk : 1 + zs.length + 2 * ws.length ≤ 30000) :
    Calls Try.prog 32 #[.agg #[.int .u64 a, .int .u64 b, .int .u64 c, .int .u64 d, v, u], .int .i64 1] w fun e w' => e = .returned (.int .i64 ((1 + zs.length + 2 * ws.length : Nat) : Int)) ∧ OwnInts B (marks 1 zs.length) v w' ∧ (∃ ds, ds.length = ws.length ∧ MarkedW (1 + zs.length) ds.length ds ∧ OwnWits B ds u w') ∧ Below B w w' ∧ (∀ j, j < w.heap.size → v.ownBlock ≠ some j → u.ownBlock ≠ some j → w'.heap[j]? = w.heap[j]?) := by
  obtain ⟨av, cv, rfl, _⟩ := ownInts_in hv
  obtain ⟨au, cu, rfl, _⟩ := ownWits_in hu
  have K0 := below_new (Below.refl w.heap.size w) (.cells #[.int .u64 a, .int .u64 b, .int .u64 c, .int .u64 d, .slice av zs.length cv, .slice au ws.length cu] 59)
  have HB := Lib.hid (block_alloc w (.cells #[.int .u64 a, .int .u64 b, .int .u64 c, .int .u64 d, .slice av zs.length cv, .slice au ws.length cu] 59))
  have V0 := Lib.hid (ownInts_kept hv K0)
  have U0 := Lib.hid (ownWits_kept hu K0)
  have N0 := Lib.hid K0.block
  have AA := Lib.hid hA
  have BH := Lib.hid hB
  have KB := Lib.hid (Below.mono K0 hB)
  have M1 := Lib.hid fun W (h : OwnInts B zs (.slice av zs.length cv) W) => markIntsV_any B zs _ 1 W h (by omega) (by decide) (by decide)
  have M2 := Lib.hid fun W (h : OwnWits B ws (.slice au ws.length cu) W) => markWits_any B ws _ (1 + zs.length) W h hk
  have e1 : (1 : Int) + (zs.length : Int) = ((1 + zs.length : Nat) : Int) := by omega
  rw [e1] at M1
  have FV := Lib.hid (fun j e => (World.ownsRow.lt hv j e).2)
  clear hv hu hA hB K0 e1
  generalize 1 + zs.length = k1 at *
  go_enter Try.func32, Try.ntmps32
  go_wp2_with (first
    | (go_at_call 65; refine (M1.out _ V0.out).mono ?_; rintro e w1 ⟨rfl, hO, hBB, hV⟩; have U1 := Lib.hid (row_othV U0.out hV AA.out.symm); have A1 := Lib.hid hO; have B1 := Lib.hid (KB.out.trans hBB); have N1 := Lib.hid hV.block; have h1 : w1.heap[w.heap.size]? = _ := (hV.block w.heap.size (fun e => Nat.lt_irrefl _ (FV.out _ e))).trans HB.out; have x1 := cell_of_block h1; have l1 := lt_of_block h1; clear hO hBB hV h1)
    | (go_at_call 75; refine (M2.out _ U1.out).mono ?_; rintro e w2 ⟨rfl, ⟨ds, hd, hm, hO⟩, hBB, hV⟩; have A2 := Lib.hid (row_othV A1.out hV AA.out); have B2 := Lib.hid (B1.out.trans hBB); have N2 := Lib.hid hV.block; have U2 := Lib.hid hO; have D2 := Lib.hid (And.intro hd hm); clear hO hBB hV hd hm))
  go_returns
  exact ⟨rfl, A2.out, ⟨ds, D2.out.1, D2.out.2, U2.out⟩, B2.out, fun j hj h1 h2 => (N2.out j h2).trans ((N1.out j h1).trans (N0.out j hj))⟩

set_option maxRecDepth 100000 in
set_option maxHeartbeats 3200000 in
theorem heldAns_any (a b c d : Int) (n m : Nat) (ds : List Wt) (hm : ds.length = m) (av au : Option Addr) (cv cu : Nat) (w : World) (hv : IntsIn w av (marks 1 n)) (hu : Cellswt w au ds) (hM : MarkedW (1 + n) ds.length ds) (hk : 1 + n + 2 * m ≤ 30000) :
    Calls Try.prog 33 #[.agg #[.int .u64 a, .int .u64 b, .int .u64 c, .int .u64 d, .slice av n cv, .slice au m cu], .int .i64 1] w fun e w' => e = .returned (.int .i64 ((1 + n + 2 * m : Nat) : Int)) ∧ Below w.heap.size w w' := by
  have K0 := Lib.hid (below_new (Below.refl w.heap.size w) (.cells #[.int .u64 a, .int .u64 b, .int .u64 c, .int .u64 d, .slice av n cv, .slice au m cu] 59))
  have V0 := Lib.hid (intsIn_below hv K0.out)
  have U0 := Lib.hid (cellswt_below hu K0.out)
  have M1 := Lib.hid fun W (h : IntsIn W av (marks 1 n)) => heldInts_any av 1 n cv W h (by omega) (by decide) (by decide)
  have M2 := Lib.hid fun W (h : Cellswt W au ds) => heldWits_any au ds cu (1 + n) m hm.symm W h hM (by omega)
  have e1 : (1 : Int) + (n : Int) = ((1 + n : Nat) : Int) := by omega
  rw [e1] at M1
  clear hv hu e1 hM hm
  generalize 1 + n = k1 at *
  have n1 : decide ((k1 : Int) < 0) = false := by simp
  generalize hz : k1 + 2 * m = z at *
  have n2 : decide ((z : Int) < 0) = false := by simp
  go_enter Try.func33, Try.ntmps33
  go_wp2_with (first
    | (go_at_call 66; refine (M1.out _ V0.out).mono ?_; rintro e w1 ⟨rfl, rfl⟩)
    | (go_at_call 76; refine (M2.out _ U0.out).mono ?_; rintro e w2 ⟨rfl, rfl⟩))
  go_returns
  exact ⟨rfl, K0.out⟩
end Go.Proofs.Ytanocllpmjhblaa
