/- Contracts: are two trees the same, by the program and by the model. -/
import Derived.Test.YtdbkplfkilaoeacEqL
import Derived.Test.YtdbkplfkilaoeacKnC
namespace Go.Proofs.Ytdbkplfkilaoeac
open Go.ChangeShapes Go.WideShapes Go.ChangeAt Go.RowKit

def sameKn (x y : Kn) : Bool := x.f == y.f && (eqL x.vs y.vs && (eqL x.ns y.ns && eqL x.cs y.cs))
def sameTo (ks ls : List Kn) : Nat → Bool
  | 0 => true
  | k + 1 => sameTo ks ls k && sameKn (knAt ks k) (knAt ls k)
def sameKs (ks ls : List Kn) : Bool := decide (ks.length = ls.length) && sameTo ks ls ks.length
theorem sameKs_len {ks ls : List Kn} (h : ¬ ks.length = ls.length) : sameKs ks ls = false := by unfold sameKs; simp [h]
theorem sameTo_no {ks ls : List Kn} {k : Nat} (h : sameKn (knAt ks k) (knAt ls k) = false) : ∀ n, k < n → sameTo ks ls n = false
  | 0, hk => absurd hk (Nat.not_lt_zero _)
  | n + 1, hk => by
    unfold sameTo
    by_cases e : k = n
    · subst e; simp [h]
    · rw [sameTo_no h n (by omega)]; rfl
theorem sameKs_no {ks ls : List Kn} {k : Nat} (hk : k < ks.length) (h : sameKn (knAt ks k) (knAt ls k) = false) : sameKs ks ls = false := by unfold sameKs; rw [sameTo_no h _ hk]; simp
theorem sameKs_yes {ks ls : List Kn} (hl : ks.length = ls.length) (h : sameTo ks ls ks.length = true) : sameKs ks ls = true := by unfold sameKs; rw [h, decide_eq_true hl]; rfl
theorem sameTo_next {ks ls : List Kn} {k : Nat} (h : sameTo ks ls k = true) (e : sameKn (knAt ks k) (knAt ls k) = true) : sameTo ks ls (k + 1) = true := by unfold sameTo; rw [h, e]; rfl

set_option maxHeartbeats 3200000 in
theorem iKnSame_any (x y : Kn) (va na ca va' na' ca' : Option Addr) (vc nc cc vc' nc' cc' : Nat) (w : World) (hx : KnSmall x)
    (v1 : IntsIn w va x.vs) (n1 : I16sIn w na x.ns) (c1 : IntsIn w ca x.cs) (v2 : IntsIn w va' y.vs) (n2 : I16sIn w na' y.ns) (c2 : IntsIn w ca' y.cs) :
    Calls Try.prog 29 #[.agg #[.int .i16 x.f, .slice va x.vs.length vc, .slice na x.ns.length nc, .slice ca x.cs.length cc], .agg #[.int .i16 y.f, .slice va' y.vs.length vc', .slice na' y.ns.length nc', .slice ca' y.cs.length cc']] w fun e w' => e = .returned (.bool (sameKn x y)) ∧ Below w.heap.size w w' := by
  obtain ⟨hv, hn, hc⟩ := hx
  have V1 := Lib.hid v1
  have V2 := Lib.hid v2
  have N1 := Lib.hid n1
  have N2 := Lib.hid n2
  have C1 := Lib.hid c1
  have C2 := Lib.hid c2
  unfold sameKn
  obtain ⟨f, vs, ns, cs⟩ := x
  obtain ⟨g, us, ms, ds⟩ := y
  simp only at hv hn hc V1 V2 N1 N2 C1 C2 ⊢
  have QV := fun W ha hb => eq64_any va va' vs us vc vc' W ha hb hv
  have QN := fun W ha hb => eq16_any na na' ns ms nc nc' W ha hb hn
  have QC := fun W ha hb => eq64_any ca ca' cs ds cc cc' W ha hb hc
  have HB := Lib.hid (block_alloc2 w (.cells #[.int .i16 f, .slice va vs.length vc, .slice na ns.length nc, .slice ca cs.length cc] 44) (.cells #[.int .i16 g, .slice va' us.length vc', .slice na' ms.length nc', .slice ca' ds.length cc'] 44))
  have B0 := Lib.hid (below_new (below_new (Below.refl w.heap.size w) (.cells #[.int .i16 f, .slice va vs.length vc, .slice na ns.length nc, .slice ca cs.length cc] 44)) (.cells #[.int .i16 g, .slice va' us.length vc', .slice na' ms.length nc', .slice ca' ds.length cc'] 44))
  have k0 := cell_of_block HB.out.1
  have l0 := cell_of_block HB.out.2
  have y0 := lt_of_block HB.out.1
  have z0 := lt_of_block HB.out.2
  clear v1 n1 c1 v2 n2 c2 hv hn hc
  generalize eqL vs us = b1 at *
  generalize eqL ns ms = b2 at *
  generalize eqL cs ds = b3 at *
  have tok1 : True := trivial
  by_cases h : f = g
  rotate_left
  · have e1 : (f == g) = false := by simp [h]
    rw [e1]
    have QV := Lib.hid QV
    have QN := Lib.hid QN
    have QC := Lib.hid QC
    go_enter Try.func29, Try.ntmps29
    go_wp2
    all_goals go_returns
    all_goals exact ⟨rfl, B0.out⟩
  have e1 : (f == g) = true := by simp [h]
  rw [e1]
  subst h
  clear e1
  cases b1
  · skip
    have QV := Lib.hid QV
    have QN := Lib.hid QN
    have QC := Lib.hid QC
    go_enter Try.func29, Try.ntmps29
    go_wp2_with (first
      | (go_at_call 30; have _t := tok1; clear _t tok1; refine (QV.out _ (intsIn_below V1.out B0.out) (intsIn_below V2.out B0.out)).mono ?_; rintro e w1 ⟨rfl, hB⟩; have b1 := Lib.hid (B0.out.trans (Below.mono hB B0.out.size)); have m1 := Ab.block hB HB.out.1; have n1 := Ab.block hB HB.out.2; clear hB k0 l0 y0 z0; have k1 := cell_of_block m1; have l1 := cell_of_block n1; have y1 := lt_of_block m1; have z1 := lt_of_block n1; have m1 := Lib.hid m1; have n1 := Lib.hid n1))
    all_goals go_returns
    all_goals exact ⟨rfl, b1.out⟩
  cases b2
  · skip
    have QV := Lib.hid QV
    have QN := Lib.hid QN
    have QC := Lib.hid QC
    go_enter Try.func29, Try.ntmps29
    go_wp2_with (first
      | (go_at_call 30; have _t := tok1; clear _t tok1; refine (QV.out _ (intsIn_below V1.out B0.out) (intsIn_below V2.out B0.out)).mono ?_; rintro e w1 ⟨rfl, hB⟩; have b1 := Lib.hid (B0.out.trans (Below.mono hB B0.out.size)); have m1 := Ab.block hB HB.out.1; have n1 := Ab.block hB HB.out.2; clear hB k0 l0 y0 z0; have k1 := cell_of_block m1; have l1 := cell_of_block n1; have y1 := lt_of_block m1; have z1 := lt_of_block n1; have m1 := Lib.hid m1; have n1 := Lib.hid n1)
      | (go_at_call 31; refine (QN.out _ (i16sIn_below N1.out b1.out) (i16sIn_below N2.out b1.out)).mono ?_; rintro e w2 ⟨rfl, hB⟩; have b2 := Lib.hid (b1.out.trans (Below.mono hB b1.out.size)); have m2 := Ab.block hB m1.out; have n2 := Ab.block hB n1.out; clear hB k1 l1 y1 z1; have k2 := cell_of_block m2; have l2 := cell_of_block n2; have y2 := lt_of_block m2; have z2 := lt_of_block n2; have m2 := Lib.hid m2; have n2 := Lib.hid n2))
    all_goals go_returns
    all_goals exact ⟨rfl, b2.out⟩
  cases b3
  · skip
    have QV := Lib.hid QV
    have QN := Lib.hid QN
    have QC := Lib.hid QC
    go_enter Try.func29, Try.ntmps29
    go_wp2_with (first
      | (go_at_call 30; have _t := tok1; clear _t tok1; refine (QV.out _ (intsIn_below V1.out B0.out) (intsIn_below V2.out B0.out)).mono ?_; rintro e w1 ⟨rfl, hB⟩; have b1 := Lib.hid (B0.out.trans (Below.mono hB B0.out.size)); have m1 := Ab.block hB HB.out.1; have n1 := Ab.block hB HB.out.2; clear hB k0 l0 y0 z0; have k1 := cell_of_block m1; have l1 := cell_of_block n1; have y1 := lt_of_block m1; have z1 := lt_of_block n1; have m1 := Lib.hid m1; have n1 := Lib.hid n1)
      | (go_at_call 31; refine (QN.out _ (i16sIn_below N1.out b1.out) (i16sIn_below N2.out b1.out)).mono ?_; rintro e w2 ⟨rfl, hB⟩; have b2 := Lib.hid (b1.out.trans (Below.mono hB b1.out.size)); have m2 := Ab.block hB m1.out; have n2 := Ab.block hB n1.out; clear hB k1 l1 y1 z1; have k2 := cell_of_block m2; have l2 := cell_of_block n2; have y2 := lt_of_block m2; have z2 := lt_of_block n2; have m2 := Lib.hid m2; have n2 := Lib.hid n2)
      | (go_at_call 30; refine (QC.out _ (intsIn_below C1.out b2.out) (intsIn_below C2.out b2.out)).mono ?_; rintro e w3 ⟨rfl, hB⟩; have b3 := Lib.hid (b2.out.trans (Below.mono hB b2.out.size)); have m3 := Ab.block hB m2.out; have n3 := Ab.block hB n2.out; clear hB k2 l2 y2 z2; have k3 := cell_of_block m3; have l3 := cell_of_block n3; have y3 := lt_of_block m3; have z3 := lt_of_block n3; have m3 := Lib.hid m3; have n3 := Lib.hid n3))
    all_goals go_returns
    all_goals exact ⟨rfl, b3.out⟩
  · skip
    have QV := Lib.hid QV
    have QN := Lib.hid QN
    have QC := Lib.hid QC
    go_enter Try.func29, Try.ntmps29
    go_wp2_with (first
      | (go_at_call 30; have _t := tok1; clear _t tok1; refine (QV.out _ (intsIn_below V1.out B0.out) (intsIn_below V2.out B0.out)).mono ?_; rintro e w1 ⟨rfl, hB⟩; have b1 := Lib.hid (B0.out.trans (Below.mono hB B0.out.size)); have m1 := Ab.block hB HB.out.1; have n1 := Ab.block hB HB.out.2; clear hB k0 l0 y0 z0; have k1 := cell_of_block m1; have l1 := cell_of_block n1; have y1 := lt_of_block m1; have z1 := lt_of_block n1; have m1 := Lib.hid m1; have n1 := Lib.hid n1)
      | (go_at_call 31; refine (QN.out _ (i16sIn_below N1.out b1.out) (i16sIn_below N2.out b1.out)).mono ?_; rintro e w2 ⟨rfl, hB⟩; have b2 := Lib.hid (b1.out.trans (Below.mono hB b1.out.size)); have m2 := Ab.block hB m1.out; have n2 := Ab.block hB n1.out; clear hB k1 l1 y1 z1; have k2 := cell_of_block m2; have l2 := cell_of_block n2; have y2 := lt_of_block m2; have z2 := lt_of_block n2; have m2 := Lib.hid m2; have n2 := Lib.hid n2)
      | (go_at_call 30; refine (QC.out _ (intsIn_below C1.out b2.out) (intsIn_below C2.out b2.out)).mono ?_; rintro e w3 ⟨rfl, hB⟩; have b3 := Lib.hid (b2.out.trans (Below.mono hB b2.out.size)); have m3 := Ab.block hB m2.out; have n3 := Ab.block hB n2.out; clear hB k2 l2 y2 z2; have k3 := cell_of_block m3; have l3 := cell_of_block n3; have y3 := lt_of_block m3; have z3 := lt_of_block n3; have m3 := Lib.hid m3; have n3 := Lib.hid n3))
    all_goals go_returns
    all_goals exact ⟨rfl, b3.out⟩

set_option maxHeartbeats 3200000 in
theorem iEqFunc_any (ad bd : Option Addr) (ks ls : List Kn) (c d : Nat) (w : World) (ha : KnotsIn w ad ks) (hb : KnotsIn w bd ls) (hn : KsSmall ks) :
    Calls Try.prog 28 #[.slice ad ks.length c, .slice bd ls.length d, .func (.func 29) #[] #[]] w fun e w' => e = .returned (.bool (sameKs ks ls)) ∧ Below w.heap.size w w' := by
  have A := Lib.hid ha
  have B := Lib.hid hb
  have SM := Lib.hid hn.2
  have nl := hn.1
  have hbw := cell_bw
  clear ha hb hn
  by_cases hl : ks.length = ls.length
  · have hne : ((ks.length : Int) != (ls.length : Int)) = false := by simp [hl]
    have HL := Lib.hid hl
    clear hl
    go_enter Try.func28, Try.ntmps28
    go_wp2
    go_loopw [17] (fun i wr => ∃ j : Nat, j ≤ ks.length ∧ i = .int .i64 j ∧ sameTo ks ls j = true ∧ Below w.heap.size w wr) (fun i _ => ks.length - (intOf i).toNat)
    case atStart => exact ⟨0, Nat.zero_le _, rfl, rfl, Below.refl _ _⟩
    case round =>
      obtain ⟨j, hj, rfl, hs, hB⟩ := hrel
      have BB := Lib.hid hB
      have S := Lib.hid hs
      clear hs hne
      by_cases hjl : j < ks.length
      · have hd : decide ((j : Int) < (ks.length : Int)) = true := by simpa using hjl
        obtain ⟨b1, o1, rfl, h1⟩ := A.out j hjl
        obtain ⟨b2, o2, rfl, h2⟩ := B.out j (HL.out ▸ hjl)
        have g1 := knAt_below h1 hB
        have g2 := knAt_below h2 hB
        obtain ⟨_, va, vc, na, nc, ca, cc, y1, d0, d1, d2, d3, p1, p2, p3⟩ := g1
        obtain ⟨_, va', vc', na', nc', ca', cc', y2, e0, e1, e2, e3, q1, q2, q3⟩ := g2
        have g1 := knAt_below h1 hB
        have g2 := knAt_below h2 hB
        have i1 : (0 : Int) ≤ (j : Int) := by omega
        have i2 : (j : Int) < (ks.length : Int) := by omega
        have i3 : (j : Int) < (ls.length : Int) := by have := HL.out; omega
        have K := fun W (h : Below wr.heap.size wr W) => iKnSame_any (knAt ks j) (knAt ls j) va na ca va' na' ca' vc nc cc vc' nc' cc' W (SM.out j hjl) (intsIn_below p1 h) (i16sIn_below p2 h) (intsIn_below p3 h) (intsIn_below q1 h) (i16sIn_below q2 h) (intsIn_below q3 h)
        have no : Hid (sameKn (knAt ks j) (knAt ls j) = false → sameKs ks ls = false) := Lib.hid fun h => sameKs_no hjl h
        have nx : Hid (sameKn (knAt ks j) (knAt ls j) = true → sameTo ks ls (j + 1) = true) := Lib.hid fun h => sameTo_next S.out h
        clear p1 p2 p3 q1 q2 q3 h1 h2 hB S g1 g2
        generalize sameKn (knAt ks j) (knAt ls j) = z at *
        generalize knAt ks j = x at *
        generalize knAt ls j = y at *
        obtain ⟨f, vs, ns, cs⟩ := x
        obtain ⟨g, us, ms, ds⟩ := y
        simp only at d0 d1 d2 d3 e0 e1 e2 e3 K
        have K := Lib.hid K
        cases z
        · skip
          go_wp2_with (go_at_call 29; refine (K.out _ (by first | exact below_new (below_new (Below.refl _ _) _) _ | ((repeat' (first | (with_reducible exact Below.refl _ _) | (with_reducible assumption) | (with_reducible refine below_drewN ?_ _) | (with_reducible refine Below.drew ?_) | (with_reducible refine below_new ?_ _) | (with_reducible refine below_next ?_ (by with_reducible assumption)) | (with_reducible refine Below.setCell ?_ ?_ _) | go_size)); done))).mono ?_; rintro e w3 ⟨rfl, hB3⟩; have B3 := Lib.hid (BB.out.trans (Below.mono ((below_new (below_new (Below.refl _ _) _) _).trans (Below.mono hB3 (by simp; omega))) BB.out.size)); clear hB3)
          go_ret
          exact ⟨kretB (no.out (by trivial)), B3.out⟩
        · skip
          go_wp2_with (go_at_call 29; refine (K.out _ (by first | exact below_new (below_new (Below.refl _ _) _) _ | ((repeat' (first | (with_reducible exact Below.refl _ _) | (with_reducible assumption) | (with_reducible refine below_drewN ?_ _) | (with_reducible refine Below.drew ?_) | (with_reducible refine below_new ?_ _) | (with_reducible refine below_next ?_ (by with_reducible assumption)) | (with_reducible refine Below.setCell ?_ ?_ _) | go_size)); done))).mono ?_; rintro e w3 ⟨rfl, hB3⟩; have B3 := Lib.hid (BB.out.trans (Below.mono ((below_new (below_new (Below.refl _ _) _) _).trans (Below.mono hB3 (by simp; omega))) BB.out.size)); clear hB3)
          exact ⟨⟨j + 1, hjl, by rw [Int.natCast_succ], nx.out (by trivial), B3.out⟩, by (simp [intOf]) <;> omega⟩
      · have e : j = ks.length := by omega
        subst e
        have hd : decide ((ks.length : Int) < (ks.length : Int)) = false := by simp
        clear hB
        go_wp2
        go_ret
        exact ⟨kretB (sameKs_yes HL.out S.out), BB.out⟩
  · have hne : ((ks.length : Int) != (ls.length : Int)) = true := by simp; omega
    go_enter Try.func28, Try.ntmps28
    go_wp2
    go_ret
    exact ⟨kretB (sameKs_len hl), Below.refl _ _⟩

theorem iSameTree_any (ad bd : Option Addr) (ks ls : List Kn) (c d : Nat) (w : World) (ha : KnotsIn w ad ks) (hb : KnotsIn w bd ls) (hn : KsSmall ks) :
    Calls Try.prog 14 #[.slice ad ks.length c, .slice bd ls.length d] w fun e w' => e = .returned (.bool (sameKs ks ls)) ∧ Below w.heap.size w w' := by
  have S := Lib.hid (iEqFunc_any ad bd ks ls c d w ha hb hn)
  clear ha hb hn
  go_enter Try.func14, Try.ntmps14
  go_wp2_with (go_at_call 28; refine S.out.mono ?_; rintro e w1 ⟨rfl, hB⟩; have B := Lib.hid hB; clear hB)
  go_returns
  exact ⟨rfl, B.out⟩

set_option maxRecDepth 100000 in
set_option maxHeartbeats 3200000 in
theorem sKnSame_any (x y : Kn) (b1 o1 b2 o2 : Nat) (w : World) (hx : KnSmall x) (h1 : KnAt w b1 o1 x) (h2 : KnAt w b2 o2 y) :
    Calls Try.prog 27 #[.pointer (some ⟨b1, o1, none⟩), .pointer (some ⟨b2, o2, none⟩)] w fun e w' => e = .returned (.bool (sameKn x y)) ∧ Below w.heap.size w w' := by
  obtain ⟨hv, hn, hc⟩ := hx
  have hbw := cell_bw
  obtain ⟨_, va, vc, na, nc, ca, cc, y1, d0, d1, d2, d3, p1, p2, p3⟩ := h1
  obtain ⟨_, va', vc', na', nc', ca', cc', y2, e0, e1, e2, e3, q1, q2, q3⟩ := h2
  unfold sameKn
  obtain ⟨f, vs, ns, cs⟩ := x
  obtain ⟨g, us, ms, ds⟩ := y
  simp only at hv hn hc d0 d1 d2 d3 e0 e1 e2 e3 p1 p2 p3 q1 q2 q3 ⊢
  by_cases h : f = g
  rotate_left
  · have e1 : (f == g) = false := by simp [h]
    have n1 : (f != g) = true := by simp [h]
    rw [e1]
    clear p1 p2 p3 q1 q2 q3 h
    go_enter Try.func27, Try.ntmps27
    go_upto_region 1 with fail
    refine region_bw (by kernel_rfl) (by kernel_rfl) ?_
    repeat (go_big_quiet_step (fail))
    refine wpQuiet_nil ?_; intro wq hq; replace hq := below_of_bw hq; obtain ⟨qc, qf, qz⟩ := bcell hq
    go_wp2_with fail
    all_goals go_returns
    all_goals exact ⟨rfl, hq⟩
  have e9 : (f == g) = true := by simp [h]
  have n1 : (f != g) = false := by simp [h]
  rw [e9]
  clear h
  by_cases hl : ns.length = ms.length
  rotate_left
  · have hE : eqL ns ms = false := eqL_len hl
    have n2 : ((ns.length : Int) != (ms.length : Int)) = true := by simp; omega
    rw [hE]
    clear p1 p2 p3 q1 q2 q3 hl
    go_enter Try.func27, Try.ntmps27
    go_upto_region 1 with fail
    refine region_bw (by kernel_rfl) (by kernel_rfl) ?_
    repeat (go_big_quiet_step (fail))
    refine wpQuiet_nil ?_; intro wq hq; replace hq := below_of_bw hq; obtain ⟨qc, qf, qz⟩ := bcell hq
    go_wp2_with fail
    all_goals go_returns
    all_goals exact ⟨by simp, hq⟩
  have n2 : ((ns.length : Int) != (ms.length : Int)) = false := by simp [hl]
  have HL := Lib.hid hl
  have P2 := Lib.hid p2
  have Q2 := Lib.hid q2
  have QV := fun W (k : Below w.heap.size w W) => sSame_any va va' vs us vc vc' W (intsIn_below p1 k) (intsIn_below q1 k) hv
  have QC := fun W (k : Below w.heap.size w W) => sSame_any ca ca' cs ds cc cc' W (intsIn_below p3 k) (intsIn_below q3 k) hc
  have QV := Lib.hid QV
  have QC := Lib.hid QC
  clear p1 p2 p3 q1 q2 q3 hl
  go_enter Try.func27, Try.ntmps27
  go_upto_region 1 with fail
  refine region_bw (by kernel_rfl) (by kernel_rfl) ?_
  repeat (go_big_quiet_step (fail))
  refine wpQuiet_nil ?_; intro wq hq; replace hq := below_of_bw hq; obtain ⟨qc, qf, qz⟩ := bcell hq
  go_wp2_with fail
  go_loopw [5] (fun i wr => ∃ j : Nat, j ≤ ns.length ∧ i = .int .i64 j ∧ eqTo ns ms j = true ∧ Below w.heap.size w wr) (fun i _ => ns.length - (intOf i).toNat)
  case atStart => exact ⟨0, Nat.zero_le _, rfl, rfl, hq⟩
  case round =>
    obtain ⟨j, hj, rfl, hs, hB⟩ := hrel
    have BB := Lib.hid hB
    have S := Lib.hid hs
    have x0 := (hB.cell (p := ⟨b1, o1, none⟩) y1).trans d0
    have x1 := (hB.cell (p := ⟨b1, o1 + 1, none⟩) y1).trans d1
    have x2 := (hB.cell (p := ⟨b1, o1 + 2, none⟩) y1).trans d2
    have x3 := (hB.cell (p := ⟨b1, o1 + 3, none⟩) y1).trans d3
    have z0 := (hB.cell (p := ⟨b2, o2, none⟩) y2).trans e0
    have z1 := (hB.cell (p := ⟨b2, o2 + 1, none⟩) y2).trans e1
    have z2 := (hB.cell (p := ⟨b2, o2 + 2, none⟩) y2).trans e2
    have z3 := (hB.cell (p := ⟨b2, o2 + 3, none⟩) y2).trans e3
    have v1 : b1 < wr.heap.size := Nat.lt_of_lt_of_le y1 hB.size
    have v2 : b2 < wr.heap.size := Nat.lt_of_lt_of_le y2 hB.size
    clear hs hq qc qf qz n1 n2 d0 d1 d2 d3 e0 e1 e2 e3
    by_cases hjl : j < ns.length
    · have hd : decide ((j : Int) < (ns.length : Int)) = true := by simpa using hjl
      obtain ⟨c1, f1, rfl, w1, r1⟩ := P2.out j hjl
      obtain ⟨c2, f2, rfl, w2, r2⟩ := Q2.out j (HL.out ▸ hjl)
      have t1 := (hB.cell (p := ⟨c1, f1 + j, none⟩) w1).trans r1
      have t2 := (hB.cell (p := ⟨c2, f2 + j, none⟩) w2).trans r2
      have u1 : c1 < wr.heap.size := Nat.lt_of_lt_of_le w1 hB.size
      have u2 : c2 < wr.heap.size := Nat.lt_of_lt_of_le w2 hB.size
      have i1 : (0 : Int) ≤ (j : Int) := by omega
      have i2 : (j : Int) < (ns.length : Int) := by omega
      have i3 : (j : Int) < (ms.length : Int) := by have := HL.out; omega
      have no : Hid (¬ ns.getD j 0 = ms.getD j 0 → eqL ns ms = false) := Lib.hid fun h => eqL_no hjl h
      have nx : Hid (ns.getD j 0 = ms.getD j 0 → eqTo ns ms (j + 1) = true) := Lib.hid fun h => eqTo_next S.out h
      generalize ns.getD j 0 = p at *
      generalize ms.getD j 0 = q at *
      clear hB r1 r2 S
      by_cases hpq : p = q
      · have ne : (p != q) = false := by simp [hpq]
        have N := Lib.hid (nx.out hpq)
        clear hpq no nx
        go_wp2_with fail
        refine region_bw (by kernel_rfl) (by kernel_rfl) ?_
        repeat (go_big_quiet_step (fail))
        refine wpQuiet_nil ?_; intro wq hq; replace hq := below_of_bw hq; obtain ⟨qc, qf, qz⟩ := bcell hq
        go_wp2_with fail
        exact ⟨⟨j + 1, hjl, by rw [Int.natCast_succ], N.out, BB.out.trans (hq.mono BB.out.size)⟩, by (simp [intOf]) <;> omega⟩
      · have ne : (p != q) = true := by simp [hpq]
        have N := Lib.hid (no.out hpq)
        clear hpq no nx
        go_wp2_with fail
        refine region_bw (by kernel_rfl) (by kernel_rfl) ?_
        repeat (go_big_quiet_step (fail))
        refine wpQuiet_nil ?_; intro wq hq; replace hq := below_of_bw hq; obtain ⟨qc, qf, qz⟩ := bcell hq
        go_wp2_with fail
        all_goals go_returns
        all_goals exact ⟨kretB (by rw [N.out]; simp), BB.out.trans (hq.mono BB.out.size)⟩
    · have e : j = ns.length := by omega
      subst e
      have hd : decide ((ns.length : Int) < (ns.length : Int)) = false := by simp
      have EQ := Lib.hid (eqL_yes HL.out S.out)
      have KV := Lib.hid fun W (k : Below wr.heap.size wr W) => QV.out W (BB.out.trans (k.mono BB.out.size))
      have KC := Lib.hid fun W (k : Below wr.heap.size wr W) => QC.out W (BB.out.trans (k.mono BB.out.size))
      clear hB S QV QC
      generalize hq1 : eqL vs us = q1 at *
      generalize hq3 : eqL cs ds = q3 at *
      have HQ1 := Lib.hid hq1
      have HQ3 := Lib.hid hq3
      clear hq1 hq3
      have tk1 : True := trivial
      cases q1
      · go_wp2_with fail
        refine region_bw (by kernel_rfl) (by kernel_rfl) ?_
        repeat (go_big_quiet_step (first | (go_at_call 51; exact calls_bw (KV.out _ (below_bw _ _)))))
        refine wpQuiet_nil ?_; intro wq hq; replace hq := below_of_bw hq; obtain ⟨qc, qf, qz⟩ := bcell hq
        go_wp2_with fail
        all_goals go_returns
        all_goals exact ⟨kretB (by rw [HQ1.out, EQ.out, HQ3.out]; rfl), BB.out.trans (hq.mono BB.out.size)⟩
      · go_wp2_with fail
        refine region_bw (by kernel_rfl) (by kernel_rfl) ?_
        repeat (go_big_quiet_step (first | (go_at_call_of 51 (Value.slice va vs.length vc); exact calls_bw (KV.out _ (below_bw _ _))) | (go_at_call_of 51 (Value.slice ca cs.length cc); exact calls_bw (KC.out _ (below_bw _ _)))))
        refine wpQuiet_nil ?_; intro wq hq; replace hq := below_of_bw hq; obtain ⟨qc, qf, qz⟩ := bcell hq
        go_wp2_with fail
        all_goals go_returns
        all_goals exact ⟨kretB (by rw [HQ1.out, EQ.out, HQ3.out]; rfl), BB.out.trans (hq.mono BB.out.size)⟩

set_option maxHeartbeats 3200000 in
theorem sSameTree_any (ad bd : Option Addr) (ks ls : List Kn) (c d : Nat) (w : World) (ha : KnotsIn w ad ks) (hb : KnotsIn w bd ls) (hn : KsSmall ks) :
    Calls Try.prog 13 #[.slice ad ks.length c, .slice bd ls.length d] w fun e w' => e = .returned (.bool (sameKs ks ls)) ∧ Below w.heap.size w w' := by
  have A := Lib.hid ha
  have B := Lib.hid hb
  have SM := Lib.hid hn.2
  have nl := hn.1
  have hbw := cell_bw
  clear ha hb hn
  by_cases hl : ks.length = ls.length
  · have hne : ((ks.length : Int) != (ls.length : Int)) = false := by simp [hl]
    have HL := Lib.hid hl
    clear hl
    go_enter Try.func13, Try.ntmps13
    go_wp2
    go_loopw [5] (fun i wr => ∃ j : Nat, j ≤ ks.length ∧ i = .int .i64 j ∧ sameTo ks ls j = true ∧ Below w.heap.size w wr) (fun i _ => ks.length - (intOf i).toNat)
    case atStart => exact ⟨0, Nat.zero_le _, rfl, rfl, Below.refl _ _⟩
    case round =>
      obtain ⟨j, hj, rfl, hs, hB⟩ := hrel
      have BB := Lib.hid hB
      have S := Lib.hid hs
      clear hs hne
      by_cases hjl : j < ks.length
      · have hd : decide ((j : Int) < (ks.length : Int)) = true := by simpa using hjl
        obtain ⟨b1, o1, rfl, h1⟩ := A.out j hjl
        obtain ⟨b2, o2, rfl, h2⟩ := B.out j (HL.out ▸ hjl)
        have g1 := knAt_below h1 hB
        have g2 := knAt_below h2 hB
        obtain ⟨_, va, vc, na, nc, ca, cc, y1, d0, d1, d2, d3, p1, p2, p3⟩ := g1
        obtain ⟨_, va', vc', na', nc', ca', cc', y2, e0, e1, e2, e3, q1, q2, q3⟩ := g2
        have g1 := knAt_below h1 hB
        have g2 := knAt_below h2 hB
        have i1 : (0 : Int) ≤ (j : Int) := by omega
        have i2 : (j : Int) < (ks.length : Int) := by omega
        have i3 : (j : Int) < (ls.length : Int) := by have := HL.out; omega
        have K := fun W (h : Below wr.heap.size wr W) => sKnSame_any (knAt ks j) (knAt ls j) b1 (o1 + j * 4) b2 (o2 + j * 4) W (SM.out j hjl) (knAt_below g1 h) (knAt_below g2 h)
        have no : Hid (sameKn (knAt ks j) (knAt ls j) = false → sameKs ks ls = false) := Lib.hid fun h => sameKs_no hjl h
        have nx : Hid (sameKn (knAt ks j) (knAt ls j) = true → sameTo ks ls (j + 1) = true) := Lib.hid fun h => sameTo_next S.out h
        clear p1 p2 p3 q1 q2 q3 h1 h2 hB S g1 g2
        generalize sameKn (knAt ks j) (knAt ls j) = z at *
        generalize knAt ks j = x at *
        generalize knAt ls j = y at *
        obtain ⟨f, vs, ns, cs⟩ := x
        obtain ⟨g, us, ms, ds⟩ := y
        simp only at d0 d1 d2 d3 e0 e1 e2 e3 K
        have K := Lib.hid K
        cases z
        · skip
          go_wp2_with fail
          refine region_bw (by kernel_rfl) (by kernel_rfl) ?_
          repeat (go_big_quiet_step (first | (go_at_call 27; exact calls_bw (K.out _ (below_bw _ _)))))
          refine wpQuiet_nil ?_; intro wq hq; replace hq := below_of_bw hq; obtain ⟨qc, qf, qz⟩ := bcell hq
          have B3 := Lib.hid (BB.out.trans (Below.mono hq BB.out.size))
          go_wp2_with fail
          go_ret
          exact ⟨kretB (no.out (by trivial)), B3.out⟩
        · skip
          go_wp2_with fail
          refine region_bw (by kernel_rfl) (by kernel_rfl) ?_
          repeat (go_big_quiet_step (first | (go_at_call 27; exact calls_bw (K.out _ (below_bw _ _)))))
          refine wpQuiet_nil ?_; intro wq hq; replace hq := below_of_bw hq; obtain ⟨qc, qf, qz⟩ := bcell hq
          have B3 := Lib.hid (BB.out.trans (Below.mono hq BB.out.size))
          go_wp2_with fail
          exact ⟨⟨j + 1, hjl, by rw [Int.natCast_succ], nx.out (by trivial), B3.out⟩, by (simp [intOf]) <;> omega⟩
      · have e : j = ks.length := by omega
        subst e
        have hd : decide ((ks.length : Int) < (ks.length : Int)) = false := by simp
        clear hB
        go_wp2
        go_ret
        exact ⟨kretB (sameKs_yes HL.out S.out), BB.out⟩
  · have hne : ((ks.length : Int) != (ls.length : Int)) = true := by simp; omega
    go_enter Try.func13, Try.ntmps13
    go_wp2
    go_ret
    exact ⟨kretB (sameKs_len hl), Below.refl _ _⟩

end Go.Proofs.Ytdbkplfkilaoeac
