/- Contracts of the laws' own functions on slices of knots: compared, carried over. -/
import Derived.Test.YtppjmngnjdeigaaDoorKnL
import Derived.Test.YtppjmngnjdeigaaDoorFloat
namespace Go.Proofs.YtppjmngnjdeigaaDoor
open Go.ChangeShapes Go.WideShapes Go.ChangeAt Go.RowKit

set_option maxHeartbeats 1600000 in
theorem eqKnot_same (k : Kn) (va na ca va' na' ca' : Option Addr) (vc nc cc vc' nc' cc' : Nat) (w : World) (hk : KnSmall k)
    (v1 : IntsIn w va k.vs) (n1 : I16sIn w na k.ns) (c1 : IntsIn w ca k.cs) (v2 : IntsIn w va' k.vs) (n2 : I16sIn w na' k.ns) (c2 : IntsIn w ca' k.cs) :
    Calls Tryd.prog 45 #[.agg #[.int .i16 k.f, .slice va k.vs.length vc, .slice na k.ns.length nc, .slice ca k.cs.length cc], .agg #[.int .i16 k.f, .slice va' k.vs.length vc', .slice na' k.ns.length nc', .slice ca' k.cs.length cc']] w fun e w' => e = .returned (.bool true) ∧ Below w.heap.size w w' := by
  obtain ⟨hv, hn, hc⟩ := hk
  have V1 := Lib.hid v1
  have V2 := Lib.hid v2
  have N1 := Lib.hid n1
  have N2 := Lib.hid n2
  have C1 := Lib.hid c1
  have C2 := Lib.hid c2
  obtain ⟨f, vs, ns, cs⟩ := k
  simp only at hv hn hc V1 V2 N1 N2 C1 C2 ⊢
  have ff : (f != f) = false := by simp
  have KV := Lib.hid fun W ha hb => eqInts_same va va' vs vc vc' W ha hb (by omega)
  have KN := Lib.hid fun W ha hb => eqI16s_same na na' ns nc nc' W ha hb (by omega)
  have KC := Lib.hid fun W ha hb => eqInts_same ca ca' cs cc cc' W ha hb (by omega)
  have HB := Lib.hid (block_alloc2 w (.cells #[.int .i16 f, .slice va vs.length vc, .slice na ns.length nc, .slice ca cs.length cc] 73) (.cells #[.int .i16 f, .slice va' vs.length vc', .slice na' ns.length nc', .slice ca' cs.length cc'] 73))
  have B0 := Lib.hid (below_new (below_new (Below.refl w.heap.size w) (.cells #[.int .i16 f, .slice va vs.length vc, .slice na ns.length nc, .slice ca cs.length cc] 73)) (.cells #[.int .i16 f, .slice va' vs.length vc', .slice na' ns.length nc', .slice ca' cs.length cc'] 73))
  have k0 := cell_of_block HB.out.1
  have l0 := cell_of_block HB.out.2
  have y0 := lt_of_block HB.out.1
  have z0 := lt_of_block HB.out.2
  clear v1 v2 n1 n2 c1 c2
  have tok1 : True := trivial
  go_enter Tryd.func45, Tryd.ntmps45
  go_wp2_with (first
    | (go_at_call 14; have _t := tok1; clear _t tok1; refine (KV.out _ (intsIn_below V1.out B0.out) (intsIn_below V2.out B0.out)).mono ?_; rintro e w1 ⟨rfl, hB⟩; have b1 := Lib.hid (B0.out.trans (Below.mono hB B0.out.size)); have m1 := Ab.block hB HB.out.1; have n1 := Ab.block hB HB.out.2; clear hB k0 l0 y0 z0; have k1 := cell_of_block m1; have l1 := cell_of_block n1; have y1 := lt_of_block m1; have z1 := lt_of_block n1; have m1 := Lib.hid m1; have n1 := Lib.hid n1)
    | (go_at_call 78; refine (KN.out _ (i16sIn_below N1.out b1.out) (i16sIn_below N2.out b1.out)).mono ?_; rintro e w2 ⟨rfl, hB⟩; have b2 := Lib.hid (b1.out.trans (Below.mono hB b1.out.size)); have m2 := Ab.block hB m1.out; have n2 := Ab.block hB n1.out; clear hB k1 l1 y1 z1; have k2 := cell_of_block m2; have l2 := cell_of_block n2; have y2 := lt_of_block m2; have z2 := lt_of_block n2; have m2 := Lib.hid m2; have n2 := Lib.hid n2)
    | (go_at_call 14; refine (KC.out _ (intsIn_below C1.out b2.out) (intsIn_below C2.out b2.out)).mono ?_; rintro e w3 ⟨rfl, hB⟩; have b3 := Lib.hid (b2.out.trans (Below.mono hB b2.out.size)); clear hB))
  all_goals go_returns
  all_goals exact ⟨rfl, b3.out⟩

set_option maxHeartbeats 1600000 in
theorem eqKnotS_same (ad bd : Option Addr) (ks : List Kn) (c d : Nat) (w : World) (ha : KnotsIn w ad ks) (hb : KnotsIn w bd ks) (hn : KsSmall ks) :
    Calls Tryd.prog 15 #[.slice ad ks.length c, .slice bd ks.length d] w fun e w' => e = .returned (.bool true) ∧ Below w.heap.size w w' := by
  have A := Lib.hid ha
  have B := Lib.hid hb
  have SM := Lib.hid hn.2
  have nl := hn.1
  have hbw := cell_bw
  clear ha hb hn
  go_enter Tryd.func15, Tryd.ntmps15
  go_wp2
  go_loopw [5] (fun i wr => ∃ j : Nat, j ≤ ks.length ∧ i = .int .i64 j ∧ Below w.heap.size w wr) (fun i _ => ks.length - (intOf i).toNat)
  case atStart => exact ⟨0, Nat.zero_le _, rfl, Below.refl _ _⟩
  case round =>
    obtain ⟨j, hj, rfl, hB⟩ := hrel
    have BB := Lib.hid hB
    by_cases hjl : j < ks.length
    · have hd : decide ((j : Int) < (ks.length : Int)) = true := by simpa using hjl
      obtain ⟨b1, o1, rfl, h1⟩ := A.out j hjl
      obtain ⟨b2, o2, rfl, h2⟩ := B.out j hjl
      obtain ⟨_, va, vc, na, nc, ca, cc, y1, d0, d1, d2, d3, p1, p2, p3⟩ := knAt_below h1 hB
      obtain ⟨_, va', vc', na', nc', ca', cc', y2, e0, e1, e2, e3, q1, q2, q3⟩ := knAt_below h2 hB
      have i1 : (0 : Int) ≤ (j : Int) := by omega
      have i2 : (j : Int) < (ks.length : Int) := by omega
      have K := Lib.hid fun W (h : Below wr.heap.size wr W) => eqKnot_same (knAt ks j) va na ca va' na' ca' vc nc cc vc' nc' cc' W (SM.out j hjl) (intsIn_below p1 h) (i16sIn_below p2 h) (intsIn_below p3 h) (intsIn_below q1 h) (i16sIn_below q2 h) (intsIn_below q3 h)
      clear p1 p2 p3 q1 q2 q3 h1 h2 hB
      generalize knAt ks j = x at *
      obtain ⟨f, vs, ns, cs⟩ := x
      simp only at d0 d1 d2 d3 e0 e1 e2 e3 K
      go_wp2_with fail
      refine region_bw (by kernel_rfl) (by kernel_rfl) ?_
      repeat (go_big_quiet_step (first | (go_at_call 45; exact calls_bw (K.out _ (below_bw _ _)))))
      refine wpQuiet_nil ?_; intro wq hq; replace hq := below_of_bw hq; obtain ⟨qc, qf, qz⟩ := bcell hq
      go_wp2_with fail
      exact ⟨⟨j + 1, hjl, by rw [Int.natCast_succ], BB.out.trans (hq.mono BB.out.size)⟩, by (simp [intOf]) <;> omega⟩
    · have e : j = ks.length := by omega
      subst e
      have hd : decide ((ks.length : Int) < (ks.length : Int)) = false := by simp
      clear hB
      go_wp2
      go_ret
      exact ⟨rfl, BB.out⟩
end Go.Proofs.YtppjmngnjdeigaaDoor
