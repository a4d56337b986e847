/- All places of a tree: the program's contract. -/
import Derived.Test.YtdbkplfkilaoeacPlg
namespace Go.Proofs.Ytdbkplfkilaoeac
open Go.ChangeShapes Go.WideShapes Go.ChangeAt Go.RowKit

set_option maxRecDepth 100000 in
set_option maxHeartbeats 3200000 in
theorem iPlaces_any (ks : List Kn) (T : TreeOk ks) (SM : KsSmall ks) (ad : Option Addr) (c : Nat) (w : World) (hc : KnotsIn w ad ks) :
    Calls Try.prog 34 #[.slice ad ks.length c] w fun e w' => ∃ v m, e = .returned v ∧ OwnP w w.heap.size ks (bf ks m) v w' ∧ (∀ p, p < m → p < (bf ks p).length) ∧ (bf ks m).length = m ∧ Below w.heap.size w w' := by
  have D0 := dep_zero ks
  have nl := T.1
  obtain ⟨b1, o1, rfl, hkn⟩ := hc 0 (by omega)
  obtain ⟨hft, va, vc, na, nc, ca, cc, y0, z0, z1, z2, z3, p1, p2, p3⟩ := hkn
  have PC : PlCells w (knAt ks 0) (dep ks 0) [.int .i16 (knAt ks 0).f, .slice va (knAt ks 0).vs.length vc, .slice na (knAt ks 0).ns.length nc, .slice ca (knAt ks 0).cs.length cc, .int .i64 0] := ⟨va, vc, na, nc, ca, cc, by rw [D0]; rfl, p1, p2, p3⟩
  simp only [Nat.zero_mul, Nat.add_zero] at z0 z1 z2 z3
  have R0 := Lib.hid (RowP.snoc (.nil (w0 := w) (ks := ks)) PC)
  have GR := Lib.hid fun W B v0 h1 h2 h3 h4 h5 h6 => iGrow_any w W ks T SM (some ⟨b1, o1, none⟩) c w.heap.size B v0 h1 h2 hc h3 h4 h5 h6
  have i1 : (0 : Int) < (ks.length : Int) := by omega
  clear hc PC p1 p2 p3 hft T SM
  generalize (knAt ks 0).vs.length = l1 at *
  generalize (knAt ks 0).ns.length = l2 at *
  generalize (knAt ks 0).cs.length = l3 at *
  generalize (knAt ks 0).f = f1 at *
  have K2 := block_alloc2 w (.cells #[.slice (some ⟨b1, o1, none⟩) ks.length c] 25) (.cells #[.int .i16 f1, .slice va l1 vc, .slice na l2 nc, .slice ca l3 cc, .int .i64 0] 63)
  have OW : OwnP w (w.heap.size + 1) ks [0] (.slice (some ⟨w.heap.size + 1, 0, none⟩) 1 1) ((w.alloc (.cells #[.slice (some ⟨b1, o1, none⟩) ks.length c] 25)).alloc (.cells #[.int .i16 f1, .slice va l1 vc, .slice na l2 nc, .slice ca l3 cc, .int .i64 0] 63)) := ⟨_, ⟨rfl, .inr ⟨w.heap.size + 1, 1, _, rfl, Nat.le_refl _, K2.2, Nat.le_refl _, by unfold maxLen; omega, rfl, rfl⟩⟩, R0.out⟩
  have WB : Below w.heap.size w ((w.alloc (.cells #[.slice (some ⟨b1, o1, none⟩) ks.length c] 25)).alloc (.cells #[.int .i16 f1, .slice va l1 vc, .slice na l2 nc, .slice ca l3 cc, .int .i64 0] 63)) := below_new (below_new (Below.refl _ _) _) _
  have TC : ((w.alloc (.cells #[.slice (some ⟨b1, o1, none⟩) ks.length c] 25)).alloc (.cells #[.int .i16 f1, .slice va l1 vc, .slice na l2 nc, .slice ca l3 cc, .int .i64 0] 63)).cell? ⟨w.heap.size, 0, none⟩ = some (.slice (some ⟨b1, o1, none⟩) ks.length c) := cell_of_block K2.1 0
  have SZ : w.heap.size + 1 ≤ ((w.alloc (.cells #[.slice (some ⟨b1, o1, none⟩) ks.length c] 25)).alloc (.cells #[.int .i16 f1, .slice va l1 vc, .slice na l2 nc, .slice ca l3 cc, .int .i64 0] 63)).heap.size := by simp
  have OW := Lib.hid OW
  have WB := Lib.hid WB
  have TC := Lib.hid TC
  have SZ := Lib.hid SZ
  clear K2 R0
  go_enter Try.func34, Try.ntmps34
  go_wp2_with (go_at_call 52; refine (GR.out _ _ _ (Nat.le_succ _) WB.out TC.out (Nat.lt_succ_self _) SZ.out OW.out).mono ?_; rintro e w1 ⟨v, m, rfl, hO, hS, hl, hB⟩; have O1 := Lib.hid (ownP_less hO (Nat.le_succ _)); have S1 := Lib.hid hS; have L1 := Lib.hid hl; have B1 := Lib.hid (WB.out.trans (hB.mono (Nat.le_succ _))); clear hO hS hl hB)
  go_ret
  exact ⟨_, m, rfl, O1.out, S1.out, L1.out, B1.out⟩
end Go.Proofs.Ytdbkplfkilaoeac
