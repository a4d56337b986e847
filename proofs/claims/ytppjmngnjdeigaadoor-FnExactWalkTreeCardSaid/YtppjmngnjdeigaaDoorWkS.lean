/- Contracts: WalkTree, the model's. -/
import Derived.Test.YtppjmngnjdeigaaDoorWkX
import Derived.Test.YtppjmngnjdeigaaDoorVtO
namespace Go.Proofs.YtppjmngnjdeigaaDoor
open Go.ChangeShapes Go.WideShapes Go.ChangeAt Go.RowKit

set_option maxRecDepth 100000 in
set_option maxHeartbeats 6400000 in
theorem sWalk_any (ks : List Kn) (T : TreeOk ks) (SM : ∀ i, i < ks.length → KnSmall (knAt ks i)) (ad : Option Addr) (c : Nat) (vals : List Int) (vl : Option Addr) (lc : Nat) (w : World) (hc : KnotsIn w ad ks) (hq : IntsIn w vl vals) (_hlen : vals.length ≤ 1048576) :
    Calls Tryd.prog 38 #[.slice ad ks.length c, .slice vl vals.length lc] w fun e w' => e = .returned (.tuple #[.int .i64 ((wk ks vals).2.1 : Int), .int .i64 ((wk ks vals).2.2 : Int), .int .i64 (wk ks vals).1]) ∧ Below w.heap.size w w' := by
  have k120 := T.2.1
  obtain ⟨b0, o0, rfl, _⟩ := hc 0 T.1
  have C := Lib.hid hc
  have HQ := Lib.hid hq
  have OW0 := Lib.hid (onWay_start T vals)
  have hbw := cell_bw
  clear hc hq
  go_enter Tryd.func38, Tryd.ntmps38
  go_wp2
  go_loopw [7, 8] (fun i j wr => ∃ a q : Nat, i = .int .i64 (a : Int) ∧ j = .int .i64 (q : Int) ∧ Hid (OnWay ks vals a q) ∧ Below w.heap.size w wr) (fun i _ _ => ks.length - (intOf i).toNat)
  case atStart => exact ⟨0, 0, rfl, rfl, OW0, Below.refl _ _⟩
  case round =>
    obtain ⟨a, q, rfl, rfl, OW, hB⟩ := hrel
    have BB := Lib.hid hB
    clear hB
    have ha := OW.out.1
    have q120 : q < 120 := OW.out.2.2.1
    obtain ⟨hfit, va, vc, na, nc, ca, cc, y1, d0, d1, d2, d3, p1, p2, p3⟩ := kn_at C.out ha BB.out
    have i1 : (0 : Int) ≤ (a : Int) := by omega
    have i2 : (a : Int) < (ks.length : Int) := by omega
    have sm := SM a ha
    by_cases hf : (knAt ks a).f = -1
    · have WL := Lib.hid (onWay_leaf OW.out (stp_leaf vals hf))
      have dd : decide ((0 : Int) ≤ (knAt ks a).f) = false := by rw [hf]; decide
      clear sm hfit p1 p2 p3 hf
      generalize (knAt ks a).f = f at *
      generalize knAt ks a = k at *
      go_wp2
      go_returns
      exact ⟨by rw [WL.out]; rfl, BB.out⟩
    have AO := ask_of T ha hf
    have NX := fun t ht => next_of T ha (t := t) ht
    have hf2 : 0 ≤ (knAt ks a).f ∧ (knAt ks a).f < 12 := ⟨AO.1, AO.2.1⟩
    have dd : decide ((0 : Int) ≤ (knAt ks a).f) = true := decide_eq_true hf2.1
    have xf : IntKind.i64.wrap (knAt ks a).f = (knAt ks a).f := IntWalk.i64_in _ (by omega)
    by_cases hl : (vals.length : Int) ≤ (knAt ks a).f
    · have WB := Lib.hid (onWay_bad OW.out (stp_far (k := knAt ks a) (vals := vals) hf (by omega)))
      have d4 : decide ((vals.length : Int) ≤ (knAt ks a).f) = true := decide_eq_true hl
      clear sm hfit p1 p2 p3 AO NX hl hf hf2
      generalize (knAt ks a).f = f at *
      generalize knAt ks a = k at *
      go_wp2
      go_returns
      exact ⟨by rw [WB.out]; rfl, BB.out⟩
    have d4 : decide ((vals.length : Int) ≤ (knAt ks a).f) = false := decide_eq_false hl
    have hlN : ¬ vals.length ≤ (knAt ks a).f.toNat := by omega
    have j1 : (0 : Int) ≤ (knAt ks a).f := hf2.1
    have j2 : (knAt ks a).f < (vals.length : Int) := by omega
    obtain ⟨bq, oq, rfl, hb, hcq⟩ := HQ.out (knAt ks a).f.toNat (by omega)
    have cq := (BB.out.cell (p := ⟨bq, oq + (knAt ks a).f.toNat, none⟩) hb).trans hcq
    have yq := Nat.lt_of_lt_of_le hb BB.out.size
    have K := fun W (h : Below wr.heap.size wr W) => sFind_any va (knAt ks a).vs vc (vals.getD (knAt ks a).f.toNat 0) W (intsIn_below p1 h) sm.1
    cases hx : fnd (knAt ks a).vs (vals.getD (knAt ks a).f.toNat 0) with
    | none =>
      have WB := Lib.hid (onWay_bad OW.out (stp_no (k := knAt ks a) (vals := vals) hf hlN hx))
      rw [hx] at K
      generalize vals.getD (knAt ks a).f.toNat 0 = x at *
      clear sm hfit p1 p2 p3 AO NX hl hlN hf hf2 hx hcq
      replace K := Lib.hid K
      generalize (knAt ks a).vs = vs at *
      generalize (knAt ks a).f = f at *
      generalize knAt ks a = k at *
      go_wp2_with fail
      refine region_bw (by kernel_rfl) (by kernel_rfl) ?_
      repeat (go_big_quiet_step (first | (go_at_call 73; exact calls_bw_same (K.out _ (below_bw _ _)))))
      refine wpQuiet_nil ?_; intro wq hq; replace hq := below_of_bw hq; obtain ⟨qc, qf, qz⟩ := bcell hq
      have B2 := Lib.hid (BB.out.trans (Below.mono hq BB.out.size))
      clear hq qc qf qz cq yq d0 d1 d2 d3
      unfold fdV
      go_wp2
      go_returns
      exact ⟨by rw [WB.out]; rfl, B2.out⟩
    | some i =>
      have hin : i < (knAt ks a).ns.length := by rw [AO.2.2.2.2.1]; exact (fndN_some hx).1
      obtain ⟨nx1, nx2⟩ := NX i hin
      obtain ⟨b, hb2⟩ : ∃ b : Nat, (knAt ks a).ns.getD i 0 = (b : Int) := ⟨((knAt ks a).ns.getD i 0).toNat, by omega⟩
      have hgo := stp_go (k := knAt ks a) (vals := vals) hf hlN hx
      rw [hb2, Int.toNat_natCast] at hgo
      have OG := Lib.hid (onWay_go T OW.out hgo ⟨by omega, by omega⟩)
      rw [hx] at K
      rw [hb2] at nx1 nx2
      have xq : IntKind.i64.wrap ((q : Int) + 1) = ((q + 1 : Nat) : Int) := by rw [show ((q + 1 : Nat) : Int) = (q : Int) + 1 by omega]; exact IntWalk.i64_in _ (by omega)
      have xb : IntKind.i64.wrap (b : Int) = (b : Int) := IntWalk.i64_in _ (by omega)
      have k1 : (0 : Int) ≤ (i : Int) := by omega
      have k2 : (i : Int) < ((knAt ks a).ns.length : Int) := by omega
      have di : decide ((i : Int) < 0) = false := by simp
      obtain ⟨bn, on, rfl, hbn, hcn⟩ := p2 i hin
      rw [hb2] at hcn
      generalize vals.getD (knAt ks a).f.toNat 0 = x at *
      clear sm hfit p1 p2 p3 AO NX hl hlN hf hf2 hx hcq hgo hb2 hin
      replace K := Lib.hid K
      generalize (knAt ks a).vs = vs at *
      generalize (knAt ks a).ns = ns at *
      generalize (knAt ks a).f = f at *
      generalize knAt ks a = k at *
      go_wp2_with fail
      refine region_bw (by kernel_rfl) (by kernel_rfl) ?_
      repeat (go_big_quiet_step (first | (go_at_call 73; exact calls_bw_same (K.out _ (below_bw _ _)))))
      refine wpQuiet_nil ?_; intro wq hq; replace hq := below_of_bw hq; obtain ⟨qc, qf, qz⟩ := bcell hq
      have B2 := Lib.hid (BB.out.trans (Below.mono hq BB.out.size))
      have t2 := (Below.cell hq (p := ⟨b0, o0 + a * 4 + 2, none⟩) y1).trans d2
      have tn := (Below.cell hq (p := ⟨bn, on + i, none⟩) hbn).trans hcn
      clear hq qc qf qz cq yq d0 d1 d2 d3 hcn
      unfold fdV
      go_wp2
      exact ⟨⟨b, q + 1, rfl, rfl, OG, B2.out⟩, by (simp [intOf]) <;> omega⟩

set_option maxRecDepth 100000 in
set_option maxHeartbeats 6400000 in
theorem sWalkTree_any (ks : List Kn) (ad : Option Addr) (c : Nat) (vals : List Int) (vl : Option Addr) (lc : Nat) (w : World) (hc : KnotsIn w ad ks) (hn : KsSmall ks) (hq : IntsIn w vl vals) (hlen : vals.length ≤ 1048576) :
    Calls Tryd.prog 10 #[.slice ad ks.length c, .slice vl vals.length lc] w (WkR ks vals w) := by
  have K0 := sTreeOk_any ad ks c w hc hn
  unfold WkR
  cases ht : treeOk ks
  · obtain ⟨e1, e2, e3⟩ := wkR_no (vals := vals) ht
    rw [ht] at K0
    rw [e1, e2, e3]
    have K0 := Lib.hid K0
    clear e1 e2 e3 hc hq ht
    go_enter Tryd.func10, Tryd.ntmps10
    go_wp2_with (go_at_call 37; refine K0.out.mono ?_; rintro e w1 ⟨rfl, hB⟩; have B1 := Lib.hid hB; clear hB)
    go_returns
    exact ⟨_, rfl, ownI_made rfl B1.out.size, below_new B1.out _⟩
  · have T := tree_of ht
    rw [ht] at K0
    have KW := fun W hc hq => sWalk_any ks T hn.2 ad c vals vl lc W hc hq hlen
    obtain ⟨ok1, ok2⟩ := wk_ok T vals
    have HC := Lib.hid hc
    have HQ := Lib.hid hq
    by_cases h0 : (wk ks vals).1 = 0
    · obtain ⟨e1, e2, e3⟩ := wkR_ok ht h0
      rw [e1, e2, e3]
      rw [h0] at KW
      generalize (wk ks vals).2.1 = lf at *
      generalize (wk ks vals).2.2 = qn at *
      obtain ⟨b0, o0, rfl, _⟩ := hc 0 T.1
      have i1 : (0 : Int) ≤ (lf : Int) := by omega
      have i2 : (lf : Int) < (ks.length : Int) := by omega
      obtain ⟨hfit, va, vc, na, nc, ca, cc, y1, d0, d1, d2, d3, p1, p2, p3⟩ := kn_at hc ok1 (Below.refl _ _)
      have CL := Lib.hid (fun W (h : Below w.heap.size w W) => sOwnI_any ca (knAt ks lf).cs cc W (intsIn_below p3 h) (hn.2 lf ok1).2.2)
      have D3 := Lib.hid d3
      have Y1 := Lib.hid y1
      generalize (knAt ks lf).cs = cs at *
      replace KW := Lib.hid KW
      have K0 := Lib.hid K0
      clear e1 e2 e3 h0 ok2 hc hq ht hfit p1 p2 p3 d0 d1 d2 d3 T y1
      go_enter Tryd.func10, Tryd.ntmps10
      go_wp2_with (first
        | (go_at_call 37; refine K0.out.mono ?_; rintro e w1 ⟨rfl, hB⟩; have B1 := Lib.hid hB; clear hB)
        | (go_at_call 38; refine (KW.out _ (knotsIn_below HC.out B1.out) (intsIn_below HQ.out B1.out)).mono ?_; rintro e w2 ⟨rfl, hB⟩; have B2 := Lib.hid (B1.out.trans (Below.mono hB B1.out.size)); have dd := (B2.out.cell (p := ⟨b0, o0 + lf * 4 + 3, none⟩) Y1.out).trans D3.out; have yy := Nat.lt_of_lt_of_le Y1.out B2.out.size; clear hB)
        | (go_at_call 39; refine (CL.out _ B2.out).mono ?_; rintro e w3 ⟨v, rfl, hO, hB⟩; have O3 := Lib.hid (ownI_weaken hO B2.out.size); have B3 := Lib.hid (B2.out.trans (Below.mono hB B2.out.size)); clear hB hO))
      go_returns
      exact ⟨_, rfl, O3.out, B3.out⟩
    · obtain ⟨e1, e2, e3⟩ := wkR_bad ht rfl h0
      rw [e1, e2, e3]
      have hne : ((wk ks vals).1 != 0) = true := by simp [h0]
      generalize (wk ks vals).2.1 = lf at *
      generalize (wk ks vals).2.2 = qn at *
      generalize (wk ks vals).1 = cd at *
      replace KW := Lib.hid KW
      have K0 := Lib.hid K0
      clear e1 e2 e3 h0 hc hq ht T ok2
      go_enter Tryd.func10, Tryd.ntmps10
      go_wp2_with (first
        | (go_at_call 37; refine K0.out.mono ?_; rintro e w1 ⟨rfl, hB⟩; have B1 := Lib.hid hB; clear hB)
        | (go_at_call 38; refine (KW.out _ (knotsIn_below HC.out B1.out) (intsIn_below HQ.out B1.out)).mono ?_; rintro e w2 ⟨rfl, hB⟩; have B2 := Lib.hid (B1.out.trans (Below.mono hB B1.out.size)); clear hB))
      go_returns
      exact ⟨_, rfl, ownI_made rfl B2.out.size, below_new B2.out _⟩
end Go.Proofs.YtppjmngnjdeigaaDoor
