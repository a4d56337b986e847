/- Contracts: WalkTree, the program's. -/
import Derived.Test.YtppjmngnjdeigaaDoorWkW
namespace Go.Proofs.YtppjmngnjdeigaaDoor
open Go.ChangeShapes Go.WideShapes Go.ChangeAt Go.RowKit

theorem stp_inv {k : Kn} {vals : List Int} {b : Nat} (h : stp k vals = .go b) : k.f ≠ -1 ∧ ∃ i, i < k.vs.length ∧ b = (k.ns.getD i 0).toNat := by
  unfold stp at h
  split at h
  · cases h
  · rename_i hf
    split at h
    · cases h
    · split at h
      · cases h
      · rename_i i hi
        injection h with h
        exact ⟨hf, i, (fndN_some hi).1, h.symm⟩
theorem stp_code {k : Kn} {vals : List Int} {c : Int} (h : stp k vals = .bad c) : c = 2 ∨ c = 6 := by
  unfold stp at h
  split at h
  · cases h
  · split at h
    · injection h with h; exact .inl h.symm
    · split at h
      · injection h with h; exact .inr h.symm
      · cases h
theorem wkF_ok {ks : List Kn} (T : TreeOk ks) (vals : List Int) : ∀ n a q, a < ks.length → (wkF ks vals n a q).2.1 < ks.length ∧ ((wkF ks vals n a q).1 = 0 ∨ (wkF ks vals n a q).1 = 2 ∨ (wkF ks vals n a q).1 = 6)
  | 0, a, q, _ => ⟨T.1, .inl rfl⟩
  | n + 1, a, q, ha => by
    cases h : stp (knAt ks a) vals with
    | leaf => rw [wk_leaf h]; exact ⟨ha, .inl rfl⟩
    | bad c => rw [wk_bad h]; exact ⟨T.1, .inr (stp_code h)⟩
    | go b =>
      rw [wk_go h]
      obtain ⟨hf, i, hi, rfl⟩ := stp_inv h
      have AO := ask_of T ha hf
      have := next_of T ha (t := i) (by rw [AO.2.2.2.2.1]; exact hi)
      exact wkF_ok T vals n _ _ (by omega)
theorem wk_ok {ks : List Kn} (T : TreeOk ks) (vals : List Int) : (wk ks vals).2.1 < ks.length ∧ ((wk ks vals).1 = 0 ∨ (wk ks vals).1 = 2 ∨ (wk ks vals).1 = 6) := wkF_ok T vals 120 0 0 T.1
/-- The cards, the questions and the code of WalkTree. -/
def wkL (ks : List Kn) (vals : List Int) : List Int := if treeOk ks = true then (if (wk ks vals).1 = 0 then (knAt ks (wk ks vals).2.1).cs else []) else []
def wkQ (ks : List Kn) (vals : List Int) : Int := if treeOk ks = true then (if (wk ks vals).1 = 0 then ((wk ks vals).2.2 : Int) else 0) else 0
def wkC (ks : List Kn) (vals : List Int) : Int := if treeOk ks = true then (wk ks vals).1 else 1
def WkR (ks : List Kn) (vals : List Int) (w : World) (e : Ending) (w' : World) : Prop := ∃ v, e = .returned (.tuple #[v, .int .i64 (wkQ ks vals), .int .i64 (wkC ks vals)]) ∧ OwnInts w.heap.size (wkL ks vals) v w' ∧ Below w.heap.size w w'
theorem wkR_no {ks : List Kn} {vals : List Int} (h : treeOk ks = false) : wkL ks vals = [] ∧ wkQ ks vals = 0 ∧ wkC ks vals = 1 := by unfold wkL wkQ wkC; rw [h]; exact ⟨rfl, rfl, rfl⟩
theorem wkR_ok {ks : List Kn} {vals : List Int} (h : treeOk ks = true) (h0 : (wk ks vals).1 = 0) : wkL ks vals = (knAt ks (wk ks vals).2.1).cs ∧ wkQ ks vals = ((wk ks vals).2.2 : Int) ∧ wkC ks vals = 0 := by unfold wkL wkQ wkC; rw [if_pos h, if_pos h, if_pos h, if_pos h0, if_pos h0]; exact ⟨rfl, rfl, h0⟩
theorem wkR_bad {ks : List Kn} {vals : List Int} {c : Int} (h : treeOk ks = true) (h0 : (wk ks vals).1 = c) (hc : c ≠ 0) : wkL ks vals = [] ∧ wkQ ks vals = 0 ∧ wkC ks vals = c := by unfold wkL wkQ wkC; rw [if_pos h, if_pos h, if_pos h, if_neg (by omega), if_neg (by omega)]; exact ⟨rfl, rfl, h0⟩
theorem tree_of {ks : List Kn} (h : treeOk ks = true) : TreeOk ks := of_decide_eq_true h
theorem ownI_weaken {B B2 : Nat} {zs : List Int} {v : Value} {w : World} (h : OwnInts B2 zs v w) (hb : B ≤ B2) : OwnInts B zs v w := by
  obtain ⟨h1, h2⟩ := h
  refine ⟨h1, ?_⟩
  rcases h2 with hn | ⟨g, cap, cur, rfl, hB, rest⟩
  · exact .inl hn
  · exact .inr ⟨g, cap, cur, rfl, Nat.le_trans hb hB, rest⟩
theorem senV_0 (a1 a2 : Addr) : senV a1 a2 0 = .nilIface := rfl
theorem senV_2 (a1 a2 : Addr) : senV a1 a2 2 = .iface 204 (.pointer (some a1)) := rfl
theorem senV_6 (a1 a2 : Addr) : senV a1 a2 6 = .iface 204 (.pointer (some a2)) := rfl

set_option maxRecDepth 100000 in
set_option maxHeartbeats 6400000 in
theorem iWalkTree_any (a0 a1 a2 : Addr) (ks : List Kn) (ad : Option Addr) (c : Nat) (vals : List Int) (vl : Option Addr) (lc : Nat) (w : World) (hS : Sen w a0 a1 a2) (hc : KnotsIn w ad ks) (hn : KsSmall ks) (hq : IntsIn w vl vals) (hlen : vals.length ≤ 1048576) :
    Calls Tryd.prog 13 #[.slice ad ks.length c, .slice vl vals.length lc] w (WkR ks vals w) := by
  have K0 := iValidTree_any ad ks c w hc hn
  have SS := Lib.hid hS
  unfold WkR
  cases ht : treeOk ks
  · obtain ⟨e1, e2, e3⟩ := wkR_no (vals := vals) ht
    rw [ht] at K0
    rw [e1, e2, e3]
    have K0 := Lib.hid K0
    clear e1 e2 e3 hc hq hS ht
    go_enter Tryd.func13, Tryd.ntmps13
    go_wp2_with (go_at_call 41; refine K0.out.mono ?_; rintro e w1 ⟨rfl, hB⟩; have B1 := Lib.hid hB; clear hB)
    go_returns
    exact ⟨_, rfl, ownI_nil _ _, B1.out⟩
  · have T := tree_of ht
    rw [ht] at K0
    have KW := fun W hS hc hq => iWalk_any a0 a1 a2 ks T hn.2 ad c vals vl lc W hS hc hq hlen
    obtain ⟨ok1, ok2⟩ := wk_ok T vals
    have HC := Lib.hid hc
    have HQ := Lib.hid hq
    rcases ok2 with h0 | h0 | h0
    · obtain ⟨e1, e2, e3⟩ := wkR_ok ht h0
      rw [e1, e2, e3]
      rw [h0, senV_0] at KW
      generalize (wk ks vals).2.1 = lf at *
      generalize (wk ks vals).2.2 = qn at *
      obtain ⟨b0, o0, rfl, _⟩ := hc 0 T.1
      have i1 : (0 : Int) ≤ (lf : Int) := by omega
      have i2 : (lf : Int) < (ks.length : Int) := by omega
      obtain ⟨hfit, va, vc, na, nc, ca, cc, y1, d0, d1, d2, d3, p1, p2, p3⟩ := kn_at hc ok1 (Below.refl _ _)
      have CL := Lib.hid (fun W (h : Below w.heap.size w W) => iCloneI_any ca (knAt ks lf).cs cc W (intsIn_below p3 h) (hn.2 lf ok1).2.2)
      have D3 := Lib.hid d3
      have Y1 := Lib.hid y1
      generalize (knAt ks lf).cs = cs at *
      replace KW := Lib.hid KW
      have K0 := Lib.hid K0
      clear e1 e2 e3 h0 hc hq hS ht hfit p1 p2 p3 d0 d1 d2 d3 T y1
      go_enter Tryd.func13, Tryd.ntmps13
      go_wp2_with (first
        | (go_at_call 41; refine K0.out.mono ?_; rintro e w1 ⟨rfl, hB⟩; have B1 := Lib.hid hB; clear hB)
        | (go_at_call 42; refine (KW.out _ (SS.out.below B1.out) (knotsIn_below HC.out B1.out) (intsIn_below HQ.out B1.out)).mono ?_; rintro e w2 ⟨rfl, hB⟩; have B2 := Lib.hid (B1.out.trans (Below.mono hB B1.out.size)); have dd := (B2.out.cell (p := ⟨b0, o0 + lf * 4 + 3, none⟩) Y1.out).trans D3.out; have yy := Nat.lt_of_lt_of_le Y1.out B2.out.size; clear hB)
        | (go_at_call 44; refine (CL.out _ B2.out).mono ?_; rintro e w3 ⟨v, rfl, hO, hB⟩; have O3 := Lib.hid (ownI_weaken hO B2.out.size); have B3 := Lib.hid (B2.out.trans (Below.mono hB B2.out.size)); clear hB hO))
      go_returns
      exact ⟨_, rfl, O3.out, B3.out⟩
    · obtain ⟨e1, e2, e3⟩ := wkR_bad (c := 2) ht h0 (by decide)
      rw [e1, e2, e3]
      rw [h0, senV_2] at KW
      generalize (wk ks vals).2.1 = lf at *
      generalize (wk ks vals).2.2 = qn at *
      replace KW := Lib.hid KW
      have K0 := Lib.hid K0
      clear e1 e2 e3 h0 hc hq hS ht T
      go_enter Tryd.func13, Tryd.ntmps13
      go_wp2_with (first
        | (go_at_call 41; refine K0.out.mono ?_; rintro e w1 ⟨rfl, hB⟩; have B1 := Lib.hid hB; clear hB)
        | (go_at_call 42; refine (KW.out _ (SS.out.below B1.out) (knotsIn_below HC.out B1.out) (intsIn_below HQ.out B1.out)).mono ?_; rintro e w2 ⟨rfl, hB⟩; have B2 := Lib.hid (B1.out.trans (Below.mono hB B1.out.size)); clear hB)
        | (go_at_call 43; refine (iCode_2 a0 a1 a2 _ (SS.out.below B2.out)).mono ?_; rintro e w3 ⟨rfl, rfl⟩))
      go_returns
      exact ⟨_, rfl, ownI_nil _ _, B2.out⟩
    · obtain ⟨e1, e2, e3⟩ := wkR_bad (c := 6) ht h0 (by decide)
      rw [e1, e2, e3]
      rw [h0, senV_6] at KW
      generalize (wk ks vals).2.1 = lf at *
      generalize (wk ks vals).2.2 = qn at *
      replace KW := Lib.hid KW
      have K0 := Lib.hid K0
      clear e1 e2 e3 h0 hc hq hS ht T
      go_enter Tryd.func13, Tryd.ntmps13
      go_wp2_with (first
        | (go_at_call 41; refine K0.out.mono ?_; rintro e w1 ⟨rfl, hB⟩; have B1 := Lib.hid hB; clear hB)
        | (go_at_call 42; refine (KW.out _ (SS.out.below B1.out) (knotsIn_below HC.out B1.out) (intsIn_below HQ.out B1.out)).mono ?_; rintro e w2 ⟨rfl, hB⟩; have B2 := Lib.hid (B1.out.trans (Below.mono hB B1.out.size)); clear hB)
        | (go_at_call 43; refine (iCode_6 a0 a1 a2 _ (SS.out.below B2.out)).mono ?_; rintro e w3 ⟨rfl, rfl⟩))
      go_returns
      exact ⟨_, rfl, ownI_nil _ _, B2.out⟩
end Go.Proofs.YtppjmngnjdeigaaDoor
