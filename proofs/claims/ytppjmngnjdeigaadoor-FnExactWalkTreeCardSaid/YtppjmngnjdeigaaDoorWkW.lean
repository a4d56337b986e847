/- Contracts: the program's way through a tree (a goto). -/
import Derived.Test.YtppjmngnjdeigaaDoorWkI
namespace Go.Proofs.YtppjmngnjdeigaaDoor
open Go.ChangeShapes Go.WideShapes Go.ChangeAt Go.RowKit

theorem kn_at {w W : World} {b0 o0 : Nat} {ks : List Kn} (hc : KnotsIn w (some ⟨b0, o0, none⟩) ks) {a : Nat} (ha : a < ks.length) (h : Below w.heap.size w W) : KnAt W b0 (o0 + a * 4) (knAt ks a) := by
  obtain ⟨b, o, e, hk⟩ := hc a ha
  injection e with e
  injection e with e1 e2
  subst e1; subst e2
  exact knAt_below hk h
theorem kb_box {w : World} (o : Obj) : Below w.heap.size w (w.alloc o) := below_new (Below.refl _ _) o
theorem kb_next {w W W' : World} {o : Obj} (h : Below w.heap.size w W) (k : Below (W.alloc o).heap.size (W.alloc o) W') : Below w.heap.size w W' := (h.alloc h.size o).trans (Below.mono k (by rw [World.size_alloc]; exact Nat.le_trans h.size (Nat.le_succ _)))

set_option maxRecDepth 100000 in
set_option maxHeartbeats 6400000 in
theorem iWalk_any (a0 a1 a2 : Addr) (ks : List Kn) (T : TreeOk ks) (SM : ∀ i, i < ks.length → KnSmall (knAt ks i)) (ad : Option Addr) (c : Nat) (vals : List Int) (vl : Option Addr) (lc : Nat) (w : World) (hS : Sen w a0 a1 a2) (hc : KnotsIn w ad ks) (hq : IntsIn w vl vals) (_hlen : vals.length ≤ 1048576) :
    Calls Tryd.prog 42 #[.slice ad ks.length c, .slice vl vals.length lc] w fun e w' => e = .returned (.tuple #[.int .i16 ((wk ks vals).2.1 : Int), .int .i64 ((wk ks vals).2.2 : Int), senV a1 a2 (wk ks vals).1]) ∧ Below w.heap.size w w' := by
  have k120 := T.2.1
  obtain ⟨b0, o0, rfl, _⟩ := hc 0 T.1
  have C := Lib.hid hc
  have SS := Lib.hid hS
  have HQ := Lib.hid hq
  have OW0 := Lib.hid (onWay_start T vals)
  have BB0 := Lib.hid (Below.refl w.heap.size w)
  clear hc hS hq
  go_enter Tryd.func42, Tryd.ntmps42
  go_wp2
  refine wp_scope_jumps 0 (fun a' W => ∃ (a q : Nat) (u9 u10 u11 u12 u13 u14 u15 u16 u17 u18 u19 u20 u21 u22 u23 u24 u25 u26 u27 u28 u29 u30 u31 u32 u33 u34 : Value), a' = { tmps := #[.slice (some ⟨b0, o0, none⟩) ks.length c, .slice vl vals.length lc, undef, undef, .int .i16 0, .int .i64 0, .nilIface, .int .i16 (a : Int), .int .i64 (q : Int), u9, u10, u11, u12, u13, u14, u15, u16, u17, u18, u19, u20, u21, u22, u23, u24, u25, u26, u27, u28, u29, u30, u31, u32, u33, u34], defers := [] } ∧ OnWay ks vals a q ∧ Below w.heap.size w W) (fun a' _ => ks.length - (intOf (a'.tmps.getD 7 undef)).toNat) rfl ?_ ?_
  · go_wp2
    go_step3
    have ha := OW0.out.1
    have OWF := OW0
    have q120 : 0 < 120 := OW0.out.2.2.1
    obtain ⟨hfit, va, vc, na, nc, ca, cc, y1, d0, d1, d2, d3, p1, p2, p3⟩ := kn_at C.out ha BB0.out
    rw [Nat.zero_mul, Nat.add_zero] at d0 d1 d2 d3
    have i1 : (0 : Int) ≤ (0 : Int) := by omega
    have i2 : ((0 : Nat) : Int) < (ks.length : Int) := by omega
    have sm := SM 0 ha
    by_cases hf : (knAt ks 0).f = -1
    · have WL := Lib.hid (onWay_leaf OW0.out (stp_leaf vals hf))
      clear sm hfit p1 p2 p3
      generalize knAt ks 0 = k at *
      obtain ⟨f, vs, ns, cs⟩ := k
      simp only at d0 d1 d2 d3 hf
      subst hf
      have KD := Lib.hid (fun W => iKind_any (-1) (.slice va vs.length vc) (.slice na ns.length nc) (.slice ca cs.length cc) W ⟨_, _, _, rfl⟩ ⟨_, _, _, rfl⟩ ⟨_, _, _, rfl⟩)
      have ta : ∀ W : World, (Instr.typeAssert (.iface (if (-1 : Int) = -1 then 145 else 114) (.agg #[.int .i16 (-1), .slice va vs.length vc, .slice na ns.length nc, .slice ca cs.length cc])) 111 114 true).run Tryd.prog W = .ok (.tuple #[.agg #[.int .i16 0, .slice none 0 0, .slice none 0 0, .slice none 0 0], .bool false]) W := fun _ => by kernel_rfl
      rw [if_pos rfl] at ta
      have KD2 := fun W => KD.out W
      rw [if_pos rfl] at KD2
      have KD2 := Lib.hid KD2
      go_wp2_with (go_at_call 75; refine (KD2.out _).mono ?_; rintro e w1 ⟨rfl, hB⟩; have b1 := Lib.hid (BB0.out.trans (Below.mono hB BB0.out.size)); clear hB)
      try simp only [Exit.jump]
      go_returns
      exact ⟨by rw [WL.out]; rfl, b1.out⟩
    have AO := ask_of T ha hf
    have NX := fun t ht => next_of T ha (t := t) ht
    have hf2 : 0 ≤ (knAt ks 0).f ∧ (knAt ks 0).f < 12 := ⟨AO.1, AO.2.1⟩
    have KD := fun W => iKind_any (knAt ks 0).f (.slice va (knAt ks 0).vs.length vc) (.slice na (knAt ks 0).ns.length nc) (.slice ca (knAt ks 0).cs.length cc) W ⟨_, _, _, rfl⟩ ⟨_, _, _, rfl⟩ ⟨_, _, _, rfl⟩
    simp only [if_neg hf] at KD
    by_cases hl : (vals.length : Int) ≤ (knAt ks 0).f
    · have WB := Lib.hid (onWay_bad OW0.out (stp_far (k := knAt ks 0) (vals := vals) hf (by omega)))
      have AN := fun W hS => iAns_far a0 a1 a2 (knAt ks 0).f (knAt ks 0).vs (knAt ks 0).ns (knAt ks 0).cs vals va na ca vl vc nc cc lc W hS hf2 hl
      unfold AnR at AN
      clear sm hfit p1 p2 p3 AO NX hl hf hf2
      generalize knAt ks 0 = k at *
      obtain ⟨f, vs, ns, cs⟩ := k
      simp only at d0 d1 d2 d3 KD AN
      have ta : ∀ W : World, (Instr.typeAssert (.iface 114 (.agg #[.int .i16 f, .slice va vs.length vc, .slice na ns.length nc, .slice ca cs.length cc])) 111 114 true).run Tryd.prog W = .ok (.tuple #[.agg #[.int .i16 f, .slice va vs.length vc, .slice na ns.length nc, .slice ca cs.length cc], .bool true]) W := fun _ => by kernel_rfl
      replace KD := Lib.hid KD
      replace AN := Lib.hid AN
      go_wp2_with (first
        | (go_at_call 75; refine (KD.out _).mono ?_; rintro e w1 ⟨rfl, hB⟩; have b1 := Lib.hid (BB0.out.trans (Below.mono hB BB0.out.size)); clear hB)
        | (go_at_call 76; refine (AN.out _ (SS.out.below (by have := b1.out; ((repeat' (first | (with_reducible exact Below.refl _ _) | (with_reducible assumption) | (with_reducible refine below_drewN ?_ _) | (with_reducible refine Below.drew ?_) | (with_reducible refine below_new ?_ _) | (with_reducible refine below_next ?_ (by with_reducible assumption)) | (with_reducible refine Below.setCell ?_ ?_ _) | go_size)); done)))).mono ?_; rintro e w2 ⟨rfl, hB⟩; have b2 := Lib.hid (show Below w.heap.size w w2 from by have hx := b1.out; exact kb_next (W := w1) hx hB); clear hB))
      try simp only [Exit.jump]
      go_returns
      exact ⟨by rw [WB.out]; rfl, b2.out⟩
    have hlN : ¬ vals.length ≤ (knAt ks 0).f.toNat := by omega
    cases hx : fnd (knAt ks 0).vs (vals.getD (knAt ks 0).f.toNat 0) with
    | none =>
      have WB := Lib.hid (onWay_bad OW0.out (stp_no (k := knAt ks 0) (vals := vals) hf hlN hx))
      have AN := fun W hS h1 h2 => iAns_no a0 a1 a2 (knAt ks 0).f (knAt ks 0).vs (knAt ks 0).ns (knAt ks 0).cs vals va na ca vl vc nc cc lc W hS hf2 hl h1 AO.2.2.2.2.2 sm.1 h2 hx
      unfold AnR at AN
      have P1 := Lib.hid p1
      clear sm hfit p1 p2 p3 AO NX hl hlN hf hf2 hx
      generalize knAt ks 0 = k at *
      obtain ⟨f, vs, ns, cs⟩ := k
      simp only at d0 d1 d2 d3 KD AN P1
      have ta : ∀ W : World, (Instr.typeAssert (.iface 114 (.agg #[.int .i16 f, .slice va vs.length vc, .slice na ns.length nc, .slice ca cs.length cc])) 111 114 true).run Tryd.prog W = .ok (.tuple #[.agg #[.int .i16 f, .slice va vs.length vc, .slice na ns.length nc, .slice ca cs.length cc], .bool true]) W := fun _ => by kernel_rfl
      replace KD := Lib.hid KD
      replace AN := Lib.hid AN
      go_wp2_with (first
        | (go_at_call 75; refine (KD.out _).mono ?_; rintro e w1 ⟨rfl, hB⟩; have P1 := Lib.hid (intsIn_below P1.out hB); have b1 := Lib.hid (BB0.out.trans (Below.mono hB BB0.out.size)); clear hB)
        | (go_at_call 76; refine (AN.out _ (SS.out.below (by have := b1.out; ((repeat' (first | (with_reducible exact Below.refl _ _) | (with_reducible assumption) | (with_reducible refine below_drewN ?_ _) | (with_reducible refine Below.drew ?_) | (with_reducible refine below_new ?_ _) | (with_reducible refine below_next ?_ (by with_reducible assumption)) | (with_reducible refine Below.setCell ?_ ?_ _) | go_size)); done))) (intsIn_below P1.out (kb_box _)) (intsIn_below HQ.out (by have := b1.out; ((repeat' (first | (with_reducible exact Below.refl _ _) | (with_reducible assumption) | (with_reducible refine below_drewN ?_ _) | (with_reducible refine Below.drew ?_) | (with_reducible refine below_new ?_ _) | (with_reducible refine below_next ?_ (by with_reducible assumption)) | (with_reducible refine Below.setCell ?_ ?_ _) | go_size)); done)))).mono ?_; rintro e w2 ⟨rfl, hB⟩; have b2 := Lib.hid (show Below w.heap.size w w2 from by have hx := b1.out; exact kb_next (W := w1) hx hB); clear hB))
      try simp only [Exit.jump]
      go_returns
      exact ⟨by rw [WB.out]; rfl, b2.out⟩
    | some i =>
      have hin : i < (knAt ks 0).ns.length := by rw [AO.2.2.2.2.1]; exact (fndN_some hx).1
      obtain ⟨nx1, nx2⟩ := NX i hin
      obtain ⟨b, hb⟩ : ∃ b : Nat, (knAt ks 0).ns.getD i 0 = (b : Int) := ⟨((knAt ks 0).ns.getD i 0).toNat, by omega⟩
      have hgo := stp_go (k := knAt ks 0) (vals := vals) hf hlN hx
      rw [hb, Int.toNat_natCast] at hgo
      have OG := Lib.hid (onWay_go T OW0.out hgo ⟨by omega, by omega⟩)
      have AN := fun W h1 h2 h3 => iAns_go (knAt ks 0).f (knAt ks 0).vs (knAt ks 0).ns (knAt ks 0).cs vals va na ca vl vc nc cc lc W hf2 hl h1 AO.2.2.2.2.2 sm.1 h2 h3 i hin hx
      unfold AnR at AN
      rw [hb] at AN nx1 nx2
      have P1 := Lib.hid p1
      have P2 := Lib.hid p2
      have xq : IntKind.i64.wrap ((0 : Int) + 1) = (((0 + 1 : Nat)) : Int) := by rw [show (((0 + 1 : Nat)) : Int) = (0 : Int) + 1 by omega]; exact IntWalk.i64_in _ (by omega)
      clear sm hfit p1 p2 p3 AO NX hl hlN hf hf2 hx hin hgo hb
      generalize knAt ks 0 = k at *
      obtain ⟨f, vs, ns, cs⟩ := k
      simp only at d0 d1 d2 d3 KD AN P1 P2
      have ta : ∀ W : World, (Instr.typeAssert (.iface 114 (.agg #[.int .i16 f, .slice va vs.length vc, .slice na ns.length nc, .slice ca cs.length cc])) 111 114 true).run Tryd.prog W = .ok (.tuple #[.agg #[.int .i16 f, .slice va vs.length vc, .slice na ns.length nc, .slice ca cs.length cc], .bool true]) W := fun _ => by kernel_rfl
      replace KD := Lib.hid KD
      replace AN := Lib.hid AN
      go_wp2_with (first
        | (go_at_call 75; refine (KD.out _).mono ?_; rintro e w1 ⟨rfl, hB⟩; have P1 := Lib.hid (intsIn_below P1.out hB); have P2 := Lib.hid (i16sIn_below P2.out hB); have b1 := Lib.hid (BB0.out.trans (Below.mono hB BB0.out.size)); clear hB)
        | (go_at_call 76; refine (AN.out _ (intsIn_below P1.out (kb_box _)) (intsIn_below HQ.out (by have := b1.out; ((repeat' (first | (with_reducible exact Below.refl _ _) | (with_reducible assumption) | (with_reducible refine below_drewN ?_ _) | (with_reducible refine Below.drew ?_) | (with_reducible refine below_new ?_ _) | (with_reducible refine below_next ?_ (by with_reducible assumption)) | (with_reducible refine Below.setCell ?_ ?_ _) | go_size)); done))) (i16sIn_below P2.out (kb_box _))).mono ?_; rintro e w2 ⟨rfl, hB⟩; have b2 := Lib.hid (show Below w.heap.size w w2 from by have hx := b1.out; exact kb_next (W := w1) hx hB); clear hB))
      try go_step3
      exact ⟨rfl, ⟨b, 0 + 1, _, _, _, _, _, _, _, _, _, _, _, _, _, _, _, _, _, _, _, _, _, _, _, _, _, _, rfl, OG.out, b2.out⟩⟩
  · rintro a' wr ⟨a, q, u9, u10, u11, u12, u13, u14, u15, u16, u17, u18, u19, u20, u21, u22, u23, u24, u25, u26, u27, u28, u29, u30, u31, u32, u33, u34, rfl, hO, hB⟩
    have OW := Lib.hid hO
    have BB := Lib.hid hB
    clear hO hB
    have ha := OW.out.1
    have OWF := OW
    have q120 : q < 120 := OW.out.2.2.1
    obtain ⟨hfit, va, vc, na, nc, ca, cc, y1, d0, d1, d2, d3, p1, p2, p3⟩ := kn_at C.out ha BB.out
    have i1 : (0 : Int) ≤ (a : Int) := by omega
    have i2 : ((a : Nat) : Int) < (ks.length : Int) := by omega
    have sm := SM a ha
    by_cases hf : (knAt ks a).f = -1
    · have WL := Lib.hid (onWay_leaf OW.out (stp_leaf vals hf))
      clear sm hfit p1 p2 p3
      generalize knAt ks a = k at *
      obtain ⟨f, vs, ns, cs⟩ := k
      simp only at d0 d1 d2 d3 hf
      subst hf
      have KD := Lib.hid (fun W => iKind_any (-1) (.slice va vs.length vc) (.slice na ns.length nc) (.slice ca cs.length cc) W ⟨_, _, _, rfl⟩ ⟨_, _, _, rfl⟩ ⟨_, _, _, rfl⟩)
      have ta : ∀ W : World, (Instr.typeAssert (.iface (if (-1 : Int) = -1 then 145 else 114) (.agg #[.int .i16 (-1), .slice va vs.length vc, .slice na ns.length nc, .slice ca cs.length cc])) 111 114 true).run Tryd.prog W = .ok (.tuple #[.agg #[.int .i16 0, .slice none 0 0, .slice none 0 0, .slice none 0 0], .bool false]) W := fun _ => by kernel_rfl
      rw [if_pos rfl] at ta
      have KD2 := fun W => KD.out W
      rw [if_pos rfl] at KD2
      have KD2 := Lib.hid KD2
      go_wp2_with (go_at_call 75; refine (KD2.out _).mono ?_; rintro e w1 ⟨rfl, hB⟩; have b1 := Lib.hid (BB.out.trans (Below.mono hB BB.out.size)); clear hB)
      try simp only [Exit.jump]
      go_returns
      exact ⟨by rw [WL.out]; rfl, b1.out⟩
    have AO := ask_of T ha hf
    have NX := fun t ht => next_of T ha (t := t) ht
    have hf2 : 0 ≤ (knAt ks a).f ∧ (knAt ks a).f < 12 := ⟨AO.1, AO.2.1⟩
    have KD := fun W => iKind_any (knAt ks a).f (.slice va (knAt ks a).vs.length vc) (.slice na (knAt ks a).ns.length nc) (.slice ca (knAt ks a).cs.length cc) W ⟨_, _, _, rfl⟩ ⟨_, _, _, rfl⟩ ⟨_, _, _, rfl⟩
    simp only [if_neg hf] at KD
    by_cases hl : (vals.length : Int) ≤ (knAt ks a).f
    · have WB := Lib.hid (onWay_bad OW.out (stp_far (k := knAt ks a) (vals := vals) hf (by omega)))
      have AN := fun W hS => iAns_far a0 a1 a2 (knAt ks a).f (knAt ks a).vs (knAt ks a).ns (knAt ks a).cs vals va na ca vl vc nc cc lc W hS hf2 hl
      unfold AnR at AN
      clear sm hfit p1 p2 p3 AO NX hl hf hf2
      generalize knAt ks a = k at *
      obtain ⟨f, vs, ns, cs⟩ := k
      simp only at d0 d1 d2 d3 KD AN
      have ta : ∀ W : World, (Instr.typeAssert (.iface 114 (.agg #[.int .i16 f, .slice va vs.length vc, .slice na ns.length nc, .slice ca cs.length cc])) 111 114 true).run Tryd.prog W = .ok (.tuple #[.agg #[.int .i16 f, .slice va vs.length vc, .slice na ns.length nc, .slice ca cs.length cc], .bool true]) W := fun _ => by kernel_rfl
      replace KD := Lib.hid KD
      replace AN := Lib.hid AN
      go_wp2_with (first
        | (go_at_call 75; refine (KD.out _).mono ?_; rintro e w1 ⟨rfl, hB⟩; have b1 := Lib.hid (BB.out.trans (Below.mono hB BB.out.size)); clear hB)
        | (go_at_call 76; refine (AN.out _ (SS.out.below (by have := b1.out; ((repeat' (first | (with_reducible exact Below.refl _ _) | (with_reducible assumption) | (with_reducible refine below_drewN ?_ _) | (with_reducible refine Below.drew ?_) | (with_reducible refine below_new ?_ _) | (with_reducible refine below_next ?_ (by with_reducible assumption)) | (with_reducible refine Below.setCell ?_ ?_ _) | go_size)); done)))).mono ?_; rintro e w2 ⟨rfl, hB⟩; have b2 := Lib.hid (show Below w.heap.size w w2 from by have hx := b1.out; exact kb_next (W := w1) hx hB); clear hB))
      try simp only [Exit.jump]
      go_returns
      exact ⟨by rw [WB.out]; rfl, b2.out⟩
    have hlN : ¬ vals.length ≤ (knAt ks a).f.toNat := by omega
    cases hx : fnd (knAt ks a).vs (vals.getD (knAt ks a).f.toNat 0) with
    | none =>
      have WB := Lib.hid (onWay_bad OW.out (stp_no (k := knAt ks a) (vals := vals) hf hlN hx))
      have AN := fun W hS h1 h2 => iAns_no a0 a1 a2 (knAt ks a).f (knAt ks a).vs (knAt ks a).ns (knAt ks a).cs vals va na ca vl vc nc cc lc W hS hf2 hl h1 AO.2.2.2.2.2 sm.1 h2 hx
      unfold AnR at AN
      have P1 := Lib.hid p1
      clear sm hfit p1 p2 p3 AO NX hl hlN hf hf2 hx
      generalize knAt ks a = k at *
      obtain ⟨f, vs, ns, cs⟩ := k
      simp only at d0 d1 d2 d3 KD AN P1
      have ta : ∀ W : World, (Instr.typeAssert (.iface 114 (.agg #[.int .i16 f, .slice va vs.length vc, .slice na ns.length nc, .slice ca cs.length cc])) 111 114 true).run Tryd.prog W = .ok (.tuple #[.agg #[.int .i16 f, .slice va vs.length vc, .slice na ns.length nc, .slice ca cs.length cc], .bool true]) W := fun _ => by kernel_rfl
      replace KD := Lib.hid KD
      replace AN := Lib.hid AN
      go_wp2_with (first
        | (go_at_call 75; refine (KD.out _).mono ?_; rintro e w1 ⟨rfl, hB⟩; have P1 := Lib.hid (intsIn_below P1.out hB); have b1 := Lib.hid (BB.out.trans (Below.mono hB BB.out.size)); clear hB)
        | (go_at_call 76; refine (AN.out _ (SS.out.below (by have := b1.out; ((repeat' (first | (with_reducible exact Below.refl _ _) | (with_reducible assumption) | (with_reducible refine below_drewN ?_ _) | (with_reducible refine Below.drew ?_) | (with_reducible refine below_new ?_ _) | (with_reducible refine below_next ?_ (by with_reducible assumption)) | (with_reducible refine Below.setCell ?_ ?_ _) | go_size)); done))) (intsIn_below P1.out (kb_box _)) (intsIn_below HQ.out (by have := b1.out; ((repeat' (first | (with_reducible exact Below.refl _ _) | (with_reducible assumption) | (with_reducible refine below_drewN ?_ _) | (with_reducible refine Below.drew ?_) | (with_reducible refine below_new ?_ _) | (with_reducible refine below_next ?_ (by with_reducible assumption)) | (with_reducible refine Below.setCell ?_ ?_ _) | go_size)); done)))).mono ?_; rintro e w2 ⟨rfl, hB⟩; have b2 := Lib.hid (show Below w.heap.size w w2 from by have hx := b1.out; exact kb_next (W := w1) hx hB); clear hB))
      try simp only [Exit.jump]
      go_returns
      exact ⟨by rw [WB.out]; rfl, b2.out⟩
    | some i =>
      have hin : i < (knAt ks a).ns.length := by rw [AO.2.2.2.2.1]; exact (fndN_some hx).1
      obtain ⟨nx1, nx2⟩ := NX i hin
      obtain ⟨b, hb⟩ : ∃ b : Nat, (knAt ks a).ns.getD i 0 = (b : Int) := ⟨((knAt ks a).ns.getD i 0).toNat, by omega⟩
      have hgo := stp_go (k := knAt ks a) (vals := vals) hf hlN hx
      rw [hb, Int.toNat_natCast] at hgo
      have OG := Lib.hid (onWay_go T OW.out hgo ⟨by omega, by omega⟩)
      have AN := fun W h1 h2 h3 => iAns_go (knAt ks a).f (knAt ks a).vs (knAt ks a).ns (knAt ks a).cs vals va na ca vl vc nc cc lc W hf2 hl h1 AO.2.2.2.2.2 sm.1 h2 h3 i hin hx
      unfold AnR at AN
      rw [hb] at AN nx1 nx2
      have P1 := Lib.hid p1
      have P2 := Lib.hid p2
      have xq : IntKind.i64.wrap ((q : Int) + 1) = (((q + 1 : Nat)) : Int) := by rw [show (((q + 1 : Nat)) : Int) = (q : Int) + 1 by omega]; exact IntWalk.i64_in _ (by omega)
      clear sm hfit p1 p2 p3 AO NX hl hlN hf hf2 hx hin hgo hb
      generalize knAt ks a = k at *
      obtain ⟨f, vs, ns, cs⟩ := k
      simp only at d0 d1 d2 d3 KD AN P1 P2
      have ta : ∀ W : World, (Instr.typeAssert (.iface 114 (.agg #[.int .i16 f, .slice va vs.length vc, .slice na ns.length nc, .slice ca cs.length cc])) 111 114 true).run Tryd.prog W = .ok (.tuple #[.agg #[.int .i16 f, .slice va vs.length vc, .slice na ns.length nc, .slice ca cs.length cc], .bool true]) W := fun _ => by kernel_rfl
      replace KD := Lib.hid KD
      replace AN := Lib.hid AN
      go_wp2_with (first
        | (go_at_call 75; refine (KD.out _).mono ?_; rintro e w1 ⟨rfl, hB⟩; have P1 := Lib.hid (intsIn_below P1.out hB); have P2 := Lib.hid (i16sIn_below P2.out hB); have b1 := Lib.hid (BB.out.trans (Below.mono hB BB.out.size)); clear hB)
        | (go_at_call 76; refine (AN.out _ (intsIn_below P1.out (kb_box _)) (intsIn_below HQ.out (by have := b1.out; ((repeat' (first | (with_reducible exact Below.refl _ _) | (with_reducible assumption) | (with_reducible refine below_drewN ?_ _) | (with_reducible refine Below.drew ?_) | (with_reducible refine below_new ?_ _) | (with_reducible refine below_next ?_ (by with_reducible assumption)) | (with_reducible refine Below.setCell ?_ ?_ _) | go_size)); done))) (i16sIn_below P2.out (kb_box _))).mono ?_; rintro e w2 ⟨rfl, hB⟩; have b2 := Lib.hid (show Below w.heap.size w w2 from by have hx := b1.out; exact kb_next (W := w1) hx hB); clear hB))
      try go_step3
      exact ⟨rfl, ⟨b, q + 1, _, _, _, _, _, _, _, _, _, _, _, _, _, _, _, _, _, _, _, _, _, _, _, _, _, _, rfl, OG.out, b2.out⟩, by (simp [intOf]) <;> omega⟩

end Go.Proofs.YtppjmngnjdeigaaDoor
