/- Contracts: the program's way through a tree. -/
import Derived.Test.YtppjmngnjdeigaaDoorWkB
import Derived.Test.YtppjmngnjdeigaaDoorVtT
import Derived.Test.YtppjmngnjdeigaaDoorSenI
import Derived.Scope
import Derived.ScopeJumps
import Derived.WalkMore
namespace Go.Proofs.YtppjmngnjdeigaaDoor
open Go.ChangeShapes Go.WideShapes Go.ChangeAt Go.RowKit

/-! ### A copy of numbers -/
def IListR (zs : List Int) (w : World) (e : Ending) (w' : World) : Prop := ∃ v, e = .returned v ∧ OwnInts w.heap.size zs v w' ∧ Below w.heap.size w w'
theorem ints_none {w : World} {zs : List Int} (h : IntsIn w none zs) : zs = [] := by
  cases zs with
  | nil => rfl
  | cons c cs => obtain ⟨b, o, he, _⟩ := h 0 (by simp); cases he
theorem ints_past {w : World} {zs : List Int} {x : Addr} (h : IntsIn w (some x) zs) (o : Obj) : ∀ j u, (zs.map (Value.int .i64))[j]? = some u → (w.alloc o).cell? (x.add j) = some u := by
  intro j u hj
  have hl : j < zs.length := by have := (List.getElem?_eq_some_iff.1 hj).1; rwa [List.length_map] at this
  obtain ⟨b, off, he, _, hc⟩ := h j hl
  cases he
  rw [Go.WideShapes.add_plain]
  refine Lib.cell?_alloc_some _ (hc.trans ?_)
  rw [List.getElem?_map, List.getElem?_eq_getElem hl] at hj
  rw [← hj, List.getD, List.getElem?_eq_getElem hl]
  rfl
theorem ints_one (zs : List Int) : ∀ u ∈ zs.map (Value.int .i64), u.oneCell' = true := fun u hu => by
  obtain ⟨z, _, rfl⟩ := List.mem_map.1 hu
  rfl
theorem ownI_all {B : Nat} {zs : List Int} {v : Value} {w : World} (h : w.ownsRow B 2 1 v (0 + zs.length) ([] ++ zs.map (Value.int .i64))) : OwnInts B zs v w := by unfold OwnInts; simpa using h
theorem ownI_made {w : World} {n B : Nat} (hn : n = w.heap.size) (hB : B ≤ w.heap.size) : OwnInts B [] (.slice (some ⟨n, 0, none⟩) 0 0) (w.alloc (.cells #[] 2)) := by
  subst hn; exact World.ownsRow_made w #[] 0 hB (Nat.zero_le _) rfl
theorem ownI_lt {B : Nat} {zs : List Int} {v : Value} {w : World} (h : OwnInts B zs v w) : ∀ j, v.ownBlock = some j → B ≤ j := fun j hj => (World.ownsRow.lt h j hj).1
theorem ownI_nil (w : World) (B : Nat) : OwnInts B [] (.slice none 0 0) w := World.ownsRow_nil w B _ 1

set_option maxRecDepth 100000 in
set_option maxHeartbeats 1600000 in
theorem iCloneI_any (ad : Option Addr) (zs : List Int) (c : Nat) (w : World) (hc : IntsIn w ad zs) (hn : zs.length ≤ 1048576) :
    Calls Tryd.prog 44 #[.slice ad zs.length c] w (IListR zs w) := by
  obtain ⟨i0, hi, hz0, hz1, hz2⟩ := info_parts info_i64
  have q : ∀ (w : World) (a : Option Addr) (n c : Nat), (binOp .eql 32 (.slice a n c) (.slice none 0 0)).run Tryd.prog w = .ok (.bool a.isNone) w := fun w a n c => Lib.run_eql_slice_nil w _ _ a n c 0 0 Tryd.underlying32
  cases ad with
  | none =>
    have e := ints_none hc
    subst e
    go_enter Tryd.func44, Tryd.ntmps44
    go_wp2
    go_ret
    exact ⟨_, rfl, ownI_nil _ _, Below.refl _ _⟩
  | some x =>
    have F := Lib.hid (ints_past hc (.cells #[] 2))
    clear hc
    go_enter Tryd.func44, Tryd.ntmps44
    go_wp2_with (at_builtin; go_loud (refine wpList_append_own _ rfl _ _ 32 rfl w.heap.size 2 i0 (.int .i64 0) 1 8 Tryd.underlying32 hi hz0 hz1 hz2 rfl (by decide) _ _ _ rfl (World.ownsRow_made w #[] 0 (Nat.le_refl _) (Nat.zero_le _) rfl) x zs.length c (zs.map (Value.int .i64)) rfl (by rw [List.length_map, Nat.mul_one]) F.out (ints_one zs) (by unfold maxLen; omega) (by omega) (by simp) ?_; intro v' w1 hown hgrow _; have P := Lib.hid (ownI_all hown); have G := Lib.hid (Below.grown ((Below.refl w.heap.size w).alloc (Nat.le_refl _) _) hgrow (by simp) (ownI_lt (ownI_made rfl (Nat.le_refl w.heap.size)))); clear hown hgrow))
    go_ret
    exact ⟨_, rfl, P.out, G.out⟩

set_option maxRecDepth 100000 in
set_option maxHeartbeats 1600000 in
theorem sOwnI_any (ad : Option Addr) (zs : List Int) (c : Nat) (w : World) (hc : IntsIn w ad zs) (hn : zs.length ≤ 1048576) :
    Calls Tryd.prog 39 #[.slice ad zs.length c] w (IListR zs w) := by
  obtain ⟨i0, hi, hz0, hz1, hz2⟩ := info_parts info_i64
  cases ad with
  | none =>
    have e := ints_none hc
    subst e
    go_enter Tryd.func39, Tryd.ntmps39
    go_wp2
    go_ret
    exact ⟨_, rfl, ownI_made rfl (Nat.le_refl _), below_new (Below.refl _ _) _⟩
  | some x =>
    have F := Lib.hid (ints_past hc (.cells #[] 2))
    clear hc
    go_enter Tryd.func39, Tryd.ntmps39
    go_wp2_with (at_builtin; go_loud (refine wpList_append_own _ rfl _ _ 32 rfl w.heap.size 2 i0 (.int .i64 0) 1 8 Tryd.underlying32 hi hz0 hz1 hz2 rfl (by decide) _ _ _ rfl (World.ownsRow_made w #[] 0 (Nat.le_refl _) (Nat.zero_le _) rfl) x zs.length c (zs.map (Value.int .i64)) rfl (by rw [List.length_map, Nat.mul_one]) F.out (ints_one zs) (by unfold maxLen; omega) (by omega) (by simp) ?_; intro v' w1 hown hgrow _; have P := Lib.hid (ownI_all hown); have G := Lib.hid (Below.grown ((Below.refl w.heap.size w).alloc (Nat.le_refl _) _) hgrow (by simp) (ownI_lt (ownI_made rfl (Nat.le_refl w.heap.size)))); clear hown hgrow))
    go_ret
    exact ⟨_, rfl, P.out, G.out⟩

/-! ### A question's answer -/
def AnR (o : Int) (v : Value) (w : World) (e : Ending) (w' : World) : Prop := e = .returned (.tuple #[.int .i16 o, v]) ∧ Below w.heap.size w w'

set_option maxRecDepth 100000 in
set_option maxHeartbeats 3200000 in
theorem iAns_far (a0 a1 a2 : Addr) (f : Int) (vs ns cs vals : List Int) (va na ca vl : Option Addr) (vc nc cc lc : Nat) (w : World) (hS : Sen w a0 a1 a2) (hf : 0 ≤ f ∧ f < 12) (hl : (vals.length : Int) ≤ f) :
    Calls Tryd.prog 76 #[.agg #[.int .i16 f, .slice va vs.length vc, .slice na ns.length nc, .slice ca cs.length cc], .slice vl vals.length lc] w (AnR 0 (.iface 204 (.pointer (some a1))) w) := by
  have B0 := Lib.hid (below_new (Below.refl w.heap.size w) (.cells #[.int .i16 f, .slice va vs.length vc, .slice na ns.length nc, .slice ca cs.length cc] 114))
  have g1 := hS.g1
  have yg := World.block_lt_of_cell? _ _ g1
  have y1 : 2 < (w.alloc (.cells #[.int .i16 f, .slice va vs.length vc, .slice na ns.length nc, .slice ca cs.length cc] 114)).heap.size := Nat.lt_of_lt_of_le yg B0.out.size
  have x1 : IntKind.i64.wrap f = f := IntWalk.i64_in _ (by omega)
  have d1 : decide ((vals.length : Int) ≤ f) = true := decide_eq_true hl
  clear hS
  have hbw := cell_bw
  go_enter Tryd.func76, Tryd.ntmps76
  go_wp2_with fail
  refine region_bw (by kernel_rfl) (by kernel_rfl) ?_
  repeat (go_big_quiet_step (fail))
  refine wpQuiet_nil ?_; intro wq hq; replace hq := below_of_bw hq; obtain ⟨qc, qf, qz⟩ := bcell hq
  have B1 := Lib.hid (B0.out.trans (Below.mono hq B0.out.size))
  go_wp2
  go_returns
  exact ⟨rfl, B1.out⟩

set_option maxRecDepth 100000 in
set_option maxHeartbeats 6400000 in
theorem iAns_no (a0 a1 a2 : Addr) (f : Int) (vs ns cs vals : List Int) (va na ca vl : Option Addr) (vc nc cc lc : Nat) (w : World) (hS : Sen w a0 a1 a2) (hf : 0 ≤ f ∧ f < 12) (hl : ¬ (vals.length : Int) ≤ f) (hv : IntsIn w va vs) (hV : ValTo vs vs.length) (hn : vs.length ≤ 1048576) (hq : IntsIn w vl vals) (hx : fnd vs (vals.getD f.toNat 0) = none) :
    Calls Tryd.prog 76 #[.agg #[.int .i16 f, .slice va vs.length vc, .slice na ns.length nc, .slice ca cs.length cc], .slice vl vals.length lc] w (AnR 0 (.iface 204 (.pointer (some a2))) w) := by
  have B0 := Lib.hid (below_new (Below.refl w.heap.size w) (.cells #[.int .i16 f, .slice va vs.length vc, .slice na ns.length nc, .slice ca cs.length cc] 114))
  have SS := Lib.hid (fun W (h : Below w.heap.size w W) => (hS.below h).g2)
  have x1 : IntKind.i64.wrap f = f := IntWalk.i64_in _ (by omega)
  have d1 : decide ((vals.length : Int) ≤ f) = false := decide_eq_false hl
  have i1 : (0 : Int) ≤ f := hf.1
  have i2 : f < (vals.length : Int) := by omega
  obtain ⟨bq, oq, rfl, hb, hc⟩ := hq f.toNat (by omega)
  have hbw := cell_bw
  have K := fun W (h : Below w.heap.size w W) => bin_any va vs vc (vals.getD f.toNat 0) W (intsIn_below hv h) hV hn
  unfold binV at K
  simp only [hx, Option.isSome_none] at K
  generalize vals.getD f.toNat 0 = x at *
  generalize lowN vs x vs.length = p0 at *
  replace K := Lib.hid K
  have c0 := (B0.out.cell (p := ⟨bq, oq + f.toNat, none⟩) hb).trans hc
  have y0 := Nat.lt_of_lt_of_le hb B0.out.size
  clear hS hv hx hc
  go_enter Tryd.func76, Tryd.ntmps76
  go_wp2_with fail
  refine region_bw (by kernel_rfl) (by kernel_rfl) ?_
  repeat (go_big_quiet_step (first | (go_at_call 102; exact calls_bw_same (K.out _ (B0.out.trans (Below.mono (below_bw _ _) B0.out.size))))))
  refine wpQuiet_nil ?_; intro wq hq; replace hq := below_of_bw hq; obtain ⟨qc, qf, qz⟩ := bcell hq
  have B1 := Lib.hid (B0.out.trans (Below.mono hq B0.out.size))
  have g2 := SS.out _ B1.out
  have y2 := World.block_lt_of_cell? _ _ g2
  clear c0 hq qc qf qz
  go_wp2_with fail
  refine region_bw (by kernel_rfl) (by kernel_rfl) ?_
  repeat (go_big_quiet_step (fail))
  refine wpQuiet_nil ?_; intro wq hq; replace hq := below_of_bw hq; obtain ⟨qc, qf, qz⟩ := bcell hq
  have B2 := Lib.hid (B1.out.trans (Below.mono hq B1.out.size))
  go_wp2
  go_returns
  exact ⟨rfl, B2.out⟩

set_option maxRecDepth 100000 in
set_option maxHeartbeats 6400000 in
theorem iAns_go (f : Int) (vs ns cs vals : List Int) (va na ca vl : Option Addr) (vc nc cc lc : Nat) (w : World) (hf : 0 ≤ f ∧ f < 12) (hl : ¬ (vals.length : Int) ≤ f) (hv : IntsIn w va vs) (hV : ValTo vs vs.length) (hn : vs.length ≤ 1048576) (hq : IntsIn w vl vals) (hns : I16sIn w na ns) (i : Nat) (hi : i < ns.length) (hx : fnd vs (vals.getD f.toNat 0) = some i) :
    Calls Tryd.prog 76 #[.agg #[.int .i16 f, .slice va vs.length vc, .slice na ns.length nc, .slice ca cs.length cc], .slice vl vals.length lc] w (AnR (ns.getD i 0) .nilIface w) := by
  have B0 := Lib.hid (below_new (Below.refl w.heap.size w) (.cells #[.int .i16 f, .slice va vs.length vc, .slice na ns.length nc, .slice ca cs.length cc] 114))
  have x1 : IntKind.i64.wrap f = f := IntWalk.i64_in _ (by omega)
  have d1 : decide ((vals.length : Int) ≤ f) = false := decide_eq_false hl
  have i1 : (0 : Int) ≤ f := hf.1
  have i2 : f < (vals.length : Int) := by omega
  have j1 : (0 : Int) ≤ (i : Int) := by omega
  have j2 : (i : Int) < (ns.length : Int) := by omega
  obtain ⟨bq, oq, rfl, hb, hc⟩ := hq f.toNat (by omega)
  obtain ⟨bn, on, rfl, hbn, hcn⟩ := hns i hi
  have hbw := cell_bw
  have K := fun W (h : Below w.heap.size w W) => bin_any va vs vc (vals.getD f.toNat 0) W (intsIn_below hv h) hV hn
  unfold binV at K
  simp only [low_fnd hV hx] at K
  simp only [hx, Option.isSome_some] at K
  generalize vals.getD f.toNat 0 = x at *
  generalize ns.getD i 0 = y at *
  replace K := Lib.hid K
  have c0 := (B0.out.cell (p := ⟨bq, oq + f.toNat, none⟩) hb).trans hc
  have y0 := Nat.lt_of_lt_of_le hb B0.out.size
  have yn := Nat.lt_of_lt_of_le hbn B0.out.size
  clear hv hx hc
  go_enter Tryd.func76, Tryd.ntmps76
  go_wp2_with fail
  refine region_bw (by kernel_rfl) (by kernel_rfl) ?_
  repeat (go_big_quiet_step (first | (go_at_call 102; exact calls_bw_same (K.out _ (B0.out.trans (Below.mono (below_bw _ _) B0.out.size))))))
  refine wpQuiet_nil ?_; intro wq hq; replace hq := below_of_bw hq; obtain ⟨qc, qf, qz⟩ := bcell hq
  have B1 := Lib.hid (B0.out.trans (Below.mono hq B0.out.size))
  clear c0
  go_wp2
  all_goals go_returns
  all_goals exact ⟨rfl, B1.out⟩
end Go.Proofs.YtppjmngnjdeigaaDoor
