/- Three sentinels that a row lists: what a walk has of them; read again behind the call. -/
import Derived.Test.YtppjmngnjdeigaaDoorDoor
import Derived.Test.YtppjmngnjdeigaaDoorSenI
import Derived.Stop.LaidErr
import Derived.Stop.LaidTwo
import Derived.RowKitTokens
namespace Go.Proofs.YtppjmngnjdeigaaDoor
open Go.ChangeShapes Go.WideShapes Go.ChangeAt Go.RowKit

theorem laid_sentinels3 {P : Program} {n0 n1 n2 nm : String} {text0 text1 text2 : List UInt8} {r : List (String × DataW Unit)} {W : World} {g0 g1 g2 : Nat} {ti tp te ts : TypeId} {ms : Array (String × TypeId)} {f : Field}
    (h : laidMet P ((n0, .iface nm (.ptr (.agg [.lit (.string text0)]))) :: (n1, .iface nm (.ptr (.agg [.lit (.string text1)]))) :: (n2, .iface nm (.ptr (.agg [.lit (.string text2)]))) :: r) W)
    (hg0 : P.globalNamed n0 = some g0) (ht0 : (P.globals[g0]?).map (·.type) = some ti) (hg1 : P.globalNamed n1 = some g1) (ht1 : (P.globals[g1]?).map (·.type) = some ti) (hg2 : P.globalNamed n2 = some g2) (ht2 : (P.globals[g2]?).map (·.type) = some ti)
    (hi : P.underlying ti = some (.interface ms)) (hrow : ∀ u, P.typeName? 3 u = some nm → u = tp)
    (hp : P.underlying tp = some (.pointer te)) (he : P.underlying te = some (.struct #[f])) (hft : f.type = ts) (hfo : f.offset = 0) (hs : P.underlying ts = some .string) (hc : P.cellsOf te = 1) (hcs : P.cellsOf ts = 1) :
    ∃ (a0 a1 a2 : Addr),
      W.var? P n0 = some #[.iface tp (.pointer (some a0))] ∧ W.var? P n1 = some #[.iface tp (.pointer (some a1))] ∧ W.var? P n2 = some #[.iface tp (.pointer (some a2))] ∧
      (a0 ≠ a1 ∧ a0 ≠ a2 ∧ a1 ≠ a2) ∧ (∃ c t, W.heap[a0.block]? = some (.cells c t (0, 0))) ∧ (∃ c t, W.heap[a1.block]? = some (.cells c t (0, 0))) ∧ ∃ c t, W.heap[a2.block]? = some (.cells c t (0, 0)) := by
  obtain ⟨ps, ⟨g0', t0', cs0, f0, p0, q0, hg0', ht0', hv0, hd0, ⟨g1', t1', cs1, f1, p1, q1, hg1', ht1', hv1, hd1, ⟨g2', t2', cs2, f2, p2, q2, hg2', ht2', hv2, hd2, _, e2⟩, e1⟩, e0⟩, hnd, hrows⟩ := h
  obtain rfl := Option.some.inj (hg0.symm.trans hg0')
  obtain rfl := Option.some.inj (hg1.symm.trans hg1')
  obtain rfl := Option.some.inj (hg2.symm.trans hg2')
  obtain rfl := Option.some.inj (ht0.symm.trans ht0')
  obtain rfl := Option.some.inj (ht1.symm.trans ht1')
  obtain rfl := Option.some.inj (ht2.symm.trans ht2')
  subst e2
  subst e1
  subst e0
  obtain ⟨l0⟩ := cs0
  obtain ⟨l1⟩ := cs1
  obtain ⟨l2⟩ := cs2
  have ok0 : ∀ u v, l0 = [.iface u v] → Value.okWide P W .any 0 u v := fun u v e => by
    subst e
    exact (hrows g0 0 (by simp [MemPlace.row])).2 u v (by simpa using World.var?_cell hg0' hv0 0)
  have ok1 : ∀ u v, l1 = [.iface u v] → Value.okWide P W .any 0 u v := fun u v e => by
    subst e
    exact (hrows g1 0 (by simp [MemPlace.row])).2 u v (by simpa using World.var?_cell hg1' hv1 0)
  have ok2 : ∀ u v, l2 = [.iface u v] → Value.okWide P W .any 0 u v := fun u v e => by
    subst e
    exact (hrows g2 0 (by simp [MemPlace.row])).2 u v (by simpa using World.var?_cell hg2' hv2 0)
  obtain ⟨a0, s0, rfl, hc0, hs0, hz0, rfl⟩ := errorString_of_trod hi hrow hp he hft hfo hs hc hcs hd0 ok0
  obtain ⟨a1, s1, rfl, hc1, hs1, hz1, rfl⟩ := errorString_of_trod hi hrow hp he hft hfo hs hc hcs hd1 ok1
  obtain ⟨a2, s2, rfl, hc2, hs2, hz2, rfl⟩ := errorString_of_trod hi hrow hp he hft hfo hs hc hcs hd2 ok2
  refine ⟨a0, a1, a2, hv0, hv1, hv2, ⟨?_, ?_, ?_⟩, (hrows a0.block a0.off (by simp [MemPlace.row])).1, (hrows a1.block a1.off (by simp [MemPlace.row])).1, (hrows a2.block a2.off (by simp [MemPlace.row])).1⟩
  · rintro rfl
    simp [MemPlace.row] at hnd
  · rintro rfl
    simp [MemPlace.row] at hnd
  · rintro rfl
    simp [MemPlace.row] at hnd

theorem var_below {P : Program} {W W' : World} {n : String} {cs : Array Value} (h : W.var? P n = some cs) (hb : Below W.heap.size W W') : W'.var? P n = some cs := by
  unfold World.var? at h ⊢
  cases hg : P.globalNamed n with
  | none => simp [hg] at h
  | some g =>
    simp only [hg, Option.bind_some] at h ⊢
    have hlt : g < W.heap.size := by
      rcases Nat.lt_or_ge g W.heap.size with h' | h'
      · exact h'
      · simp [Array.getElem?_eq_none h'] at h
    rw [hb.block g hlt]
    exact h
theorem vars_read3 {H : Type} (enc : TypeId × Value → H) {P : Program} {W : World} {n0 n1 n2 : String} {g0 g1 g2 : Nat} {t0 t1 t2 : TypeId} {ms0 ms1 ms2 : Array (String × TypeId)} {x0 x1 x2 : Value}
    (hg0 : P.globalNamed n0 = some g0) (ht0 : (P.globals[g0]?).map (·.type) = some t0) (hi0 : P.underlying t0 = some (.interface ms0)) (h0 : W.var? P n0 = some #[x0]) (i0 : IsIface x0)
    (hg1 : P.globalNamed n1 = some g1) (ht1 : (P.globals[g1]?).map (·.type) = some t1) (hi1 : P.underlying t1 = some (.interface ms1)) (h1 : W.var? P n1 = some #[x1]) (i1 : IsIface x1)
    (hg2 : P.globalNamed n2 = some g2) (ht2 : (P.globals[g2]?).map (·.type) = some t2) (hi2 : P.underlying t2 = some (.interface ms2)) (h2 : W.var? P n2 = some #[x2]) (i2 : IsIface x2) (sp : Nat → Bool) :
    DataW.TrodVars enc P W sp [n0, n1, n2] [tok enc x0, tok enc x1, tok enc x2] [.cell g0 0, .cell g1 0, .cell g2 0] :=
  ⟨g0, t0, #[x0], 1, [], [.cell g1 0, .cell g2 0], hg0, ht0, h0, trod_held hi0 i0 0, ⟨g1, t1, #[x1], 1, [], [.cell g2 0], hg1, ht1, h1, trod_held hi1 i1 0, ⟨g2, t2, #[x2], 1, [], [], hg2, ht2, h2, trod_held hi2 i2 0, rfl, rfl⟩, rfl⟩, rfl⟩

/-- The law's end where the row lists variables: they read as they did. -/
theorem law_postV {H : Type} {enc : TypeId × Value → H} {P : Program} (hl : laidOutB P = true) {f : Func} {s : ChangeSpec} {bt : TypeId} (hres : f.resultTypes = #[bt]) (hbt : P.underlying bt = some .bool)
    (hread : ∀ t ∈ f.params.toList, P.readableRec t = true ∧ t < P.types.size)
    {W W' : World} {args : Array Value} {ds gs : List (DataW H)} {before pv : List MemPlace}
    (hW : DataW.Whole enc P f.params.toList s.vars false W args.toList ds gs before)
    (hs1 : (s.fn H (ds ++ gs)).results = [.lit (.bool true)]) (hs2 : (s.fn H (ds ++ gs)).args = ds) (hs3 : (s.fn H (ds ++ gs)).vars = gs)
    (hv : DataW.TrodVars enc P W' (fun b => decide (b < W.heap.size)) s.vars gs pv)
    (hb : Below W.heap.size W W') :
    s.post enc P f false true false false W args (.bool true) W' := by
  have hW' := hW
  obtain ⟨p, q, hA, hV, rfl, hfz, hnd⟩ := hW
  have hlt : ∀ x ∈ p, x.block < W.heap.size := fun x hx => hW'.lt x (List.mem_append_left _ hx)
  refine ⟨ds, gs, _, [], p, pv, hW', ?_, ?_, ?_, hb.frame _, fun h => by cases h⟩
  · rw [hres, hs1]
    exact trodAll_mk1 (shut_bool hbt _)
  · rw [hs2]
    exact below_trodAll hl hb _ _ _ _ hread hA hlt
  · rw [hs3]
    exact hv

theorem sen_g0 : Tryd.prog.globalNamed "loop.example/g01261/impl.errNotValid" = some 1 := by kernel_rfl
theorem sen_g1 : Tryd.prog.globalNamed "loop.example/g01261/impl.errOutside" = some 2 := by kernel_rfl
theorem sen_g2 : Tryd.prog.globalNamed "loop.example/g01261/impl.errNotThere" = some 3 := by kernel_rfl
theorem sen_t0 : (Tryd.prog.globals[(1 : Nat)]?).map (·.type) = some 60 := by kernel_rfl
theorem sen_t1 : (Tryd.prog.globals[(2 : Nat)]?).map (·.type) = some 60 := by kernel_rfl
theorem sen_t2 : (Tryd.prog.globals[(3 : Nat)]?).map (·.type) = some 60 := by kernel_rfl
theorem sen_star : "*" ++ "errors.errorString" = "*errors.errorString" := by decide
theorem sen_row (u : TypeId) (h : Tryd.prog.typeName? 3 u = some "*errors.errorString") : u = 204 :=
  typeName_ptr_named (nm := "errors.errorString") (by rw [sen_star]; kernel_rfl) (by kernel_rfl) (by decide) u (by rw [sen_star]; exact h)
theorem sen_c0 : Tryd.prog.cellsOf 206 = 1 := by kernel_rfl
theorem sen_c1 : Tryd.prog.cellsOf 9 = 1 := by kernel_rfl
/-- What the list gives. -/
theorem sen_of {W : World} {t0 t1 t2 : List UInt8} (h : laidMet Tryd.prog [("loop.example/g01261/impl.errNotValid", .iface "*errors.errorString" (.ptr (.agg [.lit (.string t0)]))), ("loop.example/g01261/impl.errOutside", .iface "*errors.errorString" (.ptr (.agg [.lit (.string t1)]))), ("loop.example/g01261/impl.errNotThere", .iface "*errors.errorString" (.ptr (.agg [.lit (.string t2)])))] W) :
    ∃ a0 a1 a2, Sen W a0 a1 a2 ∧ W.var? Tryd.prog "loop.example/g01261/impl.errNotValid" = some #[.iface 204 (.pointer (some a0))] ∧ W.var? Tryd.prog "loop.example/g01261/impl.errOutside" = some #[.iface 204 (.pointer (some a1))] ∧ W.var? Tryd.prog "loop.example/g01261/impl.errNotThere" = some #[.iface 204 (.pointer (some a2))] := by
  obtain ⟨a0, a1, a2, v0, v1, v2, ⟨n01, n02, n12⟩, b0, b1, b2⟩ := laid_sentinels3 h sen_g0 sen_t0 sen_g1 sen_t1 sen_g2 sen_t2 Tryd.underlying60 sen_row Tryd.underlying204 Tryd.underlying206 rfl rfl Tryd.underlying9 sen_c0 sen_c1
  exact ⟨a0, a1, a2, ⟨by simpa using World.var?_cell sen_g0 v0 0, by simpa using World.var?_cell sen_g1 v1 0, by simpa using World.var?_cell sen_g2 v2 0, b0, b1, b2, n01, n02, n12⟩, v0, v1, v2⟩
theorem sen_vars {H : Type} (enc : TypeId × Value → H) {W : World} {a0 a1 a2 : Addr} (h0 : W.var? Tryd.prog "loop.example/g01261/impl.errNotValid" = some #[.iface 204 (.pointer (some a0))]) (h1 : W.var? Tryd.prog "loop.example/g01261/impl.errOutside" = some #[.iface 204 (.pointer (some a1))]) (h2 : W.var? Tryd.prog "loop.example/g01261/impl.errNotThere" = some #[.iface 204 (.pointer (some a2))]) (sp : Nat → Bool) :
    DataW.TrodVars enc Tryd.prog W sp ["loop.example/g01261/impl.errNotValid", "loop.example/g01261/impl.errOutside", "loop.example/g01261/impl.errNotThere"] [tok enc (.iface 204 (.pointer (some a0))), tok enc (.iface 204 (.pointer (some a1))), tok enc (.iface 204 (.pointer (some a2)))] [.cell 1 0, .cell 2 0, .cell 3 0] :=
  vars_read3 enc sen_g0 sen_t0 Tryd.underlying60 h0 trivial sen_g1 sen_t1 Tryd.underlying60 h1 trivial sen_g2 sen_t2 Tryd.underlying60 h2 trivial sp
theorem sen_varsW {H : Type} (enc : TypeId × Value → H) {W : World} {a0 a1 a2 : Addr} (h1 : W.var? Tryd.prog "loop.example/g01261/impl.errOutside" = some #[.iface 204 (.pointer (some a1))]) (h2 : W.var? Tryd.prog "loop.example/g01261/impl.errNotThere" = some #[.iface 204 (.pointer (some a2))]) (h0 : W.var? Tryd.prog "loop.example/g01261/impl.errNotValid" = some #[.iface 204 (.pointer (some a0))]) (sp : Nat → Bool) :
    DataW.TrodVars enc Tryd.prog W sp ["loop.example/g01261/impl.errOutside", "loop.example/g01261/impl.errNotThere", "loop.example/g01261/impl.errNotValid"] [tok enc (.iface 204 (.pointer (some a1))), tok enc (.iface 204 (.pointer (some a2))), tok enc (.iface 204 (.pointer (some a0)))] [.cell 2 0, .cell 3 0, .cell 1 0] :=
  vars_read3 enc sen_g1 sen_t1 Tryd.underlying60 h1 trivial sen_g2 sen_t2 Tryd.underlying60 h2 trivial sen_g0 sen_t0 Tryd.underlying60 h0 trivial sp
end Go.Proofs.YtppjmngnjdeigaaDoor
