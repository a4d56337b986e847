/- A map[Mask][]int64 whose rows stand: told by what it has for each mask, the rows read in a world at which nothing is written to them any more. -/
import Derived.Test.YtanocllpmjhblaaGrpM
import Derived.Test.YtanocllpmjhblaaInts
namespace Go.Proofs.Ytanocllpmjhblaa
open Go.ChangeShapes Go.WideShapes Go.ChangeAt Go.RowKit Go.ChangeMaps Go.WideElems

/-- A slice of numbers that reads so in the world W. -/
def RdsAt (W : World) (v : Value) (zs : List Int) : Prop := ∃ a c, v = .slice a zs.length c ∧ zs.length ≤ c ∧ IntsIn W a zs
theorem list_ext {zs ys : List Int} (hl : zs.length = ys.length) (h : ∀ i, i < zs.length → zs.getD i 0 = ys.getD i 0) : zs = ys := by
  apply List.ext_getElem hl
  intro i h1 h2
  have := h i h1
  simpa [List.getD, List.getElem?_eq_getElem h1, List.getElem?_eq_getElem h2] using this
theorem RdsAt.unique {W : World} {v : Value} {zs ys : List Int} (h : RdsAt W v zs) (k : RdsAt W v ys) : zs = ys := by
  obtain ⟨a, c, rfl, _, hi⟩ := h
  obtain ⟨a2, c2, hv, _, ki⟩ := k
  injection hv with h1 h2 h3
  subst h1
  refine list_ext h2 fun i hl => ?_
  obtain ⟨b, o, ha, _, hc⟩ := hi i hl
  obtain ⟨b2, o2, ha2, _, hc2⟩ := ki i (by omega)
  rw [ha] at ha2
  cases ha2
  rw [hc] at hc2
  injection hc2 with hc2
  injection hc2 with _ hc2
theorem RdsAt.nil (W : World) : RdsAt W (.slice none 0 0) [] := ⟨none, 0, rfl, Nat.le_refl _, fun i hi => absurd hi (Nat.not_lt_zero _)⟩
open Classical in
noncomputable def elemR (W : World) (v : Value) : Option (DataW Unit × List MemPlace) :=
  if h : ∃ zs, RdsAt W v zs then some (.slice (lits .i64 (Classical.choose h)) [], []) else none
theorem elemR_mk {W : World} {v : Value} {zs : List Int} (h : RdsAt W v zs) : elemR W v = some (.slice (lits .i64 zs) [], []) := by
  have hex : ∃ zs, RdsAt W v zs := ⟨zs, h⟩
  unfold elemR
  rw [dif_pos hex, (Classical.choose_spec hex).unique h]
theorem elemR_inv {W : World} {v : Value} {z : DataW Unit × List MemPlace} (h : elemR W v = some z) : ∃ zs, RdsAt W v zs ∧ z = (.slice (lits .i64 zs) [], []) := by
  unfold elemR at h
  split at h
  · rename_i hex
    exact ⟨_, Classical.choose_spec hex, (Option.some.inj h).symm⟩
  · cases h
theorem own_rds {w : World} {base : Nat} {e : TypeId} {v : Value} {zs : List Int} (h : w.ownsInts base e .i64 v zs) : RdsAt w v zs := by
  have h0 := h.1
  rcases h.1.2 with ⟨rfl, hn⟩ | ⟨g, cap, cur, rfl, hb, hg, hcap, _⟩
  · exact ⟨none, 0, by rw [hn], by omega, fun i hi => by omega⟩
  · refine ⟨_, cap, rfl, hcap, fun i hi => ⟨g, 0, rfl, (Array.getElem?_eq_some_iff.1 hg).1, ?_⟩⟩
    rw [Nat.zero_add, World.ownsRow.cellAt h0 _ (by simpa using hi)]
    simp [List.getD, List.getElem?_eq_getElem hi]

/-- Block b holds such a map, of n entries at most; the rows read in W. -/
def GrpR (W w : World) (b n : Nat) (f : Int → Int → List Int) : Prop :=
  ∃ D : DataW Unit, w.ownsMap Try.prog 53 (elemR W) b n D ∧ Maps.IsMap D ∧ ∀ x y, U64 x → U64 y → D.atKey (keyM x y) (.slice [] []) = .slice (lits .i64 (f x y)) []

/-- The map stays what it is where its block and those behind it are as they were. -/
theorem GrpM.kept {w w2 : World} {base b n : Nat} {f : Int → Int → List Int} (h : GrpM w base b n f) (hs : w.heap.size ≤ w2.heap.size) (hk : ∀ i, b ≤ i → i < w.heap.size → w2.heap[i]? = w.heap[i]?) : GrpM w2 base b n f := by
  obtain ⟨D, ⟨es, clock, hb, F, hn, hD, hbb, hl, hap⟩, hm, hat⟩ := h
  have hlt : b < w.heap.size := (Array.getElem?_eq_some_iff.1 hb).1
  have own : ∀ {v : Value} {zs : List Int}, w.ownsInts base 2 .i64 v zs → w2.ownsInts base 2 .i64 v zs := by
    intro v zs ho
    obtain ⟨⟨h1, h2⟩, h3⟩ := ho
    refine ⟨⟨h1, ?_⟩, h3⟩
    rcases h2 with hn | ⟨g, cap, cur, rfl, hB, hg, rest⟩
    · exact .inl hn
    · exact .inr ⟨g, cap, cur, rfl, hB, (hk g (by omega) (Array.getElem?_eq_some_iff.1 hg).1).trans hg, rest⟩
  obtain ⟨F2, hmap, _⟩ := F.stay (R' := rowElem (H := Unit) w2 base 2 .i64) (fun x _ z hz => by
    obtain ⟨zs, ho, rfl⟩ := rowElem_inv hz
    exact rowElem_mk (own ho))
  refine ⟨D, ⟨es, clock, (hk b (Nat.le_refl _) hlt).trans hb, F2, hn, by rw [hmap]; exact hD, hbb, fun x hx ys ho => ?_, hap⟩, hm, hat⟩
  obtain ⟨y, hy⟩ := F.reads x hx
  obtain ⟨z, hz, _⟩ := rd_val hy
  obtain ⟨zs, ho2, _⟩ := rowElem_inv hz
  rw [ho.unique (own ho2)]
  exact hl x hx zs ho2
theorem GrpM.below {w w2 : World} {base b n : Nat} {f : Int → Int → List Int} (h : GrpM w base b n f) (hb : Below w.heap.size w w2) : GrpM w2 base b n f := h.kept hb.size (fun i _ hi => hb.block i hi)
theorem GrpM.blt {w : World} {base b n : Nat} {f : Int → Int → List Int} (h : GrpM w base b n f) : b < w.heap.size ∧ b < base := by
  obtain ⟨D, ⟨es, clock, hb, F, hn, hD, hbb, hl, hap⟩, hm, hat⟩ := h
  exact ⟨(Array.getElem?_eq_some_iff.1 hb).1, hbb⟩

theorem GrpM.obj {w : World} {base b n : Nat} {f : Int → Int → List Int} (h : GrpM w base b n f) : ∃ es c, w.heap[b]? = some (.map es c) := by
  obtain ⟨D, ⟨es, clock, hb, _⟩, _⟩ := h
  exact ⟨es, clock, hb⟩
theorem grown_setBlock {w : World} {b : Nat} {es : Array MapEntry} {c : Nat} (hb : w.heap[b]? = some (.map es c)) (o : Obj) : w.grownBy (setBlock w b o) (some b) := ⟨rfl, rfl, rfl, by simp [setBlock], fun i _ hi => heap_setBlock_other hb _ (fun e1 => hi (by rw [e1]))⟩
theorem below_grown {B : Nat} {w w2 : World} {row : Option Nat} (hg : w.grownBy w2 row) (hB : B ≤ w.heap.size) (hr : ∀ j, row = some j → B ≤ j) : Below B w w2 := Below.grown (Below.refl B w) hg hB hr
set_option maxRecDepth 100000 in
/-- 'm[x] = append(m[x], k)': the slice of one is laid, the entry looked for; what an append then leaves is stored. -/
theorem grp_step {w : World} {base b n : Nat} {f : Int → Int → List Int} (G : GrpM w base b n f) (hn : n < maxLen) (hbase : base ≤ w.heap.size) (x y : Int) (hx : U64 x) (hy : U64 y) (k : Int) (hk : (Lit.int .i64 k).wf = true) :
    ∃ (v : Value) (st : Nat) (wq : World), (Instr.mapEntry 98 (.map (some b)) (.agg #[.int .u64 x, .int .u64 y])).run Try.prog (w.alloc (.cells #[.int .i64 k] 2)) = .ok (.tuple #[v, .int .i64 (st : Int)]) wq ∧ wq.ownsInts base 2 .i64 v (f x y) ∧ (f x y).length ≤ n ∧
      (∀ j u, [Value.int .i64 k][j]? = some u → wq.cell? ((⟨w.heap.size, 0, none⟩ : Addr).add j) = some u) ∧ base ≤ wq.heap.size ∧
      ∀ (v' : Value) (w1 : World), w1.ownsRow base 2 1 v' ((f x y).length + 1) ((f x y).map (Value.int .i64) ++ [.int .i64 k]) → wq.grownBy w1 v.ownBlock → (v'.ownBlock = v.ownBlock ∨ v'.ownBlock = some wq.heap.size) →
        ∃ w2, (Instr.entryStore 98 (.map (some b)) ((Value.int .i64 (st : Int))) v').run Try.prog w1 = .ok () w2 ∧ GrpM w2 base b (n + 1) (addF f x y (f x y ++ [k])) ∧ Below b w w2 := by
  obtain ⟨hlt, hbb⟩ := G.blt
  have G1 := G.below (below_new (Below.refl w.heap.size w) (.cells #[.int .i64 k] 2))
  obtain ⟨v, st, es1, clock1, hrun, hown, hlen, hback⟩ := G1.entry hn x y hx hy
  obtain ⟨es0, c0, hp⟩ := G1.obj
  have gs := grown_setBlock hp (.map es1 clock1)
  have own2 := hown.kept gs (by
    cases hv : v.ownBlock with
    | none => exact .inl rfl
    | some g => exact .inr (fun e => by have := (hown.1.lt g hv).1; injection e with e; omega))
  have hsz : (setBlock (w.alloc (.cells #[.int .i64 k] 2)) b (.map es1 clock1)).heap.size = w.heap.size + 1 := by simp [setBlock]
  refine ⟨v, st, _, hrun, own2, hlen, fun j u hj => ?_, by rw [hsz]; omega, fun v' w1 ho hg hloc => ?_⟩
  · match j, hj with
    | 0, hj =>
      simp at hj
      subst hj
      have e : (setBlock (w.alloc (.cells #[.int .i64 k] 2)) b (.map es1 clock1)).heap[w.heap.size]? = (w.alloc (.cells #[.int .i64 k] 2)).heap[w.heap.size]? := gs.block _ (by simp) (fun e => by injection e with e; omega)
      show World.cell? _ ⟨w.heap.size, 0 + 0, none⟩ = _
      rw [(MapKept.heap_alloc w _).1] at e
      unfold World.cell?
      simp only [e]
      rfl
    | j + 1, hj => simp at hj
  · obtain ⟨w2, hst, hG, hg2⟩ := hback w1 v' (f x y ++ [k]) hg (own2.appended ho hk) (by simp) (by simp; exact hlen) (by
      rcases hloc with h | h
      · exact .inl h
      · exact .inr ⟨_, h, by rw [hsz]; simp⟩)
    refine ⟨w2, hst, hG, ?_⟩
    have c1 : Below b w (w.alloc (.cells #[.int .i64 k] 2)) := Below.alloc (Below.refl b w) (by omega) _
    have c2 := Below.grown c1 gs (by simp; omega) (fun j hj => by injection hj with hj; omega)
    have c3 := Below.grown c2 hg (by rw [hsz]; omega) (fun j hj => by have := (own2.1.lt j hj).1; omega)
    exact Below.grown c3 hg2 (by have := hg.size; rw [hsz] at this; omega) (fun j hj => by injection hj with hj; omega)

theorem zero_ints (v : World) : (zeroValue 56).run Try.prog v = .ok (.slice none 0 0) v := by kernel_rfl
set_option maxRecDepth 100000 in
theorem GrpM.rows {w : World} {base b n : Nat} {f : Int → Int → List Int} (h : GrpM w base b n f) (hn : n < maxLen) : GrpR w w b n f := by
  have hL : ∀ x y, U64 x → U64 y → ∃ v, (Instr.lookup 98 (.map (some b)) (.agg #[.int .u64 x, .int .u64 y]) false).run Try.prog w = .ok v w ∧ RdsAt w v (f x y) := by
    intro x y hx hy
    obtain ⟨D, ho, hm, hat⟩ := h
    obtain ⟨v, zs, hlook, hd, hown, _⟩ := ho.at (Maps.Keyed.of_law mask_law) Try.underlying98 (zero_ints w) hn (keyOf_mask x y hx hy)
    have e := row_is hown (hd.symm.trans (hat x y hx hy))
    subst e
    exact ⟨v, hlook, own_rds hown⟩
  obtain ⟨D, ⟨es, clock, hb, F, hs, _⟩, _⟩ := h
  have F2 : WideElems.Fit Try.prog 53 (elemR w) es clock := ⟨F.size, F.stamped, fun x hx => by
    obtain ⟨y, hy⟩ := F.reads x hx
    obtain ⟨z, hz, _⟩ := rd_val hy
    obtain ⟨zs, ho, _⟩ := rowElem_inv hz
    exact ⟨_, by unfold WideElems.rd; rw [rd_key hy, elemR_mk (own_rds ho)]; rfl⟩⟩
  have O : w.ownsMap Try.prog 53 (elemR w) b n (.map ((es.toList.map (rg Try.prog 53 (elemR w))).foldr DataW.insert [])) := ⟨es, clock, hb, F2, hs, rfl⟩
  refine ⟨_, O, ⟨_, rfl⟩, fun x y hx hy => ?_⟩
  obtain ⟨v, hrun, hv⟩ := hL x y hx hy
  obtain ⟨v2, ps, hrun2, hR⟩ := O.lookup (Maps.Keyed.of_law mask_law) Try.underlying98 (zero_ints w) (elemR_mk (RdsAt.nil w)) (keyOf_mask x y hx hy)
  rw [hrun] at hrun2
  cases hrun2
  rw [elemR_mk hv] at hR
  injection hR with hR
  injection hR with hR _
  exact hR.symm

set_option maxRecDepth 100000 in
/-- The slices of the map: one for each mask, no two in one block; a look-up gives them in each world with the map's block. -/
theorem GrpM.vals {w : World} {base b n : Nat} {f : Int → Int → List Int} (h : GrpM w base b n f) : ∃ g : Int → Int → Value,
    (∀ x y, U64 x → U64 y → w.ownsInts base 2 .i64 (g x y) (f x y) ∧ ∀ w2 : World, w2.heap[b]? = w.heap[b]? → (Instr.lookup 98 (.map (some b)) (.agg #[.int .u64 x, .int .u64 y]) false).run Try.prog w2 = .ok (g x y) w2) ∧
    ∀ x y u v, U64 x → U64 y → U64 u → U64 v → ¬ (x = u ∧ y = v) → (g x y).ownBlock = none ∨ (g x y).ownBlock ≠ (g u v).ownBlock := by
  obtain ⟨D, ⟨es, clock, hb, F, hs, rfl, hbb, hl, hap⟩, hm, hat⟩ := h
  have key : ∀ x y : Int, ∃ v : Value, U64 x → U64 y → (w.ownsInts base 2 .i64 v (f x y) ∧ (∀ w2 : World, w2.heap[b]? = w.heap[b]? → (Instr.lookup 98 (.map (some b)) (.agg #[.int .u64 x, .int .u64 y]) false).run Try.prog w2 = .ok v w2)) ∧ (v.ownBlock = none ∨ ∃ e0 ∈ es.toList, e0.key = .agg #[.int .u64 x, .int .u64 y] ∧ e0.val = v) := by
    intro x y
    rcases Classical.em (U64 x) with hx | hx
    case inr => exact ⟨.bool true, fun h => absurd h hx⟩
    rcases Classical.em (U64 y) with hy | hy
    case inr => exact ⟨.bool true, fun _ h => absurd h hy⟩
    rcases Maps.fit_look false (Maps.Keyed.of_law mask_law) Try.underlying98 (zero_ints w) hb F (keyOf_mask x y hx hy) with ⟨_, hno, hd⟩ | ⟨e0, yy, hm0, h3, _, hR, hd, _⟩
    · refine ⟨.slice none 0 0, fun _ _ => ⟨⟨?_, fun w2 hw2 => ?_⟩, .inl rfl⟩⟩
      · have e := hat x y hx hy
        rw [hd .nil] at e
        have : f x y = [] := by
          unfold rowD at e
          by_cases hz : f x y = []
          · exact hz
          · rw [if_neg hz] at e; cases e
        rw [this]
        exact World.ownsInts_nil _ _ _ _
      · rcases Maps.fit_look false (Maps.Keyed.of_law mask_law) Try.underlying98 (zero_ints w2) (hw2.trans hb) F (keyOf_mask x y hx hy) with ⟨hrun, _, _⟩ | ⟨e1, _, hm1, h4, _⟩
        · exact hrun
        · exact absurd h4 (hno e1 hm1)
    · obtain ⟨zs, ho, rfl⟩ := rowElem_inv hR
      have e := row_is ho ((hd .nil).symm.trans (hat x y hx hy))
      subst e
      refine ⟨e0.val, fun _ _ => ⟨⟨ho, fun w2 hw2 => ?_⟩, .inr ⟨e0, hm0, h3, rfl⟩⟩⟩
      rcases Maps.fit_look false (Maps.Keyed.of_law mask_law) Try.underlying98 (zero_ints w2) (hw2.trans hb) F (keyOf_mask x y hx hy) with ⟨_, hno, _⟩ | ⟨e1, _, hm1, h4, hrun, _⟩
      · exact absurd h3 (hno e0 hm0)
      · obtain ⟨i, hi⟩ := List.getElem?_of_mem hm1
        obtain ⟨j, hj⟩ := List.getElem?_of_mem hm0
        have ij := nodup_at F.stamped.2.2 hi hj (h4.trans h3.symm)
        subst ij
        rw [hi] at hj
        rw [← Option.some.inj hj]
        exact hrun
  refine ⟨fun x y => Classical.choose (key x y), fun x y hx hy => (Classical.choose_spec (key x y) hx hy).1, fun x y u v hx hy hu hv hne => ?_⟩
  have k1 := (Classical.choose_spec (key x y) hx hy).2
  have k2 := (Classical.choose_spec (key u v) hu hv).2
  show (Classical.choose (key x y)).ownBlock = none ∨ (Classical.choose (key x y)).ownBlock ≠ (Classical.choose (key u v)).ownBlock
  generalize Classical.choose (key x y) = p at *
  generalize Classical.choose (key u v) = q at *
  rcases k1 with k1 | ⟨e0, m0, q0, rfl⟩
  · exact .inl k1
  rcases k2 with k2 | ⟨e1, m1, q1, rfl⟩
  · cases hx0 : e0.val.ownBlock with
    | none => exact .inl rfl
    | some g => right; rw [k2]; simp
  · exact hap e0 m0 e1 m1 (fun e => hne (by rw [q0, q1] at e; simpa using e))

set_option maxRecDepth 100000 in
/-- What the map has for a mask. -/
theorem GrpR.look {W w : World} {b n : Nat} {f : Int → Int → List Int} (h : GrpR W w b n f) (x y : Int) (hx : U64 x) (hy : U64 y) :
    ∃ a c, (Instr.lookup 98 (.map (some b)) (.agg #[.int .u64 x, .int .u64 y]) false).run Try.prog w = .ok (.slice a (f x y).length c) w ∧ (f x y).length ≤ c ∧ IntsIn W a (f x y) := by
  obtain ⟨D, O, hm, hat⟩ := h
  obtain ⟨v, ps, hrun, hR⟩ := O.lookup (Maps.Keyed.of_law mask_law) Try.underlying98 (zero_ints w) (elemR_mk (RdsAt.nil W)) (keyOf_mask x y hx hy)
  obtain ⟨zs, hz, e⟩ := elemR_inv hR
  have e1 : (DataW.slice (lits (H := Unit) .i64 (f x y)) []) = .slice (lits .i64 zs) [] := by rw [← hat x y hx hy]; injection e
  injection e1 with e1
  have e2 := lits_inj e1
  subst e2
  obtain ⟨a, c, rfl, hc, hi⟩ := hz
  exact ⟨a, c, hrun, hc, hi⟩

set_option maxRecDepth 100000 in
/-- Another slice put for a mask. -/
theorem GrpR.put {W w : World} {b n : Nat} {f : Int → Int → List Int} (h : GrpR W w b n f) (hn : n < maxLen) (x y : Int) (hx : U64 x) (hy : U64 y) (v : Value) (zs : List Int) (hv : RdsAt W v zs) :
    ∃ w2, (Instr.mapUpdate 98 (.map (some b)) (.agg #[.int .u64 x, .int .u64 y]) v).run Try.prog w = .ok () w2 ∧ GrpR W w2 b (n + 1) (addF f x y zs) ∧ w.grownBy w2 (some b) := by
  obtain ⟨D, O, hm, hat⟩ := h
  obtain ⟨w2, hrun, O2, hg⟩ := O.update (Maps.Keyed.of_law mask_law) Try.underlying98 hn (keyOf_mask x y hx hy) (elemR_mk hv)
  refine ⟨w2, hrun, ⟨_, O2, ?_, fun p q hp hq => ?_⟩, hg⟩
  · obtain ⟨es, rfl⟩ := hm; exact ⟨_, rfl⟩
  · by_cases e : p = x ∧ q = y
    · obtain ⟨rfl, rfl⟩ := e
      rw [Maps.atKey_put_same hm (show WideAt.IsKeyLit (keyM p q) from trivial)]
      rw [show addF f p q zs p q = zs from if_pos ⟨rfl, rfl⟩]
    · rw [Maps.atKey_put_other (fun k => e (keyM_inj hp hq hx hy k)), hat p q hp hq]
      unfold addF
      rw [if_neg e]
theorem GrpR.same {W w w2 : World} {b n : Nat} {f : Int → Int → List Int} (h : GrpR W w b n f) (hb : w2.heap[b]? = w.heap[b]?) : GrpR W w2 b n f := by
  obtain ⟨D, ⟨es, clock, hw, r⟩, hm, hat⟩ := h
  exact ⟨D, ⟨es, clock, hb.trans hw, r⟩, hm, hat⟩
set_option maxRecDepth 100000 in
/-- What the map has for a mask, in each world with the map's block. -/
theorem GrpR.lookA {W w : World} {b n : Nat} {f : Int → Int → List Int} (h : GrpR W w b n f) (x y : Int) (hx : U64 x) (hy : U64 y) :
    ∃ a c, (f x y).length ≤ c ∧ IntsIn W a (f x y) ∧ ∀ w2 : World, w2.heap[b]? = w.heap[b]? → (Instr.lookup 98 (.map (some b)) (.agg #[.int .u64 x, .int .u64 y]) false).run Try.prog w2 = .ok (.slice a (f x y).length c) w2 := by
  obtain ⟨D, ⟨es, clock, hb, F, hs, rfl⟩, hm, hat⟩ := h
  have e := hat x y hx hy
  rcases Maps.fit_look false (Maps.Keyed.of_law mask_law) Try.underlying98 (zero_ints w) hb F (keyOf_mask x y hx hy) with ⟨_, hno, hd⟩ | ⟨e0, yy, hm0, h3, _, hR, hd, _⟩
  · rw [hd] at e
    injection e with e _
    have e2 : f x y = [] := by
      cases hf : f x y with
      | nil => rfl
      | cons a r => rw [hf] at e; simp [lits] at e
    rw [e2]
    refine ⟨none, 0, Nat.le_refl _, fun i hi => absurd hi (Nat.not_lt_zero _), fun w2 hw2 => ?_⟩
    rcases Maps.fit_look false (Maps.Keyed.of_law mask_law) Try.underlying98 (zero_ints w2) (hw2.trans hb) F (keyOf_mask x y hx hy) with ⟨hrun, _, _⟩ | ⟨e1, _, hm1, h4, _⟩
    · exact hrun
    · exact absurd h4 (hno e1 hm1)
  · obtain ⟨zs, hz, rfl⟩ := elemR_inv hR
    rw [hd] at e
    injection e with e _
    have e2 := lits_inj e
    subst e2
    obtain ⟨a, c, hv, hc, hi⟩ := hz
    refine ⟨a, c, hc, hi, fun w2 hw2 => ?_⟩
    rcases Maps.fit_look false (Maps.Keyed.of_law mask_law) Try.underlying98 (zero_ints w2) (hw2.trans hb) F (keyOf_mask x y hx hy) with ⟨_, hno, _⟩ | ⟨e1, _, hm1, h4, hrun, _⟩
    · exact absurd h3 (hno e0 hm0)
    · obtain ⟨i, hi⟩ := List.getElem?_of_mem hm1
      obtain ⟨j, hj⟩ := List.getElem?_of_mem hm0
      have ij := nodup_at F.stamped.2.2 hi hj (h4.trans h3.symm)
      subst ij
      rw [hi] at hj
      rw [hrun, Option.some.inj hj, hv]
      rfl
theorem GrpR.kept {W w w2 : World} {b n : Nat} {f : Int → Int → List Int} (h : GrpR W w b n f) {row : Option Nat} (hg : w.grownBy w2 row) (hne : some b ≠ row) : GrpR W w2 b n f := by
  obtain ⟨D, O, hm, hat⟩ := h
  exact ⟨D, O.kept hg hne, hm, hat⟩
theorem GrpR.lt {W w : World} {b n : Nat} {f : Int → Int → List Int} (h : GrpR W w b n f) : b < w.heap.size := by obtain ⟨D, O, _⟩ := h; exact O.lt

/-! ### The indices with a test, from one on -/
def rG (p : Nat → Bool) (j : Nat) : Nat → List Int
  | 0 => []
  | l + 1 => if j ≤ l ∧ p l = true then rG p j l ++ [(l : Int)] else rG p j l
theorem rG_low (p : Nat → Bool) (j : Nat) : ∀ l, l ≤ j → rG p j l = []
  | 0, _ => rfl
  | l + 1, h => by show (if _ then _ else _) = _; rw [if_neg (by omega)]; exact rG_low p j l (by omega)
theorem rG_step (p : Nat → Bool) (j : Nat) (hp : p j = true) : ∀ l, j < l → rG p j l = (j : Int) :: rG p (j + 1) l
  | 0, h => absurd h (Nat.not_lt_zero _)
  | l + 1, h => by
    show (if _ then _ else _) = _ :: (if _ then _ else _)
    by_cases e : j = l
    · subst e
      rw [if_pos ⟨Nat.le_refl _, hp⟩, if_neg (by omega), rG_low p j j (Nat.le_refl _), rG_low p (j + 1) j (by omega)]
      rfl
    · rw [rG_step p j hp l (by omega)]
      by_cases q : p l = true
      · rw [if_pos ⟨by omega, q⟩, if_pos ⟨by omega, q⟩]; rfl
      · rw [if_neg (fun x => q x.2), if_neg (fun x => q x.2)]
theorem rG_skip (p : Nat → Bool) (j : Nat) (hp : p j = false) : ∀ l, rG p j l = rG p (j + 1) l
  | 0 => rfl
  | l + 1 => by
    show (if _ then _ else _) = (if _ then _ else _)
    rw [rG_skip p j hp l]
    by_cases q : p l = true
    · have : j ≠ l := fun e => by subst e; rw [hp] at q; cases q
      by_cases a : j ≤ l
      · rw [if_pos ⟨a, q⟩, if_pos ⟨by omega, q⟩]
      · rw [if_neg (fun x => a x.1), if_neg (fun x => a (by omega))]
    · rw [if_neg (fun x => q x.2), if_neg (fun x => q x.2)]
theorem rG_len (p : Nat → Bool) (j : Nat) : ∀ l, (rG p j l).length ≤ l
  | 0 => Nat.le_refl _
  | l + 1 => by
    have := rG_len p j l
    show (if _ then _ else _ : List Int).length ≤ _
    split
    · rw [List.length_append, List.length_singleton]; omega
    · omega
theorem rG_zero (p : Nat → Bool) (l : Nat) : rG p 0 (l + 1) = if p l = true then rG p 0 l ++ [(l : Int)] else rG p 0 l := by
  show (if _ then _ else _) = _
  by_cases q : p l = true
  · rw [if_pos ⟨Nat.zero_le _, q⟩, if_pos q]
  · rw [if_neg (fun x => q x.2), if_neg q]
/-- Which have such a mask? -/
def hasM (h0 h1 : Nat → Int) (x y : Int) (k : Nat) : Bool := h0 k == x && h1 k == y
/-- What the map has when l things have been put into it. -/
def grI (h0 h1 : Nat → Int) (l : Nat) : Int → Int → List Int := fun x y => rG (hasM h0 h1 x y) 0 l
/-- What it has when the first j have been taken out again. -/
def grO (h0 h1 : Nat → Int) (n j : Nat) : Int → Int → List Int := fun x y => rG (hasM h0 h1 x y) j n
theorem grI_add (h0 h1 : Nat → Int) (l : Nat) : addF (grI h0 h1 l) (h0 l) (h1 l) (grI h0 h1 l (h0 l) (h1 l) ++ [(l : Int)]) = grI h0 h1 (l + 1) := by
  funext x y
  unfold addF grI
  rw [rG_zero]
  by_cases e : x = h0 l ∧ y = h1 l
  · obtain ⟨rfl, rfl⟩ := e
    rw [if_pos ⟨rfl, rfl⟩, if_pos (by unfold hasM; simp)]
  · rw [if_neg e, if_neg (by unfold hasM; simp; intro a b; exact e ⟨a.symm, b.symm⟩)]
theorem grO_head (h0 h1 : Nat → Int) (n j : Nat) (hj : j < n) : grO h0 h1 n j (h0 j) (h1 j) = (j : Int) :: grO h0 h1 n (j + 1) (h0 j) (h1 j) := rG_step _ _ (by unfold hasM; simp) n hj
theorem grO_tail (h0 h1 : Nat → Int) (n j : Nat) : addF (grO h0 h1 n j) (h0 j) (h1 j) (grO h0 h1 n (j + 1) (h0 j) (h1 j)) = grO h0 h1 n (j + 1) := by
  funext x y
  unfold addF
  by_cases e : x = h0 j ∧ y = h1 j
  · obtain ⟨rfl, rfl⟩ := e
    rw [if_pos ⟨rfl, rfl⟩]
  · rw [if_neg e]
    exact rG_skip _ _ (by unfold hasM; simp; intro a b; exact e ⟨a.symm, b.symm⟩) n
theorem grI_grO (h0 h1 : Nat → Int) (n : Nat) : grI h0 h1 n = grO h0 h1 n 0 := rfl
/-- The tail of a slice that reads so. -/
theorem intsIn_tail {W : World} {g o : Nat} {z : Int} {zs : List Int} (h : IntsIn W (some ⟨g, o, none⟩) (z :: zs)) : IntsIn W (some ⟨g, o + 1, none⟩) zs := fun i hi => by
  obtain ⟨b, off, ha, hlt, hc⟩ := h (i + 1) (by simpa using hi)
  cases ha
  exact ⟨g, o + 1, rfl, hlt, by rw [show o + 1 + i = o + (i + 1) by omega]; simpa using hc⟩
end Go.Proofs.Ytanocllpmjhblaa
