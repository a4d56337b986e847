/- A listed table of texts (the fourth of a row's listed variables): what a walk reads of it; it reads as it did behind the call. -/
import Derived.Test.YtpkpjkceiikakaaGreatDoorFrame
import Derived.LaidLaws
import Derived.ChangeArms
import Derived.ChangeVars
import Derived.Lib.LaidTab
namespace Go.Proofs.YtpkpjkceiikakaaGreatDoor
open Go.ChangeShapes Go.WideShapes Go.ChangeAt Go.RowKit

/-- A table of texts, as a row lists it. -/
def txData {H : Type} (zs : List (List UInt8)) : DataW H := .agg (zs.map fun z => .lit (.string z))
def txCells (zs : List (List UInt8)) : List Value := zs.map fun z => .string ⟨z.toArray⟩
/-- The variable holds just these texts. -/
def TxIs (P : Program) (w : World) (name : String) (zs : List (List UInt8)) : Prop := w.var? P name = some (txCells zs).toArray
theorem cells_of_tx {H : Type} {enc : TypeId × Value → H} {P : Program} {w : World} {base : Nat} {sp : Nat → Bool} {held : Bool} {fuel : Nat} {t e : TypeId} {n : Nat} {cs : List Value} {zs : List (List UInt8)} {p : List MemPlace}
    (ht : P.underlying t = some (.array n e)) (he : P.underlying e = some .string) (hce : P.cellsOf e = 1) (hct : P.cellsOf t = n)
    (h : DataW.trod enc P w base sp held fuel t cs = some (txData zs, p)) : cs = txCells zs := by
  cases fuel with
  | zero => simp [DataW.trod] at h
  | succ fuel =>
    simp only [DataW.trod, ht, hce, hct, Nat.mul_one] at h
    split at h
    · rename_i hl
      obtain ⟨xs, hm, hx⟩ := Option.map_eq_some_iff.1 h
      have hxs : xs.map (·.1) = zs.map fun z => (DataW.lit (.string z) : DataW H) := by
        have := congrArg Prod.fst hx
        simpa [txData] using this
      have hxl : xs.length = n := by simpa using Lib.mapM_length hm
      have hzl : zs.length = n := by
        have := congrArg List.length hxs
        simp at this
        omega
      unfold txCells
      apply List.ext_getElem?
      intro i
      by_cases hi : i < n
      · obtain ⟨b, hb, hf⟩ := Lib.mapM_at hm i i (by simp [hi])
        obtain ⟨s, hc, rfl, _⟩ := DataW.trod_string he hf
        have h1 : cs[i]? = some (.string s) := by
          have := congrArg (·[0]?) hc
          simpa [List.getElem?_take, List.getElem?_drop] using this
        have h2 : (xs.map (·.1))[i]? = some (DataW.lit (.string s.data.toList) : DataW H) := by simp [hb]
        rw [hxs] at h2
        simp only [List.getElem?_map, Option.map_eq_some_iff, DataW.lit.injEq, Lit.string.injEq] at h2
        obtain ⟨z', hz', rfl⟩ := h2
        simp [h1, hz']
      · rw [List.getElem?_eq_none (by omega), List.getElem?_eq_none (by simp; omega)]
    · cases h
theorem tx_of_laid {P : Program} {n0 n1 n2 n3 : String} {d0 d1 d2 : DataW Unit} {zs : List (List UInt8)} {r : List (String × DataW Unit)} {W : World} {g : Nat} {t e : TypeId} {n : Nat}
    (h : laidMet P ((n0, d0) :: (n1, d1) :: (n2, d2) :: (n3, txData zs) :: r) W)
    (hg : P.globalNamed n3 = some g) (hty : (P.globals[g]?).map (·.type) = some t) (ht : P.underlying t = some (.array n e)) (he : P.underlying e = some .string) (hce : P.cellsOf e = 1) (hct : P.cellsOf t = n) : TxIs P W n3 zs := by
  obtain ⟨ps, ⟨g0', t0', cs0, f0, p0, q0, hg0', ht0', hv0, hd0, ⟨g1', t1', cs1, f1, p1, q1, hg1', ht1', hv1, hd1, ⟨g2', t2', cs2, f2, p2, q2, hg2', ht2', hv2, hd2, ⟨g3', t3', cs3, f3, p3, q3, hg3', ht3', hv3, hd3, _, _⟩, _⟩, _⟩, _⟩, _, _⟩ := h
  obtain rfl := Option.some.inj (hg.symm.trans hg3')
  obtain rfl := Option.some.inj (hty.symm.trans ht3')
  unfold TxIs
  rw [hv3, ← cells_of_tx ht he hce hct hd3]
theorem tx_below {P : Program} {W W' : World} {n : String} {zs : List (List UInt8)} (h : TxIs P W n zs) (hb : Below W.heap.size W W') : TxIs P W' n zs := by
  unfold TxIs World.var? at h ⊢
  cases hg : P.globalNamed n with
  | none => simp [hg] at h
  | some g =>
    simp only [hg, Option.bind_some] at h ⊢
    have hlt : g < W.heap.size := by
      rcases Nat.lt_or_ge g W.heap.size with h' | h'
      · exact h'
      · simp [Array.getElem?_eq_none h'] at h
    rw [hb.block g hlt]
    exact h
theorem tx_cell {P : Program} {W : World} {n : String} {zs : List (List UInt8)} {g : Nat} (h : TxIs P W n zs) (hg : P.globalNamed n = some g) (i : Nat) (hi : i < zs.length) :
    W.cell? ⟨g, i, none⟩ = some (.string ⟨(zs.getD i []).toArray⟩) := by
  have := World.var?_cell hg h i
  simpa [txCells, List.getD, hi] using this
theorem tx_trod {H : Type} (enc : TypeId × Value → H) {P : Program} {w : World} {base : Nat} {sp : Nat → Bool} {held : Bool} {t e : TypeId} {n : Nat} {zs : List (List UInt8)}
    (ht : P.underlying t = some (.array n e)) (he : P.underlying e = some .string) (hce : P.cellsOf e = 1) (hct : P.cellsOf t = n) (hn : zs.length = n) (hz : ∀ z ∈ zs, z.length ≤ 100) :
    ∃ p, DataW.trod enc P w base sp held 2 t (txCells zs) = some (txData zs, p) := by
  have key : ∀ i, i < n → DataW.trod enc P w base sp held 1 e (((txCells zs).drop i).take 1) = some (.lit (.string (zs.getD i [])), []) := by
    intro i hi
    have h1 : ((txCells zs).drop i).take 1 = [.string ⟨(zs.getD i []).toArray⟩] := by
      have hl : i < (txCells zs).length := by unfold txCells; simp; omega
      rw [List.drop_eq_getElem_cons hl]
      simp [txCells, List.getD, show i < zs.length by omega]
    have hs : (ByteArray.mk (zs.getD i []).toArray).size ≤ maxLen := by
      have : zs.getD i [] ∈ zs := by
        rw [List.getD, List.getElem?_eq_getElem (by omega)]
        exact List.getElem_mem _
      have := hz _ this
      show (zs.getD i []).toArray.size ≤ maxLen
      rw [List.size_toArray]
      unfold maxLen
      omega
    rw [h1]
    unfold DataW.trod
    rw [he]
    simp only [hs, if_true]
  have hm : (List.range n).mapM (fun i => DataW.trod enc P w base sp held 1 e (((txCells zs).drop i).take 1)) = some ((List.range n).map fun i => ((.lit (.string (zs.getD i [])) : DataW H), ([] : List MemPlace))) := by
    have go : ∀ l : List Nat, (∀ i ∈ l, i < n) → l.mapM (fun i => DataW.trod enc P w base sp held 1 e (((txCells zs).drop i).take 1)) = some (l.map fun i => ((.lit (.string (zs.getD i [])) : DataW H), ([] : List MemPlace))) := by
      intro l
      induction l with
      | nil => intro _; rfl
      | cons a l ih =>
        intro hl
        rw [List.mapM_cons, key a (hl a (by simp)), ih fun i hi => hl i (by simp [hi])]
        rfl
    exact go _ fun i hi => List.mem_range.1 hi
  have hl : (txCells zs).length = n := by unfold txCells; simpa using hn
  have hd : ((List.range n).map fun i => ((.lit (.string (zs.getD i [])) : DataW H), ([] : List MemPlace))).map (·.1) = zs.map fun z => (.lit (.string z) : DataW H) := by
    apply List.ext_getElem?
    intro i
    by_cases hi : i < n
    · simp [hi, List.getD, show i < zs.length by omega]
    · rw [List.getElem?_eq_none (by simp; omega), List.getElem?_eq_none (by simp; omega)]
  refine ⟨((List.range n).map fun i => ((.lit (.string (zs.getD i [])) : DataW H), ([] : List MemPlace))).flatMap (·.2), ?_⟩
  generalize ((List.range n).map fun i => ((.lit (.string (zs.getD i [])) : DataW H), ([] : List MemPlace))) = xs at *
  show DataW.trod enc P w base sp held (1 + 1) t (txCells zs) = _
  generalize txCells zs = cs at *
  unfold DataW.trod
  rw [ht]
  simp only [hce, hct, Nat.mul_one, hl, if_true, hm, Option.map_some, hd]
  rfl
/-- It reads as data, in whatever world in which it holds these texts. -/
theorem tx_vars {H : Type} (enc : TypeId × Value → H) {P : Program} {w : World} {sp : Nat → Bool} {name : String} {g : Nat} {t e : TypeId} {n : Nat} {zs : List (List UInt8)}
    (h : TxIs P w name zs) (hg : P.globalNamed name = some g) (hty : (P.globals[g]?).map (·.type) = some t) (ht : P.underlying t = some (.array n e)) (he : P.underlying e = some .string) (hce : P.cellsOf e = 1) (hct : P.cellsOf t = n) (hn : zs.length = n) (hz : ∀ z ∈ zs, z.length ≤ 100) :
    ∃ ps, DataW.TrodVars enc P w sp [name] [txData zs] ps := by
  obtain ⟨p, hp⟩ := tx_trod enc (w := w) (base := 0) (sp := sp) (held := true) ht he hce hct hn hz
  exact ⟨_, trodVars_mk1 hg hty h hp⟩
theorem law_postT {H : Type} {enc : TypeId × Value → H} {P : Program} (hl : laidOutB P = true) {f : Func} {s : ChangeSpec} {bt : TypeId} (hres : f.resultTypes = #[bt]) (hbt : P.underlying bt = some .bool)
    (hread : ∀ t ∈ f.params.toList, P.readableRec t = true ∧ t < P.types.size)
    {W W' : World} {args : Array Value} {ds gs : List (DataW H)} {before pv : List MemPlace}
    (hW : DataW.Whole enc P f.params.toList s.vars false W args.toList ds gs before)
    (hs1 : (s.fn H (ds ++ gs)).results = [.lit (.bool true)]) (hs2 : (s.fn H (ds ++ gs)).args = ds) (hs3 : (s.fn H (ds ++ gs)).vars = gs)
    (hv : DataW.TrodVars enc P W' (fun b => decide (b < W.heap.size)) s.vars gs pv)
    (hb : Below W.heap.size W W') :
    s.post enc P f false true false false W args (.bool true) W' := by
  have hW' := hW
  obtain ⟨p, q, hA, hV, rfl, hfz, hnd⟩ := hW
  have hlt : ∀ x ∈ p, x.block < W.heap.size := fun x hx => hW'.lt x (List.mem_append_left _ hx)
  refine ⟨ds, gs, _, [], p, pv, hW', ?_, ?_, ?_, hb.frame _, fun h => by cases h⟩
  · rw [hres, hs1]
    exact trodAll_mk1 (shut_bool hbt _)
  · rw [hs2]
    exact below_trodAll hl hb _ _ _ _ hread hA hlt
  · rw [hs3]
    exact hv
end Go.Proofs.YtpkpjkceiikakaaGreatDoor
