/- Several texts in one, as a claim has at most 60 files: StT SxT SchI SxI Drift MakeX Make1Y DriftT Make1L SxS. -/
import Derived.Test.YtllhglakihfjmaaDoorFrame
import Derived.LaidLaws
import Derived.ChangeArms
import Derived.ChangeVars
import Derived.Lib.LaidTab
import Derived.Test.YtllhglakihfjmaaDoorFlds2
import Derived.Test.YtllhglakihfjmaaDoorField
import Derived.Test.YtllhglakihfjmaaDoorCtC
import Derived.Deep.DeepCutAuto
import Derived.Test.YtllhglakihfjmaaDoorSch
import Derived.Test.YtllhglakihfjmaaDoorVFi
import Derived.Test.YtllhglakihfjmaaDoorFloat
import Derived.Test.YtllhglakihfjmaaDoorDec
namespace Go.Proofs.YtllhglakihfjmaaDoor
open Go.ChangeShapes Go.WideShapes Go.ChangeAt Go.RowKit

/-- A table of texts, as a row lists it. -/
def txData {H : Type} (zs : List (List UInt8)) : DataW H := .agg (zs.map fun z => .lit (.string z))
def txCells (zs : List (List UInt8)) : List Value := zs.map fun z => .string ⟨z.toArray⟩
/-- The variable holds just these texts. -/
def TxIs (P : Program) (w : World) (name : String) (zs : List (List UInt8)) : Prop := w.var? P name = some (txCells zs).toArray
theorem cells_of_tx {H : Type} {enc : TypeId × Value → H} {P : Program} {w : World} {base : Nat} {sp : Nat → Bool} {held : Bool} {fuel : Nat} {t e : TypeId} {n : Nat} {cs : List Value} {zs : List (List UInt8)} {p : List MemPlace}
    (ht : P.underlying t = some (.array n e)) (he : P.underlying e = some .string) (hce : P.cellsOf e = 1) (hct : P.cellsOf t = n)
    (h : DataW.trod enc P w base sp held fuel t cs = some (txData zs, p)) : cs = txCells zs := by
  cases fuel with
  | zero => simp [DataW.trod] at h
  | succ fuel =>
    simp only [DataW.trod, ht, hce, hct, Nat.mul_one] at h
    split at h
    · rename_i hl
      obtain ⟨xs, hm, hx⟩ := Option.map_eq_some_iff.1 h
      have hxs : xs.map (·.1) = zs.map fun z => (DataW.lit (.string z) : DataW H) := by
        have := congrArg Prod.fst hx
        simpa [txData] using this
      have hxl : xs.length = n := by simpa using Lib.mapM_length hm
      have hzl : zs.length = n := by
        have := congrArg List.length hxs
        simp at this
        omega
      unfold txCells
      apply List.ext_getElem?
      intro i
      by_cases hi : i < n
      · obtain ⟨b, hb, hf⟩ := Lib.mapM_at hm i i (by simp [hi])
        obtain ⟨s, hc, rfl, _⟩ := DataW.trod_string he hf
        have h1 : cs[i]? = some (.string s) := by
          have := congrArg (·[0]?) hc
          simpa [List.getElem?_take, List.getElem?_drop] using this
        have h2 : (xs.map (·.1))[i]? = some (DataW.lit (.string s.data.toList) : DataW H) := by simp [hb]
        rw [hxs] at h2
        simp only [List.getElem?_map, Option.map_eq_some_iff, DataW.lit.injEq, Lit.string.injEq] at h2
        obtain ⟨z', hz', rfl⟩ := h2
        simp [h1, hz']
      · rw [List.getElem?_eq_none (by omega), List.getElem?_eq_none (by simp; omega)]
    · cases h
theorem tx_of_laid {P : Program} {n0 n1 n2 n3 : String} {d0 d1 d2 : DataW Unit} {zs : List (List UInt8)} {r : List (String × DataW Unit)} {W : World} {g : Nat} {t e : TypeId} {n : Nat}
    (h : laidMet P ((n0, d0) :: (n1, d1) :: (n2, d2) :: (n3, txData zs) :: r) W)
    (hg : P.globalNamed n3 = some g) (hty : (P.globals[g]?).map (·.type) = some t) (ht : P.underlying t = some (.array n e)) (he : P.underlying e = some .string) (hce : P.cellsOf e = 1) (hct : P.cellsOf t = n) : TxIs P W n3 zs := by
  obtain ⟨ps, ⟨g0', t0', cs0, f0, p0, q0, hg0', ht0', hv0, hd0, ⟨g1', t1', cs1, f1, p1, q1, hg1', ht1', hv1, hd1, ⟨g2', t2', cs2, f2, p2, q2, hg2', ht2', hv2, hd2, ⟨g3', t3', cs3, f3, p3, q3, hg3', ht3', hv3, hd3, _, _⟩, _⟩, _⟩, _⟩, _, _⟩ := h
  obtain rfl := Option.some.inj (hg.symm.trans hg3')
  obtain rfl := Option.some.inj (hty.symm.trans ht3')
  unfold TxIs
  rw [hv3, ← cells_of_tx ht he hce hct hd3]
theorem tx_below {P : Program} {W W' : World} {n : String} {zs : List (List UInt8)} (h : TxIs P W n zs) (hb : Below W.heap.size W W') : TxIs P W' n zs := by
  unfold TxIs World.var? at h ⊢
  cases hg : P.globalNamed n with
  | none => simp [hg] at h
  | some g =>
    simp only [hg, Option.bind_some] at h ⊢
    have hlt : g < W.heap.size := by
      rcases Nat.lt_or_ge g W.heap.size with h' | h'
      · exact h'
      · simp [Array.getElem?_eq_none h'] at h
    rw [hb.block g hlt]
    exact h
theorem tx_cell {P : Program} {W : World} {n : String} {zs : List (List UInt8)} {g : Nat} (h : TxIs P W n zs) (hg : P.globalNamed n = some g) (i : Nat) (hi : i < zs.length) :
    W.cell? ⟨g, i, none⟩ = some (.string ⟨(zs.getD i []).toArray⟩) := by
  have := World.var?_cell hg h i
  simpa [txCells, List.getD, hi] using this
theorem tx_trod {H : Type} (enc : TypeId × Value → H) {P : Program} {w : World} {base : Nat} {sp : Nat → Bool} {held : Bool} {t e : TypeId} {n : Nat} {zs : List (List UInt8)}
    (ht : P.underlying t = some (.array n e)) (he : P.underlying e = some .string) (hce : P.cellsOf e = 1) (hct : P.cellsOf t = n) (hn : zs.length = n) (hz : ∀ z ∈ zs, z.length ≤ 100) :
    ∃ p, DataW.trod enc P w base sp held 2 t (txCells zs) = some (txData zs, p) := by
  have key : ∀ i, i < n → DataW.trod enc P w base sp held 1 e (((txCells zs).drop i).take 1) = some (.lit (.string (zs.getD i [])), []) := by
    intro i hi
    have h1 : ((txCells zs).drop i).take 1 = [.string ⟨(zs.getD i []).toArray⟩] := by
      have hl : i < (txCells zs).length := by unfold txCells; simp; omega
      rw [List.drop_eq_getElem_cons hl]
      simp [txCells, List.getD, show i < zs.length by omega]
    have hs : (ByteArray.mk (zs.getD i []).toArray).size ≤ maxLen := by
      have : zs.getD i [] ∈ zs := by
        rw [List.getD, List.getElem?_eq_getElem (by omega)]
        exact List.getElem_mem _
      have := hz _ this
      show (zs.getD i []).toArray.size ≤ maxLen
      rw [List.size_toArray]
      unfold maxLen
      omega
    rw [h1]
    unfold DataW.trod
    rw [he]
    simp only [hs, if_true]
  have hm : (List.range n).mapM (fun i => DataW.trod enc P w base sp held 1 e (((txCells zs).drop i).take 1)) = some ((List.range n).map fun i => ((.lit (.string (zs.getD i [])) : DataW H), ([] : List MemPlace))) := by
    have go : ∀ l : List Nat, (∀ i ∈ l, i < n) → l.mapM (fun i => DataW.trod enc P w base sp held 1 e (((txCells zs).drop i).take 1)) = some (l.map fun i => ((.lit (.string (zs.getD i [])) : DataW H), ([] : List MemPlace))) := by
      intro l
      induction l with
      | nil => intro _; rfl
      | cons a l ih =>
        intro hl
        rw [List.mapM_cons, key a (hl a (by simp)), ih fun i hi => hl i (by simp [hi])]
        rfl
    exact go _ fun i hi => List.mem_range.1 hi
  have hl : (txCells zs).length = n := by unfold txCells; simpa using hn
  have hd : ((List.range n).map fun i => ((.lit (.string (zs.getD i [])) : DataW H), ([] : List MemPlace))).map (·.1) = zs.map fun z => (.lit (.string z) : DataW H) := by
    apply List.ext_getElem?
    intro i
    by_cases hi : i < n
    · simp [hi, List.getD, show i < zs.length by omega]
    · rw [List.getElem?_eq_none (by simp; omega), List.getElem?_eq_none (by simp; omega)]
  refine ⟨((List.range n).map fun i => ((.lit (.string (zs.getD i [])) : DataW H), ([] : List MemPlace))).flatMap (·.2), ?_⟩
  generalize ((List.range n).map fun i => ((.lit (.string (zs.getD i [])) : DataW H), ([] : List MemPlace))) = xs at *
  show DataW.trod enc P w base sp held (1 + 1) t (txCells zs) = _
  generalize txCells zs = cs at *
  unfold DataW.trod
  rw [ht]
  simp only [hce, hct, Nat.mul_one, hl, if_true, hm, Option.map_some, hd]
  rfl
/-- It reads as data, in whatever world in which it holds these texts. -/
theorem tx_vars {H : Type} (enc : TypeId × Value → H) {P : Program} {w : World} {sp : Nat → Bool} {name : String} {g : Nat} {t e : TypeId} {n : Nat} {zs : List (List UInt8)}
    (h : TxIs P w name zs) (hg : P.globalNamed name = some g) (hty : (P.globals[g]?).map (·.type) = some t) (ht : P.underlying t = some (.array n e)) (he : P.underlying e = some .string) (hce : P.cellsOf e = 1) (hct : P.cellsOf t = n) (hn : zs.length = n) (hz : ∀ z ∈ zs, z.length ≤ 100) :
    ∃ ps, DataW.TrodVars enc P w sp [name] [txData zs] ps := by
  obtain ⟨p, hp⟩ := tx_trod enc (w := w) (base := 0) (sp := sp) (held := true) ht he hce hct hn hz
  exact ⟨_, trodVars_mk1 hg hty h hp⟩
theorem law_postT {H : Type} {enc : TypeId × Value → H} {P : Program} (hl : laidOutB P = true) {f : Func} {s : ChangeSpec} {bt : TypeId} (hres : f.resultTypes = #[bt]) (hbt : P.underlying bt = some .bool)
    (hread : ∀ t ∈ f.params.toList, P.readableRec t = true ∧ t < P.types.size)
    {W W' : World} {args : Array Value} {ds gs : List (DataW H)} {before pv : List MemPlace}
    (hW : DataW.Whole enc P f.params.toList s.vars false W args.toList ds gs before)
    (hs1 : (s.fn H (ds ++ gs)).results = [.lit (.bool true)]) (hs2 : (s.fn H (ds ++ gs)).args = ds) (hs3 : (s.fn H (ds ++ gs)).vars = gs)
    (hv : DataW.TrodVars enc P W' (fun b => decide (b < W.heap.size)) s.vars gs pv)
    (hb : Below W.heap.size W W') :
    s.post enc P f false true false false W args (.bool true) W' := by
  have hW' := hW
  obtain ⟨p, q, hA, hV, rfl, hfz, hnd⟩ := hW
  have hlt : ∀ x ∈ p, x.block < W.heap.size := fun x hx => hW'.lt x (List.mem_append_left _ hx)
  refine ⟨ds, gs, _, [], p, pv, hW', ?_, ?_, ?_, hb.frame _, fun h => by cases h⟩
  · rw [hres, hs1]
    exact trodAll_mk1 (shut_bool hbt _)
  · rw [hs2]
    exact below_trodAll hl hb _ _ _ _ hread hA hlt
  · rw [hs3]
    exact hv
end Go.Proofs.YtllhglakihfjmaaDoor

namespace Go.Proofs.YtllhglakihfjmaaDoor
open Go.ChangeShapes Go.WideShapes Go.ChangeAt Go.RowKit

def kdWd : List (List UInt8) := [[100, 105, 114, 101, 99, 116], [115, 117, 109], [112, 97, 105, 114, 115], [98, 105, 110, 97, 114, 121]]
/-- The word of a kind. -/
def kwOf (k : Int) : ByteArray := ⟨(kdWd.getD k.toNat []).toArray⟩
theorem kdWd_size : ∀ i : Nat, (kdWd.getD i []).length ≤ 6
  | 0 => by decide
  | 1 => by decide
  | 2 => by decide
  | 3 => by decide
  | _ + 4 => Nat.zero_le _
theorem kwOf_size (k : Int) : (kwOf k).size ≤ 6 := by
  unfold kwOf
  show (kdWd.getD k.toNat []).toArray.size ≤ 6
  rw [List.size_toArray]
  exact kdWd_size _
def fdL (s kw d1 d2 : ByteArray) : ByteArray := ((((((s ++ ⟨#[32]⟩) ++ kw) ++ ⟨#[32]⟩) ++ d1) ++ ⟨#[32]⟩) ++ d2) ++ ⟨#[10]⟩
/-- The text of the first n fields. -/
def fsN (fs : List Fd) : Nat → ByteArray
  | 0 => ByteArray.empty
  | n + 1 => fsN fs n ++ fdL (fdAt fs n).s (kwOf (fdAt fs n).k) (dec2 (fdAt fs n).t.toNat) (dec2 (fdAt fs n).z.toNat)
theorem fsN_next (fs : List Fd) (n : Nat) : fsN fs (n + 1) = fsN fs n ++ fdL (fdAt fs n).s (kwOf (fdAt fs n).k) (dec2 (fdAt fs n).t.toNat) (dec2 (fdAt fs n).z.toNat) := rfl
theorem fdL_bytes (t s kw d1 d2 : ByteArray) : (t ++ fdL s kw d1 d2).data.toList = ((((((((t.data.toList ++ s.data.toList) ++ [32]) ++ kw.data.toList) ++ [32]) ++ d1.data.toList) ++ [32]) ++ d2.data.toList) ++ [10]) := by
  unfold fdL
  simp only [ByteArray.data_append, Array.toList_append, List.append_assoc]
theorem fdL_size (s kw d1 d2 : ByteArray) : (fdL s kw d1 d2).size = s.size + 1 + kw.size + 1 + d1.size + 1 + d2.size + 1 := by
  unfold fdL
  simp only [ByteArray.size_append]
  have e : (⟨#[10]⟩ : ByteArray).size = 1 := rfl
  have e2 : (⟨#[32]⟩ : ByteArray).size = 1 := rfl
  omega
/-- What is known of a valid field. -/
theorem fd_inv {s : ByteArray} {k t z : Int} (h : fieldOk s k t z = true) : 1 ≤ s.size ∧ s.size ≤ 16 ∧ 0 ≤ k ∧ k ≤ 3 ∧ 0 ≤ t ∧ t ≤ 95 ∧ 0 ≤ z ∧ z ≤ 95 := by
  unfold fieldOk at h
  simp only [Bool.and_eq_true, decide_eq_true_eq] at h
  obtain ⟨hn, h1, h2, h3, h4, h5, h6⟩ := h
  have hs := nameOk_size hn
  have hm : mostZ k ≤ 24 := by unfold mostZ; split <;> (try split) <;> omega
  have hw : 1 ≤ widthZ k z := by unfold widthZ; split <;> (try split) <;> (try split) <;> omega
  omega
theorem fsN_size {fs : List Fd} (h : ∀ i, i < fs.length → fieldOk (fdAt fs i).s (fdAt fs i).k (fdAt fs i).t (fdAt fs i).z = true) : ∀ n, n ≤ fs.length → (fsN fs n).size ≤ 32 * n
  | 0, _ => Nat.le_refl _
  | n + 1, hn => by
    have ih := fsN_size h n (by omega)
    have h2 := fd_inv (h n (by omega))
    have h3 := kwOf_size (fdAt fs n).k
    have h4 := dec2_le (n := (fdAt fs n).t.toNat) (by omega)
    have h5 := dec2_le (n := (fdAt fs n).z.toNat) (by omega)
    rw [fsN_next, ByteArray.size_append, fdL_size]
    omega
theorem sx_next {B : Nat} {w a b : World} (h : Below B w a) (hB : B ≤ w.heap.size) (k : Below a.heap.size a b) : Below B w b := h.trans (Below.mono k (Nat.le_trans hB h.size))
/-- Bytes of the call's own, or none yet. -/
def OwnS (B : Nat) (bs : List UInt8) (v : Value) (w : World) : Prop := (bs = [] ∧ v = .slice none 0 0) ∨ (0 < bs.length ∧ OwnG B bs v w)
theorem ownS_lt {B : Nat} {bs : List UInt8} {v : Value} {w : World} (h : OwnS B bs v w) : ∀ k, v.ownBlock = some k → B ≤ k ∧ k < w.heap.size := fun k hk => by
  rcases h with ⟨_, rfl⟩ | ⟨_, g, cap, rfl, h1, h2, _⟩
  · simp [Value.ownBlock] at hk
  · simp [Value.ownBlock] at hk
    subst hk
    exact ⟨h1, h2⟩
theorem ownS_kept {B : Nat} {bs : List UInt8} {v : Value} {w w' : World} (h : OwnS B bs v w) (hb : Below w.heap.size w w') : OwnS B bs v w' := by
  rcases h with h | h
  · exact .inl h
  · exact .inr ⟨h.1, ownG_kept h.2 hb⟩
/-- A text more, that is not empty. -/
theorem wp_pushS0 {P : Program} (w : World) {ops : Array Oper} {rest : List Oper} {o : Oper} {a : Act} {Q : Exit → Act → World → Prop} (hgd : o.guard = none) (s x : Operand) (t u : TypeId)
    (ho : o.op = .call { callee := .builtin .append, args := #[s, x], argTypes := #[t, u] }) (e : TypeId) (i : TypeInfo) (ht : P.underlying t = some (.slice e)) (hu : P.underlying u = some .string) (hi : P.info? e = some i) (hz : i.zero = some (.int .u8 0)) (hs1 : i.size = 1) (hb1 : i.bytes = 1)
    (B : Nat) (bs : List UInt8) (v : Value) (hs : a.eval s = v) (hO : OwnS B bs v w) (hB : B ≤ w.heap.size) (hl : bs.length ≤ 100000) (z : ByteArray) (hx : a.eval x = .string z) (hsz : z.size ≤ 100000) (hz0 : 0 < z.size)
    (h : ∀ v' w', Grn B (bs ++ z.data.toList) v w v' w' → wpList P ops Q rest (a.put o.dst v') w') : wpList P ops Q (o :: rest) a w := by
  rcases hO with ⟨rfl, hv⟩ | hG
  · subst hv
    refine Lib.wpList_append_own_string w hgd s x t u ho w.heap.size e i ht hu hi hz hs1 hb1 (.slice none 0 0) 0 [] hs (World.ownsRow_nil _ _ _ _) z hx (by unfold maxLen; omega) (by omega) (Nat.le_refl _) fun v' w' hown hgr _ => ?_
    have sl : z.data.toList.length = z.size := Array.length_toList
    have hr : w'.ownsRow w.heap.size e 1 v' z.data.toList.length (Lib.byteCells z.data.toList) := by
      rw [sl, ← Lib.strCells_eq]
      simpa using hown
    have hG := ownG_of_row hr (by omega)
    refine h v' w' ⟨ownG_weak hG hB, hgr, .inr ?_⟩
    obtain ⟨g2, c2, rfl, q, _⟩ := hG
    exact ⟨g2, rfl, q⟩
  · exact wp_pushS w hgd s x t u ho e i ht hu hi hz hs1 hb1 B bs v hs hG.2 hB hl hG.1 z hx hsz h
/-- A box that no append writes. -/
def BoxK (X : Nat) (o : Obj) (v : Value) (w : World) : Prop := w.heap[X]? = some o ∧ v.ownBlock ≠ some X
theorem boxK_start {B : Nat} {bs : List UInt8} {v : Value} {w : World} (h : OwnS B bs v w) (o : Obj) : BoxK w.heap.size o v (w.alloc o) :=
  ⟨block_alloc w o, fun e => absurd (ownS_lt h _ e).2 (Nat.lt_irrefl _)⟩
theorem boxK_alloc {X : Nat} {o : Obj} {v : Value} {w : World} (h : BoxK X o v w) (p : Obj) : BoxK X o v (w.alloc p) :=
  ⟨(Below.heap_alloc w p X (lt_of_block h.1)).trans h.1, h.2⟩
theorem boxK_next {B X : Nat} {o : Obj} {bs : List UInt8} {v v' : Value} {w w' : World} (h : BoxK X o v w) (hG : Grn B bs v w v' w') : BoxK X o v' w' := by
  have hl := lt_of_block h.1
  refine ⟨(hG.2.1.block X hl (fun e => h.2 e.symm)).trans h.1, ?_⟩
  rcases hG.2.2 with e | ⟨g, e, hg⟩
  · rw [e]; exact h.2
  · rw [e]
    intro k
    cases k
    omega
theorem newB10 (W : World) (t : TypeId) : (W.alloc (.cells #[.int .u8 10] t)).cell? ((⟨W.heap.size, 0, none⟩ : Addr).add 0) = some (.int .u8 ((10 : UInt8).toNat : Int)) := by
  simp [Addr.add]
theorem kw_g : Tryd.prog.globalNamed "loop.example/g01261/impl.kindWords" = some 0 := by kernel_rfl
theorem kw_cell {W : World} (h : TxIs Tryd.prog W "loop.example/g01261/impl.kindWords" kdWd) {k : Int} (h0 : 0 ≤ k) (h1 : k ≤ 3) : W.cell? ⟨0, k.toNat, none⟩ = some (.string (kwOf k)) :=
  tx_cell h kw_g k.toNat (by show k.toNat < 4; omega)
end Go.Proofs.YtllhglakihfjmaaDoor

namespace Go.Proofs.YtllhglakihfjmaaDoor
open Go.ChangeShapes Go.WideShapes Go.ChangeAt Go.RowKit

theorem NamesIn.of_block {P : Program} {k e : TypeId} {w w' : World} {b : Nat} {ns : List ByteArray} (h : NamesIn P k e w b ns) (hb : w'.heap[b]? = w.heap[b]?) : NamesIn P k e w' b ns := by
  obtain ⟨D, hown, hm, hat⟩ := h
  refine ⟨D, ?_, hm, hat⟩
  obtain ⟨es, clock, hc, F, hs, hD⟩ := hown
  exact ⟨es, clock, hb.trans hc, F, hs, hD⟩

theorem iMeet_b2 (a b c d : Int) (w : World) : Calls Tryd.prog 87 #[.agg #[.int .u64 a, .int .u64 b], .agg #[.int .u64 c, .int .u64 d]] w fun e w' => e = .returned (.agg #[.int .u64 (bits .and .u64 a c), .int .u64 (bits .and .u64 b d)]) ∧ Below w.heap.size w w' :=
  (iMeet_any a b c d w).mono fun e w' ⟨he, hw⟩ => ⟨he, by subst hw; exact (by repeat' (first | (with_reducible exact Below.refl _ _) | (with_reducible assumption) | (with_reducible refine below_drewN ?_ _) | (with_reducible refine Below.drew ?_) | (with_reducible refine below_new ?_ _) | (with_reducible refine below_next ?_ (by with_reducible assumption)) | (with_reducible refine Below.setCell ?_ ?_ _) | go_size))⟩
/-- The holes taken and the names seen. -/
def ScB (w wr : World) (x y : Int) (ns : List ByteArray) : Prop := TkB w wr x y ∧ NamesIn Tryd.prog 9 4 wr (w.heap.size + 1) ns
theorem scB_ab {w W W' : World} {x y : Int} {ns : List ByteArray} (h : ScB w W x y ns) (hb : Ab W W') : ScB w W' x y ns := ⟨tkB_ab h.1 hb, h.2.below hb⟩
theorem scB_set {w W : World} {x y : Int} {ns : List ByteArray} (h : ScB w W x y ns) (u v : Int) : ScB w ((W.setCell ⟨w.heap.size, 0, none⟩ (.int .u64 u)).setCell ⟨w.heap.size, 1, none⟩ (.int .u64 v)) u v ns :=
  ⟨tkB_set h.1 u v, h.2.of_block (by rw [Below.heap_setCell _ _ _ _ (by show w.heap.size + 1 ≠ w.heap.size; omega), Below.heap_setCell _ _ _ _ (by show w.heap.size + 1 ≠ w.heap.size; omega)])⟩
theorem scB_start (w : World) : ScB w ((w.alloc (.cells #[.int .u64 0, .int .u64 0] 28)).alloc (.map #[] 0)) 0 0 [] := by
  refine ⟨tkB_ab (tkB_start w) (below_new (Below.refl _ _) _), ?_⟩
  have h := namesIn_made Tryd.prog 9 4 (w.alloc (.cells #[.int .u64 0, .int .u64 0] 28))
  simpa using h

set_option maxRecDepth 100000 in
set_option maxHeartbeats 3200000 in
theorem iSch_any (ad : Option Addr) (fs : List Fd) (c : Nat) (w : World) (hc : FieldsIn w ad fs) :
    Calls Tryd.prog 49 #[.slice ad fs.length c] w fun e w' => e = .returned (.bool (schOk fs)) ∧ Below w.heap.size w w' := by
  have C := Lib.hid hc
  have he := eq_mask
  clear hc
  by_cases hl : fs.length ≤ 12
  · have HL := Lib.hid hl
    have hg : decide ((12 : Int) < (fs.length : Int)) = false := by simp; omega
    have hmm := fun n W => run_makeMapN Tryd.underlying134 n W
    have TS := Lib.hid (scB_start w)
    go_enter Tryd.func49, Tryd.ntmps49
    go_wp2
    go_loopw [15] (fun i wr => ∃ j : Nat, j ≤ fs.length ∧ i = .int .i64 j ∧ schTo fs j = true ∧ ScB w wr (tk0 fs j) (tk1 fs j) (fNames fs j)) (fun i _ => fs.length - (intOf i).toNat)
    case atStart => exact ⟨0, Nat.zero_le _, rfl, rfl, TS.out⟩
    case round =>
      obtain ⟨j, hj, rfl, hs, hB⟩ := hrel
      have BB := Lib.hid hB
      have S := Lib.hid hs
      clear hs hg TS hmm
      by_cases hjl : j < fs.length
      · have hd : decide ((j : Int) < (fs.length : Int)) = true := by simpa using hjl
        obtain ⟨⟨f1, f2, f3, f4⟩, b1, o1, rfl, hb1, p0, p1, p2, p3⟩ := C.out j hjl
        have d0 := (hB.1.2.cell (p := ⟨b1, o1 + j * 4, none⟩) hb1).trans p0
        have d1 := (hB.1.2.cell (p := ⟨b1, o1 + j * 4 + 1, none⟩) hb1).trans p1
        have d2 := (hB.1.2.cell (p := ⟨b1, o1 + j * 4 + 2, none⟩) hb1).trans p2
        have d3 := (hB.1.2.cell (p := ⟨b1, o1 + j * 4 + 3, none⟩) hb1).trans p3
        have i1 : (0 : Int) ≤ (j : Int) := by omega
        have i2 : (j : Int) < (fs.length : Int) := by omega
        have no1 : Hid (fOk fs j = false → schOk fs = false) := Lib.hid fun h => schOk_no hjl (schTo_field h)
        have no2 : Hid (hasN (fNames fs j) (fdAt fs j).s = true → schOk fs = false) := Lib.hid fun h => schOk_no hjl (schTo_name h)
        have no3 : Hid (fFree fs j = false → schOk fs = false) := Lib.hid fun h => schOk_no hjl (schTo_hole h)
        have nx : Hid (fOk fs j = true → fFree fs j = true → hasN (fNames fs j) (fdAt fs j).s = false → schTo fs (j + 1) = true) := Lib.hid fun h1 h3 h2 => schTo_yes S.out h1 h2 h3
        have V : Hid (∀ W : World, Calls Tryd.prog 86 #[.agg #[.string (fdAt fs j).s, .int .i8 (fdAt fs j).k, .int .i16 (fdAt fs j).t, .int .i16 (fdAt fs j).z]] W fun e w' => e = .returned (.bool (fOk fs j)) ∧ Below W.heap.size W w') := Lib.hid fun W => iVF_any _ _ _ _ f1 f2 f3 f4 W
        have P : Hid (fOk fs j = true → ∀ W : World, Calls Tryd.prog 88 #[.agg #[.string (fdAt fs j).s, .int .i8 (fdAt fs j).k, .int .i16 (fdAt fs j).t, .int .i16 (fdAt fs j).z]] W fun e w' => e = .returned (.agg #[.int .u64 (fp0 fs j), .int .u64 (fp1 fs j)]) ∧ Below W.heap.size W w') := Lib.hid fun h W => iPartOk _ _ _ _ h W
        have F := Lib.hid f1
        have J := Lib.hid (show (fNames fs j).length < maxLen by rw [fNames_len]; unfold maxLen; omega)
        have FN := Lib.hid (fNames_next fs j)
        have TX := Lib.hid (show bits .or .u64 (tk0 fs j) (fp0 fs j) = tk0 fs (j + 1) from rfl)
        have TY := Lib.hid (show bits .or .u64 (tk1 fs j) (fp1 fs j) = tk1 fs (j + 1) from rfl)
        have FF := Lib.hid (show (bits .and .u64 (tk0 fs j) (fp0 fs j) == 0 && bits .and .u64 (tk1 fs j) (fp1 fs j) == 0) = fFree fs j from rfl)
        clear hB p0 p1 p2 p3 S f1 f2 f3 f4
        generalize fp0 fs j = PX at *
        generalize fp1 fs j = PY at *
        generalize tk0 fs j = x at *
        generalize tk1 fs j = y at *
        generalize fNames fs j = ns at *
        generalize fdAt fs j = fd at *
        obtain ⟨s, k, t, z⟩ := fd
        simp only at d0 d1 d2 d3 no2 nx V P F FN
        go_upto_region 8 with fail
        have HF := Lib.hid (block_alloc wr (.cells #[.string s, .int .i8 k, .int .i16 t, .int .i16 z] 88))
        have hA : Ab wr (wr.alloc (.cells #[.string s, .int .i8 k, .int .i16 t, .int .i16 z] 88)) := below_new (Below.refl _ _) _
        have B1 := Lib.hid (scB_ab BB.out hA)
        have gne : wr.heap.size ≠ w.heap.size + 1 := by
          have := BB.out.2
          obtain ⟨D, ⟨es, clock, hc9, _⟩, _⟩ := this
          have := (Array.getElem?_eq_some_iff.1 hc9).1
          omega
        clear d0 d1 d2 d3 hA
        generalize wr.alloc (.cells #[.string s, .int .i8 k, .int .i16 t, .int .i16 z] 88) = V1 at *
        generalize wr.heap.size = g at *
        have L : ∀ p : Regrown, (Instr.lookup 134 (.map (some (w.heap.size + 1))) (.string s) false).run Tryd.prog (bw V1 p) = .ok (.bool (hasN ns s)) (bw V1 p) := fun p => (B1.out.2.below (below_bw V1 p)).asked Tryd.underlying134 Tryd.underlying9 Tryd.underlying4 (zero_bool _) s F.out
        have hbw := cell_bw
        have c0 := cell_of_block HF.out
        have z0 := lt_of_block HF.out
        have c1 := cell_of_block B1.out.1.1
        have z1 := lt_of_block B1.out.1.1
        cases hz : fOk fs j
        · rw [hz] at V
          clear P no2 no3 nx L
          refine region_bw (by kernel_rfl) (by kernel_rfl) ?_
          repeat (go_big_quiet_step (first | (go_at_call 86; exact calls_bw (V.out _))))
          refine wpQuiet_nil ?_; intro wq hq; replace hq := below_of_bw hq; obtain ⟨qc, qf, qz⟩ := bcell hq
          go_wp2
          go_ret
          exact ⟨retB (no1.out hz), B1.out.1.2.trans (hq.mono B1.out.1.2.size)⟩
        · rw [hz] at V
          have PT := Lib.hid (P.out hz)
          have NX := Lib.hid (nx.out hz)
          clear P nx no1 hz
          cases hn : hasN ns s
          · rw [hn] at L
            cases hfr : fFree fs j
            · have hm : (bits .and .u64 x PX == 0 && bits .and .u64 y PY == 0) = false := FF.out.trans hfr
              have nf := Lib.hid (no3.out hfr)
              clear no2 no3 NX hfr hn
              refine region_bw (by kernel_rfl) (by kernel_rfl) ?_
              repeat (go_big_quiet_step (first | (go_at_call 86; exact calls_bw (V.out _)) | (go_at_call 88; exact calls_bw (PT.out _)) | (go_at_call 87; exact calls_bw (iMeet_b2 _ _ _ _ _))))
              refine wpQuiet_nil ?_; intro wq hq; replace hq := below_of_bw hq; obtain ⟨qc, qf, qz⟩ := bcell hq
              go_wp2
              go_ret
              exact ⟨retB nf.out, B1.out.1.2.trans (hq.mono B1.out.1.2.size)⟩
            · have hm : (bits .and .u64 x PX == 0 && bits .and .u64 y PY == 0) = true := FF.out.trans hfr
              have NX := Lib.hid (NX.out hfr hn)
              clear no2 no3 hfr hn
              refine region_bw (by kernel_rfl) (by kernel_rfl) ?_
              repeat (go_big_quiet_step (first | (go_at_call 86; exact calls_bw (V.out _)) | (go_at_call 88; exact calls_bw (PT.out _)) | (go_at_call 87; exact calls_bw (iMeet_b2 _ _ _ _ _))))
              refine wpQuiet_nil ?_; intro wq hq; replace hq : Ab V1 wq := below_of_bw hq
              have B2 := Lib.hid (scB_ab B1.out hq)
              have HF2 := Lib.hid (hq.block HF.out)
              clear L c0 z0 c1 z1 hq hm
              have c0 := cell_of_block HF2.out
              have z0 := lt_of_block HF2.out
              obtain ⟨w3, U, N3, hg3⟩ := B2.out.2.added Tryd.underlying134 Tryd.underlying9 Tryd.underlying4 s F.out J.out
              rw [← FN.out] at N3
              have HF3 := Lib.hid ((hg3.block g z0 (by simpa using gne)).trans HF2.out)
              have T3 : TkB w w3 x y := ⟨(hg3.block w.heap.size (lt_of_block B2.out.1.1) (by simp)).trans B2.out.1.1, Below.grown B2.out.1.2 hg3 B2.out.1.2.size (fun k hk => by cases hk; exact Nat.le_add_right _ _)⟩
              have B3 : Hid (ScB w w3 x y _) := Lib.hid ⟨T3, N3⟩
              clear N3 T3 hg3
              go_upto_region 11 with fail
              clear c0 z0
              refine wp_region_last 4 (by kernel_rfl) rfl rfl (by kernel_rfl) (by kernel_rfl) rfl ?_
              simp only [List.take_succ_cons, List.take_zero]
              intro v1 hv1
              have c0 := cell_of_block (hv1.block HF3.out)
              have z0 := lt_of_block (hv1.block HF3.out)
              have c1 := cell_of_block (hv1.block B3.out.1.1)
              have z1 := lt_of_block (hv1.block B3.out.1.1)
              repeat (go_big_quiet_step (first | (go_at_call 88; exact calls_bw (PT.out _)) | (go_at_call 89; exact calls_bw (iJoin_below _ _ _ _ _))))
              refine wpQuiet_nil ?_
              intro v3 hv3
              have B4 := Lib.hid (scB_ab B3.out hv3)
              clear c0 z0 c1 z1 hv1 hv3 hbw
              have c1 := cell_of_block B4.out.1.1
              have g1 := free_of_block B4.out.1.1
              go_simp
              simp only [Yld]
              go_wp2
              exact ⟨⟨j + 1, hjl, by rw [Int.natCast_succ], NX.out, by rw [← TX.out, ← TY.out]; exact scB_set B4.out _ _⟩, by (simp [intOf]) <;> omega⟩
          · rw [hn] at L
            clear no3 NX PT
            refine region_bw (by kernel_rfl) (by kernel_rfl) ?_
            repeat (go_big_quiet_step (first | (go_at_call 86; exact calls_bw (V.out _))))
            refine wpQuiet_nil ?_; intro wq hq; replace hq := below_of_bw hq; obtain ⟨qc, qf, qz⟩ := bcell hq
            go_wp2
            go_ret
            exact ⟨retB (no2.out hn), B1.out.1.2.trans (hq.mono B1.out.1.2.size)⟩
      · have e : j = fs.length := by omega
        subst e
        have hd : decide ((fs.length : Int) < (fs.length : Int)) = false := by simp
        clear hB
        go_wp2
        go_ret
        exact ⟨retB (schOk_yes HL.out S.out), BB.out.1.2⟩
  · have hg : decide ((12 : Int) < (fs.length : Int)) = true := by simp; omega
    go_enter Tryd.func49, Tryd.ntmps49
    go_wp2
    go_ret
    exact ⟨retB (schOk_long hl), Below.refl _ _⟩
end Go.Proofs.YtllhglakihfjmaaDoor

namespace Go.Proofs.YtllhglakihfjmaaDoor
open Go.ChangeShapes Go.WideShapes Go.ChangeAt Go.RowKit

set_option maxRecDepth 100000 in
set_option maxHeartbeats 6400000 in
theorem iSxText_any (ad : Option Addr) (fs : List Fd) (c : Nat) (w : World) (hc : FieldsIn w ad fs) (ht : TxIs Tryd.prog w "loop.example/g01261/impl.kindWords" kdWd) :
    Calls Tryd.prog 19 #[.slice ad fs.length c] w fun e w' => e = .returned (.string (if schOk fs = true then fsN fs fs.length else ByteArray.empty)) ∧ Below w.heap.size w w' := by
  obtain ⟨i0, hi, hz0, hz1, hz2⟩ := info_parts info_by
  have V := fun W h => iSch_any ad fs c W h
  have C := Lib.hid hc
  have T0 := Lib.hid ht
  cases hk : schOk fs
  · rw [hk] at V
    replace V := Lib.hid V
    simp only [Bool.false_eq_true, if_false]
    clear hk hc ht hi hz0 hz1 hz2
    go_enter Tryd.func19, Tryd.ntmps19
    go_wp2_with (go_at_call 49; refine (V.out _ C.out).mono ?_; rintro e w1 ⟨rfl, hB⟩; have B1 := Lib.hid hB; clear hB)
    go_returns
    exact ⟨rfl, B1.out⟩
  · rw [hk] at V
    simp only [if_true]
    have OK := Lib.hid (schOk_all hk)
    have SZ := Lib.hid (fsN_size (fs := fs) fun i hi => schOk_all hk i hi)
    have l12 := schOk_12 hk
    have cv0 : ∀ W : World, (convert 73 9 (.slice none 0 0)).run Tryd.prog W = .ok (.string ⟨#[]⟩) W := fun _ => by kernel_rfl
    replace V := Lib.hid V
    clear hk hc ht
    go_enter Tryd.func19, Tryd.ntmps19
    go_wp2_with (go_at_call 49; refine (V.out _ C.out).mono ?_; rintro e w1 ⟨rfl, hB⟩; have B1 := Lib.hid hB; clear hB)
    go_loopw [3, 11] (fun v i wr => ∃ j : Nat, j ≤ fs.length ∧ i = .int .i64 (j : Int) ∧ OwnS w.heap.size (fsN fs j).data.toList v wr ∧ Below w.heap.size w wr) (fun _ i _ => fs.length - (intOf i).toNat)
    case atStart => exact ⟨0, Nat.zero_le _, rfl, .inl ⟨rfl, rfl⟩, B1.out⟩
    case round =>
      obtain ⟨j, hj, rfl, hO, hB⟩ := hrel
      have O5 := Lib.hid hO
      have B5 := Lib.hid hB
      clear hO
      by_cases hjl : j < fs.length
      · have hd : decide ((j : Int) < (fs.length : Int)) = true := by simpa using hjl
        obtain ⟨_, b1, o1, rfl, hb1, p0, p1, p2, p3⟩ := C.out j hjl
        have d0 := (hB.cell (p := ⟨b1, o1 + j * 4, none⟩) hb1).trans p0
        have d1 := (hB.cell (p := ⟨b1, o1 + j * 4 + 1, none⟩) hb1).trans p1
        have d2 := (hB.cell (p := ⟨b1, o1 + j * 4 + 2, none⟩) hb1).trans p2
        have d3 := (hB.cell (p := ⟨b1, o1 + j * 4 + 3, none⟩) hb1).trans p3
        have i1 : (0 : Int) ≤ (j : Int) := by omega
        have i2 : (j : Int) < (fs.length : Int) := by omega
        have ok := OK.out j hjl
        unfold fOk at ok
        obtain ⟨n0, n1, k0, k3, t0, t9, z0, z9⟩ := fd_inv ok
        have sz := SZ.out j hj
        have skw := kwOf_size (fdAt fs j).k
        have NX := fdL_bytes (fsN fs j) (fdAt fs j).s (kwOf (fdAt fs j).k) (dec2 (fdAt fs j).t.toNat) (dec2 (fdAt fs j).z.toNat)
        rw [← fsN_next] at NX
        have KW := Lib.hid fun W h => kw_cell (W := W) h k0 k3
        have sbs : (fsN fs j).data.toList.length = (fsN fs j).size := Array.length_toList
        have sl1 : (fdAt fs j).s.data.toList.length = (fdAt fs j).s.size := Array.length_toList
        have sl2 : (kwOf (fdAt fs j).k).data.toList.length = (kwOf (fdAt fs j).k).size := Array.length_toList
        have sy1 := dec2_le (n := (fdAt fs j).t.toNat) (by omega)
        have sy2 := dec2_le (n := (fdAt fs j).z.toNat) (by omega)
        have sl3 : (dec2 (fdAt fs j).t.toNat).data.toList.length = (dec2 (fdAt fs j).t.toNat).size := Array.length_toList
        have sl4 : (dec2 (fdAt fs j).z.toNat).data.toList.length = (dec2 (fdAt fs j).z.toNat).size := Array.length_toList
        obtain ⟨m, hm⟩ := Int.eq_ofNat_of_zero_le t0
        obtain ⟨n, hn⟩ := Int.eq_ofNat_of_zero_le z0
        rw [hm] at d2 NX sy1 sl3 t9
        rw [hn] at d3 NX sy2 sl4 z9
        rw [Int.toNat_natCast] at NX sy1 sl3
        rw [Int.toNat_natCast] at NX sy2 sl4
        have m95 : m ≤ 95 := by omega
        have n95 : n ≤ 95 := by omega
        have x1 : IntKind.i64.wrap (m : Int) = (m : Int) := IntWalk.i64_in _ (by omega)
        have x2 : IntKind.i64.wrap (n : Int) = (n : Int) := IntWalk.i64_in _ (by omega)
        have NX := Lib.hid NX
        have s5 := B5.out.size
        clear hB p0 p1 p2 p3 ok hm hn t0 t9 z0 z9
        generalize (fsN fs j).data.toList = bs at *
        generalize kwOf (fdAt fs j).k = kw at *
        generalize (fdAt fs j).k = k at *
        generalize (fdAt fs j).s = s at *
        generalize eym : dec2 m = y1 at NX sy1 sl3
        generalize eyn : dec2 n = y2 at NX sy2 sl4
        have O3 := Lib.hid (ownS_kept O5.out (below_new (Below.refl wr.heap.size wr) (.cells #[.string s, .int .i8 k, .int .i16 (m : Int), .int .i16 (n : Int)] 88)))
        have K0 := Lib.hid (boxK_start O5.out (.cells #[.string s, .int .i8 k, .int .i16 (m : Int), .int .i16 (n : Int)] 88))
        have L0 := Lib.hid (below_new B5.out (.cells #[.string s, .int .i8 k, .int .i16 (m : Int), .int .i16 (n : Int)] 88))
        have tok1 : True := trivial
        have tok2 : True := trivial
        have tok3 : True := trivial
        have tok4 : True := trivial
        have tok5 : True := trivial
        have tok6 : True := trivial
        have tok7 : True := trivial
        have tok8 : True := trivial
        go_wp2_with (first
          | (at_builtin; have _t := tok1; clear _t tok1; refine wp_pushS0 _ rfl _ _ 73 9 rfl 5 i0 Tryd.underlying73 Tryd.underlying9 hi hz0 hz1 hz2 w.heap.size bs _ rfl O3.out (by have := L0.out.size; simp; omega) (by (try simp only [List.length_append, List.length_cons, List.length_nil]); omega) s rfl (by omega) (by omega) ?_; intro v1 w1 hG; have G1 := Lib.hid hG; have K1 := Lib.hid (boxK_next K0.out hG); have L1 := Lib.hid (Below.grown L0.out hG.2.1 L0.out.size (fun k hk => (ownS_lt O3.out k hk).1)); clear hG)
          | (at_builtin; have _t := tok2; clear _t tok2; refine wp_pushG _ rfl _ _ 73 rfl 5 i0 Tryd.underlying73 hi hz0 hz1 hz2 w.heap.size (bs ++ s.data.toList) _ rfl (ownG_kept G1.out.1 (below_new (Below.refl w1.heap.size w1) _)) (by have := L1.out.size; simp; omega) (by (try simp only [List.length_append, List.length_cons, List.length_nil]); omega) ⟨w1.heap.size, 0, none⟩ 1 32 rfl (newB _ _) ?_; intro v2 w2 hG; have G2 := Lib.hid hG; have K2 := Lib.hid (boxK_next (boxK_alloc K1.out _) hG); have L2 := Lib.hid (Below.grown (below_new L1.out _) hG.2.1 (by have := L1.out.size; simp; omega) (ownG_lt G1.out.1)); have c1 := cell_of_block K2.out.1 1; have tc := KW.out _ (tx_below T0.out L2.out); clear hG)
          | (at_builtin; have _t := tok3; clear _t tok3; refine wp_pushS _ rfl _ _ 73 9 rfl 5 i0 Tryd.underlying73 Tryd.underlying9 hi hz0 hz1 hz2 w.heap.size ((bs ++ s.data.toList) ++ [32]) _ rfl G2.out.1 L2.out.size (by (try simp only [List.length_append, List.length_cons, List.length_nil]); omega) (by (try simp only [List.length_append, List.length_cons, List.length_nil]); omega) kw rfl (by omega) ?_; intro v3 w3 hG; have G3 := Lib.hid hG; have K3 := Lib.hid (boxK_next K2.out hG); have L3 := Lib.hid (Below.grown L2.out hG.2.1 L2.out.size (ownG_lt G2.out.1)); clear hG)
          | (at_builtin; have _t := tok4; clear _t tok4; refine wp_pushG _ rfl _ _ 73 rfl 5 i0 Tryd.underlying73 hi hz0 hz1 hz2 w.heap.size (((bs ++ s.data.toList) ++ [32]) ++ kw.data.toList) _ rfl (ownG_kept G3.out.1 (below_new (Below.refl w3.heap.size w3) _)) (by have := L3.out.size; simp; omega) (by (try simp only [List.length_append, List.length_cons, List.length_nil]); omega) ⟨w3.heap.size, 0, none⟩ 1 32 rfl (newB _ _) ?_; intro v4 w4 hG; have G4 := Lib.hid hG; have K4 := Lib.hid (boxK_next (boxK_alloc K3.out _) hG); have L4 := Lib.hid (Below.grown (below_new L3.out _) hG.2.1 (by have := L3.out.size; simp; omega) (ownG_lt G3.out.1)); have c2 := cell_of_block K4.out.1 2; clear hG)
          | (go_at_call 41; have _t := tok5; clear _t tok5; refine (appI_any w.heap.size ((((bs ++ s.data.toList) ++ [32]) ++ kw.data.toList) ++ [32]) _ m (by omega) _ G4.out.1 L4.out.size (by (try simp only [List.length_append, List.length_cons, List.length_nil]); omega) (by (try simp only [List.length_append, List.length_cons, List.length_nil]); omega)).mono ?_; rintro e w5 ⟨v5, rfl, hG⟩; have hG : Grn w.heap.size (((((bs ++ s.data.toList) ++ [32]) ++ kw.data.toList) ++ [32]) ++ (dec2 m).data.toList) _ _ _ _ := hG; rw [eym] at hG; have G5 := Lib.hid hG; have K5 := Lib.hid (boxK_next K4.out hG); have L5 := Lib.hid (Below.grown L4.out hG.2.1 L4.out.size (ownG_lt G4.out.1)); clear hG)
          | (at_builtin; have _t := tok6; clear _t tok6; refine wp_pushG _ rfl _ _ 73 rfl 5 i0 Tryd.underlying73 hi hz0 hz1 hz2 w.heap.size (((((bs ++ s.data.toList) ++ [32]) ++ kw.data.toList) ++ [32]) ++ y1.data.toList) _ rfl (ownG_kept G5.out.1 (below_new (Below.refl w5.heap.size w5) _)) (by have := L5.out.size; simp; omega) (by (try simp only [List.length_append, List.length_cons, List.length_nil]); omega) ⟨w5.heap.size, 0, none⟩ 1 32 rfl (newB _ _) ?_; intro v6 w6 hG; have G6 := Lib.hid hG; have K6 := Lib.hid (boxK_next (boxK_alloc K5.out _) hG); have L6 := Lib.hid (Below.grown (below_new L5.out _) hG.2.1 (by have := L5.out.size; simp; omega) (ownG_lt G5.out.1)); have c3 := cell_of_block K6.out.1 3; clear hG)
          | (go_at_call 41; have _t := tok7; clear _t tok7; refine (appI_any w.heap.size ((((((bs ++ s.data.toList) ++ [32]) ++ kw.data.toList) ++ [32]) ++ y1.data.toList) ++ [32]) _ n (by omega) _ G6.out.1 L6.out.size (by (try simp only [List.length_append, List.length_cons, List.length_nil]); omega) (by (try simp only [List.length_append, List.length_cons, List.length_nil]); omega)).mono ?_; rintro e w7 ⟨v7, rfl, hG⟩; have hG : Grn w.heap.size (((((((bs ++ s.data.toList) ++ [32]) ++ kw.data.toList) ++ [32]) ++ y1.data.toList) ++ [32]) ++ (dec2 n).data.toList) _ _ _ _ := hG; rw [eyn] at hG; have G7 := Lib.hid hG; have K7 := Lib.hid (boxK_next K6.out hG); have L7 := Lib.hid (Below.grown L6.out hG.2.1 L6.out.size (ownG_lt G6.out.1)); clear hG)
          | (at_builtin; have _t := tok8; clear _t tok8; refine wp_pushG _ rfl _ _ 73 rfl 5 i0 Tryd.underlying73 hi hz0 hz1 hz2 w.heap.size (((((((bs ++ s.data.toList) ++ [32]) ++ kw.data.toList) ++ [32]) ++ y1.data.toList) ++ [32]) ++ y2.data.toList) _ rfl (ownG_kept G7.out.1 (below_new (Below.refl w7.heap.size w7) _)) (by have := L7.out.size; simp; omega) (by (try simp only [List.length_append, List.length_cons, List.length_nil]); omega) ⟨w7.heap.size, 0, none⟩ 1 10 rfl (newB10 _ _) ?_; intro v8 w8 hG; have G8 := Lib.hid hG; have K8 := Lib.hid (boxK_next (boxK_alloc K7.out _) hG); have L8 := Lib.hid (Below.grown (below_new L7.out _) hG.2.1 (by have := L7.out.size; simp; omega) (ownG_lt G7.out.1)); clear hG))
        exact ⟨⟨j + 1, hjl, by rw [Int.natCast_succ], by rw [NX.out]; exact .inr ⟨by (try simp only [List.length_append, List.length_cons, List.length_nil]); omega, G8.out.1⟩, L8.out⟩, by (simp [intOf]) <;> omega⟩
      · have e : j = fs.length := by omega
        subst e
        have hd : decide ((fs.length : Int) < (fs.length : Int)) = false := by simp
        have BE := Lib.hid (back_eq (fsN fs fs.length))
        generalize (fsN fs fs.length).data.toList = bs at *
        clear hB
        rcases O5.out with ⟨rfl, hv⟩ | ⟨_, hG⟩
        · subst hv
          go_wp2
          go_returns
          exact ⟨ret_strC BE.out, B5.out⟩
        · have cvb := conv_backG (P := Tryd.prog) (src := 73) (dst := 9) (e := 5) hG Tryd.underlying73 Tryd.underlying5 Tryd.underlying9
          obtain ⟨g5, p5, hv, _⟩ := hG
          subst hv
          go_wp2
          go_returns
          exact ⟨ret_strC BE.out, B5.out⟩
end Go.Proofs.YtllhglakihfjmaaDoor

namespace Go.Proofs.YtllhglakihfjmaaDoor
open Go.ChangeShapes Go.WideShapes Go.ChangeAt Go.RowKit

/-- What an operation is: its value hangs on nothing; is one in every world above the start; is one in every world in which what has been found out so far holds; it does something of its own; it does something that waits for nothing. -/
inductive Kd where | pure | basic | info | loud | free
  deriving DecidableEq
def Kd.goes : Kd → Kd → Bool
  | _, .pure => true
  | _, .basic => true
  | i, .info => i != .loud && i != .free
  | i, .loud => i == .pure || i == .basic
  | i, .free => i != .loud

section
variable (P : Program) (ops : Array Oper) (md : Region.Mode) (W : World) {G X : Type} (I : G → World → Prop) (early : G → Prop) (kind : Nat → Kd) (late : Nat → Bool) (Ok : Nat → X → Prop) (val : Nat → X → Value) (upd : Nat → G → X → G)

def One (v : Value) (g : G) : Value → G → Prop := fun v' g' => v' = v ∧ g' = g
def FO (i : Nat) (g : G) : Value → G → Prop := fun v g' => ∃ x, Ok i x ∧ v = val i x ∧ g' = upd i g x
def IQ (o : Oper) (a : Act) (g : G) (v : Value) : Prop := ∀ w, I g w → Oper.quietUpon P (Ab w) w v ((execOp a.eval o).run P w)

def Fam2 (i : Nat) (o : Oper) (a : Act) (g : G) (O : Value → G → Prop) : Prop :=
  if Region.wanted o (yielded ops a.tmps) then
    (kind i = .pure ∧ ∃ v, PQ P o a v ∧ O = One v g) ∨
    (kind i = .basic ∧ early g ∧ ∃ v, SQ P W o a v ∧ O = One v g) ∨
    (kind i = .info ∧ early g ∧ ∃ v, IQ P I o a g v ∧ O = One v g) ∨
    (kind i = .loud ∧ early g ∧ Loud P I o a g O ∧ (late i = false → ∀ v g', O v g' → early g')) ∨
    (kind i = .free ∧ early g ∧ (∀ g', early g' → Loud P I o a g' (FO Ok val upd i g')) ∧ O = FO Ok val upd i g)
  else O = One undef g

def dOp (i : Nat) (K : Act → G → Prop) (a : Act) (g : G) : Prop :=
  match ops[i]? with
  | none => K a g
  | some o => ∃ O, Fam2 P ops W I early kind late Ok val upd i o a g O ∧ ∀ v g', O v g' → K (a.put o.dst v) g'

def wpAnyD (Q : Act → G → Prop) : Nat → Array Bool → Act → G → Prop
  | 0, listed, a, g => Region.ready md ops listed = [] ∧ Q a g
  | fuel + 1, listed, a, g =>
    (Region.ready md ops listed = [] → Q a g) ∧
    ∀ i ∈ Region.ready md ops listed, dOp P ops W I early kind late Ok val upd i (wpAnyD Q fuel (listed.setIfInBounds i true)) a g

def lexD (Q : Act → G → Prop) : List Oper → Nat → Act → G → Prop
  | [], _, a, g => Q a g
  | _ :: l, k, a, g => dOp P ops W I early kind late Ok val upd k (lexD Q l (k + 1)) a g
end

section
variable {P : Program} {ops : Array Oper} {md : Region.Mode} {W : World} {G X : Type} {I : G → World → Prop} {early : G → Prop} {kind : Nat → Kd} {late : Nat → Bool} {Ok : Nat → X → Prop} {val : Nat → X → Value} {upd : Nat → G → X → G}

theorem dOp_mono {i : Nat} {a : Act} {g : G} {K K' : Act → G → Prop} (h : ∀ a g, K a g → K' a g) (hh : dOp P ops W I early kind late Ok val upd i K a g) : dOp P ops W I early kind late Ok val upd i K' a g := by
  unfold dOp at *
  split
  · rename_i ho; simp only [ho] at hh; exact h _ _ hh
  · rename_i o ho
    simp only [ho] at hh
    obtain ⟨O, h1, h2⟩ := hh
    exact ⟨O, h1, fun v g' hv => h _ _ (h2 v g' hv)⟩
theorem IQ.of_same {o : Oper} {a a' : Act} {g : G} {v : Value} (h : IQ P I o a g v) (he : execOp a'.eval o = execOp a.eval o) : IQ P I o a' g v := by unfold IQ at *; rw [he]; exact h
theorem IQ.less {o : Oper} {a : Act} {g g' : G} {v : Value} (h : IQ P I o a g v) (hI : ∀ w, I g' w → I g w) : IQ P I o a g' v := fun w hw => h w (hI w hw)

theorem Fam2.some {i : Nat} {o : Oper} {a : Act} {g : G} {O : Value → G → Prop} (h : Fam2 P ops W I early kind late Ok val upd i o a g O) : ∃ v g', O v g' := by
  unfold Fam2 at h
  split at h
  · rcases h with ⟨_, v, _, rfl⟩ | ⟨_, _, v, _, rfl⟩ | ⟨_, _, v, _, rfl⟩ | ⟨_, _, h, _⟩ | ⟨_, he, h, rfl⟩
    · exact ⟨v, g, rfl, rfl⟩
    · exact ⟨v, g, rfl, rfl⟩
    · exact ⟨v, g, rfl, rfl⟩
    · exact h.some
    · exact (h g he).some
  · subst h; exact ⟨_, g, rfl, rfl⟩
theorem Fam2.of_same {i : Nat} {o : Oper} {a a' : Act} {g : G} {O : Value → G → Prop} (h : Fam2 P ops W I early kind late Ok val upd i o a g O) (he : execOp a'.eval o = execOp a.eval o)
    (hw : Region.wanted o (yielded ops a'.tmps) = Region.wanted o (yielded ops a.tmps)) : Fam2 P ops W I early kind late Ok val upd i o a' g O := by
  unfold Fam2 at *
  rw [hw]
  split
  · rename_i hh
    rw [if_pos hh] at h
    rcases h with ⟨k, v, q, rfl⟩ | ⟨k, e, v, q, rfl⟩ | ⟨k, e, v, q, rfl⟩ | ⟨k, e, q, r⟩ | ⟨k, e, q, rfl⟩
    · exact .inl ⟨k, v, q.of_same he, rfl⟩
    · exact .inr (.inl ⟨k, e, v, q.of_same he, rfl⟩)
    · exact .inr (.inr (.inl ⟨k, e, v, q.of_same he, rfl⟩))
    · exact .inr (.inr (.inr (.inl ⟨k, e, q.of_same he, r⟩)))
    · exact .inr (.inr (.inr (.inr ⟨k, e, fun g' hg' => (q g' hg').of_same he, rfl⟩)))
  · rename_i hh; rw [if_neg hh] at h; exact h

/-- One that does nothing of its own: one value; it stays what it is where more is known. -/
theorem Fam2.one {i : Nat} {o : Oper} {a : Act} {g : G} {O : Value → G → Prop} (h : Fam2 P ops W I early kind late Ok val upd i o a g O) (h1 : kind i ≠ .loud) (h2 : kind i ≠ .free) :
    ∃ v, O = One v g ∧ ∀ (a' : Act), execOp a'.eval o = execOp a.eval o → Region.wanted o (yielded ops a'.tmps) = Region.wanted o (yielded ops a.tmps) →
      ∀ g', (kind i = .pure ∨ (early g' ∧ (kind i = .basic ∨ ∀ w, I g' w → I g w))) → Fam2 P ops W I early kind late Ok val upd i o a' g' (One v g') := by
  unfold Fam2 at h
  split at h
  · rename_i hw
    rcases h with ⟨k, v, q, rfl⟩ | ⟨k, e, v, q, rfl⟩ | ⟨k, e, v, q, rfl⟩ | ⟨k, _⟩ | ⟨k, _⟩
    · refine ⟨v, rfl, fun a' he hw' g' _ => ?_⟩
      unfold Fam2; rw [hw', if_pos hw]; exact .inl ⟨k, v, q.of_same he, rfl⟩
    · refine ⟨v, rfl, fun a' he hw' g' hg => ?_⟩
      unfold Fam2; rw [hw', if_pos hw]
      rcases hg with hg | hg
      · rw [k] at hg; cases hg
      · exact .inr (.inl ⟨k, hg.1, v, q.of_same he, rfl⟩)
    · refine ⟨v, rfl, fun a' he hw' g' hg => ?_⟩
      unfold Fam2; rw [hw', if_pos hw]
      rcases hg with hg | ⟨hg, hb | hb⟩
      · rw [k] at hg; cases hg
      · rw [k] at hb; cases hb
      · exact .inr (.inr (.inl ⟨k, hg, v, (q.of_same he).less hb, rfl⟩))
    · exact absurd k h1
    · exact absurd k h2
  · rename_i hw
    refine ⟨undef, h, fun a' _ hw' g' _ => ?_⟩
    unfold Fam2; rw [hw', if_neg hw]

theorem wpAny_of_drift {Q : Act → G → Prop} {Q' : Exit → Act → World → Prop} (hI1 : ∀ g w, early g → I g w → Ab W w) (hI2 : ∀ g w w', early g → I g w → Ab w w' → I g w') (hQ : ∀ a g w, I g w → Q a g → Q' .normal a w) :
    ∀ (fuel : Nat) (listed : Array Bool) (a : Act) (g : G) (w : World), I g w → wpAnyD P ops md W I early kind late Ok val upd Q fuel listed a g → wpAny P md ops Q' fuel listed a w
  | 0, _, _, _, _, hw, h => ⟨h.1, hQ _ _ _ hw h.2⟩
  | fuel + 1, listed, a, g, w, hw, h => by
    refine ⟨fun h0 => hQ _ _ _ hw (h.1 h0), fun i hi => ?_⟩
    have hh := h.2 i hi
    have go := fun a g w => wpAny_of_drift hI1 hI2 hQ fuel (listed.setIfInBounds i true) a g w
    unfold dOp at hh
    unfold wpOp
    split
    · rename_i ho; simp only [ho] at hh; exact go _ _ _ hw hh
    · rename_i o ho
      simp only [ho] at hh
      obtain ⟨O, h1, h2⟩ := hh
      -- quiet in this world
      have quiet : ∀ v, early g → Oper.quietUpon P (Ab w) w v ((execOp a.eval o).run P w) → (∀ v' g', One v g v' g' → wpAnyD P ops md W I early kind late Ok val upd Q fuel (listed.setIfInBounds i true) (a.put o.dst v') g') → o.wp P a w (wpAny P md ops Q' fuel (listed.setIfInBounds i true)) Q' := fun v hearly h3 h2 => by
        unfold Oper.wp
        generalize (execOp a.eval o).run P w = r at h3
        cases r with
        | ok n w' =>
          cases n <;> simp only [Oper.quietUpon] at h3 <;> simp only [Oper.upon]
          case value u => obtain ⟨e1, e2⟩ := h3; rw [e1, e2]; exact go _ _ _ hw (h2 _ _ ⟨rfl, rfl⟩)
          case skip => obtain ⟨e1, e2⟩ := h3; rw [e1, ← e2]; exact go _ _ _ hw (h2 _ _ ⟨rfl, rfl⟩)
          case enter f args =>
            obtain ⟨e1, hc⟩ := h3
            rw [e1]
            exact hc.mono fun e w'' ⟨he, hw''⟩ => by subst he; exact go _ _ _ (hI2 _ _ _ hearly hw hw'') (h2 _ _ ⟨rfl, rfl⟩)
        | halt x w' => simp only [Oper.quietUpon] at h3
      have loudly : ∀ O, Loud P I o a g O → (∀ v' g', O v' g' → wpAnyD P ops md W I early kind late Ok val upd Q fuel (listed.setIfInBounds i true) (a.put o.dst v') g') → o.wp P a w (wpAny P md ops Q' fuel (listed.setIfInBounds i true)) Q' := fun O hL h2 => by
        unfold Oper.wp
        have h3 := hL.run w hw
        generalize (execOp a.eval o).run P w = r at h3
        cases r with
        | ok n w' =>
          cases n <;> simp only [Yld] at h3 <;> simp only [Oper.upon]
          case value u => obtain ⟨g', hO, hIw⟩ := h3; exact go _ _ _ hIw (h2 _ _ hO)
          case skip => obtain ⟨g', hO, hIw⟩ := h3; exact go _ _ _ hIw (h2 _ _ hO)
          case enter f args =>
            obtain ⟨e1, hc⟩ := h3
            rw [e1]
            exact hc.mono fun e w'' ⟨v, he, g', hO, hIw⟩ => by subst he; exact go _ _ _ hIw (h2 _ _ hO)
        | halt x w' => simp only [Yld] at h3
      unfold Fam2 at h1
      split
      · rename_i hwn
        rw [if_pos hwn] at h1
        refine .inl ?_
        rcases h1 with ⟨k, v, q, rfl⟩ | ⟨k, e, v, q, rfl⟩ | ⟨k, e, v, q, rfl⟩ | ⟨k, e, q, r⟩ | ⟨k, e, q, rfl⟩
        · unfold Oper.wp; rw [q w]; exact go _ _ _ hw (h2 _ _ ⟨rfl, rfl⟩)
        · exact quiet v e (q w (hI1 _ _ e hw)) h2
        · exact quiet v e (q w hw) h2
        · exact loudly _ q h2
        · exact loudly _ (q g e) h2
      · rename_i hwn
        rw [if_neg hwn] at h1
        subst h1
        exact go _ _ _ hw (h2 _ _ ⟨rfl, rfl⟩)

theorem dOp_put {i j : Nat} {oi oj : Oper} {O : Value → G → Prop}
    (hE : ∀ i g x, kind i = .free → early g → early (upd i g x)) (hM : ∀ i g x w, kind i = .free → I (upd i g x) w → I g w) (hC : ∀ i j g x y, kind i = .free → kind j = .free → i ≠ j → upd i (upd j g y) x = upd j (upd i g x) y)
    (hij : i ≠ j)
    (hj : ops[j]? = some oj) (hap : oi.apart ops oj = true)
    (hsi : ∀ cs b, oi.op ≠ .select cs b) (hsj : ∀ cs b, oj.op ≠ .select cs b) (hgo : (kind i).goes (kind j) = true) (hlate : late j = false ∨ kind i = .pure) {K : Act → G → Prop} {a : Act} {g : G}
    (hy : Fam2 P ops W I early kind late Ok val upd i oi a g O) (h : ∀ v g', O v g' → dOp P ops W I early kind late Ok val upd j K (a.put oi.dst v) g') :
    dOp P ops W I early kind late Ok val upd j (fun a' g'' => ∃ O', Fam2 P ops W I early kind late Ok val upd i oi a' g'' O' ∧ ∀ v g', O' v g' → K (a'.put oi.dst v) g') a g := by
  obtain ⟨h1, h2, h3⟩ := Oper.apart_spec hap
  have hei : ∀ u, execOp (a.put oj.dst u).eval oi = execOp a.eval oi := fun u => execOp_put oi hsi a oj.dst u h3
  have hwi : ∀ u, Region.wanted oi (yielded ops (a.put oj.dst u).tmps) = Region.wanted oi (yielded ops a.tmps) := fun u => wanted_put oi a oj.dst u h3
  have keep : ∀ u, Fam2 P ops W I early kind late Ok val upd i oi (a.put oj.dst u) g O := fun u => hy.of_same (hei u) (hwi u)
  have hw0 : ∀ v, Region.wanted oj (yielded ops (a.put oi.dst v).tmps) = Region.wanted oj (yielded ops a.tmps) := fun v => wanted_put oj a oi.dst v h1
  have he0 : ∀ v, execOp (a.put oi.dst v).eval oj = execOp a.eval oj := fun v => execOp_put oj hsj a oi.dst v h1
  unfold dOp at *
  simp only [hj] at *
  have one : ∀ (u : Value), (∀ v g', O v g' → K ((a.put oi.dst v).put oj.dst u) g') →
      (∃ O', Fam2 P ops W I early kind late Ok val upd i oi (a.put oj.dst u) g O' ∧ ∀ v g', O' v g' → K ((a.put oj.dst u).put oi.dst v) g') := fun u hK =>
    ⟨O, keep u, fun v g' hv => by rw [← Act.put_comm a v u h2]; exact hK v g' hv⟩
  obtain ⟨v0, g1, hv0⟩ := hy.some
  by_cases hw : Region.wanted oj (yielded ops a.tmps) = true
  case neg =>
    refine ⟨One undef g, ?_, ?_⟩
    · unfold Fam2; rw [if_neg hw]
    · rintro u' g' ⟨rfl, rfl⟩
      exact one _ fun v g'' hv => by
        obtain ⟨Oj, hOj, hK⟩ := h v g'' hv
        unfold Fam2 at hOj
        rw [hw0, if_neg hw] at hOj
        subst hOj
        exact hK _ _ ⟨rfl, rfl⟩
  -- what is known of 'oj' behind each outcome of 'oi'
  have H : ∀ v g', O v g' → ∃ Oj, ((kind j = .pure ∧ ∃ u, PQ P oj a u ∧ Oj = One u g') ∨ (kind j = .basic ∧ early g' ∧ ∃ u, SQ P W oj a u ∧ Oj = One u g') ∨ (kind j = .info ∧ early g' ∧ ∃ u, IQ P I oj a g' u ∧ Oj = One u g') ∨
      (kind j = .loud ∧ early g' ∧ Loud P I oj a g' Oj ∧ (late j = false → ∀ v g'', Oj v g'' → early g'')) ∨ (kind j = .free ∧ early g' ∧ (∀ g'', early g'' → Loud P I oj a g'' (FO Ok val upd j g'')) ∧ Oj = FO Ok val upd j g')) ∧ ∀ u g'', Oj u g'' → K ((a.put oi.dst v).put oj.dst u) g'' := fun v g' hv => by
    obtain ⟨Oj, hOj, hK⟩ := h v g' hv
    unfold Fam2 at hOj
    rw [hw0, if_pos hw] at hOj
    refine ⟨Oj, ?_, hK⟩
    rcases hOj with ⟨k, u, q, e⟩ | ⟨k, e, u, q, r⟩ | ⟨k, e, u, q, r⟩ | ⟨k, e, q, r⟩ | ⟨k, e, q, r⟩
    · exact .inl ⟨k, u, q.of_same (he0 v).symm, e⟩
    · exact .inr (.inl ⟨k, e, u, q.of_same (he0 v).symm, r⟩)
    · exact .inr (.inr (.inl ⟨k, e, u, q.of_same (he0 v).symm, r⟩))
    · exact .inr (.inr (.inr (.inl ⟨k, e, q.of_same (he0 v).symm, r⟩)))
    · exact .inr (.inr (.inr (.inr ⟨k, e, fun g'' hg => (q g'' hg).of_same (he0 v).symm, r⟩)))
  cases kj : kind j with
  | pure =>
    have hval : ∀ v g', O v g' → ∃ u, PQ P oj a u ∧ K ((a.put oi.dst v).put oj.dst u) g' := fun v g' hv => by
      obtain ⟨Oj, hOj, hK⟩ := H v g' hv
      simp only [kj, reduceCtorEq, false_and, or_false, true_and] at hOj
      obtain ⟨u, q, rfl⟩ := hOj
      exact ⟨u, q, hK _ _ ⟨rfl, rfl⟩⟩
    obtain ⟨u, hu, _⟩ := hval v0 g1 hv0
    refine ⟨One u g, ?_, ?_⟩
    · unfold Fam2; rw [if_pos hw]; exact .inl ⟨kj, u, hu, rfl⟩
    · rintro u' g' ⟨rfl, rfl⟩
      exact one _ fun v g'' hv => by
        obtain ⟨u2, hu2, hK⟩ := hval v g'' hv
        rw [hu2.one hu] at hK
        exact hK
  | basic =>
    have hval : ∀ v g', O v g' → ∃ u, SQ P W oj a u ∧ K ((a.put oi.dst v).put oj.dst u) g' := fun v g' hv => by
      obtain ⟨Oj, hOj, hK⟩ := H v g' hv
      simp only [kj, reduceCtorEq, false_and, or_false, false_or, true_and] at hOj
      obtain ⟨_, u, q, rfl⟩ := hOj
      exact ⟨u, q, hK _ _ ⟨rfl, rfl⟩⟩
    have hearly : early g := by
      by_cases e1 : kind i = .loud
      · unfold Fam2 at hy
        split at hy
        · rcases hy with ⟨k, _⟩ | ⟨k, _⟩ | ⟨k, _⟩ | ⟨k, e, _⟩ | ⟨k, e, _⟩
          · rw [e1] at k; cases k
          · rw [e1] at k; cases k
          · rw [e1] at k; cases k
          · exact e
          · exact e
        · subst hy
          obtain ⟨Oj, hOj, _⟩ := H v0 g1 hv0
          simp only [kj, reduceCtorEq, false_and, or_false, false_or, true_and] at hOj
          rw [← hv0.2]; exact hOj.1
      · by_cases e2 : kind i = .free
        · unfold Fam2 at hy
          split at hy
          · rcases hy with ⟨k, _⟩ | ⟨k, _⟩ | ⟨k, _⟩ | ⟨k, e, _⟩ | ⟨k, e, _⟩
            · rw [e2] at k; cases k
            · rw [e2] at k; cases k
            · rw [e2] at k; cases k
            · exact e
            · exact e
          · subst hy
            obtain ⟨Oj, hOj, _⟩ := H v0 g1 hv0
            simp only [kj, reduceCtorEq, false_and, or_false, false_or, true_and] at hOj
            rw [← hv0.2]; exact hOj.1
        · obtain ⟨v, rfl, _⟩ := hy.one e1 e2
          obtain ⟨Oj, hOj, _⟩ := H v g ⟨rfl, rfl⟩
          simp only [kj, reduceCtorEq, false_and, or_false, false_or, true_and] at hOj
          exact hOj.1
    obtain ⟨u, hu, _⟩ := hval v0 g1 hv0
    refine ⟨One u g, ?_, ?_⟩
    · unfold Fam2; rw [if_pos hw]; exact .inr (.inl ⟨kj, hearly, u, hu, rfl⟩)
    · rintro u' g' ⟨rfl, rfl⟩
      exact one _ fun v g'' hv => by
        obtain ⟨u2, hu2, hK⟩ := hval v g'' hv
        rw [hu2.one hu] at hK
        exact hK
  | info =>
    rw [kj] at hgo
    simp only [Kd.goes, Bool.and_eq_true, bne_iff_ne, ne_eq] at hgo
    obtain ⟨v, rfl, _⟩ := hy.one hgo.1 hgo.2
    obtain ⟨Oj, hOj, hK⟩ := H v g ⟨rfl, rfl⟩
    simp only [kj, reduceCtorEq, false_and, or_false, false_or, true_and] at hOj
    obtain ⟨e, u, q, rfl⟩ := hOj
    refine ⟨One u g, ?_, ?_⟩
    · unfold Fam2; rw [if_pos hw]; exact .inr (.inr (.inl ⟨kj, e, u, q, rfl⟩))
    · rintro u' g' ⟨rfl, rfl⟩
      exact one _ fun v' g'' hv => by obtain ⟨rfl, rfl⟩ := hv; exact hK _ _ ⟨rfl, rfl⟩
  | loud =>
    rw [kj] at hgo
    simp only [Kd.goes, Bool.or_eq_true, beq_iff_eq] at hgo
    have n1 : kind i ≠ .loud := by rcases hgo with e | e <;> rw [e] <;> decide
    have n2 : kind i ≠ .free := by rcases hgo with e | e <;> rw [e] <;> decide
    obtain ⟨v, rfl, hF⟩ := hy.one n1 n2
    obtain ⟨Oj, hOj, hK⟩ := H v g ⟨rfl, rfl⟩
    simp only [kj, reduceCtorEq, false_and, or_false, false_or, true_and] at hOj
    obtain ⟨e, q, r⟩ := hOj
    refine ⟨Oj, ?_, fun u g' hu => ⟨One v g', hF _ (hei u) (hwi u) g' ?_, ?_⟩⟩
    · unfold Fam2; rw [if_pos hw]; exact .inr (.inr (.inr (.inl ⟨kj, e, q, r⟩)))
    · rcases hgo with e1 | e1
      · exact .inl e1
      · rcases hlate with hl | hl
        · exact .inr ⟨r hl u g' hu, .inl e1⟩
        · exact .inl hl
    · rintro v' g'' ⟨rfl, rfl⟩
      rw [← Act.put_comm a v' u h2]
      exact hK u g'' hu
  | free =>
    rw [kj] at hgo
    simp only [Kd.goes, bne_iff_ne, ne_eq] at hgo
    by_cases e2 : kind i = .free
    · unfold Fam2 at hy
      by_cases hwt : Region.wanted oi (yielded ops a.tmps) = true
      · rw [if_pos hwt] at hy
        simp only [e2, reduceCtorEq, false_and, false_or, true_and] at hy
        obtain ⟨ei, qi, rfl⟩ := hy
        obtain ⟨Oj, hOj, _⟩ := H v0 g1 hv0
        simp only [kj, reduceCtorEq, false_and, false_or, true_and] at hOj
        obtain ⟨_, qj, _⟩ := hOj
        refine ⟨FO Ok val upd j g, ?_, ?_⟩
        · unfold Fam2; rw [if_pos hw]; exact .inr (.inr (.inr (.inr ⟨kj, ei, qj, rfl⟩)))
        · rintro u g' ⟨y, oky, rfl, rfl⟩
          refine ⟨FO Ok val upd i (upd j g y), ?_, ?_⟩
          · unfold Fam2; rw [hwi, if_pos hwt]
            exact .inr (.inr (.inr (.inr ⟨e2, hE j g y kj ei, fun g' hg' => (qi g' hg').of_same (hei _), rfl⟩)))
          · rintro v g'' ⟨x, okx, rfl, rfl⟩
            obtain ⟨Oj, hOj, hK⟩ := H (val i x) (upd i g x) ⟨x, okx, rfl, rfl⟩
            simp only [kj, reduceCtorEq, false_and, false_or, true_and] at hOj
            obtain ⟨_, _, rfl⟩ := hOj
            rw [← Act.put_comm a _ _ h2, hC i j g x y e2 kj hij]
            exact hK _ _ ⟨y, oky, rfl, rfl⟩
      · rw [if_neg hwt] at hy
        subst hy
        obtain ⟨Oj, hOj, hK⟩ := H undef g ⟨rfl, rfl⟩
        simp only [kj, reduceCtorEq, false_and, false_or, true_and] at hOj
        obtain ⟨ej, qj, rfl⟩ := hOj
        refine ⟨FO Ok val upd j g, ?_, fun u g' hu => ⟨One undef g', ?_, ?_⟩⟩
        · unfold Fam2; rw [if_pos hw]; exact .inr (.inr (.inr (.inr ⟨kj, ej, qj, rfl⟩)))
        · unfold Fam2; rw [hwi, if_neg hwt]
        · rintro v' g'' ⟨rfl, rfl⟩
          rw [← Act.put_comm a _ _ h2]
          exact hK u g'' hu
    · obtain ⟨v, rfl, hF⟩ := hy.one hgo e2
      obtain ⟨Oj, hOj, hK⟩ := H v g ⟨rfl, rfl⟩
      simp only [kj, reduceCtorEq, false_and, false_or, true_and] at hOj
      obtain ⟨ej, qj, rfl⟩ := hOj
      refine ⟨FO Ok val upd j g, ?_, fun u g' hu => ⟨One v g', ?_, ?_⟩⟩
      · unfold Fam2; rw [if_pos hw]; exact .inr (.inr (.inr (.inr ⟨kj, ej, qj, rfl⟩)))
      · obtain ⟨y, oky, rfl, rfl⟩ := hu
        exact hF _ (hei _) (hwi _) _ (.inr ⟨hE j g y kj ej, .inr fun w hw => hM j g y w kj hw⟩)
      · rintro v' g'' ⟨rfl, rfl⟩
        rw [← Act.put_comm a _ _ h2]
        exact hK u g'' hu

theorem dOp_of {i : Nat} {o : Oper} {a : Act} {g : G} {O : Value → G → Prop} {K : Act → G → Prop} (hi : ops[i]? = some o) (h : Fam2 P ops W I early kind late Ok val upd i o a g O) (hK : ∀ v g', O v g' → K (a.put o.dst v) g') : dOp P ops W I early kind late Ok val upd i K a g := by
  unfold dOp; simp only [hi]; exact ⟨O, h, hK⟩

/-- What is asked of the ghost: free ones keep it early, add to what is known, and do so in either order. -/
structure GhostOk (I : G → World → Prop) (early : G → Prop) (kind : Nat → Kd) (upd : Nat → G → X → G) : Prop where
  early : ∀ i g x, kind i = .free → early g → early (upd i g x)
  more : ∀ i g x w, kind i = .free → I (upd i g x) w → I g w
  comm : ∀ i j g x y, kind i = .free → kind j = .free → i ≠ j → upd i (upd j g y) x = upd j (upd i g x) y
def Region.LatePure (md : Region.Mode) (ops : Array Oper) (late : Nat → Bool) (kind : Nat → Kd) : Prop :=
  ∀ listed, Region.Closed md ops listed → ∀ i, listed.getD i true = false → ∀ j ∈ Region.ready md ops listed, j ≠ i → late j = false ∨ kind i = .pure

theorem wpAnyD_first {Q : Act → G → Prop} (hG : GhostOk I early kind upd) {i : Nat} {oi : Oper} (hi : ops[i]? = some oi) (hsel : ∀ (j : Nat) (o : Oper) cs b, ops[j]? = some o → o.op ≠ .select cs b) (hlt : Region.LatePure md ops late kind) :
    ∀ (fuel : Nat) (listed : Array Bool) (a : Act) (g : G) (O : Value → G → Prop), Region.Closed md ops listed →
      (∀ j oj, ops[j]? = some oj → j ≠ i → listed.getD j true = false → (∀ e ∈ oj.after, Region.binds md e = true → e.on ≠ i) → oi.apart ops oj = true ∧ (kind i).goes (kind j) = true) →
      i ∈ Region.ready md ops listed → Fam2 P ops W I early kind late Ok val upd i oi a g O →
      (∀ v g', O v g' → wpAnyD P ops md W I early kind late Ok val upd Q fuel (listed.setIfInBounds i true) (a.put oi.dst v) g') → wpAnyD P ops md W I early kind late Ok val upd Q (fuel + 1) listed a g := by
  intro fuel
  induction fuel with
  | zero =>
    intro listed a g O _ _ hr hy H
    refine ⟨fun h => (by rw [h] at hr; cases hr), fun j hj => ?_⟩
    by_cases hji : j = i
    · subst hji; exact dOp_of hi hy H
    · have := ready_mono hj hji
      obtain ⟨v, g', hv⟩ := hy.some
      rw [(H v g' hv).1] at this
      cases this
  | succ fuel ih =>
    intro listed a g O hcl hfree hr hy H
    refine ⟨fun h => (by rw [h] at hr; cases hr), fun j hj => ?_⟩
    by_cases hji : j = i
    · subst hji; exact dOp_of hi hy H
    · have h1 := fun v g' hv => (H v g' hv).2 j (ready_mono hj hji)
      obtain ⟨hjun, oj, hoj, hall⟩ := mem_ready.1 hj
      have hnot : ∀ e ∈ oj.after, Region.binds md e = true → e.on ≠ i := fun e he hb heq => by
        have h1 := hall e he hb
        have h0 := (mem_ready.1 hr).1
        rw [heq] at h1
        rcases Nat.lt_or_ge i listed.size with h' | h'
        · simp [h'] at h0 h1; rw [h0] at h1; cases h1
        · simp [Array.getElem?_eq_none h'] at h1
      obtain ⟨hap, hgo⟩ := hfree j oj hoj hji hjun hnot
      have h2 := dOp_put hG.early hG.more hG.comm (Ne.symm hji) hoj hap (fun cs b => hsel i oi cs b hi) (fun cs b => hsel j oj cs b hoj) hgo (hlt listed hcl i (mem_ready.1 hr).1 j hj hji) hy h1
      have hfree' : ∀ k ok, ops[k]? = some ok → k ≠ i → (listed.setIfInBounds j true).getD k true = false →
          (∀ e ∈ ok.after, Region.binds md e = true → e.on ≠ i) → oi.apart ops ok = true ∧ (kind i).goes (kind k) = true := fun k ok hk hki hun hno => by
        refine hfree k ok hk hki ?_ hno
        by_cases hjk : j = k
        · subst hjk; exact hjun
        · rw [getD_set_ne true hjk] at hun; exact hun
      refine dOp_mono (fun a' g' ⟨O', h3, h4⟩ => ih (listed.setIfInBounds j true) a' g' O' (hcl.set hj) hfree' (ready_mono hr (Ne.symm hji)) h3 ?_) h2
      rw [Array.setIfInBounds_comm _ _ hji]
      exact h4

def Region.kindFree (md : Region.Mode) (ops : Array Oper) (kind : Nat → Kd) (listed : Array Bool) (i : Nat) : Bool :=
  (List.range ops.size).all fun j => j == i || listed.getD j true || match ops[j]? with
      | some oj => oj.after.any (fun e => Region.binds md e && e.on == i) || (kind i).goes (kind j)
      | none => true
theorem Region.kindFree_spec {i : Nat} {listed : Array Bool} (h : Region.kindFree md ops kind listed i = true) (j : Nat) (oj : Oper)
    (hj : ops[j]? = some oj) (hne : j ≠ i) (hun : listed.getD j true = false) (hno : ∀ e ∈ oj.after, Region.binds md e = true → e.on ≠ i) : (kind i).goes (kind j) = true := by
  simp only [Region.kindFree, List.all_eq_true, List.mem_range] at h
  have h1 := h j (Array.getElem?_eq_some_iff.1 hj).1
  simp only [hj, Bool.or_eq_true, beq_iff_eq, hne, false_or, hun, Bool.false_eq_true] at h1
  rcases h1 with h1 | h1
  · obtain ⟨e, he, hb⟩ := Array.any_eq_true'.1 h1
    simp only [Bool.and_eq_true, beq_iff_eq] at hb
    exact absurd hb.2 (hno e he hb.1)
  · exact h1
def Region.lexFromD (md : Region.Mode) (ops : Array Oper) (kind : Nat → Kd) : Nat → Nat → Array Bool → Bool
  | 0, _, listed => (Region.ready md ops listed).isEmpty
  | fuel + 1, k, listed => (Region.ready md ops listed).contains k && Region.free md ops listed k && Region.kindFree md ops kind listed k && Region.lexFromD md ops kind fuel (k + 1) (listed.setIfInBounds k true)
def Region.lexBD (md : Region.Mode) (ops : Array Oper) (kind : Nat → Kd) : Bool := Region.noSelect ops && Region.lexFromD md ops kind ops.size 0 (Array.replicate ops.size false)

theorem wpAnyD_lex {Q : Act → G → Prop} (hG : GhostOk I early kind upd) (hs : Region.noSelect ops = true) (hlt : Region.LatePure md ops late kind) : ∀ (l : List Oper) (k : Nat) (listed : Array Bool) (a : Act) (g : G), Region.Closed md ops listed → (∀ j, l[j]? = ops[k + j]?) →
    Region.lexFromD md ops kind l.length k listed = true → lexD P ops W I early kind late Ok val upd Q l k a g → wpAnyD P ops md W I early kind late Ok val upd Q l.length listed a g
  | [], _, _, _, _, _, _, hB, h => ⟨by simpa [Region.lexFromD] using hB, h⟩
  | o :: l, k, listed, a, g, hcl, hl, hB, h => by
    have h0 : ops[k]? = some o := by simpa using (hl 0).symm
    simp only [List.length_cons, Region.lexFromD, Bool.and_eq_true] at hB
    obtain ⟨⟨⟨hr, hf⟩, hlf⟩, hB'⟩ := hB
    have hst : dOp P ops W I early kind late Ok val upd k (lexD P ops W I early kind late Ok val upd Q l (k + 1)) a g := h
    unfold dOp at hst
    simp only [h0] at hst
    obtain ⟨O, hO, hK⟩ := hst
    exact wpAnyD_first hG h0 (Region.noSelect_spec hs) hlt l.length listed a g O hcl (fun j oj hj hne hun hno => ⟨Region.free_spec h0 hf j oj hj hne hun hno, Region.kindFree_spec hlf j oj hj hne hun hno⟩) (by simpa using hr) hO
      (fun v g' hv => wpAnyD_lex hG hs hlt l (k + 1) _ _ g' (hcl.set (by simpa using hr)) (fun j => by have := hl (j + 1); simpa [Nat.add_assoc, Nat.add_comm 1 j] using this) hB' (hK v g' hv))

/-- A run of quiet operations: in every world above the start, or in every one in which what is known holds. -/
theorem lexD_quiet {Q : Act → G → Prop} {R : Act → Prop} {rest : List Oper} {g : G} (hg : early g) (kd : Kd) (hkd : (kd = .basic ∧ ∃ J : World → Prop, (∀ w, J w ↔ Ab W w)) ∨ kd = .info) (J : World → Prop) (hJ : (kd = .basic ∧ ∀ w, Ab W w → J w) ∨ (kd = .info ∧ ∀ w, I g w → J w)) (hJ2 : ∀ w w', J w → Ab w w' → J w') (w0 : World) (hw0 : J w0) (hdet : ∀ w, J w → Ab w0 w) :
    ∀ (l : List Oper) (k : Nat) (a : Act), (∀ j, j < l.length → l[j]? = ops[k + j]? ∧ kind (k + j) = kd) →
    (∀ a, R a → lexD P ops W I early kind late Ok val upd Q rest (k + l.length) a g) → (∀ w1, J w1 → wpQuiet P ops (Cl w1) R l a) → lexD P ops W I early kind late Ok val upd Q (l ++ rest) k a g
  | [], k, a, _, hR, h => hR a (h w0 hw0)
  | o :: l, k, a, hl, hR, h => by
    have h0 : ops[k]? = some o := by simpa using (hl 0 (by simp)).1.symm
    have hkk : kind k = kd := by simpa using (hl 0 (by simp)).2
    have next : ∀ a', (∀ w1, J w1 → wpQuiet P ops (Cl w1) R l a') → lexD P ops W I early kind late Ok val upd Q (l ++ rest) (k + 1) a' g := fun a' h' =>
      lexD_quiet hg kd hkd J hJ hJ2 w0 hw0 hdet l (k + 1) a' (fun j hj => by have := hl (j + 1) (by simp; omega); simpa [Nat.add_assoc, Nat.add_comm 1 j] using this)
        (fun a hRa => by have := hR a hRa; simpa [Nat.add_assoc, Nat.add_comm 1] using this) h'
    show dOp P ops W I early kind late Ok val upd k (lexD P ops W I early kind late Ok val upd Q (l ++ rest) (k + 1)) a g
    by_cases hw : Region.wanted o (yielded ops a.tmps) = true
    · have hq : ∀ w1, J w1 → ∃ v, (∀ w, Cl w1 w → o.quietAt P a (Cl w1) w v) ∧ wpQuiet P ops (Cl w1) R l (a.put o.dst v) := fun w1 hw1 => by
        have := h w1 hw1
        simp only [wpQuiet] at this
        rw [if_pos hw] at this
        exact this
      obtain ⟨v, hv, _⟩ := hq w0 hw0
      have same : ∀ w1, J w1 → ∀ v1, (∀ w, Cl w1 w → o.quietAt P a (Cl w1) w v1) → v1 = v := fun w1 hw1 v1 hv1 =>
        quietUpon_same (hv1 w1 (Ab.refl w1).cl) (hv w1 (hdet w1 hw1).cl)
      have hSQ : ∀ w, J w → Oper.quietUpon P (Ab w) w v ((execOp a.eval o).run P w) := fun w1 hw1 => by
        obtain ⟨v1, hv1, _⟩ := hq w1 hw1
        have e := same w1 hw1 v1 hv1
        subst e
        exact quietUpon_class (fun _ h => Cl.ab h) (hv1 w1 (Ab.refl w1).cl)
      refine dOp_of h0 (O := One v g) ?_ ?_
      · unfold Fam2; rw [if_pos hw]
        rcases hJ with ⟨e, hJ⟩ | ⟨e, hJ⟩
        · exact .inr (.inl ⟨hkk.trans e, hg, v, fun w hw' => hSQ w (hJ w hw'), rfl⟩)
        · exact .inr (.inr (.inl ⟨hkk.trans e, hg, v, fun w hw' => hSQ w (hJ w hw'), rfl⟩))
      · rintro v' g' ⟨rfl, rfl⟩
        refine next _ fun w1 hw1 => ?_
        obtain ⟨v1, hv1, hrest⟩ := hq w1 hw1
        rw [← same w1 hw1 v1 hv1]
        exact hrest
    · refine dOp_of h0 (O := One undef g) ?_ ?_
      · unfold Fam2; rw [if_neg hw]
      · rintro v' g' ⟨rfl, rfl⟩
        refine next _ fun w1 hw1 => ?_
        have := h w1 hw1
        simp only [wpQuiet] at this
        rw [if_neg hw] at this
        exact this
end
end Go.Proofs.YtllhglakihfjmaaDoor

namespace Go.Proofs.YtllhglakihfjmaaDoor
open Go.ChangeShapes Go.WideShapes Go.ChangeAt Go.RowKit

/-- Operations each of which has a value that hangs on no world. -/
def pqsX (P : Program) (K : Act → Prop) : List Oper → Act → Prop
  | [], a => K a
  | o :: l, a => o.guard = none ∧ ∃ v, PQ P o a v ∧ pqsX P K l (a.put o.dst v)
theorem pqs_monoX {P : Program} {K K' : Act → Prop} (hK : ∀ a, K a → K' a) : ∀ (l : List Oper) (a : Act), pqsX P K l a → pqsX P K' l a
  | [], a, h => hK a h
  | _ :: l, _, ⟨hg, v, hv, h⟩ => ⟨hg, v, hv, pqs_monoX hK l _ h⟩
theorem lexD_pqsX {P : Program} {ops : Array Oper} {W : World} {G X : Type} {I : G → World → Prop} {early : G → Prop} {kind : Nat → Kd} {late : Nat → Bool} {Ok : Nat → X → Prop} {val : Nat → X → Value} {upd : Nat → G → X → G} {Q : Act → G → Prop} {g : G} : ∀ (l : List Oper) (k : Nat) (a : Act), (∀ j, j < l.length → l[j]? = ops[k + j]? ∧ kind (k + j) = .pure) →
    pqsX P (fun a => Q a g) l a → lexD P ops W I early kind late Ok val upd Q l k a g
  | [], _, _, _, h => h
  | o :: l, k, a, hl, h => by
    have h0 : ops[k]? = some o := by simpa using (hl 0 (by simp)).1.symm
    have hpk : kind k = .pure := by simpa using (hl 0 (by simp)).2
    obtain ⟨hg, v, hv, hr⟩ := h
    refine dOp_of h0 (O := One v g) ?_ ?_
    · unfold Fam2; rw [if_pos (by simp [Region.wanted, hg])]; exact .inl ⟨hpk, v, hv, rfl⟩
    · rintro v' g' ⟨rfl, rfl⟩
      exact lexD_pqsX l (k + 1) _ (fun j hj => by have := hl (j + 1) (by simp; omega); simpa [Nat.add_assoc, Nat.add_comm 1 j] using this) hr

/-- What two makers have made, and what came of the call that takes it. -/
structure GmX (XX Y : Type) where
  c : Option XX
  d : Option XX
  u : Option Y
def GmXI {XX Y : Type} (W : World) (JC JD : XX → World → Prop) (JU : Y → World → Prop) (g : GmX XX Y) (w : World) : Prop :=
  Ab W w ∧ (∀ x, g.c = some x → JC x w) ∧ (∀ x, g.d = some x → JD x w) ∧ (∀ y, g.u = some y → JU y w)
def gmXUpd {XX Y : Type} (iC iD : Nat) (i : Nat) (g : GmX XX Y) (x : XX) : GmX XX Y :=
  if i = iC then (match g.c with | none => { g with c := some x } | _ => g)
  else if i = iD then (match g.d with | none => { g with d := some x } | _ => g)
  else g
def gmXVal {XX : Type} (iC : Nat) (vC vD : XX → Value) (i : Nat) (x : XX) : Value := if i = iC then vC x else vD x
def gmXKind (iC iD iU : Nat) (i : Nat) : Kd := if i = iC then .free else if i = iD then .free else if i = iU then .loud else if iU < i then .pure else .basic

theorem gmX_ok {XX Y : Type} {W : World} {JC JD : XX → World → Prop} {JU : Y → World → Prop} {iC iD iU : Nat} (hlt : iC < iD) : GhostOk (GmXI W JC JD JU) (fun _ => True) (gmXKind iC iD iU) (gmXUpd iC iD) where
  early := fun _ _ _ _ _ => trivial
  more := fun i g x w hk h => by
    obtain ⟨h1, h2, h3, h4⟩ := h
    refine ⟨h1, fun y hy => h2 y ?_, fun y hy => h3 y ?_, fun y hy => h4 y ?_⟩
    · unfold gmXUpd; split
      · rw [hy]; exact hy
      · split
        · split <;> exact hy
        · exact hy
    · unfold gmXUpd; split
      · split <;> exact hy
      · split
        · rw [hy]; exact hy
        · exact hy
    · unfold gmXUpd; split
      · split <;> exact hy
      · split
        · split <;> exact hy
        · exact hy
  comm := fun i j g x y hi hj hij => by
    have free : ∀ i, gmXKind iC iD iU i = .free → i = iC ∨ i = iD := fun i h => by
      unfold gmXKind at h
      split at h
      · exact .inl ‹_›
      · split at h
        · exact .inr ‹_›
        · split at h
          · cases h
          · split at h <;> cases h
    have hne : iD ≠ iC := by omega
    rcases free i hi with rfl | rfl <;> rcases free j hj with rfl | rfl
    · exact absurd rfl hij
    · unfold gmXUpd; rcases g with ⟨_ | _, _ | _, _⟩ <;> simp [hne]
    · unfold gmXUpd; rcases g with ⟨_ | _, _ | _, _⟩ <;> simp [hne]
    · exact absurd rfl hij
theorem gmXI_on {XX Y : Type} {W : World} {JC JD : XX → World → Prop} {JU : Y → World → Prop} (hC : ∀ x w w', JC x w → Ab w w' → JC x w') (hD : ∀ x w w', JD x w → Ab w w' → JD x w') (hU : ∀ y w w', JU y w → Ab w w' → JU y w') {g : GmX XX Y} {w w' : World} (h : GmXI W JC JD JU g w) (k : Ab w w') : GmXI W JC JD JU g w' :=
  ⟨h.1.trans k, fun x hx => hC x w w' (h.2.1 x hx) k, fun x hx => hD x w w' (h.2.2.1 x hx) k, fun y hy => hU y w w' (h.2.2.2 y hy) k⟩

/-- **Two makers.** -/
theorem wp_region_makeX {P : Program} {id : Nat} {Q : Exit → Act → World → Prop} {a : Act} {W : World} {XX Y : Type} {l l1 l2 l3 l4 : List Oper} {oC oD oU : Oper} (nC nD nU : Nat) (JC JD : XX → World → Prop) (JU : Y → World → Prop)
    (hJC : ∀ x w w', JC x w → Ab w w' → JC x w') (hJD : ∀ x w w', JD x w → Ab w w' → JD x w') (hJU : ∀ y w w', JU y w → Ab w w' → JU y w') (vC vD : XX → Value) (vU : Y → Value)
    (hm : P.follows .mixedOrders = true) (hl : l1 ++ oC :: (l2 ++ oD :: (l3 ++ oU :: l4)) = l) (hn1 : l1.length = nC) (hn2 : l2.length + nC + 1 = nD) (hn3 : l3.length + nD + 1 = nU)
    (hB : Region.lexBD .any l.toArray (gmXKind nC nD nU) = true) (hgC : oC.guard = none) (hgD : oD.guard = none) (hgU : oU.guard = none) (x0 : XX) (y0 : Y)
    (h : ∀ w1, Ab W w1 → wpQuiet P l.toArray (fun w' => ∃ p : Regrown, w' = bw w1 p) (fun a1 =>
      (∀ w, Ab W w → Yld P (fun v w' => ∃ x, v = vC x ∧ Ab w w' ∧ JC x w') w ((execOp a1.eval oC).run P w)) ∧
      ∀ x, ∀ w2, Ab W w2 → wpQuiet P l.toArray (fun w' => ∃ p : Regrown, w' = bw w2 p) (fun a2 =>
        (∀ w, Ab W w → Yld P (fun v w' => ∃ x, v = vD x ∧ Ab w w' ∧ JD x w') w ((execOp a2.eval oD).run P w)) ∧
        ∀ y, ∀ w3, Ab W w3 → wpQuiet P l.toArray (fun w' => ∃ p : Regrown, w' = bw w3 p) (fun a3 =>
          (∀ w, Ab W w → JC x w → JD y w → Yld P (fun v w' => ∃ z, v = vU z ∧ Ab w w' ∧ JU z w') w ((execOp a3.eval oU).run P w)) ∧
          ∀ z, pqsX P (fun a4 => ∀ w5, Ab W w5 → JC x w5 → JD y w5 → JU z w5 → Q .normal a4 w5) l4 (a3.put oU.dst (vU z))) l3 (a2.put oD.dst (vD y))) l2 (a1.put oC.dst (vC x))) l1 a) :
    (Code.region id l.toArray true).wp P Q a W := by
  obtain ⟨ops, hops⟩ : ∃ ops, ops = l.toArray := ⟨_, rfl⟩
  rw [← hops] at hB h ⊢
  have hget : ∀ j, l[j]? = ops[j]? := fun j => by rw [hops, List.getElem?_toArray]
  have hlen : ops.size = (l1 ++ oC :: (l2 ++ oD :: (l3 ++ oU :: l4))).length := by rw [hops, List.size_toArray, hl]
  simp only [Region.lexBD, Bool.and_eq_true] at hB
  have want : ∀ (o : Oper), o.guard = none → ∀ a : Act, Region.wanted o (yielded ops a.tmps) = true := fun o ho a => by simp [Region.wanted, ho]
  have at1 : ∀ j, j < l1.length → l1[j]? = ops[0 + j]? := fun j hj => by rw [← hget, Nat.zero_add, ← hl, List.getElem?_append_left hj]
  have at2 : ∀ j, (oC :: (l2 ++ oD :: (l3 ++ oU :: l4)))[j]? = ops[nC + j]? := fun j => by
    rw [← hget, ← hl, List.getElem?_append_right (by omega), hn1, Nat.add_sub_cancel_left]
  have gC : ops[nC]? = some oC := by have := at2 0; simpa using this.symm
  have at3 : ∀ j, (l2 ++ oD :: (l3 ++ oU :: l4))[j]? = ops[nC + 1 + j]? := fun j => by
    have := at2 (j + 1); simpa [Nat.add_assoc, Nat.add_comm 1 j] using this
  have at4 : ∀ j, (oD :: (l3 ++ oU :: l4))[j]? = ops[nD + j]? := fun j => by
    have := at3 (l2.length + j)
    rw [List.getElem?_append_right (by omega), Nat.add_sub_cancel_left, show nC + 1 + (l2.length + j) = nD + j from by omega] at this
    exact this
  have gD : ops[nD]? = some oD := by have := at4 0; simpa using this.symm
  have at5 : ∀ j, (l3 ++ oU :: l4)[j]? = ops[nD + 1 + j]? := fun j => by
    have := at4 (j + 1); simpa [Nat.add_assoc, Nat.add_comm 1 j] using this
  have at6 : ∀ j, (oU :: l4)[j]? = ops[nU + j]? := fun j => by
    have := at5 (l3.length + j)
    rw [List.getElem?_append_right (by omega), Nat.add_sub_cancel_left, show nD + 1 + (l3.length + j) = nU + j from by omega] at this
    exact this
  have gU : ops[nU]? = some oU := by have := at6 0; simpa using this.symm
  have k1 : ∀ j, j < l1.length → l1[j]? = ops[0 + j]? ∧ gmXKind nC nD nU (0 + j) = .basic := fun j hj => by
    refine ⟨at1 j hj, ?_⟩
    unfold gmXKind
    rw [if_neg (by omega), if_neg (by omega), if_neg (by omega), if_neg (by omega)]
  have k2 : ∀ j, j < l2.length → l2[j]? = ops[nC + 1 + j]? ∧ gmXKind nC nD nU (nC + 1 + j) = .basic := fun j hj => by
    refine ⟨?_, ?_⟩
    · have := at3 j; rw [List.getElem?_append_left hj] at this; exact this
    · unfold gmXKind
      rw [if_neg (by omega), if_neg (by omega), if_neg (by omega), if_neg (by omega)]
  have k3 : ∀ j, j < l3.length → l3[j]? = ops[nD + 1 + j]? ∧ gmXKind nC nD nU (nD + 1 + j) = .basic := fun j hj => by
    refine ⟨?_, ?_⟩
    · have := at5 j; rw [List.getElem?_append_left hj] at this; exact this
    · unfold gmXKind
      rw [if_neg (by omega), if_neg (by omega), if_neg (by omega), if_neg (by omega)]
  have k4 : ∀ j, j < l4.length → l4[j]? = ops[nU + 1 + j]? ∧ gmXKind nC nD nU (nU + 1 + j) = .pure := fun j hj => by
    refine ⟨?_, ?_⟩
    · have := at6 (j + 1); simpa [Nat.add_assoc, Nat.add_comm 1 j] using this
    · unfold gmXKind
      rw [if_neg (by omega), if_neg (by omega), if_neg (by omega), if_pos (by omega)]
  have base : Ab W { W with drawn := W.drawn + 1 } := ⟨rfl, rfl, rfl, Nat.le_refl _, fun _ _ => rfl⟩
  have hG := gmX_ok (Y := Y) (W := W) (JC := JC) (JD := JD) (JU := JU) (iU := nU) (show nC < nD by omega)
  refine wp_region_any hm (wpAny_of_drift (W := W) (I := GmXI W JC JD JU) (early := fun _ => True) (kind := gmXKind nC nD nU) (late := fun _ => false) (Ok := fun _ _ => True) (val := gmXVal nC vC vD) (upd := gmXUpd nC nD)
    (Q := fun a' g => ∃ x y z, g = ⟨some x, some y, some z⟩ ∧ ∀ w5, Ab W w5 → JC x w5 → JD y w5 → JU z w5 → Q .normal a' w5) (fun g w _ h => h.1) (fun g w w' _ h k => gmXI_on hJC hJD hJU h k) ?_ _ _ _ ⟨none, none, none⟩ _ ⟨base, fun x hx => (by cases hx), fun x hx => (by cases hx), fun x hx => (by cases hx)⟩ ?_)
  · rintro a' g w' hI ⟨x, y, z, rfl, hQ⟩
    exact hQ w' hI.1 (hI.2.1 x rfl) (hI.2.2.1 y rfl) (hI.2.2.2 z rfl)
  · rw [hlen]
    refine wpAnyD_lex hG hB.1 (fun _ _ _ _ _ _ _ => .inl rfl) _ 0 _ _ _ (by rw [← hlen]; exact closed_start) (fun j => by rw [hl, hget, Nat.zero_add]) (by rw [← hlen]; exact hB.2) ?_
    refine lexD_quiet (kind := gmXKind nC nD nU) trivial .basic (.inl ⟨rfl, Ab W, fun _ => Iff.rfl⟩) (Ab W) (.inl ⟨rfl, fun _ h => h⟩) (fun w w' h k => Ab.trans h k) W (Ab.refl W) (fun _ h => h) l1 0 a k1 (fun a1 h1 => ?_) h
    rw [Nat.zero_add, hn1]
    refine dOp_of gC (O := FO (fun _ _ => True) (gmXVal nC vC vD) (gmXUpd nC nD) nC ⟨none, none, none⟩) ?_ ?_
    · unfold Fam2; rw [if_pos (want oC hgC _)]
      refine .inr (.inr (.inr (.inr ⟨by unfold gmXKind; rw [if_pos rfl], trivial, fun g' _ => ⟨⟨_, _, x0, trivial, rfl, rfl⟩, fun w hw => ?_⟩, rfl⟩)))
      refine Yld.mono ?_ (h1.1 w hw.1)
      rintro v w' ⟨x, rfl, hab, hj⟩
      refine ⟨_, ⟨x, trivial, by unfold gmXVal; rw [if_pos rfl], rfl⟩, ?_⟩
      have hw' := gmXI_on hJC hJD hJU hw hab
      rcases g' with ⟨_ | c, d, u⟩
      · have eu : gmXUpd nC nD nC ⟨none, d, u⟩ x = ⟨some x, d, u⟩ := by unfold gmXUpd; rw [if_pos rfl]
        rw [eu]
        exact ⟨hw'.1, fun q hq => (by cases hq; exact hj), hw'.2.2.1, hw'.2.2.2⟩
      · have e : gmXUpd nC nD nC ⟨some c, d, u⟩ x = ⟨some c, d, u⟩ := by unfold gmXUpd; rw [if_pos rfl]
        rw [e]; exact hw'
    · rintro v g' ⟨x, _, rfl, rfl⟩
      have eg : gmXUpd nC nD nC (⟨none, none, none⟩ : GmX XX Y) x = ⟨some x, none, none⟩ := by unfold gmXUpd; rw [if_pos rfl]
      have ev : gmXVal nC vC vD nC x = vC x := by unfold gmXVal; rw [if_pos rfl]
      rw [eg, ev]
      refine lexD_quiet (kind := gmXKind nC nD nU) trivial .basic (.inl ⟨rfl, Ab W, fun _ => Iff.rfl⟩) (Ab W) (.inl ⟨rfl, fun _ h => h⟩) (fun w w' h k => Ab.trans h k) W (Ab.refl W) (fun _ h => h) l2 (nC + 1) _ k2 (fun a2 h2 => ?_) (h1.2 x)
      rw [show nC + 1 + l2.length = nD from by omega]
      refine dOp_of gD (O := FO (fun _ _ => True) (gmXVal nC vC vD) (gmXUpd nC nD) nD ⟨some x, none, none⟩) ?_ ?_
      · unfold Fam2; rw [if_pos (want oD hgD _)]
        refine .inr (.inr (.inr (.inr ⟨by unfold gmXKind; rw [if_neg (by omega), if_pos rfl], trivial, fun g' _ => ⟨⟨_, _, x0, trivial, rfl, rfl⟩, fun w hw => ?_⟩, rfl⟩)))
        refine Yld.mono ?_ (h2.1 w hw.1)
        rintro v w' ⟨y, rfl, hab, hj⟩
        refine ⟨_, ⟨y, trivial, by unfold gmXVal; rw [if_neg (by omega)], rfl⟩, ?_⟩
        have hw' := gmXI_on hJC hJD hJU hw hab
        rcases g' with ⟨c, _ | d, u⟩
        · have eu : gmXUpd nC nD nD ⟨c, none, u⟩ y = ⟨c, some y, u⟩ := by unfold gmXUpd; rw [if_neg (by omega), if_pos rfl]
          rw [eu]
          exact ⟨hw'.1, hw'.2.1, fun q hq => (by cases hq; exact hj), hw'.2.2.2⟩
        · have e : gmXUpd nC nD nD ⟨c, some d, u⟩ y = ⟨c, some d, u⟩ := by unfold gmXUpd; rw [if_neg (by omega), if_pos rfl]
          rw [e]; exact hw'
      · rintro v g' ⟨y, _, rfl, rfl⟩
        have eg : gmXUpd nC nD nD (⟨some x, none, none⟩ : GmX XX Y) y = ⟨some x, some y, none⟩ := by unfold gmXUpd; rw [if_neg (by omega), if_pos rfl]
        have ev : gmXVal nC vC vD nD y = vD y := by unfold gmXVal; rw [if_neg (by omega)]
        rw [eg, ev]
        refine lexD_quiet (kind := gmXKind nC nD nU) trivial .basic (.inl ⟨rfl, Ab W, fun _ => Iff.rfl⟩) (Ab W) (.inl ⟨rfl, fun _ h => h⟩) (fun w w' h k => Ab.trans h k) W (Ab.refl W) (fun _ h => h) l3 (nD + 1) _ k3 (fun a3 h3 => ?_) (h2.2 y)
        rw [show nD + 1 + l3.length = nU from by omega]
        refine dOp_of gU (O := fun v g' => ∃ z, v = vU z ∧ g' = ⟨some x, some y, some z⟩) ?_ ?_
        · unfold Fam2; rw [if_pos (want oU hgU _)]
          refine .inr (.inr (.inr (.inl ⟨by unfold gmXKind; rw [if_neg (by omega), if_neg (by omega), if_pos rfl], trivial, ⟨⟨_, _, y0, rfl, rfl⟩, fun w hw => ?_⟩, fun _ _ _ _ => trivial⟩)))
          refine Yld.mono ?_ (h3.1 w hw.1 (hw.2.1 x rfl) (hw.2.2.1 y rfl))
          rintro v w' ⟨z, rfl, hab, hj⟩
          have hw' := gmXI_on hJC hJD hJU hw hab
          exact ⟨_, ⟨z, rfl, rfl⟩, hw'.1, hw'.2.1, hw'.2.2.1, fun q hq => by cases hq; exact hj⟩
        · rintro v g' ⟨z, rfl, rfl⟩
          refine lexD_pqsX l4 (nU + 1) _ k4 ?_
          exact pqs_monoX (fun a' hq => ⟨x, y, z, rfl, hq⟩) l4 _ (h3.2 z)
theorem wp_region_makeX_at {P : Program} {id : Nat} {Q : Exit → Act → World → Prop} {a : Act} {W : World} {XX Y : Type} {l : List Oper} {oC oD oU : Oper} (nC m1 m2 : Nat) (JC JD : XX → World → Prop) (JU : Y → World → Prop)
    (hJC : ∀ x w w', JC x w → Ab w w' → JC x w') (hJD : ∀ x w w', JD x w → Ab w w' → JD x w') (hJU : ∀ y w w', JU y w → Ab w w' → JU y w') (vC vD : XX → Value) (vU : Y → Value)
    (hm : P.follows .mixedOrders = true) (hl : l.take nC ++ oC :: ((l.drop (nC + 1)).take m1 ++ oD :: ((l.drop (nC + 1 + m1 + 1)).take m2 ++ oU :: l.drop (nC + 1 + m1 + 1 + m2 + 1))) = l) (hn1 : (l.take nC).length = nC) (hn2 : ((l.drop (nC + 1)).take m1).length = m1) (hn3 : ((l.drop (nC + 1 + m1 + 1)).take m2).length = m2)
    (hB : Region.lexBD .any l.toArray (gmXKind nC (nC + 1 + m1) (nC + 1 + m1 + 1 + m2)) = true) (hgC : oC.guard = none) (hgD : oD.guard = none) (hgU : oU.guard = none) (x0 : XX) (y0 : Y)
    (h : ∀ w1, Ab W w1 → wpQuiet P l.toArray (fun w' => ∃ p : Regrown, w' = bw w1 p) (fun a1 =>
      (∀ w, Ab W w → Yld P (fun v w' => ∃ x, v = vC x ∧ Ab w w' ∧ JC x w') w ((execOp a1.eval oC).run P w)) ∧
      ∀ x, ∀ w2, Ab W w2 → wpQuiet P l.toArray (fun w' => ∃ p : Regrown, w' = bw w2 p) (fun a2 =>
        (∀ w, Ab W w → Yld P (fun v w' => ∃ x, v = vD x ∧ Ab w w' ∧ JD x w') w ((execOp a2.eval oD).run P w)) ∧
        ∀ y, ∀ w3, Ab W w3 → wpQuiet P l.toArray (fun w' => ∃ p : Regrown, w' = bw w3 p) (fun a3 =>
          (∀ w, Ab W w → JC x w → JD y w → Yld P (fun v w' => ∃ z, v = vU z ∧ Ab w w' ∧ JU z w') w ((execOp a3.eval oU).run P w)) ∧
          ∀ z, pqsX P (fun a4 => ∀ w5, Ab W w5 → JC x w5 → JD y w5 → JU z w5 → Q .normal a4 w5) (l.drop (nC + 1 + m1 + 1 + m2 + 1)) (a3.put oU.dst (vU z))) ((l.drop (nC + 1 + m1 + 1)).take m2) (a2.put oD.dst (vD y))) ((l.drop (nC + 1)).take m1) (a1.put oC.dst (vC x))) (l.take nC) a) :
    (Code.region id l.toArray true).wp P Q a W :=
  wp_region_makeX nC (nC + 1 + m1) (nC + 1 + m1 + 1 + m2) JC JD JU hJC hJD hJU vC vD vU hm hl hn1 (by rw [hn2]; omega) (by rw [hn3]; omega) hB hgC hgD hgU x0 y0 h
end Go.Proofs.YtllhglakihfjmaaDoor

namespace Go.Proofs.YtllhglakihfjmaaDoor
open Go.ChangeShapes Go.WideShapes Go.ChangeAt Go.RowKit

/-! ### One maker -/
structure G1Y (XX Y : Type) where
  c : Option XX
  u : Option Y
def G1YI {XX Y : Type} (W : World) (JC : XX → World → Prop) (JU : Y → World → Prop) (g : G1Y XX Y) (w : World) : Prop :=
  Ab W w ∧ (∀ x, g.c = some x → JC x w) ∧ (∀ y, g.u = some y → JU y w)
def g1YUpd {XX Y : Type} (iC : Nat) (i : Nat) (g : G1Y XX Y) (x : XX) : G1Y XX Y :=
  if i = iC then (match g.c with | none => { g with c := some x } | _ => g) else g
def g1YKind (iC iU : Nat) (i : Nat) : Kd := if i = iC then .free else if i = iU then .loud else if iU < i then .pure else .basic
theorem g1Y_ok {XX Y : Type} {W : World} {JC : XX → World → Prop} {JU : Y → World → Prop} {iC iU : Nat} : GhostOk (G1YI W JC JU) (fun _ => True) (g1YKind iC iU) (g1YUpd iC) where
  early := fun _ _ _ _ _ => trivial
  more := fun i g x w hk h => by
    obtain ⟨h1, h2, h4⟩ := h
    refine ⟨h1, fun y hy => h2 y ?_, fun y hy => h4 y ?_⟩
    · unfold g1YUpd; split
      · rw [hy]; exact hy
      · exact hy
    · unfold g1YUpd; split
      · split <;> exact hy
      · exact hy
  comm := fun i j g x y hi hj hij => by
    have free : ∀ i, g1YKind iC iU i = .free → i = iC := fun i h => by
      unfold g1YKind at h
      split at h
      · assumption
      · split at h
        · cases h
        · split at h <;> cases h
    exact absurd ((free i hi).trans (free j hj).symm) hij
theorem g1YI_on {XX Y : Type} {W : World} {JC : XX → World → Prop} {JU : Y → World → Prop} (hC : ∀ x w w', JC x w → Ab w w' → JC x w') (hU : ∀ y w w', JU y w → Ab w w' → JU y w') {g : G1Y XX Y} {w w' : World} (h : G1YI W JC JU g w) (k : Ab w w') : G1YI W JC JU g w' :=
  ⟨h.1.trans k, fun x hx => hC x w w' (h.2.1 x hx) k, fun y hy => hU y w w' (h.2.2 y hy) k⟩

theorem wp_region_make1Y {P : Program} {id : Nat} {Q : Exit → Act → World → Prop} {a : Act} {W : World} {XX Y : Type} {l l1 l2 l4 : List Oper} {oC oU : Oper} (nC nU : Nat) (JC : XX → World → Prop) (JU : Y → World → Prop)
    (hJC : ∀ x w w', JC x w → Ab w w' → JC x w') (hJU : ∀ y w w', JU y w → Ab w w' → JU y w') (vC : XX → Value) (vU : Y → Value)
    (hm : P.follows .mixedOrders = true) (hl : l1 ++ oC :: (l2 ++ oU :: l4) = l) (hn1 : l1.length = nC) (hn3 : l2.length + nC + 1 = nU)
    (hB : Region.lexBD .any l.toArray (g1YKind nC nU) = true) (hgC : oC.guard = none) (hgU : oU.guard = none) (x0 : XX) (y0 : Y)
    (h : ∀ w1, Ab W w1 → wpQuiet P l.toArray (fun w' => ∃ p : Regrown, w' = bw w1 p) (fun a1 =>
      (∀ w, Ab W w → Yld P (fun v w' => ∃ x, v = vC x ∧ Ab w w' ∧ JC x w') w ((execOp a1.eval oC).run P w)) ∧
      ∀ x, ∀ w2, Ab W w2 → wpQuiet P l.toArray (fun w' => ∃ p : Regrown, w' = bw w2 p) (fun a3 =>
          (∀ w, Ab W w → JC x w → Yld P (fun v w' => ∃ z, v = vU z ∧ Ab w w' ∧ JU z w') w ((execOp a3.eval oU).run P w)) ∧
          ∀ z, pqsX P (fun a4 => ∀ w5, Ab W w5 → JC x w5 → JU z w5 → Q .normal a4 w5) l4 (a3.put oU.dst (vU z))) l2 (a1.put oC.dst (vC x))) l1 a) :
    (Code.region id l.toArray true).wp P Q a W := by
  obtain ⟨ops, hops⟩ : ∃ ops, ops = l.toArray := ⟨_, rfl⟩
  rw [← hops] at hB h ⊢
  have hget : ∀ j, l[j]? = ops[j]? := fun j => by rw [hops, List.getElem?_toArray]
  have hlen : ops.size = (l1 ++ oC :: (l2 ++ oU :: l4)).length := by rw [hops, List.size_toArray, hl]
  simp only [Region.lexBD, Bool.and_eq_true] at hB
  have want : ∀ (o : Oper), o.guard = none → ∀ a : Act, Region.wanted o (yielded ops a.tmps) = true := fun o ho a => by simp [Region.wanted, ho]
  have at1 : ∀ j, j < l1.length → l1[j]? = ops[0 + j]? := fun j hj => by rw [← hget, Nat.zero_add, ← hl, List.getElem?_append_left hj]
  have at2 : ∀ j, (oC :: (l2 ++ oU :: l4))[j]? = ops[nC + j]? := fun j => by
    rw [← hget, ← hl, List.getElem?_append_right (by omega), hn1, Nat.add_sub_cancel_left]
  have gC : ops[nC]? = some oC := by have := at2 0; simpa using this.symm
  have at3 : ∀ j, (l2 ++ oU :: l4)[j]? = ops[nC + 1 + j]? := fun j => by
    have := at2 (j + 1); simpa [Nat.add_assoc, Nat.add_comm 1 j] using this
  have at6 : ∀ j, (oU :: l4)[j]? = ops[nU + j]? := fun j => by
    have := at3 (l2.length + j)
    rw [List.getElem?_append_right (by omega), Nat.add_sub_cancel_left, show nC + 1 + (l2.length + j) = nU + j from by omega] at this
    exact this
  have gU : ops[nU]? = some oU := by have := at6 0; simpa using this.symm
  have k1 : ∀ j, j < l1.length → l1[j]? = ops[0 + j]? ∧ g1YKind nC nU (0 + j) = .basic := fun j hj => by
    refine ⟨at1 j hj, ?_⟩
    unfold g1YKind
    rw [if_neg (by omega), if_neg (by omega), if_neg (by omega)]
  have k2 : ∀ j, j < l2.length → l2[j]? = ops[nC + 1 + j]? ∧ g1YKind nC nU (nC + 1 + j) = .basic := fun j hj => by
    refine ⟨?_, ?_⟩
    · have := at3 j; rw [List.getElem?_append_left hj] at this; exact this
    · unfold g1YKind
      rw [if_neg (by omega), if_neg (by omega), if_neg (by omega)]
  have k4 : ∀ j, j < l4.length → l4[j]? = ops[nU + 1 + j]? ∧ g1YKind nC nU (nU + 1 + j) = .pure := fun j hj => by
    refine ⟨?_, ?_⟩
    · have := at6 (j + 1); simpa [Nat.add_assoc, Nat.add_comm 1 j] using this
    · unfold g1YKind
      rw [if_neg (by omega), if_neg (by omega), if_pos (by omega)]
  have base : Ab W { W with drawn := W.drawn + 1 } := ⟨rfl, rfl, rfl, Nat.le_refl _, fun _ _ => rfl⟩
  have hG := g1Y_ok (Y := Y) (W := W) (JC := JC) (JU := JU) (iC := nC) (iU := nU)
  refine wp_region_any hm (wpAny_of_drift (W := W) (I := G1YI W JC JU) (early := fun _ => True) (kind := g1YKind nC nU) (late := fun _ => false) (Ok := fun _ _ => True) (val := fun _ => vC) (upd := g1YUpd nC)
    (Q := fun a' g => ∃ x z, g = ⟨some x, some z⟩ ∧ ∀ w5, Ab W w5 → JC x w5 → JU z w5 → Q .normal a' w5) (fun g w _ h => h.1) (fun g w w' _ h k => g1YI_on hJC hJU h k) ?_ _ _ _ ⟨none, none⟩ _ ⟨base, fun x hx => (by cases hx), fun x hx => (by cases hx)⟩ ?_)
  · rintro a' g w' hI ⟨x, z, rfl, hQ⟩
    exact hQ w' hI.1 (hI.2.1 x rfl) (hI.2.2 z rfl)
  · rw [hlen]
    refine wpAnyD_lex hG hB.1 (fun _ _ _ _ _ _ _ => .inl rfl) _ 0 _ _ _ (by rw [← hlen]; exact closed_start) (fun j => by rw [hl, hget, Nat.zero_add]) (by rw [← hlen]; exact hB.2) ?_
    refine lexD_quiet (kind := g1YKind nC nU) trivial .basic (.inl ⟨rfl, Ab W, fun _ => Iff.rfl⟩) (Ab W) (.inl ⟨rfl, fun _ h => h⟩) (fun w w' h k => Ab.trans h k) W (Ab.refl W) (fun _ h => h) l1 0 a k1 (fun a1 h1 => ?_) h
    rw [Nat.zero_add, hn1]
    refine dOp_of gC (O := FO (fun _ _ => True) (fun _ => vC) (g1YUpd nC) nC ⟨none, none⟩) ?_ ?_
    · unfold Fam2; rw [if_pos (want oC hgC _)]
      refine .inr (.inr (.inr (.inr ⟨by unfold g1YKind; rw [if_pos rfl], trivial, fun g' _ => ⟨⟨_, _, x0, trivial, rfl, rfl⟩, fun w hw => ?_⟩, rfl⟩)))
      refine Yld.mono ?_ (h1.1 w hw.1)
      rintro v w' ⟨x, rfl, hab, hj⟩
      refine ⟨_, ⟨x, trivial, rfl, rfl⟩, ?_⟩
      have hw' := g1YI_on hJC hJU hw hab
      rcases g' with ⟨_ | c, u⟩
      · have eu : g1YUpd nC nC ⟨none, u⟩ x = ⟨some x, u⟩ := by unfold g1YUpd; rw [if_pos rfl]
        rw [eu]
        exact ⟨hw'.1, fun q hq => (by cases hq; exact hj), hw'.2.2⟩
      · have e : g1YUpd nC nC ⟨some c, u⟩ x = ⟨some c, u⟩ := by unfold g1YUpd; rw [if_pos rfl]
        rw [e]; exact hw'
    · rintro v g' ⟨x, _, rfl, rfl⟩
      have eg : g1YUpd nC nC (⟨none, none⟩ : G1Y XX Y) x = ⟨some x, none⟩ := by unfold g1YUpd; rw [if_pos rfl]
      rw [eg]
      refine lexD_quiet (kind := g1YKind nC nU) trivial .basic (.inl ⟨rfl, Ab W, fun _ => Iff.rfl⟩) (Ab W) (.inl ⟨rfl, fun _ h => h⟩) (fun w w' h k => Ab.trans h k) W (Ab.refl W) (fun _ h => h) l2 (nC + 1) _ k2 (fun a3 h3 => ?_) (h1.2 x)
      rw [show nC + 1 + l2.length = nU from by omega]
      refine dOp_of gU (O := fun v g' => ∃ z, v = vU z ∧ g' = ⟨some x, some z⟩) ?_ ?_
      · unfold Fam2; rw [if_pos (want oU hgU _)]
        refine .inr (.inr (.inr (.inl ⟨by unfold g1YKind; rw [if_neg (by omega), if_pos rfl], trivial, ⟨⟨_, _, y0, rfl, rfl⟩, fun w hw => ?_⟩, fun _ _ _ _ => trivial⟩)))
        refine Yld.mono ?_ (h3.1 w hw.1 (hw.2.1 x rfl))
        rintro v w' ⟨z, rfl, hab, hj⟩
        have hw' := g1YI_on hJC hJU hw hab
        exact ⟨_, ⟨z, rfl, rfl⟩, hw'.1, hw'.2.1, fun q hq => by cases hq; exact hj⟩
      · rintro v g' ⟨z, rfl, rfl⟩
        refine lexD_pqsX l4 (nU + 1) _ k4 ?_
        exact pqs_monoX (fun a' hq => ⟨x, z, rfl, hq⟩) l4 _ (h3.2 z)

/-- The same, the region written out. -/
theorem wp_region_make1Y_at {P : Program} {id : Nat} {Q : Exit → Act → World → Prop} {a : Act} {W : World} {XX Y : Type} {l : List Oper} {oC oU : Oper} (nC m : Nat) (JC : XX → World → Prop) (JU : Y → World → Prop)
    (hJC : ∀ x w w', JC x w → Ab w w' → JC x w') (hJU : ∀ y w w', JU y w → Ab w w' → JU y w') (vC : XX → Value) (vU : Y → Value)
    (hm : P.follows .mixedOrders = true) (hl : l.take nC ++ oC :: ((l.drop (nC + 1)).take m ++ oU :: l.drop (nC + 1 + m + 1)) = l) (hn1 : (l.take nC).length = nC) (hn3 : ((l.drop (nC + 1)).take m).length = m)
    (hB : Region.lexBD .any l.toArray (g1YKind nC (nC + 1 + m)) = true) (hgC : oC.guard = none) (hgU : oU.guard = none) (x0 : XX) (y0 : Y)
    (h : ∀ w1, Ab W w1 → wpQuiet P l.toArray (fun w' => ∃ p : Regrown, w' = bw w1 p) (fun a1 =>
      (∀ w, Ab W w → Yld P (fun v w' => ∃ x, v = vC x ∧ Ab w w' ∧ JC x w') w ((execOp a1.eval oC).run P w)) ∧
      ∀ x, ∀ w2, Ab W w2 → wpQuiet P l.toArray (fun w' => ∃ p : Regrown, w' = bw w2 p) (fun a3 =>
          (∀ w, Ab W w → JC x w → Yld P (fun v w' => ∃ z, v = vU z ∧ Ab w w' ∧ JU z w') w ((execOp a3.eval oU).run P w)) ∧
          ∀ z, pqsX P (fun a4 => ∀ w5, Ab W w5 → JC x w5 → JU z w5 → Q .normal a4 w5) (l.drop (nC + 1 + m + 1)) (a3.put oU.dst (vU z))) ((l.drop (nC + 1)).take m) (a1.put oC.dst (vC x))) (l.take nC) a) :
    (Code.region id l.toArray true).wp P Q a W :=
  wp_region_make1Y nC (nC + 1 + m) JC JU hJC hJU vC vU hm hl hn1 (by rw [hn3]; omega) hB hgC hgU x0 y0 h

end Go.Proofs.YtllhglakihfjmaaDoor

namespace Go.Proofs.YtllhglakihfjmaaDoor
open Go.ChangeShapes Go.WideShapes Go.ChangeAt Go.RowKit

/-- Does operation j hang on operation i, by a chain of at most so many. -/
def Region.hangs (md : Region.Mode) (ops : Array Oper) : Nat → Nat → Nat → Bool
  | 0, _, _ => false
  | n + 1, i, j => match ops[j]? with
      | none => false
      | some oj => oj.after.any fun e => Region.binds md e && (e.on == i || Region.hangs md ops n i e.on)
section
variable {P : Program} {ops : Array Oper} {md : Region.Mode} {W : World} {G X : Type} {I : G → World → Prop} {early : G → Prop} {kind : Nat → Kd} {late : Nat → Bool} {Ok : Nat → X → Prop} {val : Nat → X → Value} {upd : Nat → G → X → G}

theorem hangs_listed {listed : Array Bool} {i : Nat} (hcl : Region.Closed md ops listed) : ∀ (n j : Nat), Region.hangs md ops n i j = true → listed.getD j false = true → listed.getD i false = true
  | 0, _, h, _ => by cases h
  | n + 1, j, h, hl => by
    unfold Region.hangs at h
    cases ho : ops[j]? with
    | none => simp [ho] at h
    | some oj =>
      simp only [ho] at h
      obtain ⟨e, he, hb⟩ := Array.any_eq_true'.1 h
      simp only [Bool.and_eq_true, Bool.or_eq_true, beq_iff_eq] at hb
      have h1 := hcl.2 j oj ho hl e he hb.1
      rcases hb.2 with h2 | h2
      · rw [h2] at h1; exact h1
      · exact hangs_listed hcl n e.on h2 h1
theorem hangs_ready {listed : Array Bool} {i j n : Nat} (h : Region.hangs md ops n i j = true) (hcl : Region.Closed md ops listed) (hi : listed.getD i true = false) : ¬ j ∈ Region.ready md ops listed := by
  intro hr
  have key : listed.getD i false = true → False := fun h2 => by
    rcases Nat.lt_or_ge i listed.size with h' | h'
    · simp [h'] at hi h2; rw [hi] at h2; cases h2
    · simp [Array.getElem?_eq_none h'] at h2
  obtain ⟨_, oj, hoj, hall⟩ := mem_ready.1 hr
  cases n with
  | zero => cases h
  | succ n =>
    unfold Region.hangs at h
    simp only [hoj] at h
    obtain ⟨e, he, hb⟩ := Array.any_eq_true'.1 h
    simp only [Bool.and_eq_true, Bool.or_eq_true, beq_iff_eq] at hb
    have h1 := hall e he hb.1
    rcases hb.2 with h2 | h2
    · rw [h2] at h1; exact key h1
    · exact key (hangs_listed hcl n e.on h2 h1)

theorem wpAnyD_firstT {Q : Act → G → Prop} (hG : GhostOk I early kind upd) {i : Nat} {oi : Oper} (hi : ops[i]? = some oi) (hsel : ∀ (j : Nat) (o : Oper) cs b, ops[j]? = some o → o.op ≠ .select cs b) (hlt : Region.LatePure md ops late kind) :
    ∀ (fuel : Nat) (listed : Array Bool) (a : Act) (g : G) (O : Value → G → Prop), Region.Closed md ops listed →
      (∀ j oj, ops[j]? = some oj → j ≠ i → listed.getD j true = false → (∀ e ∈ oj.after, Region.binds md e = true → e.on ≠ i) → Region.hangs md ops ops.size i j = false → oi.apart ops oj = true ∧ (kind i).goes (kind j) = true) →
      i ∈ Region.ready md ops listed → Fam2 P ops W I early kind late Ok val upd i oi a g O →
      (∀ v g', O v g' → wpAnyD P ops md W I early kind late Ok val upd Q fuel (listed.setIfInBounds i true) (a.put oi.dst v) g') → wpAnyD P ops md W I early kind late Ok val upd Q (fuel + 1) listed a g := by
  intro fuel
  induction fuel with
  | zero =>
    intro listed a g O _ _ hr hy H
    refine ⟨fun h => (by rw [h] at hr; cases hr), fun j hj => ?_⟩
    by_cases hji : j = i
    · subst hji; exact dOp_of hi hy H
    · have := ready_mono hj hji
      obtain ⟨v, g', hv⟩ := hy.some
      rw [(H v g' hv).1] at this
      cases this
  | succ fuel ih =>
    intro listed a g O hcl hfree hr hy H
    refine ⟨fun h => (by rw [h] at hr; cases hr), fun j hj => ?_⟩
    by_cases hji : j = i
    · subst hji; exact dOp_of hi hy H
    · have h1 := fun v g' hv => (H v g' hv).2 j (ready_mono hj hji)
      obtain ⟨hjun, oj, hoj, hall⟩ := mem_ready.1 hj
      have hnot : ∀ e ∈ oj.after, Region.binds md e = true → e.on ≠ i := fun e he hb heq => by
        have h1 := hall e he hb
        have h0 := (mem_ready.1 hr).1
        rw [heq] at h1
        rcases Nat.lt_or_ge i listed.size with h' | h'
        · simp [h'] at h0 h1; rw [h0] at h1; cases h1
        · simp [Array.getElem?_eq_none h'] at h1
      obtain ⟨hap, hgo⟩ := hfree j oj hoj hji hjun hnot (by
        cases hh : Region.hangs md ops ops.size i j
        · rfl
        · exact absurd hj (hangs_ready hh hcl (mem_ready.1 hr).1))
      have h2 := dOp_put hG.early hG.more hG.comm (Ne.symm hji) hoj hap (fun cs b => hsel i oi cs b hi) (fun cs b => hsel j oj cs b hoj) hgo (hlt listed hcl i (mem_ready.1 hr).1 j hj hji) hy h1
      have hfree' : ∀ k ok, ops[k]? = some ok → k ≠ i → (listed.setIfInBounds j true).getD k true = false →
          (∀ e ∈ ok.after, Region.binds md e = true → e.on ≠ i) → Region.hangs md ops ops.size i k = false → oi.apart ops ok = true ∧ (kind i).goes (kind k) = true := fun k ok hk hki hun hno hnh => by
        refine hfree k ok hk hki ?_ hno hnh
        by_cases hjk : j = k
        · subst hjk; exact hjun
        · rw [getD_set_ne true hjk] at hun; exact hun
      refine dOp_mono (fun a' g' ⟨O', h3, h4⟩ => ih (listed.setIfInBounds j true) a' g' O' (hcl.set hj) hfree' (ready_mono hr (Ne.symm hji)) h3 ?_) h2
      rw [Array.setIfInBounds_comm _ _ hji]
      exact h4

def Region.kindFreeT (md : Region.Mode) (ops : Array Oper) (kind : Nat → Kd) (listed : Array Bool) (i : Nat) : Bool :=
  (List.range ops.size).all fun j => j == i || listed.getD j true || match ops[j]? with
      | some oj => oj.after.any (fun e => Region.binds md e && e.on == i) || (Region.hangs md ops ops.size i j || (kind i).goes (kind j))
      | none => true
theorem Region.kindFreeT_spec {i : Nat} {listed : Array Bool} (h : Region.kindFreeT md ops kind listed i = true) (j : Nat) (oj : Oper)
    (hj : ops[j]? = some oj) (hne : j ≠ i) (hun : listed.getD j true = false) (hno : ∀ e ∈ oj.after, Region.binds md e = true → e.on ≠ i) (hnh : Region.hangs md ops ops.size i j = false) : (kind i).goes (kind j) = true := by
  simp only [Region.kindFreeT, List.all_eq_true, List.mem_range] at h
  have h1 := h j (Array.getElem?_eq_some_iff.1 hj).1
  simp only [hj, Bool.or_eq_true, beq_iff_eq, hne, false_or, hun, Bool.false_eq_true, hnh] at h1
  rcases h1 with h1 | h1
  · obtain ⟨e, he, hb⟩ := Array.any_eq_true'.1 h1
    simp only [Bool.and_eq_true, beq_iff_eq] at hb
    exact absurd hb.2 (hno e he hb.1)
  · exact h1
def Region.lexFromT (md : Region.Mode) (ops : Array Oper) (kind : Nat → Kd) : Nat → Nat → Array Bool → Bool
  | 0, _, listed => (Region.ready md ops listed).isEmpty
  | fuel + 1, k, listed => (Region.ready md ops listed).contains k && Region.free md ops listed k && Region.kindFreeT md ops kind listed k && Region.lexFromT md ops kind fuel (k + 1) (listed.setIfInBounds k true)
def Region.lexBT (md : Region.Mode) (ops : Array Oper) (kind : Nat → Kd) : Bool := Region.noSelect ops && Region.lexFromT md ops kind ops.size 0 (Array.replicate ops.size false)

theorem wpAnyT_lex {Q : Act → G → Prop} (hG : GhostOk I early kind upd) (hs : Region.noSelect ops = true) (hlt : Region.LatePure md ops late kind) : ∀ (l : List Oper) (k : Nat) (listed : Array Bool) (a : Act) (g : G), Region.Closed md ops listed → (∀ j, l[j]? = ops[k + j]?) →
    Region.lexFromT md ops kind l.length k listed = true → lexD P ops W I early kind late Ok val upd Q l k a g → wpAnyD P ops md W I early kind late Ok val upd Q l.length listed a g
  | [], _, _, _, _, _, _, hB, h => ⟨by simpa [Region.lexFromT] using hB, h⟩
  | o :: l, k, listed, a, g, hcl, hl, hB, h => by
    have h0 : ops[k]? = some o := by simpa using (hl 0).symm
    simp only [List.length_cons, Region.lexFromT, Bool.and_eq_true] at hB
    obtain ⟨⟨⟨hr, hf⟩, hlf⟩, hB'⟩ := hB
    have hst : dOp P ops W I early kind late Ok val upd k (lexD P ops W I early kind late Ok val upd Q l (k + 1)) a g := h
    unfold dOp at hst
    simp only [h0] at hst
    obtain ⟨O, hO, hK⟩ := hst
    exact wpAnyD_firstT hG h0 (Region.noSelect_spec hs) hlt l.length listed a g O hcl (fun j oj hj hne hun hno hnh => ⟨Region.free_spec h0 hf j oj hj hne hun hno, Region.kindFreeT_spec hlf j oj hj hne hun hno hnh⟩) (by simpa using hr) hO
      (fun v g' hv => wpAnyT_lex hG hs hlt l (k + 1) _ _ g' (hcl.set (by simpa using hr)) (fun j => by have := hl (j + 1); simpa [Nat.add_assoc, Nat.add_comm 1 j] using this) hB' (hK v g' hv))

end
end Go.Proofs.YtllhglakihfjmaaDoor

namespace Go.Proofs.YtllhglakihfjmaaDoor
open Go.ChangeShapes Go.WideShapes Go.ChangeAt Go.RowKit

/-! ### One maker -/
def g1LKind (iC iU : Nat) (i : Nat) : Kd := if i = iC then .free else if i = iU then .loud else .basic
theorem g1L_ok {XX Y : Type} {W : World} {JC : XX → World → Prop} {JU : Y → World → Prop} {iC iU : Nat} : GhostOk (G1YI W JC JU) (fun _ => True) (g1LKind iC iU) (g1YUpd iC) where
  early := fun _ _ _ _ _ => trivial
  more := fun i g x w hk h => by
    obtain ⟨h1, h2, h4⟩ := h
    refine ⟨h1, fun y hy => h2 y ?_, fun y hy => h4 y ?_⟩
    · unfold g1YUpd; split
      · rw [hy]; exact hy
      · exact hy
    · unfold g1YUpd; split
      · split <;> exact hy
      · exact hy
  comm := fun i j g x y hi hj hij => by
    have free : ∀ i, g1LKind iC iU i = .free → i = iC := fun i h => by
      unfold g1LKind at h
      split at h
      · assumption
      · split at h <;> cases h
    exact absurd ((free i hi).trans (free j hj).symm) hij
theorem wp_region_make1L {P : Program} {id : Nat} {Q : Exit → Act → World → Prop} {a : Act} {W : World} {XX Y : Type} {l l1 l2 l4 : List Oper} {oC oU : Oper} (nC nU : Nat) (JC : XX → World → Prop) (JU : Y → World → Prop)
    (hJC : ∀ x w w', JC x w → Ab w w' → JC x w') (hJU : ∀ y w w', JU y w → Ab w w' → JU y w') (vC : XX → Value) (vU : Y → Value)
    (hm : P.follows .mixedOrders = true) (hl : l1 ++ oC :: (l2 ++ oU :: l4) = l) (hn1 : l1.length = nC) (hn3 : l2.length + nC + 1 = nU)
    (hB : Region.lexBT .any l.toArray (g1LKind nC nU) = true) (hgC : oC.guard = none) (hgU : oU.guard = none) (x0 : XX) (y0 : Y)
    (h : ∀ w1, Ab W w1 → wpQuiet P l.toArray (fun w' => ∃ p : Regrown, w' = bw w1 p) (fun a1 =>
      (∀ w, Ab W w → Yld P (fun v w' => ∃ x, v = vC x ∧ Ab w w' ∧ JC x w') w ((execOp a1.eval oC).run P w)) ∧
      ∀ x, ∀ w2, Ab W w2 → wpQuiet P l.toArray (fun w' => ∃ p : Regrown, w' = bw w2 p) (fun a3 =>
          (∀ w, Ab W w → JC x w → Yld P (fun v w' => ∃ z, v = vU z ∧ Ab w w' ∧ JU z w') w ((execOp a3.eval oU).run P w)) ∧
          ∀ z, ∀ w3, Ab W w3 → wpQuiet P l.toArray (fun w' => ∃ p : Regrown, w' = bw w3 p) (fun a4 => ∀ w5, Ab W w5 → JC x w5 → JU z w5 → Q .normal a4 w5) l4 (a3.put oU.dst (vU z))) l2 (a1.put oC.dst (vC x))) l1 a) :
    (Code.region id l.toArray true).wp P Q a W := by
  obtain ⟨ops, hops⟩ : ∃ ops, ops = l.toArray := ⟨_, rfl⟩
  rw [← hops] at hB h ⊢
  have hget : ∀ j, l[j]? = ops[j]? := fun j => by rw [hops, List.getElem?_toArray]
  have hlen : ops.size = (l1 ++ oC :: (l2 ++ oU :: l4)).length := by rw [hops, List.size_toArray, hl]
  simp only [Region.lexBT, Bool.and_eq_true] at hB
  have want : ∀ (o : Oper), o.guard = none → ∀ a : Act, Region.wanted o (yielded ops a.tmps) = true := fun o ho a => by simp [Region.wanted, ho]
  have at1 : ∀ j, j < l1.length → l1[j]? = ops[0 + j]? := fun j hj => by rw [← hget, Nat.zero_add, ← hl, List.getElem?_append_left hj]
  have at2 : ∀ j, (oC :: (l2 ++ oU :: l4))[j]? = ops[nC + j]? := fun j => by
    rw [← hget, ← hl, List.getElem?_append_right (by omega), hn1, Nat.add_sub_cancel_left]
  have gC : ops[nC]? = some oC := by have := at2 0; simpa using this.symm
  have at3 : ∀ j, (l2 ++ oU :: l4)[j]? = ops[nC + 1 + j]? := fun j => by
    have := at2 (j + 1); simpa [Nat.add_assoc, Nat.add_comm 1 j] using this
  have at6 : ∀ j, (oU :: l4)[j]? = ops[nU + j]? := fun j => by
    have := at3 (l2.length + j)
    rw [List.getElem?_append_right (by omega), Nat.add_sub_cancel_left, show nC + 1 + (l2.length + j) = nU + j from by omega] at this
    exact this
  have gU : ops[nU]? = some oU := by have := at6 0; simpa using this.symm
  have k1 : ∀ j, j < l1.length → l1[j]? = ops[0 + j]? ∧ g1LKind nC nU (0 + j) = .basic := fun j hj => by
    refine ⟨at1 j hj, ?_⟩
    unfold g1LKind
    rw [if_neg (by omega), if_neg (by omega)]
  have k2 : ∀ j, j < l2.length → l2[j]? = ops[nC + 1 + j]? ∧ g1LKind nC nU (nC + 1 + j) = .basic := fun j hj => by
    refine ⟨?_, ?_⟩
    · have := at3 j; rw [List.getElem?_append_left hj] at this; exact this
    · unfold g1LKind
      rw [if_neg (by omega), if_neg (by omega)]
  have k4 : ∀ j, j < l4.length → l4[j]? = ops[nU + 1 + j]? ∧ g1LKind nC nU (nU + 1 + j) = .basic := fun j hj => by
    refine ⟨?_, ?_⟩
    · have := at6 (j + 1); simpa [Nat.add_assoc, Nat.add_comm 1 j] using this
    · unfold g1LKind
      rw [if_neg (by omega), if_neg (by omega)]
  have base : Ab W { W with drawn := W.drawn + 1 } := ⟨rfl, rfl, rfl, Nat.le_refl _, fun _ _ => rfl⟩
  have hG := g1L_ok (Y := Y) (W := W) (JC := JC) (JU := JU) (iC := nC) (iU := nU)
  refine wp_region_any hm (wpAny_of_drift (W := W) (I := G1YI W JC JU) (early := fun _ => True) (kind := g1LKind nC nU) (late := fun _ => false) (Ok := fun _ _ => True) (val := fun _ => vC) (upd := g1YUpd nC)
    (Q := fun a' g => ∃ x z, g = ⟨some x, some z⟩ ∧ ∀ w5, Ab W w5 → JC x w5 → JU z w5 → Q .normal a' w5) (fun g w _ h => h.1) (fun g w w' _ h k => g1YI_on hJC hJU h k) ?_ _ _ _ ⟨none, none⟩ _ ⟨base, fun x hx => (by cases hx), fun x hx => (by cases hx)⟩ ?_)
  · rintro a' g w' hI ⟨x, z, rfl, hQ⟩
    exact hQ w' hI.1 (hI.2.1 x rfl) (hI.2.2 z rfl)
  · rw [hlen]
    refine wpAnyT_lex hG hB.1 (fun _ _ _ _ _ _ _ => .inl rfl) _ 0 _ _ _ (by rw [← hlen]; exact closed_start) (fun j => by rw [hl, hget, Nat.zero_add]) (by rw [← hlen]; exact hB.2) ?_
    refine lexD_quiet (kind := g1LKind nC nU) trivial .basic (.inl ⟨rfl, Ab W, fun _ => Iff.rfl⟩) (Ab W) (.inl ⟨rfl, fun _ h => h⟩) (fun w w' h k => Ab.trans h k) W (Ab.refl W) (fun _ h => h) l1 0 a k1 (fun a1 h1 => ?_) h
    rw [Nat.zero_add, hn1]
    refine dOp_of gC (O := FO (fun _ _ => True) (fun _ => vC) (g1YUpd nC) nC ⟨none, none⟩) ?_ ?_
    · unfold Fam2; rw [if_pos (want oC hgC _)]
      refine .inr (.inr (.inr (.inr ⟨by unfold g1LKind; rw [if_pos rfl], trivial, fun g' _ => ⟨⟨_, _, x0, trivial, rfl, rfl⟩, fun w hw => ?_⟩, rfl⟩)))
      refine Yld.mono ?_ (h1.1 w hw.1)
      rintro v w' ⟨x, rfl, hab, hj⟩
      refine ⟨_, ⟨x, trivial, rfl, rfl⟩, ?_⟩
      have hw' := g1YI_on hJC hJU hw hab
      rcases g' with ⟨_ | c, u⟩
      · have eu : g1YUpd nC nC ⟨none, u⟩ x = ⟨some x, u⟩ := by unfold g1YUpd; rw [if_pos rfl]
        rw [eu]
        exact ⟨hw'.1, fun q hq => (by cases hq; exact hj), hw'.2.2⟩
      · have e : g1YUpd nC nC ⟨some c, u⟩ x = ⟨some c, u⟩ := by unfold g1YUpd; rw [if_pos rfl]
        rw [e]; exact hw'
    · rintro v g' ⟨x, _, rfl, rfl⟩
      have eg : g1YUpd nC nC (⟨none, none⟩ : G1Y XX Y) x = ⟨some x, none⟩ := by unfold g1YUpd; rw [if_pos rfl]
      rw [eg]
      refine lexD_quiet (kind := g1LKind nC nU) trivial .basic (.inl ⟨rfl, Ab W, fun _ => Iff.rfl⟩) (Ab W) (.inl ⟨rfl, fun _ h => h⟩) (fun w w' h k => Ab.trans h k) W (Ab.refl W) (fun _ h => h) l2 (nC + 1) _ k2 (fun a3 h3 => ?_) (h1.2 x)
      rw [show nC + 1 + l2.length = nU from by omega]
      refine dOp_of gU (O := fun v g' => ∃ z, v = vU z ∧ g' = ⟨some x, some z⟩) ?_ ?_
      · unfold Fam2; rw [if_pos (want oU hgU _)]
        refine .inr (.inr (.inr (.inl ⟨by unfold g1LKind; rw [if_neg (by omega), if_pos rfl], trivial, ⟨⟨_, _, y0, rfl, rfl⟩, fun w hw => ?_⟩, fun _ _ _ _ => trivial⟩)))
        refine Yld.mono ?_ (h3.1 w hw.1 (hw.2.1 x rfl))
        rintro v w' ⟨z, rfl, hab, hj⟩
        have hw' := g1YI_on hJC hJU hw hab
        exact ⟨_, ⟨z, rfl, rfl⟩, hw'.1, hw'.2.1, fun q hq => by cases hq; exact hj⟩
      · rintro v g' ⟨z, rfl, rfl⟩
        rw [← List.append_nil l4]
        refine lexD_quiet (kind := g1LKind nC nU) trivial .basic (.inl ⟨rfl, Ab W, fun _ => Iff.rfl⟩) (Ab W) (.inl ⟨rfl, fun _ h => h⟩) (fun w w' h k => Ab.trans h k) W (Ab.refl W) (fun _ h => h) l4 (nU + 1) _ k4 (fun a' hq => ?_) (h3.2 z)
        exact (show (∃ x' z', (⟨some x, some z⟩ : G1Y XX Y) = ⟨some x', some z'⟩ ∧ ∀ w5, Ab W w5 → JC x' w5 → JU z' w5 → Q .normal a' w5) from ⟨x, z, rfl, hq⟩)

/-- The same, the region written out. -/
theorem wp_region_make1L_at {P : Program} {id : Nat} {Q : Exit → Act → World → Prop} {a : Act} {W : World} {XX Y : Type} {l : List Oper} {oC oU : Oper} (nC m : Nat) (JC : XX → World → Prop) (JU : Y → World → Prop)
    (hJC : ∀ x w w', JC x w → Ab w w' → JC x w') (hJU : ∀ y w w', JU y w → Ab w w' → JU y w') (vC : XX → Value) (vU : Y → Value)
    (hm : P.follows .mixedOrders = true) (hl : l.take nC ++ oC :: ((l.drop (nC + 1)).take m ++ oU :: l.drop (nC + 1 + m + 1)) = l) (hn1 : (l.take nC).length = nC) (hn3 : ((l.drop (nC + 1)).take m).length = m)
    (hB : Region.lexBT .any l.toArray (g1LKind nC (nC + 1 + m)) = true) (hgC : oC.guard = none) (hgU : oU.guard = none) (x0 : XX) (y0 : Y)
    (h : ∀ w1, Ab W w1 → wpQuiet P l.toArray (fun w' => ∃ p : Regrown, w' = bw w1 p) (fun a1 =>
      (∀ w, Ab W w → Yld P (fun v w' => ∃ x, v = vC x ∧ Ab w w' ∧ JC x w') w ((execOp a1.eval oC).run P w)) ∧
      ∀ x, ∀ w2, Ab W w2 → wpQuiet P l.toArray (fun w' => ∃ p : Regrown, w' = bw w2 p) (fun a3 =>
          (∀ w, Ab W w → JC x w → Yld P (fun v w' => ∃ z, v = vU z ∧ Ab w w' ∧ JU z w') w ((execOp a3.eval oU).run P w)) ∧
          ∀ z, ∀ w3, Ab W w3 → wpQuiet P l.toArray (fun w' => ∃ p : Regrown, w' = bw w3 p) (fun a4 => ∀ w5, Ab W w5 → JC x w5 → JU z w5 → Q .normal a4 w5) (l.drop (nC + 1 + m + 1)) (a3.put oU.dst (vU z))) ((l.drop (nC + 1)).take m) (a1.put oC.dst (vC x))) (l.take nC) a) :
    (Code.region id l.toArray true).wp P Q a W :=
  wp_region_make1L nC (nC + 1 + m) JC JU hJC hJU vC vU hm hl hn1 (by rw [hn3]; omega) hB hgC hgU x0 y0 h

end Go.Proofs.YtllhglakihfjmaaDoor

namespace Go.Proofs.YtllhglakihfjmaaDoor
open Go.ChangeShapes Go.WideShapes Go.ChangeAt Go.RowKit

theorem sx_drew {B : Nat} {w a : World} (h : Below B w a) : Below B w a.drew := h.trans ⟨rfl, rfl, rfl, Nat.le_refl _, fun _ _ => rfl⟩
set_option maxRecDepth 100000 in
set_option maxHeartbeats 800000 in
theorem sKinds_any (k : Int) (h1 : 0 ≤ k) (h4 : k ≤ 3) (w : World) : Calls Tryd.prog 85 #[] w fun e w' => ∃ g, e = .returned (.slice (some ⟨g, 0, none⟩) 4 4) ∧ g < w'.heap.size ∧ w'.cell? ⟨g, k.toNat, none⟩ = some (.string (kwOf k)) ∧ Below w.heap.size w w' := by
  have h : k = 0 ∨ k = 1 ∨ k = 2 ∨ k = 3 := by omega
  go_enter Tryd.func85, Tryd.ntmps85
  go_wp2
  go_ret
  refine ⟨w.heap.size, rfl, by simp, ?_, below_new (Below.refl _ _) _⟩
  rw [cell_of_block (block_alloc w _)]
  rcases h with rfl | rfl | rfl | rfl <;> rfl
theorem sDecX (h : Int) (h0 : 0 ≤ h) (h1 : h ≤ 95) (w : World) : Calls Tryd.prog 74 #[.int .i64 h] w fun e w' => e = .returned (.string (dec2 h.toNat)) ∧ Below w.heap.size w w' := by
  obtain ⟨m, rfl⟩ := Int.eq_ofNat_of_zero_le h0
  exact sDec_any m (by omega) w

set_option maxRecDepth 100000 in
set_option maxHeartbeats 3200000 in
theorem sSx_any (ad : Option Addr) (fs : List Fd) (c : Nat) (w : World) (hc : FieldsIn w ad fs) (hk : schOk fs = true) :
    Calls Tryd.prog 47 #[.slice ad fs.length c] w fun e w' => e = .returned (.string (fsN fs fs.length)) ∧ Below w.heap.size w w' := by
  have C := Lib.hid hc
  have OK := Lib.hid (schOk_all hk)
  have SZ := Lib.hid (fsN_size (fs := fs) fun i hi => schOk_all hk i hi)
  have l12 := schOk_12 hk
  have z10 : (ByteArray.mk #[10]).size = 1 := rfl
  have z32 : (ByteArray.mk #[32]).size = 1 := rfl
  clear hc hk
  go_enter Tryd.func47, Tryd.ntmps47
  go_wp2
  go_loopw [3, 4, 5] (fun v i x wr => ∃ j : Nat, j ≤ fs.length ∧ i = .int .i64 (j : Int) ∧ v = .string (fsN fs j) ∧ Below w.heap.size w wr) (fun _ i _ _ => fs.length - (intOf i).toNat)
  case atStart => exact ⟨0, Nat.zero_le _, rfl, rfl, Below.refl _ _⟩
  case round =>
    obtain ⟨j, hj, rfl, rfl, hB⟩ := hrel
    have B5 := Lib.hid hB
    by_cases hjl : j < fs.length
    · have hd : decide ((j : Int) < (fs.length : Int)) = true := by simpa using hjl
      obtain ⟨_, b1, o1, rfl, hb1, p0, p1, p2, p3⟩ := C.out j hjl
      have d0 := (hB.cell (p := ⟨b1, o1 + j * 4, none⟩) hb1).trans p0
      have d1 := (hB.cell (p := ⟨b1, o1 + j * 4 + 1, none⟩) hb1).trans p1
      have d2 := (hB.cell (p := ⟨b1, o1 + j * 4 + 2, none⟩) hb1).trans p2
      have d3 := (hB.cell (p := ⟨b1, o1 + j * 4 + 3, none⟩) hb1).trans p3
      have y1 : b1 < wr.heap.size := Nat.lt_of_lt_of_le hb1 hB.size
      have i1 : (0 : Int) ≤ (j : Int) := by omega
      have i2 : (j : Int) < (fs.length : Int) := by omega
      have ok := OK.out j hjl
      unfold fOk at ok
      obtain ⟨n0, n1, k0, k3, t0, t9, z0, z9⟩ := fd_inv ok
      have sz := SZ.out j hj
      have NX := Lib.hid (fsN_next fs j)
      have skw := kwOf_size (fdAt fs j).k
      have WO := Lib.hid fun W => sKinds_any (fdAt fs j).k k0 k3 W
      have DD := Lib.hid fun h h0 h1 W => sDecX h h0 h1 W
      have sy1 := dec2_le (n := (fdAt fs j).t.toNat) (by omega)
      have sy2 := dec2_le (n := (fdAt fs j).z.toNat) (by omega)
      have x1 : IntKind.i64.wrap (fdAt fs j).t = (fdAt fs j).t := IntWalk.i64_in _ (by omega)
      have x2 : IntKind.i64.wrap (fdAt fs j).z = (fdAt fs j).z := IntWalk.i64_in _ (by omega)
      have KE := Lib.hid fun W (h : Below wr.heap.size wr W) => (show W.cell? ⟨b1, o1 + j * 4, none⟩ = some (.string (fdAt fs j).s) ∧ W.cell? ⟨b1, o1 + j * 4 + 1, none⟩ = some (.int .i8 (fdAt fs j).k) ∧ W.cell? ⟨b1, o1 + j * 4 + 2, none⟩ = some (.int .i16 (fdAt fs j).t) ∧ W.cell? ⟨b1, o1 + j * 4 + 3, none⟩ = some (.int .i16 (fdAt fs j).z) from ⟨(h.cell y1).trans d0, (h.cell y1).trans d1, (h.cell y1).trans d2, (h.cell y1).trans d3⟩)
      have k4 : (fdAt fs j).k < 4 := by omega
      clear hB p0 p1 p2 p3 ok
      generalize kwOf (fdAt fs j).k = kw at *
      generalize fsN fs j = t at *
      generalize (fdAt fs j).s = s at *
      generalize (fdAt fs j).k = k at *
      generalize (fdAt fs j).t = m at *
      generalize (fdAt fs j).z = n at *
      have s1 : ¬ 9223372036854775807 < s.size + 1 := by omega
      have s2 : ¬ 9223372036854775807 < s.size + 1 + kw.size := by omega
      have s3 : ¬ 9223372036854775807 < s.size + 1 + kw.size + 1 := by omega
      have s4 : ¬ 9223372036854775807 < s.size + 1 + kw.size + 1 + (dec2 m.toNat).size := by omega
      have s5 : ¬ 9223372036854775807 < s.size + 1 + kw.size + 1 + (dec2 m.toNat).size + 1 := by omega
      have s6 : ¬ 9223372036854775807 < s.size + 1 + kw.size + 1 + (dec2 m.toNat).size + 1 + (dec2 n.toNat).size := by omega
      have s7 : ¬ 9223372036854775807 < s.size + 1 + kw.size + 1 + (dec2 m.toNat).size + 1 + (dec2 n.toNat).size + 1 := by omega
      have s8 : ¬ 9223372036854775807 < t.size + (s.size + 1 + kw.size + 1 + (dec2 m.toNat).size + 1 + (dec2 n.toNat).size + 1) := by omega
      clear sz skw sy1 sy2 n0 n1
      go_wp2_with fail
      refine wp_region_make1L_at (XX := Nat) (Y := Unit) 6 5 (fun g W => g < W.heap.size ∧ W.cell? ⟨g, k.toNat, none⟩ = some (.string kw)) (fun _ _ => True) (fun _ _ _ h hb => ⟨Nat.lt_of_lt_of_le h.1 hb.size, (hb.cell h.1).trans h.2⟩) (fun _ _ _ _ _ => trivial) (fun g => .slice (some ⟨g, 0, none⟩) 4 4) (fun _ => .string kw) (by kernel_rfl) rfl rfl rfl (by kernel_rfl) rfl rfl 0 () ?_
      simp only [Nat.reduceAdd, List.take_succ_cons, List.take_zero, List.drop_succ_cons, List.drop_zero]
      have hbw := cell_bw
      clear d0 d1 d2 d3
      intro v1 hv1
      obtain ⟨e0, e1, e2, e3⟩ := KE.out v1 hv1
      have y2 : b1 < v1.heap.size := Nat.lt_of_lt_of_le y1 hv1.size
      repeat (go_big_quiet_step (fail))
      refine wpQuiet_nil ?_
      clear e0 e1 e2 e3 y2
      refine ⟨?_, ?_⟩
      · intro v2 hv2
        go_simp
        simp only [Yld]
        refine ⟨trivial, (WO.out v2).mono ?_⟩
        rintro e v3 ⟨g, rfl, hl, hc, hb⟩
        exact ⟨_, rfl, g, rfl, hb, hl, hc⟩
      intro g v2 hv2
      simp only [Act.put, List.setIfInBounds_toArray, List.set_cons_succ, List.set_cons_zero]
      obtain ⟨e0, e1, e2, e3⟩ := KE.out v2 hv2
      have y2 : b1 < v2.heap.size := Nat.lt_of_lt_of_le y1 hv2.size
      repeat (go_big_quiet_step (fail))
      refine wpQuiet_nil ?_
      clear e0 e1 e2 e3 y2
      refine ⟨?_, ?_⟩
      · intro v3 hv3 hx
        obtain ⟨hx1, hx2⟩ := hx
        go_simp
        simp only [Yld]
        exact ⟨trivial, Below.refl _ _⟩
      rintro ⟨⟩ v4 hv4
      simp only [Act.put, List.setIfInBounds_toArray, List.set_cons_succ, List.set_cons_zero]
      obtain ⟨e0, e1, e2, e3⟩ := KE.out v4 hv4
      have y2 : b1 < v4.heap.size := Nat.lt_of_lt_of_le y1 hv4.size
      repeat (go_big_quiet_step (first | (go_at_call 74; exact calls_bw (DD.out _ (by assumption) (by assumption) _))))
      refine wpQuiet_nil ?_
      clear e0 e1 e2 e3 y2
      intro w5 hw5 _ _
      clear hv1 hv2 hv4
      have bb := Lib.hid (show Below wr.heap.size wr w5 from hw5)
      go_wp2_with fail
      exact ⟨⟨j + 1, hjl, by rw [Int.natCast_succ], by rw [NX.out]; rfl, B5.out.trans (Below.mono bb.out B5.out.size)⟩, by (simp [intOf]) <;> omega⟩
    · have e : j = fs.length := by omega
      subst e
      have hd : decide ((fs.length : Int) < (fs.length : Int)) = false := by simp
      clear hB
      go_wp2
      go_ret
      exact ⟨rfl, B5.out⟩

set_option maxRecDepth 100000 in
set_option maxHeartbeats 1600000 in
theorem sSxText_any (ad : Option Addr) (fs : List Fd) (c : Nat) (w : World) (hc : FieldsIn w ad fs) :
    Calls Tryd.prog 17 #[.slice ad fs.length c] w fun e w' => e = .returned (.string (if schOk fs = true then fsN fs fs.length else ByteArray.empty)) ∧ Below w.heap.size w w' := by
  have V := fun W h => sSch_any ad fs c W h
  have C := Lib.hid hc
  cases hk : schOk fs
  · rw [hk] at V
    replace V := Lib.hid V
    simp only [Bool.false_eq_true, if_false]
    clear hk hc
    go_enter Tryd.func17, Tryd.ntmps17
    go_wp2_with (go_at_call 46; refine (V.out _ C.out).mono ?_; rintro e w1 ⟨rfl, hB⟩; have B1 := Lib.hid hB; clear hB)
    go_returns
    exact ⟨rfl, B1.out⟩
  · rw [hk] at V
    have T := Lib.hid fun W h => sSx_any ad fs c W h hk
    simp only [if_true]
    replace V := Lib.hid V
    clear hk hc
    generalize fsN fs fs.length = t at *
    go_enter Tryd.func17, Tryd.ntmps17
    go_wp2_with (first
      | (go_at_call 46; refine (V.out _ C.out).mono ?_; rintro e w1 ⟨rfl, hB⟩; have B1 := Lib.hid hB; clear hB)
      | (go_at_call 47; refine (T.out _ (fieldsIn_below C.out B1.out)).mono ?_; rintro e w2 ⟨rfl, hB⟩; have B2 := Lib.hid (B1.out.trans (Below.mono hB B1.out.size)); clear hB))
    go_returns
    exact ⟨rfl, B2.out⟩
end Go.Proofs.YtllhglakihfjmaaDoor
