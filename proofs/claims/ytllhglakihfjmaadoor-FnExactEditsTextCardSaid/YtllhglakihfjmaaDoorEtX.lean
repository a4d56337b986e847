/- Several texts in one, as a claim has at most 60 files: StT EtT EtC EtI EtS. -/
import Derived.Test.YtllhglakihfjmaaDoorFrame
import Derived.LaidLaws
import Derived.ChangeArms
import Derived.ChangeVars
import Derived.Lib.LaidTab
import Derived.Test.YtllhglakihfjmaaDoorEdU
import Derived.Test.YtllhglakihfjmaaDoorCtS
import Derived.Test.YtllhglakihfjmaaDoorBdK
import Derived.Deep.DeepCutAuto
import Derived.Test.YtllhglakihfjmaaDoorDec
namespace Go.Proofs.YtllhglakihfjmaaDoor
open Go.ChangeShapes Go.WideShapes Go.ChangeAt Go.RowKit

/-- A table of texts, as a row lists it. -/
def txData {H : Type} (zs : List (List UInt8)) : DataW H := .agg (zs.map fun z => .lit (.string z))
def txCells (zs : List (List UInt8)) : List Value := zs.map fun z => .string ⟨z.toArray⟩
/-- The variable holds just these texts. -/
def TxIs (P : Program) (w : World) (name : String) (zs : List (List UInt8)) : Prop := w.var? P name = some (txCells zs).toArray
theorem cells_of_tx {H : Type} {enc : TypeId × Value → H} {P : Program} {w : World} {base : Nat} {sp : Nat → Bool} {held : Bool} {fuel : Nat} {t e : TypeId} {n : Nat} {cs : List Value} {zs : List (List UInt8)} {p : List MemPlace}
    (ht : P.underlying t = some (.array n e)) (he : P.underlying e = some .string) (hce : P.cellsOf e = 1) (hct : P.cellsOf t = n)
    (h : DataW.trod enc P w base sp held fuel t cs = some (txData zs, p)) : cs = txCells zs := by
  cases fuel with
  | zero => simp [DataW.trod] at h
  | succ fuel =>
    simp only [DataW.trod, ht, hce, hct, Nat.mul_one] at h
    split at h
    · rename_i hl
      obtain ⟨xs, hm, hx⟩ := Option.map_eq_some_iff.1 h
      have hxs : xs.map (·.1) = zs.map fun z => (DataW.lit (.string z) : DataW H) := by
        have := congrArg Prod.fst hx
        simpa [txData] using this
      have hxl : xs.length = n := by simpa using Lib.mapM_length hm
      have hzl : zs.length = n := by
        have := congrArg List.length hxs
        simp at this
        omega
      unfold txCells
      apply List.ext_getElem?
      intro i
      by_cases hi : i < n
      · obtain ⟨b, hb, hf⟩ := Lib.mapM_at hm i i (by simp [hi])
        obtain ⟨s, hc, rfl, _⟩ := DataW.trod_string he hf
        have h1 : cs[i]? = some (.string s) := by
          have := congrArg (·[0]?) hc
          simpa [List.getElem?_take, List.getElem?_drop] using this
        have h2 : (xs.map (·.1))[i]? = some (DataW.lit (.string s.data.toList) : DataW H) := by simp [hb]
        rw [hxs] at h2
        simp only [List.getElem?_map, Option.map_eq_some_iff, DataW.lit.injEq, Lit.string.injEq] at h2
        obtain ⟨z', hz', rfl⟩ := h2
        simp [h1, hz']
      · rw [List.getElem?_eq_none (by omega), List.getElem?_eq_none (by simp; omega)]
    · cases h
theorem tx_of_laid {P : Program} {n0 n1 n2 n3 : String} {d0 d1 d2 : DataW Unit} {zs : List (List UInt8)} {r : List (String × DataW Unit)} {W : World} {g : Nat} {t e : TypeId} {n : Nat}
    (h : laidMet P ((n0, d0) :: (n1, d1) :: (n2, d2) :: (n3, txData zs) :: r) W)
    (hg : P.globalNamed n3 = some g) (hty : (P.globals[g]?).map (·.type) = some t) (ht : P.underlying t = some (.array n e)) (he : P.underlying e = some .string) (hce : P.cellsOf e = 1) (hct : P.cellsOf t = n) : TxIs P W n3 zs := by
  obtain ⟨ps, ⟨g0', t0', cs0, f0, p0, q0, hg0', ht0', hv0, hd0, ⟨g1', t1', cs1, f1, p1, q1, hg1', ht1', hv1, hd1, ⟨g2', t2', cs2, f2, p2, q2, hg2', ht2', hv2, hd2, ⟨g3', t3', cs3, f3, p3, q3, hg3', ht3', hv3, hd3, _, _⟩, _⟩, _⟩, _⟩, _, _⟩ := h
  obtain rfl := Option.some.inj (hg.symm.trans hg3')
  obtain rfl := Option.some.inj (hty.symm.trans ht3')
  unfold TxIs
  rw [hv3, ← cells_of_tx ht he hce hct hd3]
theorem tx_below {P : Program} {W W' : World} {n : String} {zs : List (List UInt8)} (h : TxIs P W n zs) (hb : Below W.heap.size W W') : TxIs P W' n zs := by
  unfold TxIs World.var? at h ⊢
  cases hg : P.globalNamed n with
  | none => simp [hg] at h
  | some g =>
    simp only [hg, Option.bind_some] at h ⊢
    have hlt : g < W.heap.size := by
      rcases Nat.lt_or_ge g W.heap.size with h' | h'
      · exact h'
      · simp [Array.getElem?_eq_none h'] at h
    rw [hb.block g hlt]
    exact h
theorem tx_cell {P : Program} {W : World} {n : String} {zs : List (List UInt8)} {g : Nat} (h : TxIs P W n zs) (hg : P.globalNamed n = some g) (i : Nat) (hi : i < zs.length) :
    W.cell? ⟨g, i, none⟩ = some (.string ⟨(zs.getD i []).toArray⟩) := by
  have := World.var?_cell hg h i
  simpa [txCells, List.getD, hi] using this
theorem tx_trod {H : Type} (enc : TypeId × Value → H) {P : Program} {w : World} {base : Nat} {sp : Nat → Bool} {held : Bool} {t e : TypeId} {n : Nat} {zs : List (List UInt8)}
    (ht : P.underlying t = some (.array n e)) (he : P.underlying e = some .string) (hce : P.cellsOf e = 1) (hct : P.cellsOf t = n) (hn : zs.length = n) (hz : ∀ z ∈ zs, z.length ≤ 100) :
    ∃ p, DataW.trod enc P w base sp held 2 t (txCells zs) = some (txData zs, p) := by
  have key : ∀ i, i < n → DataW.trod enc P w base sp held 1 e (((txCells zs).drop i).take 1) = some (.lit (.string (zs.getD i [])), []) := by
    intro i hi
    have h1 : ((txCells zs).drop i).take 1 = [.string ⟨(zs.getD i []).toArray⟩] := by
      have hl : i < (txCells zs).length := by unfold txCells; simp; omega
      rw [List.drop_eq_getElem_cons hl]
      simp [txCells, List.getD, show i < zs.length by omega]
    have hs : (ByteArray.mk (zs.getD i []).toArray).size ≤ maxLen := by
      have : zs.getD i [] ∈ zs := by
        rw [List.getD, List.getElem?_eq_getElem (by omega)]
        exact List.getElem_mem _
      have := hz _ this
      show (zs.getD i []).toArray.size ≤ maxLen
      rw [List.size_toArray]
      unfold maxLen
      omega
    rw [h1]
    unfold DataW.trod
    rw [he]
    simp only [hs, if_true]
  have hm : (List.range n).mapM (fun i => DataW.trod enc P w base sp held 1 e (((txCells zs).drop i).take 1)) = some ((List.range n).map fun i => ((.lit (.string (zs.getD i [])) : DataW H), ([] : List MemPlace))) := by
    have go : ∀ l : List Nat, (∀ i ∈ l, i < n) → l.mapM (fun i => DataW.trod enc P w base sp held 1 e (((txCells zs).drop i).take 1)) = some (l.map fun i => ((.lit (.string (zs.getD i [])) : DataW H), ([] : List MemPlace))) := by
      intro l
      induction l with
      | nil => intro _; rfl
      | cons a l ih =>
        intro hl
        rw [List.mapM_cons, key a (hl a (by simp)), ih fun i hi => hl i (by simp [hi])]
        rfl
    exact go _ fun i hi => List.mem_range.1 hi
  have hl : (txCells zs).length = n := by unfold txCells; simpa using hn
  have hd : ((List.range n).map fun i => ((.lit (.string (zs.getD i [])) : DataW H), ([] : List MemPlace))).map (·.1) = zs.map fun z => (.lit (.string z) : DataW H) := by
    apply List.ext_getElem?
    intro i
    by_cases hi : i < n
    · simp [hi, List.getD, show i < zs.length by omega]
    · rw [List.getElem?_eq_none (by simp; omega), List.getElem?_eq_none (by simp; omega)]
  refine ⟨((List.range n).map fun i => ((.lit (.string (zs.getD i [])) : DataW H), ([] : List MemPlace))).flatMap (·.2), ?_⟩
  generalize ((List.range n).map fun i => ((.lit (.string (zs.getD i [])) : DataW H), ([] : List MemPlace))) = xs at *
  show DataW.trod enc P w base sp held (1 + 1) t (txCells zs) = _
  generalize txCells zs = cs at *
  unfold DataW.trod
  rw [ht]
  simp only [hce, hct, Nat.mul_one, hl, if_true, hm, Option.map_some, hd]
  rfl
/-- It reads as data, in whatever world in which it holds these texts. -/
theorem tx_vars {H : Type} (enc : TypeId × Value → H) {P : Program} {w : World} {sp : Nat → Bool} {name : String} {g : Nat} {t e : TypeId} {n : Nat} {zs : List (List UInt8)}
    (h : TxIs P w name zs) (hg : P.globalNamed name = some g) (hty : (P.globals[g]?).map (·.type) = some t) (ht : P.underlying t = some (.array n e)) (he : P.underlying e = some .string) (hce : P.cellsOf e = 1) (hct : P.cellsOf t = n) (hn : zs.length = n) (hz : ∀ z ∈ zs, z.length ≤ 100) :
    ∃ ps, DataW.TrodVars enc P w sp [name] [txData zs] ps := by
  obtain ⟨p, hp⟩ := tx_trod enc (w := w) (base := 0) (sp := sp) (held := true) ht he hce hct hn hz
  exact ⟨_, trodVars_mk1 hg hty h hp⟩
theorem law_postT {H : Type} {enc : TypeId × Value → H} {P : Program} (hl : laidOutB P = true) {f : Func} {s : ChangeSpec} {bt : TypeId} (hres : f.resultTypes = #[bt]) (hbt : P.underlying bt = some .bool)
    (hread : ∀ t ∈ f.params.toList, P.readableRec t = true ∧ t < P.types.size)
    {W W' : World} {args : Array Value} {ds gs : List (DataW H)} {before pv : List MemPlace}
    (hW : DataW.Whole enc P f.params.toList s.vars false W args.toList ds gs before)
    (hs1 : (s.fn H (ds ++ gs)).results = [.lit (.bool true)]) (hs2 : (s.fn H (ds ++ gs)).args = ds) (hs3 : (s.fn H (ds ++ gs)).vars = gs)
    (hv : DataW.TrodVars enc P W' (fun b => decide (b < W.heap.size)) s.vars gs pv)
    (hb : Below W.heap.size W W') :
    s.post enc P f false true false false W args (.bool true) W' := by
  have hW' := hW
  obtain ⟨p, q, hA, hV, rfl, hfz, hnd⟩ := hW
  have hlt : ∀ x ∈ p, x.block < W.heap.size := fun x hx => hW'.lt x (List.mem_append_left _ hx)
  refine ⟨ds, gs, _, [], p, pv, hW', ?_, ?_, ?_, hb.frame _, fun h => by cases h⟩
  · rw [hres, hs1]
    exact trodAll_mk1 (shut_bool hbt _)
  · rw [hs2]
    exact below_trodAll hl hb _ _ _ _ hread hA hlt
  · rw [hs3]
    exact hv
end Go.Proofs.YtllhglakihfjmaaDoor

namespace Go.Proofs.YtllhglakihfjmaaDoor
open Go.ChangeShapes Go.WideShapes Go.ChangeAt Go.RowKit

def edWd : List (List UInt8) := [[], [97, 100, 100], [100, 114, 111, 112], [110, 111, 116, 99, 104], [102, 105, 108, 108]]
/-- The word of a kind. -/
def wdOf (k : Int) : ByteArray := ⟨(edWd.getD k.toNat []).toArray⟩
theorem edWd_size : ∀ i : Nat, (edWd.getD i []).length ≤ 5
  | 0 => by decide
  | 1 => by decide
  | 2 => by decide
  | 3 => by decide
  | 4 => by decide
  | _ + 5 => Nat.zero_le _
theorem wdOf_size (k : Int) : (wdOf k).size ≤ 5 := by
  unfold wdOf
  show (edWd.getD k.toNat []).toArray.size ≤ 5
  rw [List.size_toArray]
  exact edWd_size _
/-- What is told behind the word. -/
def edL (x : Ed) : ByteArray := if x.k = 1 ∨ x.k = 2 then cdT x.s x.a x.b else x.s ++ (⟨#[32]⟩ ++ dec2 x.h.toNat)
/-- The text of the first n edits. -/
def etN (es : List Ed) : Nat → ByteArray
  | 0 => ByteArray.empty
  | n + 1 => (etN es n ++ (wdOf (edAt es n).k ++ ⟨#[32]⟩)) ++ (edL (edAt es n) ++ ⟨#[10]⟩)
theorem etN_next (es : List Ed) (n : Nat) : etN es (n + 1) = (etN es n ++ (wdOf (edAt es n).k ++ ⟨#[32]⟩)) ++ (edL (edAt es n) ++ ⟨#[10]⟩) := rfl
theorem etN_next2 (es : List Ed) (n : Nat) : etN es (n + 1) = (((etN es n ++ wdOf (edAt es n).k) ++ ⟨#[32]⟩) ++ edL (edAt es n)) ++ ⟨#[10]⟩ := by
  rw [etN_next]; simp only [ByteArray.append_assoc]
/-- The text of edits. -/
def etT (es : List Ed) : ByteArray := if edsC es = 0 then etN es es.length else ByteArray.empty
theorem edsC_inv {es : List Ed} (h : edsC es = 0) : edTil es es.length = true ∧ es.length ≤ 200 := by
  unfold edsC at h
  by_cases k : edTil es es.length = true
  · rw [if_pos k] at h
    by_cases l : es.length ≤ 200
    · exact ⟨k, l⟩
    · rw [if_neg l] at h; omega
  · rw [if_neg k] at h; omega
/-- A valid edit's parts. -/
theorem edOk_inv {x : Ed} (h : edOk x = true) : nameOk x.s = true ∧ ((x.k = 1 ∨ x.k = 2) ∧ maskOk x.b = true ∨ (x.k = 3 ∨ x.k = 4) ∧ 0 ≤ x.h ∧ x.h ≤ 95) := by
  by_cases h1 : x.k = 1 ∨ x.k = 2
  · rw [edOk_card h1] at h
    simp only [Bool.and_eq_true] at h
    exact ⟨h.1, .inl ⟨h1, h.2.2⟩⟩
  · by_cases h2 : x.k = 3 ∨ x.k = 4
    · rw [edOk_hole h2] at h
      simp only [Bool.and_eq_true, decide_eq_true_eq] at h
      exact ⟨h.1, .inr ⟨h2, h.2.1⟩⟩
    · rw [edOk_none (by omega)] at h; cases h
theorem one_all : ((List.range 96).all fun z : Nat => (hol (hasB (b0 (z : Int)) (b1 (z : Int))) 96 == [(z : Int)]) && (maskOk (b1 (z : Int)) && (decide (0 ≤ b0 (z : Int) ∧ b0 (z : Int) ≤ 18446744073709551615) && decide (0 ≤ b1 (z : Int) ∧ b1 (z : Int) ≤ 18446744073709551615)))) = true := by kernel_rfl
theorem one_hole {h : Int} (h0 : 0 ≤ h) (h1 : h ≤ 95) : hol (hasB (b0 h) (b1 h)) 96 = [h] ∧ maskOk (b1 h) = true ∧ U64 (b0 h) ∧ U64 (b1 h) := by
  obtain ⟨m, rfl⟩ := Int.eq_ofNat_of_zero_le h0
  have := List.all_eq_true.1 one_all m (List.mem_range.2 (by omega))
  simp only [Bool.and_eq_true, decide_eq_true_eq, beq_iff_eq] at this
  refine ⟨this.1, this.2.1, ?_, ?_⟩
  · unfold U64; omega
  · unfold U64; omega
/-- The mask of which an edit's card tells. -/
def ca (x : Ed) : Int := if x.k = 1 ∨ x.k = 2 then x.a else b0 x.h
def cb (x : Ed) : Int := if x.k = 1 ∨ x.k = 2 then x.b else b1 x.h
theorem cdT_ok {s : ByteArray} {a b : Int} (h : cardOk s b = true) : cdT s a b = cdN s (hol (hasB a b) 96) (hol (hasB a b) 96).length := if_pos h
theorem cdT_ed {x : Ed} (h : edOk x = true) : cdT x.s (ca x) (cb x) = edL x := by
  obtain ⟨hn, h2⟩ := edOk_inv h
  unfold edL ca cb
  rcases h2 with ⟨hk, hm⟩ | ⟨hk, h0, h1⟩
  · rw [if_pos hk, if_pos hk, if_pos hk]
  · have nk : ¬ (x.k = 1 ∨ x.k = 2) := by omega
    obtain ⟨e1, e2, _, _⟩ := one_hole h0 h1
    rw [if_neg nk, if_neg nk, if_neg nk, cdT_ok (by unfold cardOk; rw [hn, e2]; rfl), e1]
    rfl
theorem ca_u64 {x : Ed} (h : edOk x = true) (hf : x.fits) : U64 (ca x) ∧ U64 (cb x) := by
  obtain ⟨hn, h2⟩ := edOk_inv h
  unfold ca cb
  rcases h2 with ⟨hk, hm⟩ | ⟨hk, h0, h1⟩
  · rw [if_pos hk, if_pos hk]; exact ⟨hf.2.2.2.1, hf.2.2.2.2⟩
  · have nk : ¬ (x.k = 1 ∨ x.k = 2) := by omega
    rw [if_neg nk, if_neg nk]
    exact (one_hole h0 h1).2.2
theorem edL_size {x : Ed} (h : edOk x = true) : (edL x).size ≤ 304 := by
  obtain ⟨hn, h2⟩ := edOk_inv h
  have h3 := (nameOk_size hn).2
  unfold edL
  rcases h2 with ⟨hk, hm⟩ | ⟨hk, h0, h1⟩
  · rw [if_pos hk, cdT_ok (by unfold cardOk; rw [hn, hm]; rfl)]
    have h4 := cdN_size x.s (zs := hol (hasB x.a x.b) 96) (fun j hj => hol_atX hj) _ (Nat.le_refl _)
    have h5 := hol_len (hasB x.a x.b) 96
    omega
  · have h4 := dec2_le (n := x.h.toNat) (by omega)
    rw [if_neg (by omega), ByteArray.size_append, ByteArray.size_append]
    have e : (⟨#[32]⟩ : ByteArray).size = 1 := rfl
    omega
theorem etN_size {es : List Ed} (h : ∀ i, i < es.length → edOk (edAt es i) = true) : ∀ n, n ≤ es.length → (etN es n).size ≤ 320 * n
  | 0, _ => Nat.le_refl _
  | n + 1, hn => by
    have ih := etN_size h n (by omega)
    have h2 := edL_size (h n (by omega))
    have h3 := wdOf_size (edAt es n).k
    rw [etN_next, ByteArray.size_append, ByteArray.size_append, ByteArray.size_append, ByteArray.size_append]
    have e : (⟨#[10]⟩ : ByteArray).size = 1 := rfl
    have e2 : (⟨#[32]⟩ : ByteArray).size = 1 := rfl
    omega
theorem et_next {B : Nat} {w a b : World} (h : Below B w a) (hB : B ≤ w.heap.size) (k : Below a.heap.size a b) : Below B w b := h.trans (Below.mono k (Nat.le_trans hB h.size))
/-- The value of the card of which an edit tells. -/
def edCd (x : Ed) : Value := .agg #[.string x.s, .int .u64 (ca x), .int .u64 (cb x)]
end Go.Proofs.YtllhglakihfjmaaDoor

namespace Go.Proofs.YtllhglakihfjmaaDoor
open Go.ChangeShapes Go.WideShapes Go.ChangeAt Go.RowKit

set_option maxRecDepth 100000 in
set_option maxHeartbeats 1600000 in
theorem iEdCard_c (k : Int) (hk : k = 1 ∨ k = 2) (s : ByteArray) (h a b : Int) (w : World) :
    Calls Tryd.prog 63 #[.agg #[.int .i8 k, .string s, .int .i16 h, .int .u64 a, .int .u64 b]] w fun e w' => e = .returned (.agg #[.string s, .int .u64 a, .int .u64 b]) ∧ Below w.heap.size w w' := by
  have O : Hid (∀ W, Calls Tryd.prog 95 #[.agg #[.int .i8 k, .string s, .int .i16 h, .int .u64 a, .int .u64 b]] W fun e w' => e = .returned (.bool false) ∧ Below W.heap.size W w') := by
    rcases hk with rfl | rfl
    · exact Lib.hid fun W => iOfHole_1 s h a b W
    · exact Lib.hid fun W => iOfHole_2 s h a b W
  have HB := Lib.hid (block_alloc2 w (.cells #[.int .i8 k, .string s, .int .i16 h, .int .u64 a, .int .u64 b] 108) (.cells #[.string ByteArray.empty, .int .u64 0, .int .u64 0] 30))
  clear hk
  go_enter Tryd.func63, Tryd.ntmps63
  go_wp2_with (go_at_call 95; refine (O.out _).mono ?_; rintro e w1 ⟨rfl, hB⟩; have B0 := Ab.block hB HB.out.1; have B1 := Ab.block hB HB.out.2; have c0 := cell_of_block B0; have c1 := cell_of_block B1; have g1 := free_of_block B1; have k3 : Below w.heap.size w w1 := (below_new (below_new (Below.refl _ _) _) _).trans (Below.mono hB (by simp; omega)); clear hB B0 B1)
  refine bodyPost_ret (by simp [results, Tryd.results63, go_sem, c1]; try rfl) rfl ?_
  exact ⟨rfl, ((k3.setCell (by simp <;> omega) _).setCell (by simp <;> omega) _).setCell (by simp <;> omega) _⟩

set_option maxRecDepth 100000 in
set_option maxHeartbeats 1600000 in
theorem iEdCard_h (k : Int) (hk : k = 3 ∨ k = 4) (s : ByteArray) (h a b : Int) (h0 : 0 ≤ h) (h1 : h ≤ 95) (w : World) :
    Calls Tryd.prog 63 #[.agg #[.int .i8 k, .string s, .int .i16 h, .int .u64 a, .int .u64 b]] w fun e w' => e = .returned (.agg #[.string s, .int .u64 (b0 h), .int .u64 (b1 h)]) ∧ Below w.heap.size w w' := by
  have O : Hid (∀ W, Calls Tryd.prog 95 #[.agg #[.int .i8 k, .string s, .int .i16 h, .int .u64 a, .int .u64 b]] W fun e w' => e = .returned (.bool true) ∧ Below W.heap.size W w') := by
    rcases hk with rfl | rfl
    · exact Lib.hid fun W => iOfHole_3 s h a b W
    · exact Lib.hid fun W => iOfHole_4 s h a b W
  have HB := Lib.hid (block_alloc2 w (.cells #[.int .i8 k, .string s, .int .i16 h, .int .u64 a, .int .u64 b] 108) (.cells #[.string ByteArray.empty, .int .u64 0, .int .u64 0] 30))
  have M := Lib.hid fun W => iOne_any h h0 h1 W
  have x1 : IntKind.i64.wrap h = h := IntWalk.i64_in _ (by omega)
  generalize b0 h = p at *
  generalize b1 h = q at *
  have hbw := cell_bw
  clear hk h0 h1
  go_enter Tryd.func63, Tryd.ntmps63
  go_upto_region 2 with (go_at_call 95; refine (O.out _).mono ?_; rintro e w1 ⟨rfl, hB⟩; have B0 := Lib.hid (Ab.block hB HB.out.1); have B1 := Lib.hid (Ab.block hB HB.out.2); have k3 : Below w.heap.size w w1 := (below_new (below_new (Below.refl _ _) _) _).trans (Below.mono hB (by simp; omega)); clear hB)
  refine wp_region_last 7 (by kernel_rfl) rfl rfl (by kernel_rfl) (by kernel_rfl) rfl ?_
  simp only [List.take_succ_cons, List.take_zero]
  intro w3 h3
  have c0 := cell_of_block (h3.block B0.out)
  have z0 := lt_of_block (h3.block B0.out)
  repeat (go_big_quiet_step (first | (go_at_call 96; exact calls_bw (M.out _))))
  refine wpQuiet_nil ?_
  intro w4 h4
  have E1 := h4.block B1.out
  have l3 : Below w.heap.size w w4 := k3.trans (Below.mono h4 k3.size)
  have f1 := cell_of_block E1
  have g1 := free_of_block E1
  clear c0 z0 h4 h3 E1
  go_simp
  simp only [Yld]
  go_wp2
  refine bodyPost_ret (by simp [results, Tryd.results63, go_sem, f1]; try rfl) rfl ?_
  exact ⟨rfl, ((l3.setCell (by simp <;> omega) _).setCell (by simp <;> omega) _).setCell (by simp <;> omega) _⟩

theorem iEdCard_any (x : Ed) (hok : edOk x = true) (w : World) :
    Calls Tryd.prog 63 #[.agg #[.int .i8 x.k, .string x.s, .int .i16 x.h, .int .u64 x.a, .int .u64 x.b]] w fun e w' => e = .returned (.agg #[.string x.s, .int .u64 (ca x), .int .u64 (cb x)]) ∧ Below w.heap.size w w' := by
  obtain ⟨_, h2⟩ := edOk_inv hok
  unfold ca cb
  rcases h2 with ⟨hk, _⟩ | ⟨hk, h0, h1⟩
  · rw [if_pos hk, if_pos hk]
    exact iEdCard_c x.k hk x.s x.h x.a x.b w
  · rw [if_neg (by omega), if_neg (by omega)]
    exact iEdCard_h x.k hk x.s x.h x.a x.b h0 h1 w
theorem ed_neq : 108 ≠ 5 := by decide
theorem edK {x : Ed} (h : edOk x = true) : 1 ≤ x.k ∧ x.k ≤ 4 := by
  rcases (edOk_inv h).2 with ⟨k, _⟩ | ⟨k, _⟩ <;> omega
theorem ew_g : Tryd.prog.globalNamed "loop.example/g01261/impl.editWords" = some 1 := by kernel_rfl
/-- What a walk reads at a kind's place of the table. -/
theorem ew_cell {W : World} (h : TxIs Tryd.prog W "loop.example/g01261/impl.editWords" edWd) {k : Int} (h0 : 1 ≤ k) (h1 : k ≤ 4) : W.cell? ⟨1, k.toNat, none⟩ = some (.string (wdOf k)) :=
  tx_cell h ew_g k.toNat (by show k.toNat < 5; omega)
end Go.Proofs.YtllhglakihfjmaaDoor

namespace Go.Proofs.YtllhglakihfjmaaDoor
open Go.ChangeShapes Go.WideShapes Go.ChangeAt Go.RowKit

theorem et_box (w : World) (o : Obj) : (w.alloc o).heap[w.heap.size]? = some o := by unfold World.alloc; simp

set_option maxRecDepth 100000 in
set_option maxHeartbeats 3200000 in
theorem iEtText_any (ad : Option Addr) (es : List Ed) (c : Nat) (w : World) (hc : EditsIn w ad es) (hn : es.length ≤ 1048576) (ht : TxIs Tryd.prog w "loop.example/g01261/impl.editWords" edWd) :
    Calls Tryd.prog 29 #[.slice ad es.length c] w fun e w' => e = .returned (.string (etT es)) ∧ Below w.heap.size w w' := by
  have V := fun W h => iChk_any ad es c W h hn
  have C := Lib.hid hc
  have T0 := Lib.hid ht
  unfold etT
  by_cases hk : edsC es = 0
  · rw [hk] at V
    rw [if_pos hk]
    obtain ⟨e1, l200⟩ := edsC_inv hk
    have OK := Lib.hid fun i (hi : i < es.length) => edTil_at e1 hi
    have SZ := Lib.hid (etN_size OK.out)
    replace V := Lib.hid V
    clear hk hc ht e1 hn
    go_enter Tryd.func29, Tryd.ntmps29
    go_wp2_with (go_at_call 62; refine (V.out _ C.out).mono ?_; rintro e w1 ⟨rfl, hB⟩; have B1 := Lib.hid hB; clear hB)
    have D0 := Lib.hid (bldK_fresh w1)
    have A0 := Lib.hid (below_new (Below.refl w1.heap.size w1) (.cells #[.pointer none, .slice none 0 0] 95))
    have C1 := Lib.hid (editsIn_below C.out B1.out)
    have T1 := Lib.hid (tx_below T0.out B1.out)
    go_loopw [11] (fun i wr => ∃ j : Nat, j ≤ es.length ∧ i = .int .i64 (j : Int) ∧ BldK w1.heap.size w1.heap.size (etN es j) wr ∧ Below w1.heap.size w1 wr ∧ w1.heap.size < wr.heap.size) (fun i _ => es.length - (intOf i).toNat)
    case atStart => exact ⟨0, Nat.zero_le _, rfl, D0.out, A0.out, by simp⟩
    case round =>
      obtain ⟨j, hj, rfl, hD, hB, hlt⟩ := hrel
      have D5 := Lib.hid hD
      have B5 := Lib.hid hB
      clear hD
      by_cases hjl : j < es.length
      · have hd : decide ((j : Int) < (es.length : Int)) = true := by simpa using hjl
        obtain ⟨hf, b1, o1, rfl, hb1, p0, p1, p2, p3, p4⟩ := C1.out j hjl
        have d0 := (hB.cell (p := ⟨b1, o1 + j * 5, none⟩) hb1).trans p0
        have d1 := (hB.cell (p := ⟨b1, o1 + j * 5 + 1, none⟩) hb1).trans p1
        have d2 := (hB.cell (p := ⟨b1, o1 + j * 5 + 2, none⟩) hb1).trans p2
        have d3 := (hB.cell (p := ⟨b1, o1 + j * 5 + 3, none⟩) hb1).trans p3
        have d4 := (hB.cell (p := ⟨b1, o1 + j * 5 + 4, none⟩) hb1).trans p4
        have i1 : (0 : Int) ≤ (j : Int) := by omega
        have i2 : (j : Int) < (es.length : Int) := by omega
        have sz := SZ.out j hj
        have ok := OK.out j hjl
        have NX := Lib.hid (etN_next2 es j)
        have CC := Lib.hid fun W => iEdCard_any (edAt es j) ok W
        have CT := fun W => iCardText_any (edAt es j).s (ca (edAt es j)) (cb (edAt es j)) hf.2.1 (ca_u64 ok hf).1 (ca_u64 ok hf).2 W
        rw [cdT_ed ok] at CT
        replace CT := Lib.hid CT
        have sl := edL_size ok
        have sw := wdOf_size (edAt es j).k
        obtain ⟨kk1, kk4⟩ := edK ok
        have EW := Lib.hid fun W h => ew_cell (W := W) h kk1 kk4
        clear hB p0 p1 p2 p3 p4 hf ok
        generalize edL (edAt es j) = l at *
        generalize wdOf (edAt es j).k = wd at *
        generalize ca (edAt es j) = p at *
        generalize cb (edAt es j) = q at *
        generalize etN es j = t at *
        generalize (edAt es j).k = k at *
        generalize (edAt es j).s = s at *
        generalize (edAt es j).h = h at *
        generalize (edAt es j).a = a at *
        generalize (edAt es j).b = b at *
        have k5 : k < 5 := by omega
        have k0 : 0 ≤ k := by omega
        have z10 : (ByteArray.mk #[10]).size = 1 := rfl
        have z32 : (ByteArray.mk #[32]).size = 1 := rfl
        have A3 := Lib.hid (below_new (Below.refl wr.heap.size wr) (.cells #[.int .i8 k, .string s, .int .i16 h, .int .u64 a, .int .u64 b] 108))
        have D3 := Lib.hid (bldK_kept D5.out A3.out)
        have B3 := Lib.hid (B5.out.trans (Below.mono A3.out B5.out.size))
        have K3 := Lib.hid (et_box wr (.cells #[.int .i8 k, .string s, .int .i16 h, .int .u64 a, .int .u64 b] 108))
        have tc := EW.out _ (tx_below T1.out (Below.mono B3.out (Nat.le_refl _)))
        have nb : Hid (wr.heap.size ≠ w1.heap.size) := Lib.hid (by omega)
        have WB1 := Lib.hid fun (z : ByteArray) W (h : BldK w1.heap.size w1.heap.size z W) hB hl => (show Calls Tryd.prog 55 #[.pointer (some ⟨w1.heap.size, 0, none⟩), .int .u8 32] W _ from bldK_byte w1.heap.size w1.heap.size z 32 W h hB hl)
        have WB2 := Lib.hid fun (z : ByteArray) W (h : BldK w1.heap.size w1.heap.size z W) hB hl => (show Calls Tryd.prog 55 #[.pointer (some ⟨w1.heap.size, 0, none⟩), .int .u8 10] W _ from bldK_byte w1.heap.size w1.heap.size z 10 W h hB hl)
        have tok1 : True := trivial
        have tok2 : True := trivial
        have tok3 : True := trivial
        clear kk1 kk4
        go_wp2_with (first
          | (go_at_call 54; have _t := tok1; clear _t tok1; refine (bldK_str w1.heap.size w1.heap.size t wd _ D3.out B3.out.size (by omega)).mono ?_; rintro e w4 ⟨rfl, hD, hB, hO⟩; have D4 := Lib.hid hD; have B4 := Lib.hid (B3.out.trans hB); have K4 := Lib.hid (othB_block hO K3.out nb.out ed_neq); clear hD hB hO)
          | (go_at_call 55; have _t := tok2; clear _t tok2; refine (WB1.out (t ++ wd) _ D4.out B4.out.size (by rw [ByteArray.size_append]; omega)).mono ?_; rintro e w5 ⟨rfl, hD, hB, hO⟩; have D5 := Lib.hid hD; have B5 := Lib.hid (B4.out.trans hB); have hK := othB_block hO K4.out nb.out ed_neq; have m0 := cell_of_block hK 0; have m1 := cell_of_block hK 1; have m2 := cell_of_block hK 2; have m3 := cell_of_block hK 3; have m4 := cell_of_block hK 4; have hlt5 := lt_of_block hK; clear hD hB hO hK)
          | (go_at_call 63; refine (CC.out _).mono ?_; rintro e w6 ⟨rfl, hB⟩; have D6 := Lib.hid (bldK_kept D5.out hB); have B6 := Lib.hid (et_next B5.out (Nat.le_refl _) hB); have s6 := hB.size; clear hB)
          | (go_at_call 12; refine (CT.out _).mono ?_; rintro e w7 ⟨rfl, hB⟩; have D7 := Lib.hid (bldK_kept D6.out hB); have B7 := Lib.hid (et_next B6.out (Nat.le_refl _) hB); have s7 := hB.size; clear hB)
          | (go_at_call 54; have _t := tok3; clear _t tok3; refine (bldK_str w1.heap.size w1.heap.size ((t ++ wd) ++ ⟨#[32]⟩) l _ D7.out B7.out.size (by rw [ByteArray.size_append, ByteArray.size_append]; omega)).mono ?_; rintro e w8 ⟨rfl, hD, hB, hO⟩; have D8 := Lib.hid hD; have B8 := Lib.hid (B7.out.trans hB); have s8 := hB.size; clear hD hB hO)
          | (go_at_call 55; refine (WB2.out _ _ D8.out B8.out.size (by rw [ByteArray.size_append, ByteArray.size_append, ByteArray.size_append]; omega)).mono ?_; rintro e w9 ⟨rfl, hD, hB, hO⟩; have D9 := Lib.hid hD; have B9 := Lib.hid (B8.out.trans hB); have s9 := hB.size; clear hD hB hO))
        exact ⟨⟨j + 1, hjl, by rw [Int.natCast_succ], by rw [NX.out]; exact D9.out, B9.out, by omega⟩, by (simp [intOf]) <;> omega⟩
      · have e : j = es.length := by omega
        subst e
        have hd : decide ((es.length : Int) < (es.length : Int)) = false := by simp
        clear hB
        go_wp2_with (go_at_call 56; refine (bldK_text w1.heap.size w1.heap.size _ _ D5.out B5.out.size).mono ?_; rintro e w6 ⟨rfl, hB⟩; have B6 := Lib.hid (B5.out.trans hB); clear hB)
        go_returns
        exact ⟨rfl, B1.out.trans (Below.mono B6.out B1.out.size)⟩
  · rw [if_neg hk]
    have nk : (edsC es != 0) = true := by simpa using hk
    replace V := Lib.hid V
    generalize edsC es = z at *
    clear hk hc ht hn
    go_enter Tryd.func29, Tryd.ntmps29
    go_wp2_with (go_at_call 62; refine (V.out _ C.out).mono ?_; rintro e w1 ⟨rfl, hB⟩; have B1 := Lib.hid hB; clear hB)
    go_returns
    exact ⟨rfl, B1.out⟩
end Go.Proofs.YtllhglakihfjmaaDoor

namespace Go.Proofs.YtllhglakihfjmaaDoor
open Go.ChangeShapes Go.WideShapes Go.ChangeAt Go.RowKit

theorem et_drew {B : Nat} {w a : World} (h : Below B w a) : Below B w a.drew := h.trans ⟨rfl, rfl, rfl, Nat.le_refl _, fun _ _ => rfl⟩
set_option maxRecDepth 100000 in
set_option maxHeartbeats 800000 in
theorem sWords_any (w : World) : Calls Tryd.prog 93 #[] w fun e w' => ∃ g, e = .returned (.slice (some ⟨g, 0, none⟩) 5 5) ∧ g < w'.heap.size ∧ (∀ k : Int, 1 ≤ k → k ≤ 4 → w'.cell? ⟨g, k.toNat, none⟩ = some (.string (wdOf k))) ∧ Below w.heap.size w w' := by
  go_enter Tryd.func93, Tryd.ntmps93
  go_wp2
  go_ret
  refine ⟨w.heap.size, rfl, by simp, fun k h1 h4 => ?_, below_new (Below.refl _ _) _⟩
  rw [cell_of_block (block_alloc w _)]
  have h : k = 1 ∨ k = 2 ∨ k = 3 ∨ k = 4 := by omega
  rcases h with rfl | rfl | rfl | rfl <;> rfl

theorem sWordK_any (k : Int) (h1 : 1 ≤ k) (h4 : k ≤ 4) (w : World) : Calls Tryd.prog 93 #[] w fun e w' => ∃ g, e = .returned (.slice (some ⟨g, 0, none⟩) 5 5) ∧ g < w'.heap.size ∧ w'.cell? ⟨g, k.toNat, none⟩ = some (.string (wdOf k)) ∧ Below w.heap.size w w' :=
  (sWords_any w).mono fun _ _ ⟨g, h, l, c, b⟩ => ⟨g, h, l, c k h1 h4, b⟩
theorem sDecH (h : Int) (h0 : 0 ≤ h) (h1 : h ≤ 95) (w : World) : Calls Tryd.prog 74 #[.int .i64 h] w fun e w' => e = .returned (.string (dec2 h.toNat)) ∧ Below w.heap.size w w' := by
  obtain ⟨m, rfl⟩ := Int.eq_ofNat_of_zero_le h0
  exact sDec_any m (by omega) w
set_option maxRecDepth 100000 in
set_option maxHeartbeats 6400000 in
theorem sEt_any (ad : Option Addr) (es : List Ed) (c : Nat) (w : World) (hc : EditsIn w ad es) (e1 : edTil es es.length = true) (l200 : es.length ≤ 200) :
    Calls Tryd.prog 60 #[.slice ad es.length c] w fun e w' => e = .returned (.string (etN es es.length)) ∧ Below w.heap.size w w' := by
  have C := Lib.hid hc
  have OK := Lib.hid fun i (hi : i < es.length) => edTil_at e1 hi
  have SZ := Lib.hid (etN_size OK.out)
  have z10 : (ByteArray.mk #[10]).size = 1 := rfl
  have z32 : (ByteArray.mk #[32]).size = 1 := rfl
  clear hc e1
  go_enter Tryd.func60, Tryd.ntmps60
  go_wp2
  go_loopw [3, 4, 5] (fun v i x wr => ∃ j : Nat, j ≤ es.length ∧ i = .int .i64 (j : Int) ∧ v = .string (etN es j) ∧ Below w.heap.size w wr) (fun _ i _ _ => es.length - (intOf i).toNat)
  case atStart => exact ⟨0, Nat.zero_le _, rfl, rfl, Below.refl _ _⟩
  case round =>
    obtain ⟨j, hj, rfl, rfl, hB⟩ := hrel
    have B5 := Lib.hid hB
    by_cases hjl : j < es.length
    · have hd : decide ((j : Int) < (es.length : Int)) = true := by simpa using hjl
      obtain ⟨hf, b1, o1, rfl, hb1, p0, p1, p2, p3, p4⟩ := C.out j hjl
      have d0 := (hB.cell (p := ⟨b1, o1 + j * 5, none⟩) hb1).trans p0
      have d1 := (hB.cell (p := ⟨b1, o1 + j * 5 + 1, none⟩) hb1).trans p1
      have d2 := (hB.cell (p := ⟨b1, o1 + j * 5 + 2, none⟩) hb1).trans p2
      have d3 := (hB.cell (p := ⟨b1, o1 + j * 5 + 3, none⟩) hb1).trans p3
      have d4 := (hB.cell (p := ⟨b1, o1 + j * 5 + 4, none⟩) hb1).trans p4
      have y1 : b1 < wr.heap.size := Nat.lt_of_lt_of_le hb1 hB.size
      have i1 : (0 : Int) ≤ (j : Int) := by omega
      have i2 : (j : Int) < (es.length : Int) := by omega
      have sz := SZ.out j hj
      have ok := OK.out j hjl
      have NX := Lib.hid (etN_next es j)
      have sl := edL_size ok
      have sw := wdOf_size (edAt es j).k
      obtain ⟨kk1, kk4⟩ := edK ok
      obtain ⟨nm, K⟩ := edOk_inv ok
      have ns := (nameOk_size nm).2
      have hx := hf.2.2.2
      have KE := Lib.hid fun W (h : Below wr.heap.size wr W) => (show W.cell? ⟨b1, o1 + j * 5, none⟩ = some (.int .i8 (edAt es j).k) ∧ W.cell? ⟨b1, o1 + j * 5 + 1, none⟩ = some (.string (edAt es j).s) ∧ W.cell? ⟨b1, o1 + j * 5 + 2, none⟩ = some (.int .i16 (edAt es j).h) ∧ W.cell? ⟨b1, o1 + j * 5 + 3, none⟩ = some (.int .u64 (edAt es j).a) ∧ W.cell? ⟨b1, o1 + j * 5 + 4, none⟩ = some (.int .u64 (edAt es j).b) from ⟨(h.cell y1).trans d0, (h.cell y1).trans d1, (h.cell y1).trans d2, (h.cell y1).trans d3, (h.cell y1).trans d4⟩)
      clear hB p0 p1 p2 p3 p4 hf ok
      have w1k := wdOf_size (edAt es j).k
      have WO := Lib.hid fun W => sWordK_any (edAt es j).k kk1 kk4 W
      rcases K with ⟨hk, hm⟩ | ⟨hk, h0, h1⟩
      · have eL : edL (edAt es j) = cdN (edAt es j).s (hol (hasB (edAt es j).a (edAt es j).b) 96) (hol (hasB (edAt es j).a (edAt es j).b) 96).length := by
          unfold edL; rw [if_pos hk, cdT_ok]
          unfold cardOk; rw [hm, nm]; rfl
        have T := fun g o W q0 q1 q2 => sCt_any (edAt es j).s (edAt es j).a (edAt es j).b ns hx.1 hx.2 g o W q0 q1 q2
        rw [← eL] at T
        replace T := Lib.hid T
        clear eL hm hx ns nm
        generalize edL (edAt es j) = l at *
        generalize wdOf (edAt es j).k = wd at *
        generalize etN es j = t at *
        generalize (edAt es j).k = k at *
        generalize (edAt es j).s = s at *
        generalize (edAt es j).h = h at *
        generalize (edAt es j).a = a at *
        generalize (edAt es j).b = b at *
        have k5 : k < 5 := by omega
        have k0 : 0 ≤ k := by omega
        have s1 : ¬ 9223372036854775807 < wd.size + 1 := by omega
        have s2 : ¬ 9223372036854775807 < t.size + (wd.size + 1) := by omega
        have s3 : ¬ 9223372036854775807 < l.size + 1 := by omega
        have s4 : ¬ 9223372036854775807 < t.size + (wd.size + 1) + (l.size + 1) := by omega
        clear sz sl sw w1k
        by_cases hk1 : k = 1
        · have q1 : (k == 1) = true := by simpa using hk1
          clear hk hk1
          go_wp2_with fail
          go_region_with (go_at_call 93; refine (WO.out _).mono ?_; rintro e w3 ⟨g3, rfl, l3, hg, hB⟩; have tc := hg; have b3 := Lib.hid (show Below wr.heap.size wr w3 from (by first | exact hB | exact (et_drew (Below.refl wr.heap.size wr)).trans hB)); obtain ⟨e0, e1, e2, e3, e4⟩ := KE.out _ b3.out; have y3 : b1 < w3.heap.size := Nat.lt_of_lt_of_le y1 b3.out.size; clear hB hg)
          all_goals go_wp2_with fail
          all_goals go_region_held3 (fun w' => w'.cell? ⟨b1, o1 + j * 5, none⟩ = some (.int .i8 k) ∧ w'.cell? ⟨b1, o1 + j * 5 + 1, none⟩ = some (.string s) ∧ w'.cell? ⟨b1, o1 + j * 5 + 2, none⟩ = some (.int .i16 h) ∧ w'.cell? ⟨b1, o1 + j * 5 + 3, none⟩ = some (.int .u64 a) ∧ w'.cell? ⟨b1, o1 + j * 5 + 4, none⟩ = some (.int .u64 b))
            (first | exact KE.out _ b4.out | exact KE.out _ b3.out | exact KE.out _ (et_drew b3.out) | exact KE.out _ (below_new b3.out _) | exact KE.out _ (et_drew (below_new b3.out _)) | exact KE.out _ (below_new (et_drew b3.out) _) | go_keep)
            (first | (go_at_call 37; refine Calls.mono (T.out _ _ _ ?_ ?_ ?_) ?_; (rw [World.cell?_drew]; exact cell_of_block (block_alloc w3 _) 0); (rw [World.cell?_drew]; exact cell_of_block (block_alloc w3 _) 1); (rw [World.cell?_drew]; exact cell_of_block (block_alloc w3 _) 2); rintro e w4 ⟨rfl, hB⟩; have b4 := Lib.hid (et_next (et_drew (below_new b3.out _)) (Nat.le_refl _) hB); clear hB))
          all_goals go_wp2_with fail
          all_goals exact ⟨⟨j + 1, hjl, by rw [Int.natCast_succ], by rw [NX.out], B5.out.trans (Below.mono b4.out B5.out.size)⟩, by (simp [intOf]) <;> omega⟩
        · have q1 : (k == 1) = false := by simpa using hk1
          have q2 : (k == 2) = true := by simp; omega
          clear hk hk1
          go_wp2_with fail
          go_region_with (go_at_call 93; refine (WO.out _).mono ?_; rintro e w3 ⟨g3, rfl, l3, hg, hB⟩; have tc := hg; have b3 := Lib.hid (show Below wr.heap.size wr w3 from (by first | exact hB | exact (et_drew (Below.refl wr.heap.size wr)).trans hB)); obtain ⟨e0, e1, e2, e3, e4⟩ := KE.out _ b3.out; have y3 : b1 < w3.heap.size := Nat.lt_of_lt_of_le y1 b3.out.size; clear hB hg)
          all_goals go_wp2_with fail
          all_goals go_region_held3 (fun w' => w'.cell? ⟨b1, o1 + j * 5, none⟩ = some (.int .i8 k) ∧ w'.cell? ⟨b1, o1 + j * 5 + 1, none⟩ = some (.string s) ∧ w'.cell? ⟨b1, o1 + j * 5 + 2, none⟩ = some (.int .i16 h) ∧ w'.cell? ⟨b1, o1 + j * 5 + 3, none⟩ = some (.int .u64 a) ∧ w'.cell? ⟨b1, o1 + j * 5 + 4, none⟩ = some (.int .u64 b))
            (first | exact KE.out _ b4.out | exact KE.out _ b3.out | exact KE.out _ (et_drew b3.out) | exact KE.out _ (below_new b3.out _) | exact KE.out _ (et_drew (below_new b3.out _)) | exact KE.out _ (below_new (et_drew b3.out) _) | go_keep)
            (first | (go_at_call 37; refine Calls.mono (T.out _ _ _ ?_ ?_ ?_) ?_; (rw [World.cell?_drew]; exact cell_of_block (block_alloc w3 _) 0); (rw [World.cell?_drew]; exact cell_of_block (block_alloc w3 _) 1); (rw [World.cell?_drew]; exact cell_of_block (block_alloc w3 _) 2); rintro e w4 ⟨rfl, hB⟩; have b4 := Lib.hid (et_next (et_drew (below_new b3.out _)) (Nat.le_refl _) hB); clear hB))
          all_goals go_wp2_with fail
          all_goals exact ⟨⟨j + 1, hjl, by rw [Int.natCast_succ], by rw [NX.out], B5.out.trans (Below.mono b4.out B5.out.size)⟩, by (simp [intOf]) <;> omega⟩
      · have eL : edL (edAt es j) = (edAt es j).s ++ (⟨#[32]⟩ ++ dec2 (edAt es j).h.toNat) := by
          unfold edL; rw [if_neg (by omega)]
        have D := Lib.hid fun W => sDecH (edAt es j).h h0 h1 W
        have sy := dec2_le (n := (edAt es j).h.toNat) (by omega)
        have x1 : IntKind.i64.wrap (edAt es j).h = (edAt es j).h := IntWalk.i64_in _ (by omega)
        rw [eL] at NX
        clear eL hx nm sl h0 h1
        generalize dec2 (edAt es j).h.toNat = y at *
        generalize wdOf (edAt es j).k = wd at *
        generalize etN es j = t at *
        generalize (edAt es j).k = k at *
        generalize (edAt es j).s = s at *
        generalize (edAt es j).h = h at *
        generalize (edAt es j).a = a at *
        generalize (edAt es j).b = b at *
        have k5 : k < 5 := by omega
        have k0 : 0 ≤ k := by omega
        have s1 : ¬ 9223372036854775807 < wd.size + 1 := by omega
        have s2 : ¬ 9223372036854775807 < t.size + (wd.size + 1) := by omega
        have s5 : ¬ 9223372036854775807 < s.size + 1 := by omega
        have s6 : ¬ 9223372036854775807 < s.size + 1 + y.size := by omega
        have s7 : ¬ 9223372036854775807 < s.size + 1 + y.size + 1 := by omega
        have s8 : ¬ 9223372036854775807 < t.size + (wd.size + 1) + (s.size + 1 + y.size + 1) := by omega
        have q1 : (k == 1) = false := by simp; omega
        have q2 : (k == 2) = false := by simp; omega
        clear sz sw w1k ns sy hk
        go_wp2_with fail
        go_region_with (go_at_call 93; refine (WO.out _).mono ?_; rintro e w3 ⟨g3, rfl, l3, hg, hB⟩; have tc := hg; have b3 := Lib.hid (show Below wr.heap.size wr w3 from (by first | exact hB | exact (et_drew (Below.refl wr.heap.size wr)).trans hB)); obtain ⟨e0, e1, e2, e3, e4⟩ := KE.out _ b3.out; have y3 : b1 < w3.heap.size := Nat.lt_of_lt_of_le y1 b3.out.size; clear hB hg)
        all_goals go_wp2_with fail
        all_goals go_region_held3 (fun w' => w'.cell? ⟨b1, o1 + j * 5, none⟩ = some (.int .i8 k) ∧ w'.cell? ⟨b1, o1 + j * 5 + 1, none⟩ = some (.string s) ∧ w'.cell? ⟨b1, o1 + j * 5 + 2, none⟩ = some (.int .i16 h) ∧ w'.cell? ⟨b1, o1 + j * 5 + 3, none⟩ = some (.int .u64 a) ∧ w'.cell? ⟨b1, o1 + j * 5 + 4, none⟩ = some (.int .u64 b))
          (first | exact KE.out _ b4.out | exact KE.out _ b3.out | exact KE.out _ (et_drew b3.out) | go_keep)
          (first | (go_at_call 74; refine (D.out _).mono ?_; rintro e w4 ⟨rfl, hB⟩; have b4 := Lib.hid (show Below wr.heap.size wr w4 from (by first | exact et_next b3.out (Nat.le_refl _) hB | exact et_next (et_drew b3.out) (Nat.le_refl _) hB)); clear hB))
        all_goals go_wp2_with fail
        all_goals exact ⟨⟨j + 1, hjl, by rw [Int.natCast_succ], by rw [NX.out]; simp only [ByteArray.append_assoc], B5.out.trans (Below.mono b4.out B5.out.size)⟩, by (simp [intOf]) <;> omega⟩
    · have e : j = es.length := by omega
      subst e
      have hd : decide ((es.length : Int) < (es.length : Int)) = false := by simp
      clear hB
      go_wp2
      go_ret
      exact ⟨rfl, B5.out⟩

set_option maxRecDepth 100000 in
set_option maxHeartbeats 1600000 in
theorem sEtText_any (ad : Option Addr) (es : List Ed) (c : Nat) (w : World) (hc : EditsIn w ad es) (hn : es.length ≤ 1048576) :
    Calls Tryd.prog 27 #[.slice ad es.length c] w fun e w' => e = .returned (.string (etT es)) ∧ Below w.heap.size w w' := by
  have V := fun W h => sChk_any ad es c W h hn
  have C := Lib.hid hc
  unfold etT
  cases hk : edTil es es.length
  · rw [hk] at V
    have z : edsC es = 1 := edsC_1 hk
    rw [if_neg (by omega)]
    replace V := Lib.hid V
    clear hk hc z
    go_enter Tryd.func27, Tryd.ntmps27
    go_wp2_with (go_at_call 59; refine (V.out _ C.out).mono ?_; rintro e w1 ⟨rfl, hB⟩; have B1 := Lib.hid hB; clear hB)
    go_returns
    exact ⟨rfl, B1.out⟩
  · rw [hk] at V
    by_cases l200 : es.length ≤ 200
    · have T := Lib.hid fun W h => sEt_any ad es c W h hk l200
      have g : decide ((200 : Int) < (es.length : Int)) = false := by simp; omega
      rw [if_pos (edsC_0 hk l200)]
      replace V := Lib.hid V
      clear hk hc
      generalize etN es es.length = t at *
      go_enter Tryd.func27, Tryd.ntmps27
      go_wp2_with (first
        | (go_at_call 59; refine (V.out _ C.out).mono ?_; rintro e w1 ⟨rfl, hB⟩; have B1 := Lib.hid hB; clear hB)
        | (go_at_call 60; refine (T.out _ (editsIn_below C.out B1.out)).mono ?_; rintro e w2 ⟨rfl, hB⟩; have B2 := Lib.hid (B1.out.trans (Below.mono hB B1.out.size)); clear hB))
      go_returns
      exact ⟨rfl, B2.out⟩
    · have g : decide ((200 : Int) < (es.length : Int)) = true := by simp; omega
      have z : edsC es = 3 := edsC_3 hk l200
      rw [if_neg (by omega)]
      replace V := Lib.hid V
      clear hk hc z
      go_enter Tryd.func27, Tryd.ntmps27
      go_wp2_with (go_at_call 59; refine (V.out _ C.out).mono ?_; rintro e w1 ⟨rfl, hB⟩; have B1 := Lib.hid hB; clear hB)
      go_returns
      exact ⟨rfl, B1.out⟩
end Go.Proofs.YtllhglakihfjmaaDoor
