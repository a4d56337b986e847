/- Several texts in one, as a claim has at most 60 files: CtC StT SxT Rng Strs Spl Oth SeqM RdN LnI Masks Arr Hole With MaskOf SmIn FmM RcM TlM Eds Query Open Wear. -/
import Derived.Test.YtnbijfeidgddmaaGreatDoorRsZ0
import Derived.Deep.DeepCutAuto
import Derived.Test.YtnbijfeidgddmaaGreatDoorFrame
import Derived.LaidLaws
import Derived.ChangeArms
import Derived.ChangeVars
import Derived.Lib.LaidTab
import Derived.RangeFuncNested
import Derived.RangeFuncCalls
import Derived.RangeFuncBound
import Derived.RangeFuncLeaves
import Derived.OwnWalkIn
import Derived.TacticsInMore
import Derived.LoopNIn
import Derived.LoopIn
import Derived.Lib.Hide
import Derived.Lib.IndexBytes
import Derived.Lib.ParseIntBTie
import Derived.Lib.SplitLaws
import Derived.Test.YtnbijfeidgddmaaGreatDoorShlL
import Derived.Laws.StructEq
import Derived.Deep.Slices
import Derived.OpenShut
namespace Go.Proofs.YtnbijfeidgddmaaGreatDoor
open Go.ChangeShapes Go.WideShapes Go.ChangeAt Go.RowKit

theorem intsIn_grown {w w' : World} {row : Option Nat} {a : Option Addr} {zs : List Int} (h : IntsIn w a zs) (hg : w.grownBy w' row) (hne : ∀ p, a = some p → row ≠ some p.block) : IntsIn w' a zs := fun i hi => by
  obtain ⟨b, off, ha, hlt, hc⟩ := h i hi
  exact ⟨b, off, ha, Nat.lt_of_lt_of_le hlt hg.size, (World.cell?_of_block (a := ⟨b, off + i, none⟩) (hg.block b hlt (fun e => hne _ ha e.symm))).trans hc⟩
/-- The list lies in another block than the bytes. -/
def NoB (a : Option Addr) (v : Value) : Prop := ∀ p, a = some p → v.ownBlock ≠ some p.block
theorem noB_start {B n : Nat} {zs : List Int} {a : Option Addr} {c : Nat} {w w' : World} {v : Value} {bs : List UInt8} (h : OwnInts B zs (.slice a zs.length c) w) (hv : OwnG n bs v w') (hB : w'.heap.size ≤ B) : NoB a v := by
  intro p hp
  subst hp
  obtain ⟨g, cap, rfl, _, hlt, _⟩ := hv
  have := (World.ownsRow.lt h p.block rfl).1
  intro e
  have e2 : g = p.block := Option.some.inj e
  omega
theorem noB_next {a : Option Addr} {v v' : Value} {w w' : World} {B : Nat} {bs : List UInt8} {zs : List Int} (h : NoB a v) (hi : IntsIn w a zs) (hz : 0 < zs.length) (hG : Grn B bs v w v' w') : NoB a v' := by
  intro p hp
  rcases hG.2.2 with e | ⟨g, e, hg⟩
  · rw [e]; exact h p hp
  · rw [e]
    obtain ⟨b, off, ha, hlt, _⟩ := hi 0 hz
    rw [ha] at hp
    cases hp
    intro q
    have : g = b := Option.some.inj q
    omega
theorem ownG_lt {B : Nat} {bs : List UInt8} {v : Value} {w : World} (h : OwnG B bs v w) : ∀ k, v.ownBlock = some k → B ≤ k := fun k hk => by
  obtain ⟨g, cap, rfl, h1, _⟩ := h
  have : g = k := Option.some.inj hk
  omega
theorem newB (W : World) (t : TypeId) : (W.alloc (.cells #[.int .u8 32] t)).cell? ((⟨W.heap.size, 0, none⟩ : Addr).add 0) = some (.int .u8 ((32 : UInt8).toNat : Int)) := by
  simp [Addr.add]

set_option maxRecDepth 100000 in
set_option maxHeartbeats 3200000 in
theorem iCardText_any (s : ByteArray) (a b : Int) (hs : s.size ≤ maxLen) (ha : U64 a) (hb : U64 b) (w : World) :
    Calls Tryz.prog 59 #[.agg #[.string s, .int .u64 a, .int .u64 b]] w fun e w' => e = .returned (.string (cdT s a b)) ∧ Below w.heap.size w w' := by
  obtain ⟨i0, hi, hz0, hz1, hz2⟩ := info_parts info_by
  have V := fun W => iValidCard_any s a b hs W
  have BX := Lib.hid (below_new (Below.refl w.heap.size w) (.cells #[.string s, .int .u64 a, .int .u64 b] 80))
  have NX := Lib.hid (block_alloc w (.cells #[.string s, .int .u64 a, .int .u64 b] 80))
  unfold cdT
  cases hk : cardOk s b
  · rw [hk] at V
    replace V := Lib.hid V
    simp only [Bool.false_eq_true, if_false]
    clear hk ha hb hs
    go_enter Tryz.func59, Tryz.ntmps59
    go_wp2_with (go_at_call 84; refine (V.out _).mono ?_; rintro e w1 ⟨rfl, hB⟩; have B1 := Lib.hid (BX.out.trans (Below.mono hB BX.out.size)); clear hB)
    go_returns
    exact ⟨rfl, B1.out⟩
  · rw [hk] at V
    have hk2 := hk
    unfold cardOk at hk2
    rw [Bool.and_eq_true] at hk2
    obtain ⟨ns1, ns2⟩ := nameOk_size hk2.1
    have HI := fun W => iHolesIn_any a b ha hb W
    have mk : (b / 4294967296 == 0) = true := hk2.2
    rw [hz_yes _ mk, hzC_yes mk] at HI
    have hl := hol_len (hasB a b) 96
    have HM := fun j hj => hol_atX (f := hasB a b) (n := 96) (j := j) hj
    simp only [if_true]
    generalize hol (hasB a b) 96 = zs at *
    have CS := Lib.hid (cdN_size s (zs := zs) HM)
    have CP := Lib.hid (cdN_pos (s := s) (by omega) zs)
    have CB := Lib.hid (cdN_bytes s zs)
    replace HM := Lib.hid HM
    replace V := Lib.hid V
    replace HI := Lib.hid HI
    obtain ⟨cV, cH0⟩ := Classical.axiomOfChoice (fun W => conv_toG (P := Tryz.prog) (src := 9) (dst := 76) (e := 5) s W Tryz.underlying9 Tryz.underlying76 Tryz.underlying5)
    obtain ⟨cW, cH⟩ := Classical.axiomOfChoice cH0
    have cv := fun W => (cH W).1
    have CG := Lib.hid fun W => (cH W).2
    clear hk hk2 mk ha hb hs cH cH0
    have tok1 : True := trivial
    go_enter Tryz.func59, Tryz.ntmps59
    go_upto_region 4 with (go_at_call 84; refine (V.out _).mono ?_; rintro e w1 ⟨rfl, hB⟩; have B1 := Lib.hid (BX.out.trans (Below.mono hB BX.out.size)); have N1 := Lib.hid (Ab.block hB NX.out); have k1 := cell_of_block N1.out; have z1 := lt_of_block N1.out; clear hB)
    obtain ⟨hO2, hB2⟩ := CG.out w1
    have N2 := Lib.hid (Ab.block hB2 N1.out)
    have B2 := Lib.hid (B1.out.trans (Below.mono hB2 B1.out.size))
    have O2 := Lib.hid (ownG_weak hO2 B1.out.size)
    clear k1 z1 cv CG hO2 hB2
    generalize cW w1 = w2 at *
    generalize cV w1 = v2 at *
    obtain ⟨g2, p2, hv, _⟩ := O2.out
    subst hv
    have k1 := cell_of_block N2.out
    have z1 := lt_of_block N2.out
    go_wp2_with (go_at_call 54; refine (HI.out _).mono ?_; rintro e w3 ⟨v3, rfl, hO, hB⟩; have I3 := Lib.hid hO; have A3 := Lib.hid (show Ab w2 w3 from hB); obtain ⟨a3, c3, hv, _⟩ := ownInts_in hO; subst hv; clear hO hB k1 z1)
    have P3 := Lib.hid (noB_start I3.out O2.out (Nat.le_refl _))
    have X3 := Lib.hid (show IntsIn w3 a3 zs from by obtain ⟨_, _, hv, hi⟩ := ownInts_in I3.out; cases hv; exact hi)
    have B3 := Lib.hid (B2.out.trans (Below.mono A3.out B2.out.size))
    have O3 := Lib.hid (ownG_kept O2.out A3.out)
    clear I3
    go_loopw [3, 22] (fun v i wr => ∃ j : Nat, j ≤ zs.length ∧ i = .int .i64 (j : Int) ∧ OwnG w.heap.size (cdN s zs j).data.toList v wr ∧ Below w.heap.size w wr ∧ IntsIn wr a3 zs ∧ NoB a3 v) (fun _ i _ => zs.length - (intOf i).toNat)
    case atStart => exact ⟨0, Nat.zero_le _, rfl, O3.out, B3.out, X3.out, P3.out⟩
    case round =>
      obtain ⟨j, hj, rfl, hO, hB, hI, hN⟩ := hrel
      have O5 := Lib.hid hO
      have B5 := Lib.hid hB
      have I5 := Lib.hid hI
      have N5 := Lib.hid hN
      clear hO hN
      by_cases hjl : j < zs.length
      · have hd : decide ((j : Int) < (zs.length : Int)) = true := by simpa using hjl
        obtain ⟨b1, o1, ha3, y1, d0⟩ := hI j hjl
        subst ha3
        have i1 : (0 : Int) ≤ (j : Int) := by omega
        have i2 : (j : Int) < (zs.length : Int) := by omega
        obtain ⟨h0, h1⟩ := HM.out j hjl
        have cs := CS.out j hj
        have cp := CP.out j
        have cb := Lib.hid (CB.out j)
        have sl : (cdN s zs j).data.toList.length = (cdN s zs j).size := Array.length_toList
        obtain ⟨m, hm⟩ := Int.eq_ofNat_of_zero_le h0
        rw [hm] at d0 h1 cb
        rw [Int.toNat_natCast] at cb
        have hm1 : m < 96 := by omega
        have s5 := B5.out.size
        have NB := Lib.hid (below_new (Below.refl wr.heap.size wr) (.cells #[.int .u8 32] 5))
        have OA := Lib.hid (ownG_kept O5.out NB.out)
        have IA := Lib.hid (show IntsIn (wr.alloc (.cells #[.int .u8 32] 5)) (some ⟨b1, o1, none⟩) zs from intsIn_below I5.out NB.out)
        have zl : 0 < zs.length := by omega
        have hbl : (cdN s zs j).data.toList.length ≤ 400 := by omega
        have hb0 : 0 < (cdN s zs j).data.toList.length := by omega
        clear h0 h1 hm cs cp sl hI hB
        generalize (cdN s zs j).data.toList = bs at *
        go_wp2_with (first
          | (at_builtin; refine wp_pushG _ rfl _ _ 76 rfl 5 i0 Tryz.underlying76 hi hz0 hz1 hz2 w.heap.size bs _ rfl OA.out (by simp; omega) (by omega) ⟨wr.heap.size, 0, none⟩ 1 32 rfl (newB _ _) ?_; intro v6 w6 hG; have G6 := Lib.hid hG; have I6 := Lib.hid (intsIn_grown IA.out hG.2.1 N5.out); have N6 := Lib.hid (noB_next N5.out IA.out zl hG); have B6 := Lib.hid (Below.grown (below_new B5.out (.cells #[.int .u8 32] 5)) hG.2.1 (by simp; omega) (ownG_lt O5.out)); clear hG)
          | (go_at_call 45; refine (appI_any w.heap.size (bs ++ [32]) _ m (by omega) _ G6.out.1 B6.out.size (by rw [List.length_append]; simp; omega) (by rw [List.length_append]; simp)).mono ?_; rintro e w7 ⟨v7, rfl, hG⟩; have G7 := Lib.hid hG; have I7 := Lib.hid (intsIn_grown I6.out hG.2.1 N6.out); have N7 := Lib.hid (noB_next N6.out I6.out zl hG); have B7 := Lib.hid (Below.grown B6.out hG.2.1 B6.out.size (ownG_lt G6.out.1)); clear hG))
        exact ⟨⟨j + 1, hjl, by rw [Int.natCast_succ], by rw [← cb.out]; exact G7.out.1, B7.out, I7.out, N7.out⟩, by (simp [intOf]) <;> omega⟩
      · have e : j = zs.length := by omega
        subst e
        have hd : decide ((zs.length : Int) < (zs.length : Int)) = false := by simp
        have cvb := conv_backG (P := Tryz.prog) (src := 76) (dst := 9) (e := 5) O5.out Tryz.underlying76 Tryz.underlying5 Tryz.underlying9
        have BE := Lib.hid (back_eq (cdN s zs zs.length))
        generalize (cdN s zs zs.length).data.toList = bs at *
        obtain ⟨g5, p5, hv, _⟩ := O5.out
        subst hv
        clear hB hI
        go_wp2
        go_returns
        exact ⟨ret_strC BE.out, B5.out⟩
end Go.Proofs.YtnbijfeidgddmaaGreatDoor

namespace Go.Proofs.YtnbijfeidgddmaaGreatDoor
open Go.ChangeShapes Go.WideShapes Go.ChangeAt Go.RowKit

/-- A table of texts, as a row lists it. -/
def txData {H : Type} (zs : List (List UInt8)) : DataW H := .agg (zs.map fun z => .lit (.string z))
def txCells (zs : List (List UInt8)) : List Value := zs.map fun z => .string ⟨z.toArray⟩
/-- The variable holds just these texts. -/
def TxIs (P : Program) (w : World) (name : String) (zs : List (List UInt8)) : Prop := w.var? P name = some (txCells zs).toArray
theorem cells_of_tx {H : Type} {enc : TypeId × Value → H} {P : Program} {w : World} {base : Nat} {sp : Nat → Bool} {held : Bool} {fuel : Nat} {t e : TypeId} {n : Nat} {cs : List Value} {zs : List (List UInt8)} {p : List MemPlace}
    (ht : P.underlying t = some (.array n e)) (he : P.underlying e = some .string) (hce : P.cellsOf e = 1) (hct : P.cellsOf t = n)
    (h : DataW.trod enc P w base sp held fuel t cs = some (txData zs, p)) : cs = txCells zs := by
  cases fuel with
  | zero => simp [DataW.trod] at h
  | succ fuel =>
    simp only [DataW.trod, ht, hce, hct, Nat.mul_one] at h
    split at h
    · rename_i hl
      obtain ⟨xs, hm, hx⟩ := Option.map_eq_some_iff.1 h
      have hxs : xs.map (·.1) = zs.map fun z => (DataW.lit (.string z) : DataW H) := by
        have := congrArg Prod.fst hx
        simpa [txData] using this
      have hxl : xs.length = n := by simpa using Lib.mapM_length hm
      have hzl : zs.length = n := by
        have := congrArg List.length hxs
        simp at this
        omega
      unfold txCells
      apply List.ext_getElem?
      intro i
      by_cases hi : i < n
      · obtain ⟨b, hb, hf⟩ := Lib.mapM_at hm i i (by simp [hi])
        obtain ⟨s, hc, rfl, _⟩ := DataW.trod_string he hf
        have h1 : cs[i]? = some (.string s) := by
          have := congrArg (·[0]?) hc
          simpa [List.getElem?_take, List.getElem?_drop] using this
        have h2 : (xs.map (·.1))[i]? = some (DataW.lit (.string s.data.toList) : DataW H) := by simp [hb]
        rw [hxs] at h2
        simp only [List.getElem?_map, Option.map_eq_some_iff, DataW.lit.injEq, Lit.string.injEq] at h2
        obtain ⟨z', hz', rfl⟩ := h2
        simp [h1, hz']
      · rw [List.getElem?_eq_none (by omega), List.getElem?_eq_none (by simp; omega)]
    · cases h
theorem tx_of_laid {P : Program} {n0 n1 n2 n3 : String} {d0 d1 d2 : DataW Unit} {zs : List (List UInt8)} {r : List (String × DataW Unit)} {W : World} {g : Nat} {t e : TypeId} {n : Nat}
    (h : laidMet P ((n0, d0) :: (n1, d1) :: (n2, d2) :: (n3, txData zs) :: r) W)
    (hg : P.globalNamed n3 = some g) (hty : (P.globals[g]?).map (·.type) = some t) (ht : P.underlying t = some (.array n e)) (he : P.underlying e = some .string) (hce : P.cellsOf e = 1) (hct : P.cellsOf t = n) : TxIs P W n3 zs := by
  obtain ⟨ps, ⟨g0', t0', cs0, f0, p0, q0, hg0', ht0', hv0, hd0, ⟨g1', t1', cs1, f1, p1, q1, hg1', ht1', hv1, hd1, ⟨g2', t2', cs2, f2, p2, q2, hg2', ht2', hv2, hd2, ⟨g3', t3', cs3, f3, p3, q3, hg3', ht3', hv3, hd3, _, _⟩, _⟩, _⟩, _⟩, _, _⟩ := h
  obtain rfl := Option.some.inj (hg.symm.trans hg3')
  obtain rfl := Option.some.inj (hty.symm.trans ht3')
  unfold TxIs
  rw [hv3, ← cells_of_tx ht he hce hct hd3]
theorem tx_below {P : Program} {W W' : World} {n : String} {zs : List (List UInt8)} (h : TxIs P W n zs) (hb : Below W.heap.size W W') : TxIs P W' n zs := by
  unfold TxIs World.var? at h ⊢
  cases hg : P.globalNamed n with
  | none => simp [hg] at h
  | some g =>
    simp only [hg, Option.bind_some] at h ⊢
    have hlt : g < W.heap.size := by
      rcases Nat.lt_or_ge g W.heap.size with h' | h'
      · exact h'
      · simp [Array.getElem?_eq_none h'] at h
    rw [hb.block g hlt]
    exact h
theorem tx_cell {P : Program} {W : World} {n : String} {zs : List (List UInt8)} {g : Nat} (h : TxIs P W n zs) (hg : P.globalNamed n = some g) (i : Nat) (hi : i < zs.length) :
    W.cell? ⟨g, i, none⟩ = some (.string ⟨(zs.getD i []).toArray⟩) := by
  have := World.var?_cell hg h i
  simpa [txCells, List.getD, hi] using this
theorem tx_trod {H : Type} (enc : TypeId × Value → H) {P : Program} {w : World} {base : Nat} {sp : Nat → Bool} {held : Bool} {t e : TypeId} {n : Nat} {zs : List (List UInt8)}
    (ht : P.underlying t = some (.array n e)) (he : P.underlying e = some .string) (hce : P.cellsOf e = 1) (hct : P.cellsOf t = n) (hn : zs.length = n) (hz : ∀ z ∈ zs, z.length ≤ 100) :
    ∃ p, DataW.trod enc P w base sp held 2 t (txCells zs) = some (txData zs, p) := by
  have key : ∀ i, i < n → DataW.trod enc P w base sp held 1 e (((txCells zs).drop i).take 1) = some (.lit (.string (zs.getD i [])), []) := by
    intro i hi
    have h1 : ((txCells zs).drop i).take 1 = [.string ⟨(zs.getD i []).toArray⟩] := by
      have hl : i < (txCells zs).length := by unfold txCells; simp; omega
      rw [List.drop_eq_getElem_cons hl]
      simp [txCells, List.getD, show i < zs.length by omega]
    have hs : (ByteArray.mk (zs.getD i []).toArray).size ≤ maxLen := by
      have : zs.getD i [] ∈ zs := by
        rw [List.getD, List.getElem?_eq_getElem (by omega)]
        exact List.getElem_mem _
      have := hz _ this
      show (zs.getD i []).toArray.size ≤ maxLen
      rw [List.size_toArray]
      unfold maxLen
      omega
    rw [h1]
    unfold DataW.trod
    rw [he]
    simp only [hs, if_true]
  have hm : (List.range n).mapM (fun i => DataW.trod enc P w base sp held 1 e (((txCells zs).drop i).take 1)) = some ((List.range n).map fun i => ((.lit (.string (zs.getD i [])) : DataW H), ([] : List MemPlace))) := by
    have go : ∀ l : List Nat, (∀ i ∈ l, i < n) → l.mapM (fun i => DataW.trod enc P w base sp held 1 e (((txCells zs).drop i).take 1)) = some (l.map fun i => ((.lit (.string (zs.getD i [])) : DataW H), ([] : List MemPlace))) := by
      intro l
      induction l with
      | nil => intro _; rfl
      | cons a l ih =>
        intro hl
        rw [List.mapM_cons, key a (hl a (by simp)), ih fun i hi => hl i (by simp [hi])]
        rfl
    exact go _ fun i hi => List.mem_range.1 hi
  have hl : (txCells zs).length = n := by unfold txCells; simpa using hn
  have hd : ((List.range n).map fun i => ((.lit (.string (zs.getD i [])) : DataW H), ([] : List MemPlace))).map (·.1) = zs.map fun z => (.lit (.string z) : DataW H) := by
    apply List.ext_getElem?
    intro i
    by_cases hi : i < n
    · simp [hi, List.getD, show i < zs.length by omega]
    · rw [List.getElem?_eq_none (by simp; omega), List.getElem?_eq_none (by simp; omega)]
  refine ⟨((List.range n).map fun i => ((.lit (.string (zs.getD i [])) : DataW H), ([] : List MemPlace))).flatMap (·.2), ?_⟩
  generalize ((List.range n).map fun i => ((.lit (.string (zs.getD i [])) : DataW H), ([] : List MemPlace))) = xs at *
  show DataW.trod enc P w base sp held (1 + 1) t (txCells zs) = _
  generalize txCells zs = cs at *
  unfold DataW.trod
  rw [ht]
  simp only [hce, hct, Nat.mul_one, hl, if_true, hm, Option.map_some, hd]
  rfl
/-- It reads as data, in whatever world in which it holds these texts. -/
theorem tx_vars {H : Type} (enc : TypeId × Value → H) {P : Program} {w : World} {sp : Nat → Bool} {name : String} {g : Nat} {t e : TypeId} {n : Nat} {zs : List (List UInt8)}
    (h : TxIs P w name zs) (hg : P.globalNamed name = some g) (hty : (P.globals[g]?).map (·.type) = some t) (ht : P.underlying t = some (.array n e)) (he : P.underlying e = some .string) (hce : P.cellsOf e = 1) (hct : P.cellsOf t = n) (hn : zs.length = n) (hz : ∀ z ∈ zs, z.length ≤ 100) :
    ∃ ps, DataW.TrodVars enc P w sp [name] [txData zs] ps := by
  obtain ⟨p, hp⟩ := tx_trod enc (w := w) (base := 0) (sp := sp) (held := true) ht he hce hct hn hz
  exact ⟨_, trodVars_mk1 hg hty h hp⟩
theorem law_postT {H : Type} {enc : TypeId × Value → H} {P : Program} (hl : laidOutB P = true) {f : Func} {s : ChangeSpec} {bt : TypeId} (hres : f.resultTypes = #[bt]) (hbt : P.underlying bt = some .bool)
    (hread : ∀ t ∈ f.params.toList, P.readableRec t = true ∧ t < P.types.size)
    {W W' : World} {args : Array Value} {ds gs : List (DataW H)} {before pv : List MemPlace}
    (hW : DataW.Whole enc P f.params.toList s.vars false W args.toList ds gs before)
    (hs1 : (s.fn H (ds ++ gs)).results = [.lit (.bool true)]) (hs2 : (s.fn H (ds ++ gs)).args = ds) (hs3 : (s.fn H (ds ++ gs)).vars = gs)
    (hv : DataW.TrodVars enc P W' (fun b => decide (b < W.heap.size)) s.vars gs pv)
    (hb : Below W.heap.size W W') :
    s.post enc P f false true false false W args (.bool true) W' := by
  have hW' := hW
  obtain ⟨p, q, hA, hV, rfl, hfz, hnd⟩ := hW
  have hlt : ∀ x ∈ p, x.block < W.heap.size := fun x hx => hW'.lt x (List.mem_append_left _ hx)
  refine ⟨ds, gs, _, [], p, pv, hW', ?_, ?_, ?_, hb.frame _, fun h => by cases h⟩
  · rw [hres, hs1]
    exact trodAll_mk1 (shut_bool hbt _)
  · rw [hs2]
    exact below_trodAll hl hb _ _ _ _ hread hA hlt
  · rw [hs3]
    exact hv
end Go.Proofs.YtnbijfeidgddmaaGreatDoor

namespace Go.Proofs.YtnbijfeidgddmaaGreatDoor
open Go.ChangeShapes Go.WideShapes Go.ChangeAt Go.RowKit

def kdWd : List (List UInt8) := [[100, 105, 114, 101, 99, 116], [115, 117, 109], [112, 97, 105, 114, 115], [98, 105, 110, 97, 114, 121]]
/-- The word of a kind. -/
def kwOf (k : Int) : ByteArray := ⟨(kdWd.getD k.toNat []).toArray⟩
theorem kdWd_size : ∀ i : Nat, (kdWd.getD i []).length ≤ 6
  | 0 => by decide
  | 1 => by decide
  | 2 => by decide
  | 3 => by decide
  | _ + 4 => Nat.zero_le _
theorem kwOf_size (k : Int) : (kwOf k).size ≤ 6 := by
  unfold kwOf
  show (kdWd.getD k.toNat []).toArray.size ≤ 6
  rw [List.size_toArray]
  exact kdWd_size _
def fdL (s kw d1 d2 : ByteArray) : ByteArray := ((((((s ++ ⟨#[32]⟩) ++ kw) ++ ⟨#[32]⟩) ++ d1) ++ ⟨#[32]⟩) ++ d2) ++ ⟨#[10]⟩
/-- The text of the first n fields. -/
def fsN (fs : List Fd) : Nat → ByteArray
  | 0 => ByteArray.empty
  | n + 1 => fsN fs n ++ fdL (fdAt fs n).s (kwOf (fdAt fs n).k) (dec2 (fdAt fs n).t.toNat) (dec2 (fdAt fs n).z.toNat)
theorem fsN_next (fs : List Fd) (n : Nat) : fsN fs (n + 1) = fsN fs n ++ fdL (fdAt fs n).s (kwOf (fdAt fs n).k) (dec2 (fdAt fs n).t.toNat) (dec2 (fdAt fs n).z.toNat) := rfl
theorem fdL_bytes (t s kw d1 d2 : ByteArray) : (t ++ fdL s kw d1 d2).data.toList = ((((((((t.data.toList ++ s.data.toList) ++ [32]) ++ kw.data.toList) ++ [32]) ++ d1.data.toList) ++ [32]) ++ d2.data.toList) ++ [10]) := by
  unfold fdL
  simp only [ByteArray.data_append, Array.toList_append, List.append_assoc]
theorem fdL_size (s kw d1 d2 : ByteArray) : (fdL s kw d1 d2).size = s.size + 1 + kw.size + 1 + d1.size + 1 + d2.size + 1 := by
  unfold fdL
  simp only [ByteArray.size_append]
  have e : (⟨#[10]⟩ : ByteArray).size = 1 := rfl
  have e2 : (⟨#[32]⟩ : ByteArray).size = 1 := rfl
  omega
/-- What is known of a valid field. -/
theorem fd_inv {s : ByteArray} {k t z : Int} (h : fieldOk s k t z = true) : 1 ≤ s.size ∧ s.size ≤ 16 ∧ 0 ≤ k ∧ k ≤ 3 ∧ 0 ≤ t ∧ t ≤ 95 ∧ 0 ≤ z ∧ z ≤ 95 := by
  unfold fieldOk at h
  simp only [Bool.and_eq_true, decide_eq_true_eq] at h
  obtain ⟨hn, h1, h2, h3, h4, h5, h6⟩ := h
  have hs := nameOk_size hn
  have hm : mostZ k ≤ 24 := by unfold mostZ; split <;> (try split) <;> omega
  have hw : 1 ≤ widthZ k z := by unfold widthZ; split <;> (try split) <;> (try split) <;> omega
  omega
theorem fsN_size {fs : List Fd} (h : ∀ i, i < fs.length → fieldOk (fdAt fs i).s (fdAt fs i).k (fdAt fs i).t (fdAt fs i).z = true) : ∀ n, n ≤ fs.length → (fsN fs n).size ≤ 32 * n
  | 0, _ => Nat.le_refl _
  | n + 1, hn => by
    have ih := fsN_size h n (by omega)
    have h2 := fd_inv (h n (by omega))
    have h3 := kwOf_size (fdAt fs n).k
    have h4 := dec2_le (n := (fdAt fs n).t.toNat) (by omega)
    have h5 := dec2_le (n := (fdAt fs n).z.toNat) (by omega)
    rw [fsN_next, ByteArray.size_append, fdL_size]
    omega
theorem sx_next {B : Nat} {w a b : World} (h : Below B w a) (hB : B ≤ w.heap.size) (k : Below a.heap.size a b) : Below B w b := h.trans (Below.mono k (Nat.le_trans hB h.size))
/-- Bytes of the call's own, or none yet. -/
def OwnS (B : Nat) (bs : List UInt8) (v : Value) (w : World) : Prop := (bs = [] ∧ v = .slice none 0 0) ∨ (0 < bs.length ∧ OwnG B bs v w)
theorem ownS_lt {B : Nat} {bs : List UInt8} {v : Value} {w : World} (h : OwnS B bs v w) : ∀ k, v.ownBlock = some k → B ≤ k ∧ k < w.heap.size := fun k hk => by
  rcases h with ⟨_, rfl⟩ | ⟨_, g, cap, rfl, h1, h2, _⟩
  · simp [Value.ownBlock] at hk
  · simp [Value.ownBlock] at hk
    subst hk
    exact ⟨h1, h2⟩
theorem ownS_kept {B : Nat} {bs : List UInt8} {v : Value} {w w' : World} (h : OwnS B bs v w) (hb : Below w.heap.size w w') : OwnS B bs v w' := by
  rcases h with h | h
  · exact .inl h
  · exact .inr ⟨h.1, ownG_kept h.2 hb⟩
/-- A text more, that is not empty. -/
theorem wp_pushS0 {P : Program} (w : World) {ops : Array Oper} {rest : List Oper} {o : Oper} {a : Act} {Q : Exit → Act → World → Prop} (hgd : o.guard = none) (s x : Operand) (t u : TypeId)
    (ho : o.op = .call { callee := .builtin .append, args := #[s, x], argTypes := #[t, u] }) (e : TypeId) (i : TypeInfo) (ht : P.underlying t = some (.slice e)) (hu : P.underlying u = some .string) (hi : P.info? e = some i) (hz : i.zero = some (.int .u8 0)) (hs1 : i.size = 1) (hb1 : i.bytes = 1)
    (B : Nat) (bs : List UInt8) (v : Value) (hs : a.eval s = v) (hO : OwnS B bs v w) (hB : B ≤ w.heap.size) (hl : bs.length ≤ 100000) (z : ByteArray) (hx : a.eval x = .string z) (hsz : z.size ≤ 100000) (hz0 : 0 < z.size)
    (h : ∀ v' w', Grn B (bs ++ z.data.toList) v w v' w' → wpList P ops Q rest (a.put o.dst v') w') : wpList P ops Q (o :: rest) a w := by
  rcases hO with ⟨rfl, hv⟩ | hG
  · subst hv
    refine Lib.wpList_append_own_string w hgd s x t u ho w.heap.size e i ht hu hi hz hs1 hb1 (.slice none 0 0) 0 [] hs (World.ownsRow_nil _ _ _ _) z hx (by unfold maxLen; omega) (by omega) (Nat.le_refl _) fun v' w' hown hgr _ => ?_
    have sl : z.data.toList.length = z.size := Array.length_toList
    have hr : w'.ownsRow w.heap.size e 1 v' z.data.toList.length (Lib.byteCells z.data.toList) := by
      rw [sl, ← Lib.strCells_eq]
      simpa using hown
    have hG := ownG_of_row hr (by omega)
    refine h v' w' ⟨ownG_weak hG hB, hgr, .inr ?_⟩
    obtain ⟨g2, c2, rfl, q, _⟩ := hG
    exact ⟨g2, rfl, q⟩
  · exact wp_pushS w hgd s x t u ho e i ht hu hi hz hs1 hb1 B bs v hs hG.2 hB hl hG.1 z hx hsz h
/-- A box that no append writes. -/
def BoxK (X : Nat) (o : Obj) (v : Value) (w : World) : Prop := w.heap[X]? = some o ∧ v.ownBlock ≠ some X
theorem boxK_start {B : Nat} {bs : List UInt8} {v : Value} {w : World} (h : OwnS B bs v w) (o : Obj) : BoxK w.heap.size o v (w.alloc o) :=
  ⟨block_alloc w o, fun e => absurd (ownS_lt h _ e).2 (Nat.lt_irrefl _)⟩
theorem boxK_alloc {X : Nat} {o : Obj} {v : Value} {w : World} (h : BoxK X o v w) (p : Obj) : BoxK X o v (w.alloc p) :=
  ⟨(Below.heap_alloc w p X (lt_of_block h.1)).trans h.1, h.2⟩
theorem boxK_next {B X : Nat} {o : Obj} {bs : List UInt8} {v v' : Value} {w w' : World} (h : BoxK X o v w) (hG : Grn B bs v w v' w') : BoxK X o v' w' := by
  have hl := lt_of_block h.1
  refine ⟨(hG.2.1.block X hl (fun e => h.2 e.symm)).trans h.1, ?_⟩
  rcases hG.2.2 with e | ⟨g, e, hg⟩
  · rw [e]; exact h.2
  · rw [e]
    intro k
    cases k
    omega
theorem newB10 (W : World) (t : TypeId) : (W.alloc (.cells #[.int .u8 10] t)).cell? ((⟨W.heap.size, 0, none⟩ : Addr).add 0) = some (.int .u8 ((10 : UInt8).toNat : Int)) := by
  simp [Addr.add]
theorem kw_g : Tryz.prog.globalNamed "loop.example/g01261/impl.kindWords" = some 0 := by kernel_rfl
theorem kw_cell {W : World} (h : TxIs Tryz.prog W "loop.example/g01261/impl.kindWords" kdWd) {k : Int} (h0 : 0 ≤ k) (h1 : k ≤ 3) : W.cell? ⟨0, k.toNat, none⟩ = some (.string (kwOf k)) :=
  tx_cell h kw_g k.toNat (by show k.toNat < 4; omega)
end Go.Proofs.YtnbijfeidgddmaaGreatDoor

namespace Go.Proofs.YtnbijfeidgddmaaGreatDoor
open Go.ChangeShapes Go.WideShapes Go.ChangeAt Go.RowKit

/-- An iterator's word: between two rounds it takes steps of the kind St alone; a round keeps what Kp says. -/
def SeqBy {α : Type} (P : Program) (gf : Nat) (lb : Array Value) (encs : α → Array Value) (Kp St : World → World → Prop) (S Sp : List α → Prop) (Ask : List α → α → Prop) (Bd : List α → Prop) (w : World) : Prop :=
  ∀ (l : Nat) (J Jx : List α → World → Prop) (W : World), Below w.heap.size w W → (∀ s A B, J s A → St A B → J s B) → (∀ s A B, Jx s A → St A B → Jx s B) → (∀ s A, J s A → Bd s) →
    (∀ pre x W1, J pre W1 → Ask pre x → YieldAt Fence.wide 0 P l (encs x) W1 fun e W2 =>
      (e = .returned (.bool true) ∧ J (pre ++ [x]) W2 ∧ Kp W1 W2) ∨ (e = .returned (.bool false) ∧ Jx (pre ++ [x]) W2)) →
    J [] W →
    CallsIn Fence.wide 0 P gf (#[.func (.yield l) #[] #[]] ++ lb) W fun e W2 => (∃ v, e = .returned v) ∧ ((∃ xs, S xs ∧ J xs W2) ∨ (∃ pre, Sp pre ∧ Jx pre W2))

/-- The loop's own two blocks lie as they lay. -/
def Kept (D : Nat) (A B : World) : Prop := B.heap[D]? = A.heap[D]? ∧ B.heap[D + 1]? = A.heap[D + 1]?
theorem Kept.refl (D : Nat) (A : World) : Kept D A A := ⟨rfl, rfl⟩
theorem Kept.trans {D : Nat} {A B C : World} (h : Kept D A B) (k : Kept D B C) : Kept D A C := ⟨k.1.trans h.1, k.2.trans h.2⟩
theorem Kept.of {D : Nat} {A B : World} (h : Below A.heap.size A B) (hd : D + 1 < A.heap.size) : Kept D A B := ⟨h.block D (by omega), h.block (D + 1) hd⟩
theorem Kept.set {D b : Nat} (A : World) (j : Nat) (v : Value) (hb : b < D) : Kept D A (A.setCell ⟨b, j, none⟩ v) :=
  ⟨Below.heap_setCell _ _ _ _ (by simp; omega), Below.heap_setCell _ _ _ _ (by simp; omega)⟩

/-- How a round's body may be left. -/
def RdPost {α : Type} (D : Nat) (Kp : World → World → Prop) (I : List α → World → Prop) (Ix : Code → List α → World → Prop) (xs : List α) (W : World) : Exit → Act → World → Prop
  | .normal, _, W2 => Kept D W W2 ∧ Kp W W2 ∧ I xs W2
  | .ret, _, W2 => Kept D W W2 ∧ Ix .ret xs W2
  | .exit id, _, W2 => Kept D W W2 ∧ Ix (.exit id) xs W2
  | .goto t, _, W2 => Kept D W W2 ∧ Ix (.goto t) xs W2
  | .panic _, _, _ => False
  | .outgrown, _, _ => False

theorem below_put {W : World} {D k : Nat} {o : Obj} (h : D ≤ k) : Below D W (W.putObj k o) :=
  ⟨rfl, rfl, rfl, by simp, fun j hj => World.putObj_heap_other (by omega)⟩

set_option maxHeartbeats 1000000 in
theorem wp_range {α : Type} {P : Program} {g : Operand} {ps : Array Tmp} {assign body : Code} {Q : Exit → Act → World → Prop} {a : Act} {w : World}
    {gf : Nat} {lb : Array Value} (hg : a.eval g = .func (.func gf) #[] lb) (eg : ∀ args w, (callFunc gf args).run P w = .ok (.enter gf args) w)
    {encs : α → Array Value} {Kp St : World → World → Prop} {S Sp : List α → Prop} {Ask : List α → α → Prop} {Bd : List α → Prop}
    (hseq : SeqBy P gf lb encs Kp St S Sp Ask Bd w) (hps : ∀ x, (encs x).size = ps.size)
    (hKt : ∀ {A B C : World}, Kp A B → Kp B C → Kp A C) (hKb : ∀ A B, Below w.heap.size A B → Kp A B)
    (hSt : ∀ A B, St A B → ∀ k, w.heap.size ≤ k → k < A.heap.size → B.heap[k]? = A.heap[k]?)
    (I : List α → World → Prop) (Ix : Code → List α → World → Prop)
    (hI : ∀ s A B, I s A → St A B → I s B) (hIx : ∀ c s A B, Ix c s A → St A B → Ix c s B)
    (hIb : ∀ s A B, I s A → Below w.heap.size A B → I s B) (hIxb : ∀ c s A B, Ix c s A → Below w.heap.size A B → Ix c s B)
    (hBd : ∀ s A, I s A → Bd s) (h0 : I [] w) (a₁ : α → Act)
    (hassign : ∀ (l : Nat) (x : α) (W : World) (K : Act → World → Prop), K (a₁ x) W →
      assign.wpIn (Fence.wide.inRound l) 0 P (Exit.then K (fun _ _ _ => False)) { tmps := (ps.zip (encs x)).foldl (fun t (p, v) => t.setIfInBounds p v) a.tmps, defers := [] } W)
    (hbody : ∀ (l : Nat) (pre : List α) (x : α) (W : World), I pre W → Ask pre x → w.heap.size + 1 < W.heap.size → body.wpIn (Fence.wide.inRound l) 0 P (RdPost w.heap.size Kp I Ix (pre ++ [x]) W) (a₁ x) W)
    (hdone : ∀ (xs : List α) (W : World), S xs → I xs W → W.heap[w.heap.size]? = some (.deferred (some [])) → Q .normal { a with defers := { target := .collected w.heap.size, args := #[] } :: a.defers } W)
    (hstop : ∀ (c : Code) (pre : List α) (W : World), Sp pre → Ix c pre W → W.heap[w.heap.size]? = some (.deferred (some [])) → c.wp P Q { a with defers := { target := .collected w.heap.size, args := #[] } :: a.defers } W) :
    (Code.rangeFunc g ps assign body).wp P Q a w := by
  refine (wpIn_wide (n := 0)).1 (wpIn_rangeFunc fun fn _ => ?_)
  generalize hD : w.heap.size = D at *
  have key : ∃ rc : LoopState → Option Code → Loop, ∀ st pe, rc st pe = { state := st, pending := pe, fn := fn, tmps := a.tmps, params := ps, assign := assign, body := body, defers := D } := ⟨_, fun _ _ => rfl⟩
  obtain ⟨rc, hrc⟩ := key
  have e1 : ∀ (st : LoopState) (pe : Option Code), (rc st pe).params = ps := fun st pe => by rw [hrc]
  have bD : ∀ o1 o2, Below D w ((w.alloc o1).alloc o2) := fun o1 o2 => by
    rw [← hD]; exact ((Below.refl _ w).alloc (Nat.le_refl _) _).alloc (by simp) _
  have k1 : ∀ o1 o2, ((w.alloc o1).alloc o2).heap[D]? = some o1 := fun o1 o2 => by
    rw [← hD]; exact (Below.heap_alloc _ _ _ (by simp)).trans (World.alloc_heap_new w _)
  have k2 : ∀ o1 o2, ((w.alloc o1).alloc o2).heap[D + 1]? = some o2 := fun o1 o2 => by
    have := World.alloc_heap_new (w.alloc o1) o2
    rwa [World.size_alloc, hD] at this
  have s2 : ∀ o1 o2, ((w.alloc o1).alloc o2).heap.size = D + 2 := fun o1 o2 => by simp [hD]
  have run1 := run_enterLoop_outer (P := P) (w := w) fn a.tmps ps assign body
  rw [hD] at run1
  have K1 := k1 (.deferred (some [])) (.loop (rc .ready none))
  have K2 := k2 (.deferred (some [])) (.loop (rc .ready none))
  have B1 := bD (.deferred (some [])) (.loop (rc .ready none))
  have run2 : (Instr.enterLoop fn a.tmps ps assign body none).run P w = .ok (D + 1, [{ target := .collected D, args := #[] }]) ((w.alloc (.deferred (some []))).alloc (.loop (rc .ready none))) := by
    rw [run1, hrc]
  clear run1 k1 k2 bD s2
  generalize (w.alloc (.deferred (some []))).alloc (.loop (rc .ready none)) = W1 at *
  refine ⟨D + 1, [{ target := .collected D, args := #[] }], W1, { target := .fn (.func gf) lb, args := #[.func (.yield (D + 1)) #[] #[]] }, W1, gf,
    #[.func (.yield (D + 1)) #[] #[]] ++ lb, W1, run2, ?_, ?_, ?_, fun h => (by cases h), ?_⟩
  · simp only [resolve, hg]; simp [go_sem]
  · intro f2 hf2; trivial
  · simp [invoke, go_sem, eg]
  · have lt1 : D + 1 < W1.heap.size := (Array.getElem?_eq_some_iff.1 K2).1
    refine (hseq (D + 1)
      (fun pre W => I pre W ∧ W.heap[D]? = some (.deferred (some [])) ∧ W.heap[D + 1]? = some (.loop (rc .ready none)))
      (fun pre W => ∃ c, Ix c pre W ∧ W.heap[D]? = some (.deferred (some [])) ∧ W.heap[D + 1]? = some (.loop (rc .done (some c)))) W1 (by rw [hD]; exact B1) ?_ ?_ (fun s A h => hBd s A h.1) ?_ ⟨hIb _ _ _ h0 B1, K1, K2⟩).mono ?_
    · rintro s A B ⟨h, q1, q2⟩ hs
      exact ⟨hI s A B h hs, (hSt A B hs D (Nat.le_refl _) (Array.getElem?_eq_some_iff.1 q1).1).trans q1, (hSt A B hs (D + 1) (by omega) (Array.getElem?_eq_some_iff.1 q2).1).trans q2⟩
    · rintro s A B ⟨c, h, q1, q2⟩ hs
      exact ⟨c, hIx c s A B h hs, (hSt A B hs D (Nat.le_refl _) (Array.getElem?_eq_some_iff.1 q1).1).trans q1, (hSt A B hs (D + 1) (by omega) (Array.getElem?_eq_some_iff.1 q2).1).trans q2⟩
    · rintro pre x W ⟨h, q1, q2⟩ hlen
      have lt2 : D + 1 < W.heap.size := (Array.getElem?_eq_some_iff.1 q2).1
      have hy := run_yield (P := P) (args := encs x) q2 (by rw [e1]; exact hps x)
      rw [hrc] at hy
      refine ⟨fn, _, assign, body, hy, roundIn_of_wpIn trivial (hassign _ x W _ ⟨_, run_beginRound q2 (by rw [hrc]), ?_⟩)⟩
      have b2 : ∀ o, Below D W (W.putObj (D + 1) o) := fun o => below_put (by omega)
      have q3 : ∀ o, (W.putObj (D + 1) o).heap[D + 1]? = some o := fun o => World.putObj_heap_same lt2
      have q4 : ∀ o, (W.putObj (D + 1) o).heap[D]? = some (.deferred (some [])) := fun o => (World.putObj_heap_other (by omega)).trans q1
      refine Go.wpIn_mono (hbody _ pre x _ (hIb _ _ _ h (b2 _)) hlen (by simpa using lt2)) ?_
      have fin : ∀ (jump : Option Code) (W3 : World), Kept D (W.putObj (D + 1) (.loop { rc .ready none with state := .busy })) W3 →
          ∃ W4, (Instr.endRound (D + 1) jump).run P W3 = .ok (.bool jump.isNone) W4 ∧ Below D W3 W4 ∧ W4.heap[D]? = some (.deferred (some [])) ∧ W4.heap[D + 1]? = some (.loop (rc (if jump.isNone then .ready else .done) jump)) := by
        intro jump W3 hk
        have r2 := hk.2.trans (q3 _)
        have r1 := hk.1.trans (q4 _)
        have lt3 : D + 1 < W3.heap.size := (Array.getElem?_eq_some_iff.1 r2).1
        have hr := run_endRound (P := P) jump r2
        refine ⟨_, hr, below_put (by omega), (World.putObj_heap_other (by omega)).trans r1, ?_⟩
        rw [World.putObj_heap_same lt3, hrc, hrc]
      rintro e a3 W3 hp
      cases e with
      | normal =>
        obtain ⟨hk, hkp, hi⟩ := hp
        obtain ⟨W4, hr, hb4, r1, r2⟩ := fin none W3 hk
        exact ⟨_, W4, hr, .inl ⟨rfl, ⟨hIb _ _ _ hi hb4, r1, r2⟩, hKt (hKt (hKb _ _ (b2 _)) hkp) (hKb _ _ hb4)⟩⟩
      | ret =>
        obtain ⟨hk, hi⟩ := hp
        obtain ⟨W4, hr, hb4, r1, r2⟩ := fin (some .ret) W3 hk
        exact ⟨_, W4, hr, .inr ⟨rfl, .ret, hIxb _ _ _ _ hi hb4, r1, r2⟩⟩
      | exit id =>
        obtain ⟨hk, hi⟩ := hp
        obtain ⟨W4, hr, hb4, r1, r2⟩ := fin (some (.exit id)) W3 hk
        exact ⟨_, W4, hr, .inr ⟨rfl, .exit id, hIxb _ _ _ _ hi hb4, r1, r2⟩⟩
      | goto t =>
        obtain ⟨hk, hi⟩ := hp
        obtain ⟨W4, hr, hb4, r1, r2⟩ := fin (some (.goto t)) W3 hk
        exact ⟨_, W4, hr, .inr ⟨rfl, .goto t, hIxb _ _ _ _ hi hb4, r1, r2⟩⟩
      | panic ch => exact hp.elim
      | outgrown => exact hp.elim
    · rintro e W2 ⟨⟨v, rfl⟩, hend⟩
      rcases hend with ⟨xs, hS, hi, q1, q2⟩ | ⟨pre, hSp, c, hi, q1, q2⟩
      · have hr := run_endLoop (P := P) q2 (by rw [hrc]; simp)
        refine ⟨none, _, by rw [hrc] at hr; rw [hr], hdone xs _ hS (hIb _ _ _ hi (below_put (by omega))) ((World.putObj_heap_other (by omega)).trans q1)⟩
      · have hr := run_endLoop (P := P) q2 (by rw [hrc]; simp)
        refine ⟨some c, _, by rw [hrc] at hr; rw [hr], wpIn_wide.2 (hstop c pre _ hSp (hIxb _ _ _ _ hi (below_put (by omega))) ((World.putObj_heap_other (by omega)).trans q1))⟩
end Go.Proofs.YtnbijfeidgddmaaGreatDoor

namespace Go.Proofs.YtnbijfeidgddmaaGreatDoor
open Go.ChangeShapes Go.WideShapes Go.ChangeAt Go.RowKit

/-- The texts of a slice lie in memory. -/
def StrsIn (w : World) (a : Option Addr) (zs : List ByteArray) : Prop := ∀ i, i < zs.length → ∃ b off, a = some ⟨b, off, none⟩ ∧ b < w.heap.size ∧ w.cell? ⟨b, off + i, none⟩ = some (.string (zs.getD i ⟨#[]⟩))
theorem strsIn_below {w w' : World} {a : Option Addr} {zs : List ByteArray} (h : StrsIn w a zs) (hb : Below w.heap.size w w') : StrsIn w' a zs := fun i hi => by
  obtain ⟨b, off, ha, hlt, hc⟩ := h i hi
  exact ⟨b, off, ha, Nat.lt_of_lt_of_le hlt hb.size, (hb.cell hlt).trans hc⟩
/-- None is too long for any machine. -/
def Fit (zs : List ByteArray) : Prop := ∀ i, i < zs.length → (zs.getD i ⟨#[]⟩).size ≤ maxLen

theorem ret_i64 {x y : Int} (h : x = y) : Ending.returned (.int .i64 y) = .returned (.int .i64 x) := by rw [h]
end Go.Proofs.YtnbijfeidgddmaaGreatDoor

namespace Go.Proofs.YtnbijfeidgddmaaGreatDoor
open Go.ChangeShapes Go.WideShapes Go.ChangeAt Go.RowKit

/-- The pieces between the bytes c; what stands ahead of the first one is told. -/
def spl (c : UInt8) : List UInt8 → List UInt8 → List (List UInt8)
  | acc, [] => [acc]
  | acc, x :: xs => if x = c then acc :: spl c [] xs else spl c (acc ++ [x]) xs
def mkS (l : List UInt8) : ByteArray := ⟨l.toArray⟩
theorem mkS_data (s : ByteArray) : mkS s.data.toList = s := Lib.mk_data s
theorem data_mkS (l : List UInt8) : (mkS l).data.toList = l := rfl
def pieces (c : UInt8) (s : ByteArray) : List ByteArray := (spl c [] s.data.toList).map mkS

theorem extract_none (s : ByteArray) (i : Nat) : (s.extract i i).data.toList = [] := by rw [Lib.extract_data, Nat.sub_self]; rfl
theorem drop_byte (s : ByteArray) (i : Nat) (h : i < s.size) : s.data.toList.drop i = s[i] :: s.data.toList.drop (i + 1) := by
  rw [List.drop_eq_getElem_cons (by simpa using h)]; rfl
theorem extract_more (s : ByteArray) (b i : Nat) (hb : b ≤ i) (h : i < s.size) : (s.extract b (i + 1)).data.toList = (s.extract b i).data.toList ++ [s[i]] := by
  rw [Lib.extract_data, Lib.extract_data, show i + 1 - b = (i - b) + 1 by omega, List.take_add_one]
  congr 1
  rw [List.getElem?_drop, show b + (i - b) = i by omega, List.getElem?_eq_getElem (by simpa using h)]
  rfl

/-- i bytes have been read; some pieces are done, the one in hand began at b. -/
structure SplAt (c : UInt8) (s : ByteArray) (done : List ByteArray) (b i : Nat) : Prop where
  le : b ≤ i
  lt : i ≤ s.size
  len : done.length ≤ i
  eq : done ++ (spl c (s.extract b i).data.toList (s.data.toList.drop i)).map mkS = pieces c s
theorem splAt_start (c : UInt8) (s : ByteArray) : SplAt c s [] 0 0 :=
  ⟨Nat.le_refl _, Nat.zero_le _, Nat.le_refl _, by rw [extract_none]; rfl⟩
theorem splAt_hit {c : UInt8} {s : ByteArray} {done : List ByteArray} {b i : Nat} (h : SplAt c s done b i) (hi : i < s.size) (e : s[i] = c) : SplAt c s (done ++ [s.extract b i]) (i + 1) (i + 1) := by
  refine ⟨Nat.le_refl _, hi, by rw [List.length_append]; exact Nat.succ_le_succ h.len, ?_⟩
  rw [← h.eq, drop_byte s i hi, spl, if_pos e, List.map_cons, mkS_data, extract_none, List.append_assoc]
  rfl
theorem splAt_miss {c : UInt8} {s : ByteArray} {done : List ByteArray} {b i : Nat} (h : SplAt c s done b i) (hi : i < s.size) (e : s[i] ≠ c) : SplAt c s done b (i + 1) := by
  refine ⟨Nat.le_succ_of_le h.le, hi, Nat.le_succ_of_le h.len, ?_⟩
  rw [← h.eq, drop_byte s i hi, spl, if_neg e, extract_more s b i h.le hi]
theorem splAt_end {c : UInt8} {s : ByteArray} {done : List ByteArray} {b : Nat} (h : SplAt c s done b s.size) : done ++ [s.extract b s.size] = pieces c s := by
  rw [← h.eq, List.drop_eq_nil_of_le (by simp), spl, List.map_cons, mkS_data]
  rfl
theorem pieces_len (c : UInt8) (s : ByteArray) : (pieces c s).length ≤ s.size + 1 := by
  have key : ∀ (l acc : List UInt8), (spl c acc l).length ≤ l.length + 1 := by
    intro l
    induction l with
    | nil => intro acc; exact Nat.le_refl _
    | cons x xs ih =>
      intro acc
      rw [spl]
      split
      · exact Nat.succ_le_succ (ih _)
      · exact Nat.le_succ_of_le (ih _)
  have := key s.data.toList []
  unfold pieces
  rw [List.length_map]
  simpa using this
theorem pieces_fit (c : UInt8) (s : ByteArray) : ∀ p ∈ pieces c s, p.size ≤ s.size := by
  have key : ∀ (l acc : List UInt8), ∀ p ∈ spl c acc l, p.length ≤ acc.length + l.length := by
    intro l
    induction l with
    | nil => intro acc p hp; simp [spl] at hp; subst hp; simp
    | cons x xs ih =>
      intro acc p hp
      rw [spl] at hp
      split at hp
      · rcases List.mem_cons.1 hp with rfl | hp
        · omega
        · have := ih _ p hp; simp at this ⊢; omega
      · have := ih _ p hp; simp at this ⊢; omega
  intro p hp
  unfold pieces at hp
  obtain ⟨l, hl, rfl⟩ := List.mem_map.1 hp
  have := key s.data.toList [] l hl
  rw [show (mkS l).size = l.length from List.size_toArray]
  simpa using this

/-- The same, piece by piece: up to the next byte c. -/
theorem spl_none {c : UInt8} : ∀ (l acc : List UInt8), c ∉ l → spl c acc l = [acc ++ l]
  | [], acc, _ => by rw [spl, List.append_nil]
  | x :: xs, acc, h => by
    rw [spl, if_neg (fun e => h (by rw [e]; exact List.mem_cons_self)), spl_none xs _ (fun e => h (List.mem_cons_of_mem _ e)), List.append_assoc]; rfl
theorem spl_at {c : UInt8} : ∀ (l acc : List UInt8) (i : Nat), l[i]? = some c → c ∉ l.take i → spl c acc l = (acc ++ l.take i) :: spl c [] (l.drop (i + 1))
  | [], acc, i, h, _ => by simp at h
  | x :: xs, acc, 0, h, _ => by
    simp at h
    rw [spl, if_pos h, List.take_zero, List.append_nil]; rfl
  | x :: xs, acc, i + 1, h, hn => by
    rw [spl, if_neg (fun e => hn (by rw [List.take_succ_cons, e]; exact List.mem_cons_self)), spl_at xs _ i (by simpa using h) (fun e => hn (by rw [List.take_succ_cons]; exact List.mem_cons_of_mem _ e)), List.append_assoc]; rfl
end Go.Proofs.YtnbijfeidgddmaaGreatDoor

namespace Go.Proofs.YtnbijfeidgddmaaGreatDoor
open Go.ChangeShapes Go.WideShapes Go.ChangeAt Go.RowKit

/-- Nothing lies otherwise but block g. -/
structure Oth (g : Nat) (w w' : World) : Prop where
  os : w'.os = w.os
  tape : w'.tape = w.tape
  output : w'.output = w.output
  size : w.heap.size ≤ w'.heap.size
  block : ∀ j, j ≠ g → j < w.heap.size → w'.heap[j]? = w.heap[j]?
theorem Oth.refl (g : Nat) (w : World) : Oth g w w := ⟨rfl, rfl, rfl, Nat.le_refl _, fun _ _ _ => rfl⟩
theorem Oth.trans {g : Nat} {a b c : World} (h : Oth g a b) (k : Oth g b c) : Oth g a c := ⟨k.os.trans h.os, k.tape.trans h.tape, k.output.trans h.output, Nat.le_trans h.size k.size, fun j hj hl => (k.block j hj (Nat.lt_of_lt_of_le hl h.size)).trans (h.block j hj hl)⟩
theorem Oth.of {g : Nat} {w w' : World} (h : Below w.heap.size w w') : Oth g w w' := ⟨h.os, h.tape, h.output, h.size, fun j _ hl => h.block j hl⟩
theorem Oth.set {g : Nat} {a w : World} (h : Oth g a w) (j : Nat) (u : Value) : Oth g a (w.setCell ⟨g, j, none⟩ u) :=
  h.trans ⟨rfl, rfl, rfl, by simp [World.setCell], fun k hk _ => Below.heap_setCell _ _ _ _ hk⟩
theorem Oth.below {g : Nat} {w w' : World} (h : Oth g w w') (hg : g ≤ w.heap.size) : Below g w w' := ⟨h.os, h.tape, h.output, h.size, fun k hk => h.block k (by omega) (by omega)⟩
theorem own_oth {B g : Nat} {zs : List Int} {v : Value} {w w' : World} (h : OwnInts B zs v w) (hb : Oth g w w') (hg : g < B) : OwnInts B zs v w' := by
  obtain ⟨h1, h2⟩ := h
  refine ⟨h1, ?_⟩
  rcases h2 with hn | ⟨b, cap, cur, rfl, hB, hh, rest⟩
  · exact .inl hn
  · exact .inr ⟨b, cap, cur, rfl, hB, (hb.block b (by omega) (Array.getElem?_eq_some_iff.1 hh).1).trans hh, rest⟩

/-- A block with m cells at least that may be written. -/
def Wb (w : World) (g m : Nat) : Prop := (∀ j, j < m → ∃ v, w.cell? ⟨g, j, none⟩ = some v) ∧ ∀ j, j < m → w.frozen? ⟨g, j, none⟩ = false
theorem Wb.below {w w' : World} {g m : Nat} (h : Wb w g m) (hb : Below w.heap.size w w') (hg : g < w.heap.size) : Wb w' g m :=
  ⟨fun j hj => (h.1 j hj).imp fun _ hv => (hb.cell (p := ⟨g, j, none⟩) hg).trans hv, fun j hj => (hb.frozen (p := ⟨g, j, none⟩) hg).trans (h.2 j hj)⟩
theorem Wb.set {w : World} {g m : Nat} (h : Wb w g m) (k : Nat) (hk : k < m) (u : Value) : Wb (w.setCell ⟨g, k, none⟩ u) g m := by
  refine ⟨fun j hj => ?_, fun j hj => by rw [World.frozen?_setCell]; exact h.2 j hj⟩
  by_cases e : j = k
  · subst e
    obtain ⟨v, hv⟩ := h.1 j hj
    exact ⟨u, World.cell?_setCell_same' _ _ _ (by rw [hv]; rfl)⟩
  · obtain ⟨v, hv⟩ := h.1 j hj
    exact ⟨v, (World.cell?_setCell_other _ _ _ _ (by intro hc; simp at hc)).trans hv⟩

end Go.Proofs.YtnbijfeidgddmaaGreatDoor

namespace Go.Proofs.YtnbijfeidgddmaaGreatDoor
open Go.ChangeShapes Go.WideShapes Go.ChangeAt Go.RowKit

theorem cell_same {A B : World} {b o : Nat} (h : B.heap[b]? = A.heap[b]?) : B.cell? ⟨b, o, none⟩ = A.cell? ⟨b, o, none⟩ := by unfold World.cell?; simp only [h]
theorem frozen_same {A B : World} {b o : Nat} (h : B.heap[b]? = A.heap[b]?) : B.frozen? ⟨b, o, none⟩ = A.frozen? ⟨b, o, none⟩ := by unfold World.frozen?; simp only [h]
/-- How long the text in the iterator's box is. -/
def strLeft (W : World) (b : Nat) : Nat := match W.cell? ⟨b, 0, none⟩ with
  | some (.string t) => t.size
  | _ => 0
theorem strLeft_eq {W : World} {b : Nat} {t : ByteArray} (h : W.cell? ⟨b, 0, none⟩ = some (.string t)) : strLeft W b = t.size := by unfold strLeft; rw [h]
theorem ib_spec : ∀ (l : List UInt8) (c : UInt8), (Lib.indexByte l c = -1 ∧ c ∉ l) ∨ ∃ k : Nat, Lib.indexByte l c = (k : Int) ∧ k < l.length ∧ l[k]? = some c ∧ c ∉ l.take k
  | [], c => .inl ⟨rfl, by simp⟩
  | x :: l, c => by
    by_cases e : x = c
    · subst e
      exact .inr ⟨0, by simp [Lib.indexByte], by simp, by simp, by simp⟩
    · have eb : (x == c) = false := by simpa using e
      rcases ib_spec l c with ⟨hi, hn⟩ | ⟨k, hi, hk, hg, hn⟩
      · refine .inl ⟨by rw [Lib.indexByte, eb, hi]; rfl, ?_⟩
        intro h
        rcases List.mem_cons.1 h with rfl | h
        · exact e rfl
        · exact hn h
      · refine .inr ⟨k + 1, ?_, by simp; omega, by simpa using hg, ?_⟩
        · have eq : ((k : Int) == -1) = false := by rw [beq_eq_false_iff_ne]; omega
          rw [Lib.indexByte, eb, hi]
          simp only [eq]
          simp
        · intro h
          rw [List.take_succ_cons] at h
          rcases List.mem_cons.1 h with rfl | h
          · exact e rfl
          · exact hn h

theorem pieces_none {c : UInt8} {t : ByteArray} (h : c ∉ t.data.toList) : pieces c t = [t] := by
  unfold pieces
  rw [spl_none _ _ h, List.nil_append, List.map_cons, mkS_data]; rfl
theorem pieces_at {c : UInt8} {t : ByteArray} {k : Nat} (hk : t.data.toList[k]? = some c) (hn : c ∉ t.data.toList.take k) : pieces c t = t.extract 0 k :: pieces c (t.extract (k + 1) t.size) := by
  unfold pieces
  rw [spl_at _ _ k hk hn, List.nil_append, List.map_cons, Lib.extract_to_end]
  congr 1
  rw [Lib.extract_eq]; rfl

end Go.Proofs.YtnbijfeidgddmaaGreatDoor

namespace Go.Proofs.YtnbijfeidgddmaaGreatDoor
open Go.ChangeShapes Go.WideShapes Go.ChangeAt Go.RowKit

/-! ### Numbers -/
def digs : Nat → List UInt8 → Option Nat
  | acc, [] => some acc
  | acc, c :: r => if 48 ≤ c.toNat ∧ c.toNat ≤ 57 then digs (10 * acc + (c.toNat - 48)) r else none
/-- A number of at most ten digits, without a sign, as it is written. -/
def numL (l : List UInt8) : Option Nat := if l = [] ∨ 10 < l.length ∨ (l.head? = some 48 ∧ 1 < l.length) then none else digs 0 l
/-- What strconv.ParseInt gives, where it gives something. -/
def pIn (B : Nat) (s : ByteArray) : Option Int := match Lib.parseIntB B s.data.toList with
  | .ok v => some v
  | _ => none
def decL (n : Nat) : List UInt8 := if n < 10 then [UInt8.ofNat (48 + n)] else [UInt8.ofNat (48 + n / 10), UInt8.ofNat (48 + n % 10)]
theorem dec2_data (n : Nat) : (dec2 n).data.toList = decL n := by
  unfold dec2 decL
  split
  · rfl
  · rw [ByteArray.data_append]; rfl
theorem numL_dec : ∀ n, n < 100 → numL (decL n) = some n := by decide +kernel
theorem pIn16_dec : ∀ n, n < 100 → Lib.parseIntB 16 (decL n) = .ok (n : Int) := by decide +kernel
theorem pIn64_dec : ∀ n, n < 100 → Lib.parseIntB 64 (decL n) = .ok (n : Int) := by decide +kernel
theorem no_blank_dec : ∀ n, n < 100 → ∀ b ∈ decL n, 48 ≤ b.toNat := by decide +kernel
theorem pIn16 {n : Nat} (h : n < 100) : pIn 16 (dec2 n) = some (n : Int) := by unfold pIn; rw [dec2_data, pIn16_dec n h]
theorem pIn64 {n : Nat} (h : n < 100) : pIn 64 (dec2 n) = some (n : Int) := by unfold pIn; rw [dec2_data, pIn64_dec n h]
theorem numL_dec2 {n : Nat} (h : n < 100) : numL (dec2 n).data.toList = some n := by rw [dec2_data, numL_dec n h]
theorem digs_ge : ∀ (l : List UInt8) (acc n : Nat), digs acc l = some n → acc ≤ n
  | [], acc, n, h => by simp [digs] at h; omega
  | c :: r, acc, n, h => by
    rw [digs] at h
    split at h
    · have := digs_ge r _ n h; omega
    · cases h
theorem u8_of {c : UInt8} {k : Nat} (h : 48 ≤ c.toNat) (hk : k = c.toNat - 48) : UInt8.ofNat (48 + k) = c := by
  apply UInt8.toNat_inj.1
  have := c.toNat_lt
  rw [UInt8.toNat_ofNat']
  omega
theorem decL_of {l : List UInt8} {n : Nat} (h : numL l = some n) (hn : n < 100) : l = decL n := by
  unfold numL at h
  split at h
  · cases h
  · rename_i hc
    match l, h, hc with
    | [], _, hc => simp at hc
    | [a], h, hc =>
      rw [digs] at h
      split at h
      · rename_i ha
        rw [digs] at h
        have h := Option.some.inj h
        unfold decL
        rw [if_pos (by omega), u8_of ha.1 (by omega)]
      · cases h
    | [a, b], h, hc =>
      have h48 : a ≠ 48 := fun e => hc (.inr (.inr ⟨by rw [e]; rfl, by simp⟩))
      have h48 : a.toNat ≠ 48 := fun e => h48 (UInt8.toNat_inj.1 e)
      rw [digs] at h
      split at h
      · rename_i ha
        rw [digs] at h
        split at h
        · rename_i hb
          rw [digs] at h
          have h := Option.some.inj h
          unfold decL
          rw [if_neg (by omega), u8_of ha.1 (by omega), u8_of hb.1 (by omega)]
        · cases h
      · cases h
    | a :: b :: c :: r, h, hc =>
      exfalso
      have h48 : a ≠ 48 := fun e => hc (.inr (.inr ⟨by rw [e]; rfl, by simp⟩))
      have h48 : a.toNat ≠ 48 := fun e => h48 (UInt8.toNat_inj.1 e)
      rw [digs] at h
      split at h
      · rename_i ha
        rw [digs] at h
        split at h
        · rw [digs] at h
          split at h
          · have := digs_ge _ _ _ h; omega
          · cases h
        · cases h
      · cases h
theorem data_inj {x y : ByteArray} (h : x.data.toList = y.data.toList) : x = y := by
  rw [← mkS_data x, ← mkS_data y, h]
theorem dec2_of {s : ByteArray} {n : Nat} (h : numL s.data.toList = some n) (hn : n < 100) : s = dec2 n :=
  data_inj (by rw [dec2_data]; exact decL_of h hn)
theorem num_le : ∀ (l : List UInt8) (acc n : Nat), digs acc l = some n → n < (acc + 1) * 10 ^ l.length
  | [], acc, n, h => by simp [digs] at h; simp; omega
  | c :: r, acc, n, h => by
    rw [digs] at h
    split at h
    · have := num_le r _ n h
      rw [List.length_cons, Nat.pow_succ]
      have h2 : (10 * acc + (c.toNat - 48) + 1) * 10 ^ r.length ≤ ((acc + 1) * 10) * 10 ^ r.length := Nat.mul_le_mul_right _ (by omega)
      rw [Nat.mul_comm (10 ^ r.length) 10, ← Nat.mul_assoc]
      omega
    · cases h
theorem numL_lt {l : List UInt8} {n : Nat} (h : numL l = some n) : n < 10000000000 := by
  unfold numL at h
  split at h
  · cases h
  · rename_i hc
    have h1 := num_le l 0 n h
    have h2 : 10 ^ l.length ≤ 10 ^ 10 := Nat.pow_le_pow_right (by omega) (by
      rcases Nat.lt_or_ge 10 l.length with h' | h'
      · exact absurd (.inr (.inl h')) hc
      · exact h')
    omega

/-! ### Pieces -/
def joinC (c : UInt8) : List (List UInt8) → List UInt8
  | [] => []
  | [a] => a
  | a :: b :: r => a ++ c :: joinC c (b :: r)
theorem joinC_cons (c : UInt8) (a : List UInt8) {ps : List (List UInt8)} (h : ps ≠ []) : joinC c (a :: ps) = a ++ c :: joinC c ps := by
  cases ps with
  | nil => exact absurd rfl h
  | cons b r => rfl
theorem spl_ne (c : UInt8) : ∀ l acc : List UInt8, spl c acc l ≠ []
  | [], acc => by simp [spl]
  | x :: xs, acc => by
    rw [spl]
    split
    · simp
    · exact spl_ne c xs _
theorem join_of_spl (c : UInt8) : ∀ l acc : List UInt8, joinC c (spl c acc l) = acc ++ l
  | [], acc => by simp [spl, joinC]
  | x :: xs, acc => by
    rw [spl]
    split
    · rename_i e
      rw [joinC_cons c acc (spl_ne c xs []), join_of_spl c xs [], e]; rfl
    · rw [join_of_spl c xs, List.append_assoc]; rfl
theorem spl_app {c : UInt8} (t : List UInt8) : ∀ (a acc : List UInt8), c ∉ a → spl c acc (a ++ c :: t) = (acc ++ a) :: spl c [] t
  | [], acc, _ => by rw [List.nil_append, spl, if_pos rfl, List.append_nil]
  | x :: xs, acc, h => by
    rw [List.cons_append, spl, if_neg (fun e => h (by rw [e]; exact List.mem_cons_self)), spl_app t xs _ (fun e => h (List.mem_cons_of_mem _ e)), List.append_assoc]; rfl
theorem spl_of_join {c : UInt8} : ∀ {ps : List (List UInt8)}, ps ≠ [] → (∀ p ∈ ps, c ∉ p) → spl c [] (joinC c ps) = ps
  | [], h, _ => absurd rfl h
  | [a], _, h => by
    rw [joinC, spl_none _ _ (h a (by simp)), List.nil_append]
  | a :: b :: r, _, h => by
    rw [joinC, spl_app _ _ _ (h a (by simp)), List.nil_append, spl_of_join (by simp) (fun p hp => h p (by simp at hp ⊢; exact .inr hp))]
theorem pieces_ne (c : UInt8) (s : ByteArray) : pieces c s ≠ [] := by
  unfold pieces
  intro h
  exact spl_ne c _ _ (List.map_eq_nil_iff.1 h)
theorem map_mkS (ps : List (List UInt8)) : (ps.map mkS).map (fun p => p.data.toList) = ps := by
  rw [List.map_map]
  have : (fun p : ByteArray => p.data.toList) ∘ mkS = id := by funext l; rfl
  rw [this, List.map_id]
theorem map_mkS2 (ps : List ByteArray) : (ps.map (fun p => p.data.toList)).map mkS = ps := by
  rw [List.map_map]
  have : mkS ∘ (fun p : ByteArray => p.data.toList) = id := by funext l; exact mkS_data l
  rw [this, List.map_id]
theorem pieces_join (c : UInt8) (s : ByteArray) : s.data.toList = joinC c ((pieces c s).map fun p => p.data.toList) := by
  unfold pieces
  rw [map_mkS, join_of_spl, List.nil_append]
theorem pieces_of {c : UInt8} {s : ByteArray} {ps : List ByteArray} (h : s.data.toList = joinC c (ps.map fun p => p.data.toList)) (hn : ps ≠ []) (hc : ∀ p ∈ ps, c ∉ p.data.toList) : pieces c s = ps := by
  unfold pieces
  rw [h, spl_of_join (by simpa using hn) (fun p hp => by obtain ⟨q, hq, rfl⟩ := List.mem_map.1 hp; exact hc q hq), map_mkS2]
theorem spl_free {c : UInt8} : ∀ (l acc : List UInt8), c ∉ acc → ∀ p ∈ spl c acc l, c ∉ p
  | [], acc, h, p, hp => by
    rw [spl, List.mem_singleton] at hp
    subst hp
    exact h
  | x :: xs, acc, h, p, hp => by
    rw [spl] at hp
    split at hp
    · rcases List.mem_cons.1 hp with rfl | hp
      · exact h
      · exact spl_free xs [] (by simp) p hp
    · rename_i e
      exact spl_free xs _ (fun hm => by
        rcases List.mem_append.1 hm with hm | hm
        · exact h hm
        · exact e (List.mem_singleton.1 hm).symm) p hp
theorem pieces_free {c : UInt8} {s p : ByteArray} (h : p ∈ pieces c s) : c ∉ p.data.toList := by
  unfold pieces at h
  obtain ⟨l, hl, rfl⟩ := List.mem_map.1 h
  exact spl_free _ [] (by simp) l hl

/-! ### The library's pieces -/
theorem splitB_pieces (c : UInt8) : ∀ (k : Nat) (s : ByteArray), Lib.countB s ⟨#[c]⟩ = k → Lib.splitB ⟨#[c]⟩ 0 k s = pieces c s
  | k, s, h => by
    have e1 : Lib.indexB s ⟨#[c]⟩ = Lib.indexByte s.data.toList c := Lib.index_one _ _
    have z1 : (ByteArray.mk #[c]).size = 1 := rfl
    rcases ib_spec s.data.toList c with ⟨hi, hn⟩ | ⟨i, hi, hk, hg, hn⟩
    · rw [Lib.splitB_miss _ _ _ _ (by rw [e1, hi]), pieces_none hn]
    · have hh : Lib.indexB s ⟨#[c]⟩ = (i : Int) := by rw [e1, hi]
      have hc := Lib.countB_hit s ⟨#[c]⟩ i (by rw [z1]; exact Nat.le_refl _) hh
      rw [z1] at hc
      match k, h with
      | 0, h => omega
      | k + 1, h =>
        rw [Lib.splitB_hit _ _ _ _ i hh, pieces_at hg hn, Nat.add_zero, z1, splitB_pieces c k _ (by omega)]
theorem countB_pieces (c : UInt8) (s : ByteArray) : Lib.countB s ⟨#[c]⟩ + 1 = (pieces c s).length := by
  rw [← splitB_pieces c _ s rfl, Lib.splitB_all _ (by show 1 ≤ 1; omega) 0 _ s rfl]
end Go.Proofs.YtnbijfeidgddmaaGreatDoor

namespace Go.Proofs.YtnbijfeidgddmaaGreatDoor
open Go.ChangeShapes Go.WideShapes Go.ChangeAt Go.RowKit
attribute [local go_sem] Oper.semAt_some

/-- The lines of a text, each with its end; what stands ahead of the first one is told. -/
def lnB : List UInt8 → List UInt8 → List (List UInt8)
  | acc, [] => if acc = [] then [] else [acc]
  | acc, x :: xs => if x = 10 then (acc ++ [x]) :: lnB [] xs else lnB (acc ++ [x]) xs
def lns (s : ByteArray) : List ByteArray := (lnB [] s.data.toList).map mkS
theorem lnB_none : ∀ (l acc : List UInt8), (10 : UInt8) ∉ l → lnB acc l = if acc ++ l = [] then [] else [acc ++ l]
  | [], acc, _ => by rw [lnB, List.append_nil]
  | x :: xs, acc, h => by
    rw [lnB, if_neg (fun e => h (by rw [e]; exact List.mem_cons_self)), lnB_none xs _ (fun e => h (List.mem_cons_of_mem _ e)), List.append_assoc]; rfl
theorem lnB_at : ∀ (l acc : List UInt8) (i : Nat), l[i]? = some 10 → (10 : UInt8) ∉ l.take i → lnB acc l = (acc ++ l.take (i + 1)) :: lnB [] (l.drop (i + 1))
  | [], acc, i, h, _ => by simp at h
  | x :: xs, acc, 0, h, _ => by
    simp at h
    rw [lnB, if_pos h]; rfl
  | x :: xs, acc, i + 1, h, hn => by
    rw [lnB, if_neg (fun e => hn (by rw [List.take_succ_cons, e]; exact List.mem_cons_self)), lnB_at xs _ i (by simpa using h) (fun e => hn (by rw [List.take_succ_cons]; exact List.mem_cons_of_mem _ e)), List.append_assoc]; rfl
theorem lns_empty {t : ByteArray} (h : t.size = 0) : lns t = [] := by
  have : t.data.toList = [] := List.length_eq_zero_iff.1 (by show t.data.toList.length = 0; rw [Array.length_toList]; exact h)
  unfold lns
  rw [this]; rfl
theorem lns_none {t : ByteArray} (h0 : 0 < t.size) (h : (10 : UInt8) ∉ t.data.toList) : lns t = [t] := by
  unfold lns
  rw [lnB_none _ _ h, List.nil_append, if_neg, List.map_cons, mkS_data]; rfl
  intro e
  have : t.data.toList.length = t.size := Array.length_toList
  rw [e] at this
  simp at this
  omega
theorem lns_at {t : ByteArray} {k : Nat} (hk : t.data.toList[k]? = some 10) (hn : (10 : UInt8) ∉ t.data.toList.take k) : lns t = t.extract 0 (k + 1) :: lns (t.extract (k + 1) t.size) := by
  unfold lns
  rw [lnB_at _ _ k hk hn, List.nil_append, List.map_cons, Lib.extract_to_end]
  congr 1
  rw [Lib.extract_eq]; rfl
theorem ixByte_any (s : ByteArray) (w : World) :
    Calls Tryz.prog 36 #[.string s, .int .u8 10] w fun e w' => e = .returned (.int .i64 (Lib.indexByte s.data.toList 10)) ∧ w' = w :=
  Any.strings_IndexByte Tryz.lays137 s 10 w

set_option maxRecDepth 100000 in
set_option maxHeartbeats 2000000 in
theorem lines_by (bs : Nat) (s : ByteArray) (hs : s.size ≤ maxLen) (w : World) (h1 : bs < w.heap.size) (h2 : w.cell? ⟨bs, 0, none⟩ = some (.string s)) (h3 : w.frozen? ⟨bs, 0, none⟩ = false) :
    SeqBy Tryz.prog 35 #[.pointer (some ⟨bs, 0, none⟩)] (fun p : ByteArray => #[.string p]) (fun A B => A.heap.size ≤ B.heap.size ∧ B.heap[bs]? = A.heap[bs]?) (Oth bs) (fun xs => xs = lns s) (fun pre => pre <+: lns s) (fun pre x => pre ++ [x] <+: lns s) (fun _ => True) w := by
  intro l J Jx W hW hJ hJx _ hY h0
  have C1 := (hW.cell (p := ⟨bs, 0, none⟩) h1).trans h2
  have F1 := (hW.frozen (p := ⟨bs, 0, none⟩) h1).trans h3
  refine callsIn_of_wp Tryz.func35 rfl trivial ?_ rfl
  simp only [Tryz.ntmps35, List.size_toArray, List.length_cons, List.length_nil, Nat.reduceAdd, Nat.reduceSub, Array.replicate_succ, Array.replicate_zero, List.push_toArray, List.append_toArray, List.nil_append, List.cons_append]
  gi_wp2
  gi_loopw [3] (fun _ wr => ∃ (pre : List ByteArray) (t : ByteArray), pre ++ lns t = lns s ∧ t.size ≤ s.size ∧ J pre wr ∧ wr.cell? ⟨bs, 0, none⟩ = some (.string t) ∧ wr.frozen? ⟨bs, 0, none⟩ = false) (fun _ wr => strLeft wr bs)
  case atStart => exact ⟨[], s, rfl, Nat.le_refl _, h0, C1, F1⟩
  case round =>
    obtain ⟨pre, t, hp, ht, hJr, c1, f1⟩ := hrel
    by_cases h0 : t.size = 0
    · have d0 : decide ((0 : Int) < (t.size : Int)) = false := decide_eq_false (by omega)
      gi_wp2
      first | go_end0 | refine bodyPost_ret (results_none rfl _ _ _) rfl ?_
      exact ⟨⟨_, rfl⟩, .inl ⟨pre, by rw [← hp, lns_empty h0, List.append_nil], hJr⟩⟩
    · have d0 : decide ((0 : Int) < (t.size : Int)) = true := decide_eq_true (by omega)
      rcases ib_spec t.data.toList 10 with ⟨hi, hn⟩ | ⟨k, hi, hk, hg, hn⟩
      · have V := Lib.hid (ixByte_any t)
        rw [hi] at V
        have hl := lns_none (by omega) hn
        have e1 : (wr.setCell ⟨bs, 0, none⟩ (.string ⟨#[]⟩)).cell? ⟨bs, 0, none⟩ = some (.string ⟨#[]⟩) := World.cell?_setCell_same' _ _ _ (by rw [c1]; rfl)
        have g1 : (wr.setCell ⟨bs, 0, none⟩ (.string ⟨#[]⟩)).frozen? ⟨bs, 0, none⟩ = false := by rw [World.frozen?_setCell]; exact f1
        have J1 := hJ _ _ _ hJr ((Oth.refl bs wr).set 0 (.string ⟨#[]⟩))
        obtain ⟨fn, tmps, assign, body, hy, hR⟩ := hY pre t _ J1 ⟨[], by rw [← hp, hl, List.append_nil]⟩
        clear hJr hY
        gi_wp2_with (refine ⟨trivial, rfl, ?_⟩; gi_at_call 36; refine (callsIn_wide.2 (V.out _)).mono ?_; rintro e w9 ⟨rfl, rfl⟩)
        refine ⟨rfl, hR.mono ?_⟩
        rintro e W2 (⟨rfl, hJ2, hk2⟩ | ⟨rfl, hJ2⟩)
        · have c9 := (cell_same hk2.2).trans e1
          have f9 := (frozen_same hk2.2).trans g1
          gi_wp2
          go_roundw
          case rel => exact ⟨pre ++ [t], ⟨#[]⟩, by rw [← hp, hl, lns_empty (t := ⟨#[]⟩) rfl, List.append_nil], Nat.zero_le _, hJ2, c9, f9⟩
          case measure => rw [strLeft_eq c9, strLeft_eq c1]; show 0 < t.size; omega
        · gi_wp2
          first | go_end0 | refine bodyPost_ret (results_none rfl _ _ _) rfl ?_
          exact ⟨⟨_, rfl⟩, .inr ⟨_, ⟨[], by rw [← hp, hl, List.append_nil]⟩, hJ2⟩⟩
      · have V := Lib.hid (ixByte_any t)
        rw [hi] at V
        have hl := lns_at hg hn
        have kt : k < t.size := by simpa using hk
        unfold maxLen at hs
        have kn : decide ((0 : Int) ≤ (k : Int)) = true := by simp
        have kw1 : IntKind.i64.wrap ((k : Int) + 1) = ((k + 1 : Nat) : Int) := by rw [Int.natCast_succ]; exact IntWalk.i64_in _ (by omega)
        gi_wp2_with (refine ⟨trivial, rfl, ?_⟩; gi_at_call 36; refine (callsIn_wide.2 (V.out _)).mono ?_; rintro e w9 ⟨rfl, rfl⟩)
        refine wpIn_wide.2 ?_
        refine wp_region_last 9 (by kernel_rfl) rfl rfl (by kernel_rfl) (by kernel_rfl) rfl ?_
        simp only [List.take_succ_cons, List.take_zero]
        intro u1 h1
        have lb : bs < w9.heap.size := World.block_lt_of_cell? _ _ c1
        have c0 := (h1.cell (p := ⟨bs, 0, none⟩) lb).trans c1
        have s0 : bs < u1.heap.size := Nat.lt_of_lt_of_le lb h1.size
        have hbw := cell_bw
        repeat (go_big_quiet_step (fail))
        refine wpQuiet_nil ?_
        intro u3 h3
        have c3 := (h3.cell (p := ⟨bs, 0, none⟩) lb).trans c1
        have f3 := (h3.frozen (p := ⟨bs, 0, none⟩) lb).trans f1
        go_simp
        simp only [Yld]
        have J1 := hJ _ _ _ hJr ((Oth.of (g := bs) h3).set 0 (.string (t.extract (k + 1) t.size)))
        have e1 : (u3.setCell ⟨bs, 0, none⟩ (.string (t.extract (k + 1) t.size))).cell? ⟨bs, 0, none⟩ = some (.string (t.extract (k + 1) t.size)) := World.cell?_setCell_same' _ _ _ (by rw [c3]; rfl)
        have g1 : (u3.setCell ⟨bs, 0, none⟩ (.string (t.extract (k + 1) t.size))).frozen? ⟨bs, 0, none⟩ = false := by rw [World.frozen?_setCell]; exact f3
        obtain ⟨fn, tmps, assign, body, hy, hR⟩ := hY pre (t.extract 0 (k + 1)) _ J1 ⟨lns (t.extract (k + 1) t.size), by rw [List.append_assoc, ← hp, hl]; rfl⟩
        have sz : (t.extract (k + 1) t.size).size = t.size - (k + 1) := by simp
        have sq := strLeft_eq c1
        clear hJr hY c0 c3 f3 s0 hbw h1 c1
        generalize u3.setCell ⟨bs, 0, none⟩ (.string (t.extract (k + 1) t.size)) = u4 at *
        gi_wp2
        refine ⟨rfl, hR.mono ?_⟩
        rintro e W2 (⟨rfl, hJ2, hk2⟩ | ⟨rfl, hJ2⟩)
        · have c9 := (cell_same hk2.2).trans e1
          have f9 := (frozen_same hk2.2).trans g1
          gi_wp2
          go_roundw
          case rel => exact ⟨_, _, by rw [List.append_assoc]; exact (congrArg (pre ++ ·) hl.symm).trans hp, by omega, hJ2, c9, f9⟩
          case measure => rw [strLeft_eq c9, sq]; omega
        · gi_wp2
          first | go_end0 | refine bodyPost_ret (results_none rfl _ _ _) rfl ?_
          exact ⟨⟨_, rfl⟩, .inr ⟨_, ⟨lns (t.extract (k + 1) t.size), by rw [List.append_assoc, ← hp, hl]; rfl⟩, hJ2⟩⟩

theorem lines_any (s : ByteArray) (w : World) :
    Calls Tryz.prog 18 #[.string s] w fun e w' => e = .returned (.func (.func 35) #[] #[.pointer (some ⟨w.heap.size, 0, none⟩)]) ∧ w.alloc (.cells #[.string s] 9) = w' := by
  have hmf : ∀ (fn : Fn) (first cap : Array Value) (w : World), (Instr.makeFunc fn first cap).run Tryz.prog w = .ok (.func fn first cap) w := fun _ _ _ _ => rfl
  go_enter Tryz.func18, Tryz.ntmps18
  go_wp2
  go_returns
  exact ⟨rfl, rfl⟩
/-- A line without its end. -/
def trimL (l : List UInt8) : List UInt8 := Lib.trimSuffix l [10]
def trimB (s : ByteArray) : ByteArray := mkS (trimL s.data.toList)
theorem trim_any (s : ByteArray) (hs : s.size ≤ maxLen) (w : World) :
    Calls Tryz.prog 20 #[.string s, .string ⟨#[10]⟩] w fun e w' => e = .returned (.string (trimB s)) ∧ w' = w :=
  Any.strings_TrimSuffix Tryz.lays102 s ⟨#[10]⟩ w (by unfold maxLen at hs; omega)
theorem trimL_free {l : List UInt8} (h : (10 : UInt8) ∉ l) : trimL l = l := by
  unfold trimL Lib.trimSuffix
  split
  · rename_i hq
    exfalso
    apply h
    exact (List.isSuffixOf_iff_suffix.1 hq).subset (by simp)
  · rfl
theorem trimL_end (l : List UInt8) : trimL (l ++ [10]) = l := by
  unfold trimL Lib.trimSuffix
  split
  · simp
  · rename_i hq
    exfalso
    apply hq
    exact List.isSuffixOf_iff_suffix.2 (List.suffix_append l [10])
/-- The lines and the pieces: the same, but that a text that ends with a line's end has a piece more, an empty one. -/
theorem lines_pieces : ∀ (l acc : List UInt8), (10 : UInt8) ∉ acc → ∃ z, (spl 10 acc l).getLast? = some z ∧ ((z = [] ∧ spl 10 acc l = (lnB acc l).map trimL ++ [[]]) ∨ (z ≠ [] ∧ spl 10 acc l = (lnB acc l).map trimL))
  | [], acc, h => by
    by_cases e : acc = []
    · subst e
      exact ⟨[], rfl, .inl ⟨rfl, rfl⟩⟩
    · refine ⟨acc, rfl, .inr ⟨e, ?_⟩⟩
      rw [spl, lnB, if_neg e, List.map_cons, trimL_free h]; rfl
  | x :: xs, acc, h => by
    by_cases e : x = 10
    · subst e
      obtain ⟨z, hz, hh⟩ := lines_pieces xs [] (by simp)
      have hne := spl_ne 10 xs []
      refine ⟨z, ?_, ?_⟩
      · rw [spl, if_pos rfl, List.getLast?_cons_of_ne_nil hne, hz]
      · rw [spl, if_pos rfl, lnB, if_pos rfl, List.map_cons, trimL_end]
        rcases hh with ⟨h1, h2⟩ | ⟨h1, h2⟩
        · exact .inl ⟨h1, by rw [h2]; rfl⟩
        · exact .inr ⟨h1, by rw [h2]⟩
    · obtain ⟨z, hz, hh⟩ := lines_pieces xs (acc ++ [x]) (by
        intro hm
        rcases List.mem_append.1 hm with hm | hm
        · exact h hm
        · exact e (List.mem_singleton.1 hm).symm)
      refine ⟨z, by rw [spl, if_neg e, hz], ?_⟩
      rw [spl, if_neg e, lnB, if_neg e]
      exact hh
end Go.Proofs.YtnbijfeidgddmaaGreatDoor

namespace Go.Proofs.YtnbijfeidgddmaaGreatDoor
open Go.ChangeShapes Go.WideShapes Go.ChangeAt Go.RowKit

set_option maxHeartbeats 400000 in
theorem iJoin_any (a b c d : Int) (w : World) :
    Calls Tryz.prog 44 #[.agg #[.int .u64 a, .int .u64 b], .agg #[.int .u64 c, .int .u64 d]] w fun e w' => e = .returned (.agg #[.int .u64 (bits .or .u64 a c), .int .u64 (bits .or .u64 b d)]) ∧ ((w.alloc (.cells #[.int .u64 a, .int .u64 b] 51)).alloc (.cells #[.int .u64 c, .int .u64 d] 51)).alloc (.cells #[.int .u64 (bits .or .u64 a c), .int .u64 (bits .or .u64 b d)] 51) = w' := by
  go_enter Tryz.func44, Tryz.ntmps44
  go_wp2
  go_returns
  exact ⟨rfl, rfl⟩

set_option maxHeartbeats 400000 in
theorem sJoin_any (a b c d : Int) (w : World) :
    Calls Tryz.prog 34 #[.agg #[.int .u64 a, .int .u64 b], .agg #[.int .u64 c, .int .u64 d]] w fun e w' => e = .returned (.agg #[.int .u64 (bits .or .u64 a c), .int .u64 (bits .or .u64 b d)]) ∧ ((w.alloc (.cells #[.int .u64 a, .int .u64 b] 51)).alloc (.cells #[.int .u64 c, .int .u64 d] 51)).alloc (.cells #[.int .u64 (bits .or .u64 a c), .int .u64 (bits .or .u64 b d)] 51) = w' := by
  go_enter Tryz.func34, Tryz.ntmps34
  go_wp2
  go_returns
  exact ⟨rfl, rfl⟩


set_option maxHeartbeats 400000 in
theorem iMeet_any (a b c d : Int) (w : World) :
    Calls Tryz.prog 42 #[.agg #[.int .u64 a, .int .u64 b], .agg #[.int .u64 c, .int .u64 d]] w fun e w' => e = .returned (.agg #[.int .u64 (bits .and .u64 a c), .int .u64 (bits .and .u64 b d)]) ∧ ((w.alloc (.cells #[.int .u64 a, .int .u64 b] 51)).alloc (.cells #[.int .u64 c, .int .u64 d] 51)).alloc (.cells #[.int .u64 (bits .and .u64 a c), .int .u64 (bits .and .u64 b d)] 51) = w' := by
  go_enter Tryz.func42, Tryz.ntmps42
  go_wp2
  go_returns
  exact ⟨rfl, rfl⟩

set_option maxHeartbeats 400000 in
theorem sMeet_any (a b c d : Int) (w : World) :
    Calls Tryz.prog 33 #[.agg #[.int .u64 a, .int .u64 b], .agg #[.int .u64 c, .int .u64 d]] w fun e w' => e = .returned (.agg #[.int .u64 (bits .and .u64 a c), .int .u64 (bits .and .u64 b d)]) ∧ ((w.alloc (.cells #[.int .u64 a, .int .u64 b] 51)).alloc (.cells #[.int .u64 c, .int .u64 d] 51)).alloc (.cells #[.int .u64 (bits .and .u64 a c), .int .u64 (bits .and .u64 b d)] 51) = w' := by
  go_enter Tryz.func33, Tryz.ntmps33
  go_wp2
  go_returns
  exact ⟨rfl, rfl⟩





end Go.Proofs.YtnbijfeidgddmaaGreatDoor

namespace Go.Proofs.YtnbijfeidgddmaaGreatDoor
open Go.ChangeShapes Go.WideShapes Go.ChangeAt Go.RowKit

theorem eq_mask (a b c d : Int) (w : World) : (Op.equalIn 10000 51 (.agg #[.int .u64 a, .int .u64 b]) (.agg #[.int .u64 c, .int .u64 d])).run Tryz.prog w = .ok (a == c && b == d) w := by
  have u3 := Tryz.underlying49
  have a3 := Tryz.isAgg49
  have z3 := Tryz.sizeOf49
  rw [show (10000 : Nat) = 9999 + 1 from rfl, Op.equalIn]
  simp only [Sem.run_bind, run_underlying Tryz.underlying51, Result.andThen_ok]
  simp only [Std.Legacy.Range.forIn_eq_forIn_range', Std.Legacy.Range.size, Nat.sub_zero, Nat.add_sub_cancel, Nat.div_one, List.range'_succ, List.range'_zero, List.forIn_cons, List.forIn_nil]
  go_simp
  by_cases h1 : a = c <;> by_cases h2 : b = d <;> simp [h1, h2]
end Go.Proofs.YtnbijfeidgddmaaGreatDoor

namespace Go.Proofs.YtnbijfeidgddmaaGreatDoor
open Go.ChangeShapes Go.WideShapes Go.ChangeAt Go.RowKit


def hasC (b n : Int) : Int := if b / 4294967296 = 0 then (if 0 ≤ n ∧ n ≤ 95 then 0 else 2) else 1
def hasV (a b n : Int) : Bool := if b / 4294967296 = 0 ∧ 0 ≤ n ∧ n ≤ 95 then hasB a b n else false

theorem hasC_inv {b : Int} (n : Int) (h : ¬ b / 4294967296 = 0) : hasC b n = 1 := by unfold hasC; rw [if_neg h]
theorem hasV_inv (a : Int) {b : Int} (n : Int) (h : ¬ b / 4294967296 = 0) : hasV a b n = false := by unfold hasV; rw [if_neg (fun x => h x.1)]
theorem hasC_out {b n : Int} (h : b / 4294967296 = 0) (hn : ¬ (0 ≤ n ∧ n ≤ 95)) : hasC b n = 2 := by unfold hasC; rw [if_pos h, if_neg hn]
theorem hasV_out (a b : Int) {n : Int} (hn : ¬ (0 ≤ n ∧ n ≤ 95)) : hasV a b n = false := by unfold hasV; rw [if_neg (fun x => hn x.2)]
theorem hasC_ok {b n : Int} (h : b / 4294967296 = 0) (hn : 0 ≤ n ∧ n ≤ 95) : hasC b n = 0 := by unfold hasC; rw [if_pos h, if_pos hn]
theorem hasV_ok (a : Int) {b n : Int} (h : b / 4294967296 = 0) (hn : 0 ≤ n ∧ n ≤ 95) : hasV a b n = hasB a b n := by unfold hasV; rw [if_pos ⟨h, hn.1, hn.2⟩]

theorem ret_has (a b n : Int) (x : Bool) (c : Int) (hx : hasV a b n = x) (hc : hasC b n = c) : Ending.returned (.tuple #[.bool x, .int .i64 c]) = Ending.returned (.tuple #[.bool (hasV a b n), .int .i64 (hasC b n)]) := by rw [hx, hc]

end Go.Proofs.YtnbijfeidgddmaaGreatDoor

namespace Go.Proofs.YtnbijfeidgddmaaGreatDoor
open Go.ChangeShapes Go.WideShapes Go.ChangeAt Go.RowKit

theorem isSome_setCell (w : World) (p a : Addr) (v : Value) : ((w.setCell p v).cell? a).isSome = (w.cell? a).isSome := by
  by_cases e : p = a
  · subst e
    cases h : w.cell? p with
    | none =>
      have hn : (w.setCell p v).cell? p = none := by
        simp only [World.setCell, World.cell?, Array.getElem?_modify, if_true] at h ⊢
        cases hb : w.heap[p.block]? with
        | none => simp
        | some o =>
          rw [hb] at h
          cases o with
          | cells c t fr =>
            simp only [Option.map_some] at h ⊢
            split
            · rfl
            · rw [if_neg (by assumption)] at h
              simp only [Array.getElem?_eq_none_iff] at h ⊢
              simpa using h
          | map es c => simp
          | _ => simp
      rw [hn]
    | some u => rw [World.cell?_setCell_same (h := h)]; rfl
  · rw [World.cell?_setCell_other (h := e)]

def wR (a x b n : Int) (o : Bool) : Int := if b / 4294967296 = 0 ∧ 0 ≤ n ∧ n ≤ 95 then (if o then bits .or .u64 a x else bits .andNot .u64 a x) else 0
theorem wR_no (a x : Int) {b n : Int} (o : Bool) (h : ¬ (b / 4294967296 = 0 ∧ 0 ≤ n ∧ n ≤ 95)) : wR a x b n o = 0 := by unfold wR; rw [if_neg h]
theorem wR_on (a x : Int) {b n : Int} (h : b / 4294967296 = 0 ∧ 0 ≤ n ∧ n ≤ 95) : wR a x b n true = bits .or .u64 a x := by unfold wR; rw [if_pos h]; rfl
theorem wR_off (a x : Int) {b n : Int} (h : b / 4294967296 = 0 ∧ 0 ≤ n ∧ n ≤ 95) : wR a x b n false = bits .andNot .u64 a x := by unfold wR; rw [if_pos h]; rfl
theorem ret_with (a b n : Int) (o : Bool) (x y c : Int) (hx : wR a (b0 n) b n o = x) (hy : wR b (b1 n) b n o = y) (hc : hasC b n = c) :
    Ending.returned (.tuple #[.agg #[.int .u64 x, .int .u64 y], .int .i64 c]) = Ending.returned (.tuple #[.agg #[.int .u64 (wR a (b0 n) b n o), .int .u64 (wR b (b1 n) b n o)], .int .i64 (hasC b n)]) := by rw [hx, hy, hc]

theorem iJoin_below (a b c d : Int) (w : World) : Calls Tryz.prog 44 #[.agg #[.int .u64 a, .int .u64 b], .agg #[.int .u64 c, .int .u64 d]] w fun e w' => e = .returned (.agg #[.int .u64 (bits .or .u64 a c), .int .u64 (bits .or .u64 b d)]) ∧ Below w.heap.size w w' :=
  (iJoin_any a b c d w).mono fun e w' ⟨he, hw⟩ => ⟨he, by subst hw; exact (by repeat' (first | (with_reducible exact Below.refl _ _) | (with_reducible assumption) | (with_reducible refine below_drewN ?_ _) | (with_reducible refine Below.drew ?_) | (with_reducible refine below_new ?_ _) | (with_reducible refine below_next ?_ (by with_reducible assumption)) | (with_reducible refine Below.setCell ?_ ?_ _) | go_size))⟩

theorem sJoin_below (a b c d : Int) (w : World) : Calls Tryz.prog 34 #[.agg #[.int .u64 a, .int .u64 b], .agg #[.int .u64 c, .int .u64 d]] w fun e w' => e = .returned (.agg #[.int .u64 (bits .or .u64 a c), .int .u64 (bits .or .u64 b d)]) ∧ Below w.heap.size w w' :=
  (sJoin_any a b c d w).mono fun e w' ⟨he, hw⟩ => ⟨he, by subst hw; exact (by repeat' (first | (with_reducible exact Below.refl _ _) | (with_reducible assumption) | (with_reducible refine below_drewN ?_ _) | (with_reducible refine Below.drew ?_) | (with_reducible refine below_new ?_ _) | (with_reducible refine below_next ?_ (by with_reducible assumption)) | (with_reducible refine Below.setCell ?_ ?_ _) | go_size))⟩





end Go.Proofs.YtnbijfeidgddmaaGreatDoor

namespace Go.Proofs.YtnbijfeidgddmaaGreatDoor
open Go.ChangeShapes Go.WideShapes Go.ChangeAt Go.RowKit

def mo (f : Int → Int) (zs : List Int) : Nat → Int
  | 0 => 0
  | k + 1 => bits .or .u64 (mo f zs k) (f (zs.getD k 0))
def inR (zs : List Int) (k : Nat) : Prop := ∀ i, i < k → 0 ≤ zs.getD i 0 ∧ zs.getD i 0 ≤ 95

/-- The two boxes of a mask that is gathered: the answer's, still empty, and the mask's. -/
def MoR (w wr : World) (x y : Int) : Prop := wr.cell? ⟨w.heap.size, 0, none⟩ = some (.int .u64 0) ∧ wr.cell? ⟨w.heap.size, 1, none⟩ = some (.int .u64 0) ∧ wr.cell? ⟨w.heap.size + 1, 0, none⟩ = some (.int .u64 x) ∧ wr.cell? ⟨w.heap.size + 1, 1, none⟩ = some (.int .u64 y) ∧ w.heap.size < wr.heap.size ∧ w.heap.size + 1 < wr.heap.size ∧ Below w.heap.size w wr ∧ (∀ j, wr.frozen? ⟨w.heap.size, j, none⟩ = false) ∧ ∀ j, wr.frozen? ⟨w.heap.size + 1, j, none⟩ = false
theorem moR_next {w wr w2 : World} {x y : Int} (h : MoR w wr x y) (hB : Below wr.heap.size wr w2) (p q : Int) : MoR w ((w2.setCell ⟨w.heap.size + 1, 0, none⟩ (.int .u64 p)).setCell ⟨w.heap.size + 1, 1, none⟩ (.int .u64 q)) p q := by
  obtain ⟨h0, h1, h2, h3, h4, h5, h6, h7, h8⟩ := h
  have g0 := (hB.cell (p := ⟨w.heap.size, 0, none⟩) h4).trans h0
  have g1 := (hB.cell (p := ⟨w.heap.size, 1, none⟩) h4).trans h1
  have g2 := (hB.cell (p := ⟨w.heap.size + 1, 0, none⟩) h5).trans h2
  have g3 := (hB.cell (p := ⟨w.heap.size + 1, 1, none⟩) h5).trans h3
  have hz := hB.size
  refine ⟨?_, ?_, ?_, ?_, ?_, ?_, ?_, fun j => ?_, fun j => ?_⟩
  · rw [World.cell?_setCell_other (h := by simp), World.cell?_setCell_other (h := by simp)]; exact g0
  · rw [World.cell?_setCell_other (h := by simp), World.cell?_setCell_other (h := by simp)]; exact g1
  · rw [World.cell?_setCell_other (h := by simp), World.cell?_setCell_same (h := g2)]
  · rw [World.cell?_setCell_same (h := by rw [World.cell?_setCell_other (h := by simp)]; exact g3)]
  · simp; omega
  · simp; omega
  · exact ((h6.trans (hB.mono (by omega))).setCell (by simp) _).setCell (by simp) _
  · rw [World.frozen?_setCell, World.frozen?_setCell]; exact (hB.frozen (p := ⟨w.heap.size, j, none⟩) h4).trans (h7 j)
  · rw [World.frozen?_setCell, World.frozen?_setCell]; exact (hB.frozen (p := ⟨w.heap.size + 1, j, none⟩) h5).trans (h8 j)

def moR (f : Int → Int) (zs : List Int) : Int := if ∀ z ∈ zs, 0 ≤ z ∧ z ≤ 95 then mo f zs zs.length else 0
def moC (zs : List Int) : Int := if ∀ z ∈ zs, 0 ≤ z ∧ z ≤ 95 then 0 else 2
def moV (zs : List Int) : Value := .tuple #[.agg #[.int .u64 (moR b0 zs), .int .u64 (moR b1 zs)], .int .i64 (moC zs)]
theorem moV_in {zs : List Int} (h : inR zs zs.length) : moV zs = .tuple #[.agg #[.int .u64 (mo b0 zs zs.length), .int .u64 (mo b1 zs zs.length)], .int .i64 0] := by
  have h' : ∀ z ∈ zs, 0 ≤ z ∧ z ≤ 95 := by
    intro z hz
    obtain ⟨i, hi, rfl⟩ := List.getElem_of_mem hz
    have := h i hi
    simpa [List.getD, hi] using this
  unfold moV moR moC
  rw [if_pos h', if_pos h', if_pos h']
theorem moV_out {zs : List Int} {k : Nat} (hk : k < zs.length) (h : ¬ (0 ≤ zs.getD k 0 ∧ zs.getD k 0 ≤ 95)) : moV zs = .tuple #[.agg #[.int .u64 0, .int .u64 0], .int .i64 2] := by
  have h' : ¬ ∀ z ∈ zs, 0 ≤ z ∧ z ≤ 95 := fun x => h (x _ (by simp [List.getD, hk]))
  unfold moV moR moC
  rw [if_neg h', if_neg h', if_neg h']
theorem moR_inext {zs : List Int} {k : Nat} (h : inR zs k) (h2 : 0 ≤ zs.getD k 0 ∧ zs.getD k 0 ≤ 95) : inR zs (k + 1) := by
  intro i hi
  by_cases e : i < k
  · exact h i e
  · obtain rfl : i = k := by omega
    exact h2



end Go.Proofs.YtnbijfeidgddmaaGreatDoor

namespace Go.Proofs.YtnbijfeidgddmaaGreatDoor
open Go.ChangeShapes Go.WideShapes Go.ChangeAt Go.RowKit

def eqTo (zs ys : List Int) : Nat → Bool
  | 0 => true
  | k + 1 => eqTo zs ys k && zs.getD k 0 == ys.getD k 0
def eqL (zs ys : List Int) : Bool := decide (zs.length = ys.length) && eqTo zs ys zs.length
theorem eqL_len {zs ys : List Int} (h : ¬ zs.length = ys.length) : eqL zs ys = false := by unfold eqL; simp [h]
theorem eqTo_no {zs ys : List Int} {k : Nat} (h : ¬ zs.getD k 0 = ys.getD k 0) : ∀ n, k < n → eqTo zs ys n = false
  | 0, hk => absurd hk (Nat.not_lt_zero _)
  | n + 1, hk => by
    unfold eqTo
    by_cases e : k = n
    · subst e; rw [beq_eq_false_iff_ne.2 h]; simp
    · rw [eqTo_no h n (by omega)]; rfl
theorem eqL_no {zs ys : List Int} {k : Nat} (hk : k < zs.length) (h : ¬ zs.getD k 0 = ys.getD k 0) : eqL zs ys = false := by unfold eqL; rw [eqTo_no h _ hk]; simp
theorem eqL_yes {zs ys : List Int} (hl : zs.length = ys.length) (h : eqTo zs ys zs.length = true) : eqL zs ys = true := by unfold eqL; rw [h, decide_eq_true hl]; rfl
theorem eqTo_next {zs ys : List Int} {k : Nat} (h : eqTo zs ys k = true) (e : zs.getD k 0 = ys.getD k 0) : eqTo zs ys (k + 1) = true := by unfold eqTo; rw [h, e]; simp
theorem kretB {x y : Bool} (h : y = x) : Ending.returned (.bool x) = Ending.returned (.bool y) := by rw [h]


theorem getD_mem {zs : List Int} {j : Nat} (h : j < zs.length) : zs.getD j 0 ∈ zs := by
  rw [List.getD_eq_getElem?_getD, List.getElem?_eq_getElem h]; exact List.getElem_mem h
theorem mem_getD {zs : List Int} {x : Int} (h : x ∈ zs) : ∃ j, j < zs.length ∧ zs.getD j 0 = x := by
  obtain ⟨j, hj, e⟩ := List.mem_iff_getElem.1 h
  exact ⟨j, hj, by rw [List.getD_eq_getElem?_getD, List.getElem?_eq_getElem hj]; exact e⟩



end Go.Proofs.YtnbijfeidgddmaaGreatDoor

namespace Go.Proofs.YtnbijfeidgddmaaGreatDoor
open Go.ChangeShapes Go.WideShapes Go.ChangeAt Go.RowKit

def lessN (x u : Nat) : Nat := x &&& (18446744073709551615 - u)
theorem tb_less {x u : Nat} (hu : u < 18446744073709551616) (i : Nat) : (lessN x u).testBit i = (x.testBit i && (decide (i < 64) && !u.testBit i)) := by
  have h := Nat.testBit_two_pow_sub_succ (x := u) (n := 64) (by omega) i
  rw [show (2 : Nat) ^ 64 - (u + 1) = 18446744073709551615 - u from by omega] at h
  unfold lessN
  rw [Nat.testBit_and, h]
theorem tb_lt {x : Nat} (hx : x < 18446744073709551616) {i : Nat} (hi : ¬ i < 64) : x.testBit i = false :=
  Nat.testBit_lt_two_pow (Nat.lt_of_lt_of_le (show x < 2 ^ 64 from by omega) (Nat.pow_le_pow_right (by omega) (by omega)))
theorem less_lt (x u : Nat) (hx : x < 18446744073709551616) : lessN x u < 18446744073709551616 := by
  have : lessN x u ≤ x := Nat.and_le_left
  omega
theorem fm1 {x u : Nat} (hx : x < 18446744073709551616) (hu : u < 18446744073709551616) : (x &&& u) ||| (lessN x u ||| lessN u x) = x ||| u := by
  apply Nat.eq_of_testBit_eq
  intro i
  rw [Nat.testBit_or, Nat.testBit_or, Nat.testBit_or, Nat.testBit_and, tb_less hu, tb_less hx]
  by_cases hi : i < 64
  · rw [decide_eq_true hi]; cases x.testBit i <;> cases u.testBit i <;> rfl
  · rw [tb_lt hx hi, tb_lt hu hi]; simp
theorem fm2 {x u : Nat} (hu : u < 18446744073709551616) : lessN x u &&& u = 0 := by
  apply Nat.eq_of_testBit_eq
  intro i
  rw [Nat.testBit_and, tb_less hu, Nat.zero_testBit]
  cases x.testBit i <;> cases u.testBit i <;> simp
theorem fm3 (x u : Nat) : (x &&& u) &&& x = x &&& u := by
  apply Nat.eq_of_testBit_eq
  intro i
  rw [Nat.testBit_and, Nat.testBit_and]
  cases x.testBit i <;> cases u.testBit i <;> rfl
theorem fm4 (x u : Nat) : x &&& (x ||| u) = x := by
  apply Nat.eq_of_testBit_eq
  intro i
  rw [Nat.testBit_and, Nat.testBit_or]
  cases x.testBit i <;> cases u.testBit i <;> rfl
theorem fm5 {x u : Nat} (hx : x < 18446744073709551616) (hu : u < 18446744073709551616) : (x &&& u = x) ↔ lessN x u = 0 := by
  constructor
  · intro h
    apply Nat.eq_of_testBit_eq
    intro i
    have h2 : (x &&& u).testBit i = x.testBit i := by rw [h]
    rw [Nat.testBit_and] at h2
    rw [tb_less hu, Nat.zero_testBit]
    cases hh : x.testBit i <;> cases hg : u.testBit i <;> simp_all
  · intro h
    apply Nat.eq_of_testBit_eq
    intro i
    have h2 : (lessN x u).testBit i = false := by rw [h]; simp
    rw [tb_less hu] at h2
    rw [Nat.testBit_and]
    by_cases hi : i < 64
    · rw [decide_eq_true hi] at h2
      cases hh : x.testBit i <;> cases hg : u.testBit i <;> simp_all
    · rw [tb_lt hx hi]; rfl
theorem bit_mod (x : Nat) : x % 2 = (x.testBit 0).toNat := by
  rw [Nat.testBit_zero]
  rcases Nat.mod_two_eq_zero_or_one x with h | h <;> rw [h] <;> rfl
theorem pop_sum : ∀ (n a b c d : Nat), (∀ i, i < n → (a.testBit i).toNat = (b.testBit i).toNat + (c.testBit i).toNat + (d.testBit i).toNat) → M.pop n a = M.pop n b + M.pop n c + M.pop n d
  | 0, _, _, _, _, _ => rfl
  | n + 1, a, b, c, d, h => by
    have h0 := h 0 (by omega)
    have ih := pop_sum n (a / 2) (b / 2) (c / 2) (d / 2) (fun i hi => by
      have := h (i + 1) (by omega)
      rw [Nat.testBit_succ, Nat.testBit_succ, Nat.testBit_succ, Nat.testBit_succ] at this
      exact this)
    simp only [M.pop]
    rw [ih, bit_mod a, bit_mod b, bit_mod c, bit_mod d, h0]
    omega
theorem fm6 {x u : Nat} (hx : x < 18446744073709551616) (hu : u < 18446744073709551616) : M.pop 64 (x ||| u) = M.pop 64 (x &&& u) + M.pop 64 (lessN x u) + M.pop 64 (lessN u x) := by
  apply pop_sum
  intro i hi
  rw [Nat.testBit_or, Nat.testBit_and, tb_less hu, tb_less hx, decide_eq_true hi]
  cases x.testBit i <;> cases u.testBit i <;> rfl
theorem fm6c {x y u v : Nat} (hx : x < 18446744073709551616) (hu : u < 18446744073709551616) (hy : y < 18446744073709551616) (hv : v < 18446744073709551616) :
    cnt (x ||| u) (y ||| v) = cnt (x &&& u) (y &&& v) + cnt (lessN x u) (lessN y v) + cnt (lessN u x) (lessN v y) := by
  unfold cnt; rw [fm6 hx hu, fm6 hy hv]; omega

/-! ### The holes -/
theorem hasB_low (x y : Nat) {i : Nat} (hi : i < 64) : hasB (x : Int) (y : Int) (i : Int) = x.testBit i := by
  unfold hasB
  rw [if_pos (by omega), Nat.testBit_eq_decide_div_mod_eq, Int.toNat_natCast]
  have : ((x : Int) / 2 ^ i % 2 == 1) = ((x / 2 ^ i % 2 : Nat) == 1) := by
    rw [show (x : Int) / 2 ^ i % 2 = ((x / 2 ^ i % 2 : Nat) : Int) from by simp]
    cases h : ((x / 2 ^ i % 2 : Nat) == 1)
    · simp only [beq_eq_false_iff_ne] at h ⊢; omega
    · simp only [beq_iff_eq] at h ⊢; omega
  rw [this]; rfl
theorem hasB_high (x y : Nat) (i : Nat) : hasB (x : Int) (y : Int) ((64 + i : Nat) : Int) = y.testBit i := by
  unfold hasB
  rw [if_neg (by omega), Nat.testBit_eq_decide_div_mod_eq, show (((64 + i : Nat) : Int) - 64).toNat = i from by omega]
  have : ((y : Int) / 2 ^ i % 2 == 1) = ((y / 2 ^ i % 2 : Nat) == 1) := by
    rw [show (y : Int) / 2 ^ i % 2 = ((y / 2 ^ i % 2 : Nat) : Int) from by simp]
    cases h : ((y / 2 ^ i % 2 : Nat) == 1)
    · simp only [beq_eq_false_iff_ne] at h ⊢; omega
    · simp only [beq_iff_eq] at h ⊢; omega
  rw [this]; rfl
theorem pop_one (n x : Nat) : M.pop (n + 1) x = M.pop n x + (x.testBit n).toNat := by
  rw [M.pop_add]
  show _ = _
  have : M.pop 1 (x / 2 ^ n) = (x.testBit n).toNat := by
    simp only [M.pop]
    rw [Nat.testBit_eq_decide_div_mod_eq]
    rcases Nat.mod_two_eq_zero_or_one (x / 2 ^ n) with h | h <;> rw [h] <;> rfl
  rw [this]
theorem hol_low (x y : Nat) : ∀ k, k ≤ 64 → (hol (hasB (x : Int) (y : Int)) k).length = M.pop k x
  | 0, _ => rfl
  | k + 1, h => by
    have ih := hol_low x y k (by omega)
    have hb := hasB_low x y (show k < 64 by omega)
    rw [pop_one, ← ih]
    cases q : x.testBit k
    · rw [hol_no (hb.trans q)]; rfl
    · rw [hol_yes (hb.trans q)]; simp
theorem hol_high (x y P : Nat) (hP : M.pop 64 x = P) : ∀ k, (hol (hasB (x : Int) (y : Int)) (64 + k)).length = P + M.pop k y
  | 0 => by
    have h0 : M.pop 0 y = 0 := rfl
    rw [h0, Nat.add_zero, Nat.add_zero, ← hP]
    exact hol_low x y 64 (Nat.le_refl _)
  | k + 1 => by
    have ih := hol_high x y P hP k
    have hb := hasB_high x y k
    have e : M.pop (k + 1) y = M.pop k y + (y.testBit k).toNat := pop_one k y
    rw [show 64 + (k + 1) = (64 + k) + 1 from rfl]
    generalize M.pop (k + 1) y = A at *
    generalize M.pop k y = B at *
    clear hP
    cases q : y.testBit k
    · rw [q, show (false).toNat = 0 from rfl] at e
      rw [hol_no (hb.trans q), ih, e, Nat.add_zero]
    · rw [q, show (true).toNat = 1 from rfl] at e
      rw [hol_yes (hb.trans q), List.length_append, ih, e, List.length_singleton, Nat.add_assoc]
theorem hol_cnt (x y : Nat) (hy : y < 4294967296) : (hol (hasB (x : Int) (y : Int)) 96).length = cnt x y := by
  rw [show (96 : Nat) = 64 + 32 from rfl, hol_high x y _ rfl]
  have e : M.pop 64 y = M.pop 32 y + M.pop 32 (y / 2 ^ 32) := M.pop_add 32 32 y
  unfold cnt
  rw [e, Nat.div_eq_of_lt (show y < 2 ^ 32 from by omega), M.pop_zero, Nat.add_zero]
theorem mem_hol (f : Int → Bool) (z : Int) : z ∈ hol f 96 ↔ (0 ≤ z ∧ z ≤ 95) ∧ f z = true := by
  unfold hol
  rw [List.mem_filter, List.mem_map]
  constructor
  · rintro ⟨⟨i, hi, rfl⟩, h⟩
    rw [List.mem_range] at hi
    exact ⟨⟨by omega, by omega⟩, h⟩
  · rintro ⟨⟨h0, h1⟩, h⟩
    exact ⟨⟨z.toNat, List.mem_range.2 (by omega), by omega⟩, h⟩
theorem mem_hol_dec (f : Int → Bool) {z : Int} (h0 : 0 ≤ z) (h1 : z ≤ 95) : decide (z ∈ hol f 96) = f z := by
  cases q : f z
  · exact decide_eq_false fun h => by rw [((mem_hol f z).1 h).2] at q; exact absurd q (by simp)
  · exact decide_eq_true ((mem_hol f z).2 ⟨⟨h0, h1⟩, q⟩)

/-! ### A mask of some holes, one hole more, one hole less -/
def F0 (z : Int) : Nat := if z < 64 then 2 ^ z.toNat else 0
def F1 (z : Int) : Nat := if z < 64 then 0 else 2 ^ (z - 64).toNat
theorem b0_nat (z : Int) : b0 z = (F0 z : Int) := by unfold b0 F0; split <;> simp
theorem b1_nat (z : Int) : b1 z = (F1 z : Int) := by unfold b1 F1; split <;> simp
theorem F0_lt (z : Int) : F0 z < 18446744073709551616 := by
  unfold F0
  split
  · have : 2 ^ z.toNat < 2 ^ 64 := Nat.pow_lt_pow_right (by omega) (by omega)
    omega
  · omega
theorem F1_lt {z : Int} (h : z ≤ 95) : F1 z < 4294967296 := by
  unfold F1
  split
  · omega
  · have : 2 ^ (z - 64).toNat < 2 ^ 32 := Nat.pow_lt_pow_right (by omega) (by omega)
    omega
theorem F0_bit (z : Int) (i : Nat) : (F0 z).testBit i = (decide (z < 64) && decide (z.toNat = i)) := by
  unfold F0
  by_cases h : z < 64
  · rw [if_pos h, Nat.testBit_two_pow, decide_eq_true h]; rfl
  · rw [if_neg h, Nat.zero_testBit, decide_eq_false h]; rfl
theorem F1_bit (z : Int) (i : Nat) : (F1 z).testBit i = (!decide (z < 64) && decide ((z - 64).toNat = i)) := by
  unfold F1
  by_cases h : z < 64
  · rw [if_pos h, Nat.zero_testBit, decide_eq_true h]; rfl
  · rw [if_neg h, Nat.testBit_two_pow, decide_eq_false h]; rfl
theorem mo_nat (f : Int → Int) (F : Int → Nat) (zs : List Int) (hf : ∀ z, 0 ≤ z → z ≤ 95 → f z = (F z : Int) ∧ F z < 18446744073709551616) (hz : ∀ z ∈ zs, 0 ≤ z ∧ z ≤ 95) :
    ∀ k, k ≤ zs.length → ∃ X : Nat, X < 18446744073709551616 ∧ mo f zs k = (X : Int) ∧ ∀ i, X.testBit i = true ↔ ∃ j, j < k ∧ (F (zs.getD j 0)).testBit i = true
  | 0, _ => ⟨0, by omega, rfl, fun i => by rw [Nat.zero_testBit]; exact ⟨fun h => absurd h (by simp), fun ⟨j, hj, _⟩ => absurd hj (Nat.not_lt_zero _)⟩⟩
  | k + 1, hk => by
    obtain ⟨X, h1, h2, h3⟩ := mo_nat f F zs hf hz k (by omega)
    obtain ⟨z0, z1⟩ := hz _ (getD_mem (show k < zs.length from hk))
    obtain ⟨e, hlt⟩ := hf _ z0 z1
    refine ⟨X ||| F (zs.getD k 0), ?_, ?_, fun i => ?_⟩
    · have : X ||| F (zs.getD k 0) < 2 ^ 64 := Nat.or_lt_two_pow (by omega) (by omega)
      omega
    · unfold mo; rw [h2, e, Go.u64_or_nat _ _ h1 hlt]
    · rw [Nat.testBit_or, Bool.or_eq_true, h3 i]
      constructor
      · rintro (⟨j, hj, h⟩ | h)
        · exact ⟨j, by omega, h⟩
        · exact ⟨k, by omega, h⟩
      · rintro ⟨j, hj, h⟩
        by_cases ej : j = k
        · subst ej; exact .inr h
        · exact .inl ⟨j, by omega, h⟩
theorem hol_in96 (f : Int → Bool) : ∀ z ∈ hol f 96, 0 ≤ z ∧ z ≤ 95 := fun z hz => ((mem_hol f z).1 hz).1
theorem mo_hol0 (x y : Nat) (hx : x < 18446744073709551616) : mo b0 (hol (hasB (x : Int) (y : Int)) 96) (hol (hasB (x : Int) (y : Int)) 96).length = (x : Int) := by
  obtain ⟨X, h1, h2, h3⟩ := mo_nat b0 F0 (hol (hasB (x : Int) (y : Int)) 96) (fun z _ _ => ⟨b0_nat z, F0_lt z⟩) (hol_in96 _) _ (Nat.le_refl _)
  rw [h2]
  congr 1
  apply Nat.eq_of_testBit_eq
  intro i
  by_cases hi : i < 64
  · rw [Bool.eq_iff_iff, h3 i, ← hasB_low x y hi]
    constructor
    · rintro ⟨j, hj, h⟩
      rw [F0_bit, Bool.and_eq_true, decide_eq_true_eq, decide_eq_true_eq] at h
      obtain ⟨⟨z0, z1⟩, hh⟩ := (mem_hol _ _).1 (getD_mem hj)
      rw [show ((i : Nat) : Int) = (hol (hasB (x : Int) (y : Int)) 96).getD j 0 from by omega]
      exact hh
    · intro h
      obtain ⟨j, hj, e⟩ := mem_getD ((mem_hol (hasB (x : Int) (y : Int)) (i : Int)).2 ⟨⟨by omega, by omega⟩, h⟩)
      exact ⟨j, hj, by rw [e, F0_bit, Bool.and_eq_true, decide_eq_true_eq, decide_eq_true_eq]; omega⟩
  · rw [tb_lt h1 hi, tb_lt hx hi]
theorem mo_hol1 (x y : Nat) (hy : y < 4294967296) : mo b1 (hol (hasB (x : Int) (y : Int)) 96) (hol (hasB (x : Int) (y : Int)) 96).length = (y : Int) := by
  obtain ⟨X, h1, h2, h3⟩ := mo_nat b1 F1 (hol (hasB (x : Int) (y : Int)) 96) (fun z _ h => ⟨b1_nat z, by have := F1_lt h; omega⟩) (hol_in96 _) _ (Nat.le_refl _)
  rw [h2]
  congr 1
  apply Nat.eq_of_testBit_eq
  intro i
  rw [Bool.eq_iff_iff, h3 i, ← hasB_high x y i]
  constructor
  · rintro ⟨j, hj, h⟩
    rw [F1_bit, Bool.and_eq_true, Bool.not_eq_true', decide_eq_false_iff_not, decide_eq_true_eq] at h
    obtain ⟨⟨z0, z1⟩, hh⟩ := (mem_hol _ _).1 (getD_mem hj)
    rw [show ((64 + i : Nat) : Int) = (hol (hasB (x : Int) (y : Int)) 96).getD j 0 from by omega]
    exact hh
  · intro h
    have hi : i < 32 := by
      by_cases hi : i < 32
      · exact hi
      · rw [hasB_high, Nat.testBit_lt_two_pow (Nat.lt_of_lt_of_le (show y < 2 ^ 32 by omega) (Nat.pow_le_pow_right (by omega) (by omega)))] at h
        exact absurd h (by simp)
    obtain ⟨j, hj, e⟩ := mem_getD ((mem_hol (hasB (x : Int) (y : Int)) ((64 + i : Nat) : Int)).2 ⟨⟨by omega, by omega⟩, h⟩)
    exact ⟨j, hj, by rw [e, F1_bit, Bool.and_eq_true, Bool.not_eq_true', decide_eq_false_iff_not, decide_eq_true_eq]; omega⟩
theorem moV_hol (x y : Nat) (hx : x < 18446744073709551616) (hy : y < 4294967296) : moV (hol (hasB (x : Int) (y : Int)) 96) = .tuple #[.agg #[.int .u64 (x : Int), .int .u64 (y : Int)], .int .i64 0] := by
  rw [moV_in, mo_hol0 x y hx, mo_hol1 x y hy]
  exact fun i hi => hol_in96 _ _ (getD_mem hi)
theorem hasB_bits (x y : Nat) {z : Int} (h0 : 0 ≤ z) : hasB (x : Int) (y : Int) z = if z < 64 then x.testBit z.toNat else y.testBit (z - 64).toNat := by
  by_cases h : z < 64
  · rw [if_pos h]
    have := hasB_low x y (show z.toNat < 64 by omega)
    rw [show ((z.toNat : Nat) : Int) = z from by omega] at this
    exact this
  · rw [if_neg h]
    have := hasB_high x y (z - 64).toNat
    rw [show ((64 + (z - 64).toNat : Nat) : Int) = z from by omega] at this
    exact this
theorem open_has (x y : Nat) {z : Int} (h0 : 0 ≤ z) : hasB ((x ||| F0 z : Nat) : Int) ((y ||| F1 z : Nat) : Int) z = true := by
  rw [hasB_bits _ _ h0]
  by_cases h : z < 64
  · rw [if_pos h, Nat.testBit_or, F0_bit]; simp [h]
  · rw [if_neg h, Nat.testBit_or, F1_bit]; simp [h]
theorem shut_has (x y : Nat) {z : Int} (h0 : 0 ≤ z) (h1 : z ≤ 95) : hasB ((lessN x (F0 z) : Nat) : Int) ((lessN y (F1 z) : Nat) : Int) z = false := by
  rw [hasB_bits _ _ h0]
  have := F1_lt h1
  by_cases h : z < 64
  · rw [if_pos h, tb_less (F0_lt z), F0_bit]; simp [h]
  · rw [if_neg h, tb_less (by omega), F1_bit]; simp [h]
theorem has_open {x y : Nat} {z : Int} (h0 : 0 ≤ z) (h : hasB (x : Int) (y : Int) z = true) : (x ||| F0 z) = x ∧ (y ||| F1 z) = y := by
  rw [hasB_bits _ _ h0] at h
  constructor <;> apply Nat.eq_of_testBit_eq <;> intro i
  · rw [Nat.testBit_or, F0_bit]
    by_cases hz : z < 64
    · rw [if_pos hz] at h
      by_cases e : z.toNat = i
      · subst e; rw [h]; rfl
      · simp [e]
    · simp [hz]
  · rw [Nat.testBit_or, F1_bit]
    by_cases hz : z < 64
    · simp [hz]
    · rw [if_neg hz] at h
      by_cases e : (z - 64).toNat = i
      · subst e; rw [h]; rfl
      · simp [e]
theorem has_shut {x y : Nat} {z : Int} (hx : x < 18446744073709551616) (hy : y < 4294967296) (h0 : 0 ≤ z) (h1 : z ≤ 95) (h : hasB (x : Int) (y : Int) z = false) : lessN x (F0 z) = x ∧ lessN y (F1 z) = y := by
  rw [hasB_bits _ _ h0] at h
  have f1 := F1_lt h1
  constructor <;> apply Nat.eq_of_testBit_eq <;> intro i
  · rw [tb_less (F0_lt z), F0_bit]
    by_cases hi : i < 64
    · by_cases hz : z < 64
      · rw [if_pos hz] at h
        by_cases e : z.toNat = i
        · subst e; rw [h]; rfl
        · simp [e, hi]
      · simp [hz, hi]
    · rw [tb_lt hx hi]; rfl
  · rw [tb_less (by omega), F1_bit]
    by_cases hi : i < 64
    · by_cases hz : z < 64
      · simp [hz, hi]
      · rw [if_neg hz] at h
        by_cases e : (z - 64).toNat = i
        · subst e; rw [h]; rfl
        · simp [e, hi]
    · rw [tb_lt (by omega) hi]; rfl
end Go.Proofs.YtnbijfeidgddmaaGreatDoor

namespace Go.Proofs.YtnbijfeidgddmaaGreatDoor
open Go.ChangeShapes Go.WideShapes Go.ChangeAt Go.RowKit

/-- The holes of the first n words. -/
def rdH (f : ByteArray → Option Int) (ws : List ByteArray) : Nat → Option (List Int)
  | 0 => some []
  | n + 1 => match rdH f ws n with
    | some hs => match f (ws.getD n ByteArray.empty) with
      | some h => some (hs ++ [h])
      | none => none
    | none => none
theorem rdH_next {f : ByteArray → Option Int} {ws : List ByteArray} {n : Nat} {hs : List Int} {h : Int} (h1 : rdH f ws n = some hs) (h2 : f (ws.getD n ByteArray.empty) = some h) : rdH f ws (n + 1) = some (hs ++ [h]) := by rw [rdH, h1]; simp only [h2]
theorem rdH_bad {f : ByteArray → Option Int} {ws : List ByteArray} {n : Nat} {hs : List Int} (h1 : rdH f ws n = some hs) (h2 : f (ws.getD n ByteArray.empty) = none) : rdH f ws (n + 1) = none := by rw [rdH, h1]; simp only [h2]
theorem rdH_none {f : ByteArray → Option Int} {ws : List ByteArray} {n : Nat} (h : rdH f ws n = none) : ∀ k, n ≤ k → rdH f ws k = none
  | 0, hk => by obtain rfl : n = 0 := by omega
                exact h
  | k + 1, hk => by
    by_cases e : n = k + 1
    · rw [← e]; exact h
    · rw [rdH, rdH_none h k (by omega)]
theorem rdH_len {f : ByteArray → Option Int} {ws : List ByteArray} : ∀ (n : Nat) (hs : List Int), rdH f ws n = some hs → hs.length = n
  | 0, hs, h => by rw [rdH] at h; rw [← Option.some.inj h]; rfl
  | n + 1, hs, h => by
    rw [rdH] at h
    split at h
    · rename_i hs' e
      split at h
      · rw [← Option.some.inj h, List.length_append, rdH_len n hs' e]; rfl
      · cases h
    · cases h
/-- The program's hole of a word, and the model's. -/
def fI (w : ByteArray) : Option Int := match pIn 64 w with
  | some h => if 0 ≤ h ∧ h ≤ 95 then some h else none
  | none => none
def fS (w : ByteArray) : Option Int := match numL w.data.toList with
  | some n => if n ≤ 95 then some (n : Int) else none
  | none => none
theorem fI_none {w : ByteArray} (h : pIn 64 w = none) : fI w = none := by unfold fI; rw [h]
theorem fI_out {w : ByteArray} {v : Int} (h : pIn 64 w = some v) (hv : ¬ (0 ≤ v ∧ v ≤ 95)) : fI w = none := by unfold fI; rw [h]; exact if_neg hv
theorem fI_in {w : ByteArray} {v : Int} (h : pIn 64 w = some v) (hv : 0 ≤ v ∧ v ≤ 95) : fI w = some v := by unfold fI; rw [h]; exact if_pos hv
theorem fS_none {w : ByteArray} (h : numL w.data.toList = none) : fS w = none := by unfold fS; rw [h]
theorem fS_out {w : ByteArray} {n : Nat} (h : numL w.data.toList = some n) (hv : ¬ n ≤ 95) : fS w = none := by unfold fS; rw [h]; exact if_neg hv
theorem fS_in {w : ByteArray} {n : Nat} (h : numL w.data.toList = some n) (hv : n ≤ 95) : fS w = some (n : Int) := by unfold fS; rw [h]; exact if_pos hv
def Fok (f : ByteArray → Option Int) : Prop := ∀ n : Nat, n < 96 → f (dec2 n) = some (n : Int)
theorem fI_ok : Fok fI := fun _ hn => fI_in (pIn64 (by omega)) (by omega)
theorem fS_ok : Fok fS := fun _ hn => fS_in (numL_dec2 (by omega)) (by omega)

/-- The card with a text, by a way to read holes. -/
def rcG (f : ByteArray → Option Int) (s : ByteArray) : Option (ByteArray × Int × Int) := match pieces 32 s with
  | [] => none
  | nm :: ws => match rdH f ws ws.length with
    | none => none
    | some hs => if cardOk nm (mo b1 hs hs.length) = true ∧ cdT nm (mo b0 hs hs.length) (mo b1 hs hs.length) = s then some (nm, mo b0 hs hs.length, mo b1 hs hs.length) else none
theorem rcG_bad {f : ByteArray → Option Int} {s nm : ByteArray} {ws : List ByteArray} (hp : pieces 32 s = nm :: ws) {n : Nat} (hn : n ≤ ws.length) (h : rdH f ws n = none) : rcG f s = none := by
  unfold rcG
  rw [hp]
  simp only [rdH_none h _ hn]
theorem rcG_at {f : ByteArray → Option Int} {s nm : ByteArray} {ws : List ByteArray} (hp : pieces 32 s = nm :: ws) {hs : List Int} (h : rdH f ws ws.length = some hs) :
    rcG f s = if cardOk nm (mo b1 hs hs.length) = true ∧ cdT nm (mo b0 hs hs.length) (mo b1 hs hs.length) = s then some (nm, mo b0 hs hs.length, mo b1 hs hs.length) else none := by
  unfold rcG
  rw [hp]
  simp only [h]
theorem u64_wrapR (x : Int) : U64 (IntKind.u64.wrap x) := by
  unfold U64 IntKind.wrap
  simp [IntKind.bits, IntKind.signed]
  omega
theorem mo_u64 (f : Int → Int) (zs : List Int) : ∀ k, U64 (mo f zs k)
  | 0 => by unfold mo U64; omega
  | k + 1 => by unfold mo; exact u64_wrapR _
theorem mo_app (f : Int → Int) (zs ys : List Int) : ∀ k, k ≤ zs.length → mo f (zs ++ ys) k = mo f zs k
  | 0, _ => rfl
  | k + 1, h => by
    unfold mo
    rw [mo_app f zs ys k (by omega)]
    congr 2
    simp only [List.getD]
    rw [List.getElem?_append_left (by omega)]
theorem mo_push (f : Int → Int) (zs : List Int) (z : Int) : mo f (zs ++ [z]) (zs.length + 1) = bits .or .u64 (mo f zs zs.length) (f z) := by
  show bits .or .u64 (mo f (zs ++ [z]) zs.length) (f ((zs ++ [z]).getD zs.length 0)) = _
  rw [mo_app f zs [z] _ (Nat.le_refl _)]
  congr 2
  simp [List.getD]
theorem joinC_snoc (c : UInt8) (q : List UInt8) : ∀ {ps : List (List UInt8)}, ps ≠ [] → joinC c (ps ++ [q]) = joinC c ps ++ c :: q
  | [], h => absurd rfl h
  | [a], _ => rfl
  | a :: b :: r, _ => by
    have ih := joinC_snoc c q (ps := b :: r) (by simp)
    show joinC c (a :: ((b :: r) ++ [q])) = _
    rw [joinC_cons c a (by simp), ih, joinC_cons c a (by simp), List.append_assoc]; rfl
/-- The words of holes. -/
def hw (zs : List Int) : List ByteArray := zs.map fun z => dec2 z.toNat
theorem cdN_join (s : ByteArray) (zs : List Int) : ∀ n, n ≤ zs.length → (cdN s zs n).data.toList = joinC 32 ((s :: hw (zs.take n)).map fun p => p.data.toList)
  | 0, _ => rfl
  | n + 1, h => by
    have e : hw (zs.take (n + 1)) = hw (zs.take n) ++ [dec2 (zs.getD n 0).toNat] := by
      unfold hw
      rw [List.take_add_one, List.getElem?_eq_getElem (show n < zs.length by omega), List.map_append]
      simp [List.getD, show n < zs.length by omega]
    have hs : ((s :: (hw (zs.take n) ++ [dec2 (zs.getD n 0).toNat])).map fun p => p.data.toList) = ((s :: hw (zs.take n)).map fun p => p.data.toList) ++ [(dec2 (zs.getD n 0).toNat).data.toList] := by simp
    rw [← cdN_bytes, cdN_join s zs n (by omega), e, hs, joinC_snoc _ _ (by simp), List.append_assoc]
    rfl
theorem name_free {s : ByteArray} (h : nameOk s = true) : (32 : UInt8) ∉ s.data.toList := by
  intro hm
  unfold nameOk at h
  rw [Bool.and_eq_true] at h
  have := List.all_eq_true.1 h.2 _ hm
  exact absurd this (by decide)
theorem dec_free {n : Nat} (h : n < 100) : (32 : UInt8) ∉ (dec2 n).data.toList := by
  intro hm
  rw [dec2_data] at hm
  have := no_blank_dec n h _ hm
  exact absurd this (by decide)
theorem hw_free {zs : List Int} (h : ∀ z ∈ zs, 0 ≤ z ∧ z ≤ 95) : ∀ p ∈ hw zs, (32 : UInt8) ∉ p.data.toList := by
  intro p hp
  obtain ⟨z, hz, rfl⟩ := List.mem_map.1 hp
  have := h z hz
  exact dec_free (by omega)
theorem rdH_hw {f : ByteArray → Option Int} (hf : Fok f) {zs : List Int} (h : ∀ z ∈ zs, 0 ≤ z ∧ z ≤ 95) : ∀ n, n ≤ zs.length → rdH f (hw zs) n = some (zs.take n)
  | 0, _ => rfl
  | n + 1, hn => by
    have hz := h (zs[n]) (List.getElem_mem _)
    have e : (hw zs).getD n ByteArray.empty = dec2 (zs[n]).toNat := by unfold hw; simp [List.getD, show n < zs.length by omega]
    have h2 : f ((hw zs).getD n ByteArray.empty) = some zs[n] := by
      rw [e, hf _ (by omega)]
      congr 1
      omega
    rw [rdH_next (rdH_hw hf h n (by omega)) h2, List.take_add_one, List.getElem?_eq_getElem (show n < zs.length by omega)]
    rfl
theorem rcG_some {f : ByteArray → Option Int} {s nm : ByteArray} {a b : Int} (h : rcG f s = some (nm, a, b)) : cardOk nm b = true ∧ cdT nm a b = s ∧ U64 a ∧ U64 b := by
  unfold rcG at h
  split at h
  · cases h
  · split at h
    · cases h
    · split at h
      · rename_i hk
        have hh := Option.some.inj h
        simp only [Prod.mk.injEq] at hh
        obtain ⟨rfl, rfl, rfl⟩ := hh
        exact ⟨hk.1, hk.2, mo_u64 _ _ _, mo_u64 _ _ _⟩
      · cases h
theorem rcG_hit {f : ByteArray → Option Int} (hf : Fok f) {nm : ByteArray} {a b : Int} (hk : cardOk nm b = true) (ha : U64 a) (hb : U64 b) : rcG f (cdT nm a b) = some (nm, a, b) := by
  have hk2 := hk
  unfold cardOk at hk2
  rw [Bool.and_eq_true] at hk2
  obtain ⟨hn, hm⟩ := hk2
  unfold U64 at ha hb
  have hb2 : b < 4294967296 := by
    have : b / 4294967296 = 0 := by simpa [maskOk] using hm
    omega
  obtain ⟨x, rfl⟩ := Int.eq_ofNat_of_zero_le ha.1
  obtain ⟨y, rfl⟩ := Int.eq_ofNat_of_zero_le hb.1
  have e0 := mo_hol0 x y (by omega)
  have e1 := mo_hol1 x y (by omega)
  have hz := hol_in96 (hasB (x : Int) (y : Int))
  have ht : cdT nm x y = cdN nm (hol (hasB (x : Int) (y : Int)) 96) (hol (hasB (x : Int) (y : Int)) 96).length := by unfold cdT; rw [if_pos hk]
  generalize hol (hasB (x : Int) (y : Int)) 96 = zs at *
  have hj := cdN_join nm zs zs.length (Nat.le_refl _)
  rw [List.take_length] at hj
  have hp : pieces 32 (cdT nm x y) = nm :: hw zs := by
    rw [ht]
    exact pieces_of hj (by simp) (fun p hp => by
      rcases List.mem_cons.1 hp with rfl | hp
      · exact name_free hn
      · exact hw_free hz p hp)
  have hl : (hw zs).length = zs.length := by unfold hw; rw [List.length_map]
  have hr := rdH_hw hf hz zs.length (Nat.le_refl _)
  rw [List.take_length, ← hl] at hr
  rw [rcG_at hp hr, e0, e1, if_pos ⟨hk, rfl⟩]
theorem rc_same (s : ByteArray) : rcG fI s = rcG fS s := by
  have one : ∀ f g, Fok g → ∀ v, rcG f s = some v → rcG g s = some v := by
    rintro f g hg ⟨nm, a, b⟩ h
    obtain ⟨h1, h2, h3, h4⟩ := rcG_some h
    rw [← h2]
    exact rcG_hit hg h1 h3 h4
  cases hI : rcG fI s with
  | some v => rw [one _ _ fS_ok v hI]
  | none =>
    cases hS : rcG fS s with
    | none => rfl
    | some v => rw [one _ _ fI_ok v hS] at hI; cases hI
end Go.Proofs.YtnbijfeidgddmaaGreatDoor

namespace Go.Proofs.YtnbijfeidgddmaaGreatDoor
open Go.ChangeShapes Go.WideShapes Go.ChangeAt Go.RowKit

theorem joinC_last (c : UInt8) (q : List UInt8) : ∀ xs : List (List UInt8), joinC c (xs ++ [q]) = joinC c (xs ++ [[]]) ++ q
  | [] => by simp [joinC]
  | a :: r => by rw [List.cons_append, List.cons_append, joinC_cons c a (by simp), joinC_cons c a (by simp), joinC_last c q r, List.append_assoc]; rfl
/-- The lines without their ends. -/
def tl (s : ByteArray) : List ByteArray := (lns s).map trimB
theorem tl_pieces (s : ByteArray) : ((pieces 10 s).getLast? = some ByteArray.empty ∧ pieces 10 s = tl s ++ [ByteArray.empty]) ∨ ((pieces 10 s).getLast? ≠ some ByteArray.empty ∧ pieces 10 s = tl s) := by
  obtain ⟨z, hz, hh⟩ := lines_pieces s.data.toList [] (by simp)
  have ht : tl s = ((lnB [] s.data.toList).map trimL).map mkS := by
    unfold tl lns
    rw [List.map_map, List.map_map]
    rfl
  have hp : (pieces 10 s).getLast? = some (mkS z) := by unfold pieces; rw [List.getLast?_map, hz]; rfl
  rcases hh with ⟨h1, h2⟩ | ⟨h1, h2⟩
  · left
    subst h1
    refine ⟨hp, ?_⟩
    unfold pieces
    rw [h2, List.map_append, ht]; rfl
  · right
    refine ⟨?_, by unfold pieces; rw [h2, ht]⟩
    rw [hp]
    intro e
    apply h1
    have := congrArg (fun p : ByteArray => p.data.toList) (Option.some.inj e)
    exact this

end Go.Proofs.YtnbijfeidgddmaaGreatDoor

namespace Go.Proofs.YtnbijfeidgddmaaGreatDoor
open Go.ChangeShapes Go.WideShapes Go.ChangeAt Go.RowKit

/-- One of them, as it lies in memory: 5 cells. -/
structure Ed where
  k : Int
  s : ByteArray
  h : Int
  a : Int
  b : Int
instance : Inhabited Ed := ⟨⟨0, ByteArray.empty, 0, 0, 0⟩⟩
def Ed.fits (x : Ed) : Prop := I8 x.k ∧ x.s.size ≤ maxLen ∧ I16 x.h ∧ U64 x.a ∧ U64 x.b
def edAt (xs : List Ed) (i : Nat) : Ed := xs.getD i default
theorem edAt_map (f : Nat → Ed) (n i : Nat) (h : i < n) : edAt ((List.range n).map f) i = f i := by
  unfold edAt; simp [List.getD, h]

def edCell (w : World) (a : Option Addr) (i : Nat) (x : Ed) : Prop := x.fits ∧ ∃ b off, a = some ⟨b, off, none⟩ ∧ b < w.heap.size ∧
  w.cell? ⟨b, off + i * 5, none⟩ = some (.int .i8 x.k) ∧ w.cell? ⟨b, off + i * 5 + 1, none⟩ = some (.string x.s) ∧ w.cell? ⟨b, off + i * 5 + 2, none⟩ = some (.int .i16 x.h) ∧ w.cell? ⟨b, off + i * 5 + 3, none⟩ = some (.int .u64 x.a) ∧ w.cell? ⟨b, off + i * 5 + 4, none⟩ = some (.int .u64 x.b)
/-- They lie in memory. -/
def EditsIn (w : World) (a : Option Addr) (xs : List Ed) : Prop := ∀ i, i < xs.length → edCell w a i (edAt xs i)
theorem edCell_below {w w' : World} {a : Option Addr} {i : Nat} {x : Ed} (h : edCell w a i x) (hb : Below w.heap.size w w') : edCell w' a i x := by
  obtain ⟨hf, b, off, ha, hlt, h0, h1, h2, h3, h4⟩ := h
  exact ⟨hf, b, off, ha, Nat.lt_of_lt_of_le hlt hb.size, (hb.cell hlt).trans h0, (hb.cell hlt).trans h1, (hb.cell hlt).trans h2, (hb.cell hlt).trans h3, (hb.cell hlt).trans h4⟩
theorem editsIn_below {w w' : World} {a : Option Addr} {xs : List Ed} (h : EditsIn w a xs) (hb : Below w.heap.size w w') : EditsIn w' a xs := fun i hi => edCell_below (h i hi) hb

/-- A new slice with just these, in a block from B on. -/
def NewEdits (B : Nat) (xs : List Ed) (v : Value) (w : World) : Prop := ∃ g, v = .slice (some ⟨g, 0, none⟩) xs.length xs.length ∧ B ≤ g ∧ g < w.heap.size ∧ EditsIn w (some ⟨g, 0, none⟩) xs ∧ ∀ j, w.frozen? ⟨g, j, none⟩ = false

theorem open_edits {H : Type} {enc : TypeId × Value → H} {P : Program} {W : World} {t e u : TypeId} {f0 f1 f2 f3 : Field} {v : Value} {fuel : Nat} {y : DataW H × List MemPlace} (ht : P.underlying t = some (.slice e)) (he : P.underlying e = some (.struct #[f0, f1, f2, f3])) (t0 : P.underlying f0.type = some (.int .i8)) (t1 : P.underlying f1.type = some .string) (t2 : P.underlying f2.type = some (.int .i16)) (t3 : P.underlying f3.type = some (.array 2 u)) (tu : P.underlying u = some (.int .u64)) (ce : P.cellsOf e = 5) (c0 : P.cellsOf f0.type = 1) (c1 : P.cellsOf f1.type = 1) (c2 : P.cellsOf f2.type = 1) (c3 : P.cellsOf f3.type = 2) (cu : P.cellsOf u = 1) (o0 : f0.offset = 0) (o1 : f1.offset = 1) (o2 : f2.offset = 2) (o3 : f3.offset = 3)
    (hf : DataW.trod enc P W 0 (fun _ => true) true fuel t [v] = some y) : ∃ a xs cap, v = .slice a xs.length cap ∧ EditsIn W a xs ∧ xs.length ≤ maxLen := by
  rcases Go.Deep.open_slice ht hf with ⟨hcs, _⟩ | ⟨a, len, cap', m, n, D, Pl, hcs, _, hl, hcm, hm, _, hi⟩
  · simp at hcs
    subst hcs
    exact ⟨none, [], 0, rfl, fun i hi => absurd hi (Nat.not_lt_zero _), Nat.zero_le _⟩
  · simp at hcs
    subst hcs
    simp at hm
    subst hm
    have key : ∀ i, i < len → ∃ c : Ed, c.fits ∧ W.cell? (a.add (i * 5)) = some (.int .i8 c.k) ∧ W.cell? (a.add (i * 5 + 1)) = some (.string c.s) ∧ W.cell? (a.add (i * 5 + 2)) = some (.int .i16 c.h) ∧ W.cell? (a.add (i * 5 + 3)) = some (.int .u64 c.a) ∧ W.cell? (a.add (i * 5 + 4)) = some (.int .u64 c.b) := by
      intro i hi'
      obtain ⟨cs', hc, hd⟩ := hi i (by omega)
      rw [ce] at hc
      obtain ⟨_, hlen, hat⟩ := World.cells?_some hc
      obtain ⟨xs, n1, _, _, _, hxl, hfs⟩ := DataW.trod_struct he hd
      match cs', hlen with
      | [x0, x1, x2, x3, x4], _ =>
        have g0 := hfs 0 f0 rfl
        have g1 := hfs 1 f1 rfl
        have g2 := hfs 2 f2 rfl
        have g3 := hfs 3 f3 rfl
        rw [o0, c0] at g0
        rw [o1, c1] at g1
        rw [o2, c2] at g2
        rw [o3, c3] at g3
        match xs, hxl with
        | [y0, y1, y2, y3], _ =>
          simp at g0 g1 g2 g3
          obtain ⟨i0, ei0, _, wi0⟩ := DataW.trod_int t0 g0
          simp at ei0
          subst ei0
          simp [Lit.wf, IntKind.min, IntKind.max, IntKind.signed, IntKind.bits] at wi0
          have ui0 : I8 i0 := ⟨by omega, by omega⟩
          obtain ⟨s1, es1, _, hs1⟩ := DataW.trod_string t1 g1
          simp at es1
          subst es1
          obtain ⟨i2, ei2, _, wi2⟩ := DataW.trod_int t2 g2
          simp at ei2
          subst ei2
          simp [Lit.wf, IntKind.min, IntKind.max, IntKind.signed, IntKind.bits] at wi2
          have ui2 : I16 i2 := ⟨by omega, by omega⟩
          obtain ⟨zs, n2, _, _, _, hzl, hg⟩ := DataW.trod_array t3 g3
          match zs, hzl with
          | [z0, z1], _ =>
          have k0 := hg 0 (by omega)
          have k1 := hg 1 (by omega)
          rw [cu] at k0 k1
          simp at k0 k1
          obtain ⟨m0, e0, _, v0⟩ := DataW.trod_int tu k0
          obtain ⟨m1, e1, _, v1⟩ := DataW.trod_int tu k1
          simp at e0 e1
          subst e0 e1
          simp [Lit.wf, IntKind.min, IntKind.max, IntKind.signed, IntKind.bits] at v0 v1
          have um0 : U64 m0 := ⟨by omega, by omega⟩
          have um1 : U64 m1 := ⟨by omega, by omega⟩
          have a0 := hat 0 (by omega)
          have a1 := hat 1 (by omega)
          have a2 := hat 2 (by omega)
          have a3 := hat 3 (by omega)
          have a4 := hat 4 (by omega)
          rw [Go.Deep.add_add] at a0 a1 a2 a3 a4
          exact ⟨⟨i0, s1, i2, m0, m1⟩, ⟨ui0, hs1, ui2, um0, um1⟩, a0, a1, a2, a3, a4⟩
    obtain ⟨f, hf2⟩ := Go.Deep.choose_lt key
    refine ⟨some a, (List.range len).map f, m, by simp, fun i hi' => ?_, by simp; omega⟩
    simp at hi'
    rw [edAt_map f len i hi']
    obtain ⟨hfit, q0, q1, q2, q3, q4⟩ := hf2 i hi'
    obtain ⟨b, off, spot⟩ := a
    have hspot : spot = none := by simpa [Addr.add] using World.cell?_spot (hf2 0 (by omega)).2.1
    subst hspot
    exact ⟨hfit, b, off, rfl, by have h := World.block_lt_of_cell? _ _ q0; rw [Go.WideShapes.add_plain] at h; exact h, by rw [← Go.WideShapes.add_plain]; exact q0, by rw [Nat.add_assoc, ← Go.WideShapes.add_plain]; exact q1, by rw [Nat.add_assoc, ← Go.WideShapes.add_plain]; exact q2, by rw [Nat.add_assoc, ← Go.WideShapes.add_plain]; exact q3, by rw [Nat.add_assoc, ← Go.WideShapes.add_plain]; exact q4⟩
end Go.Proofs.YtnbijfeidgddmaaGreatDoor

namespace Go.Proofs.YtnbijfeidgddmaaGreatDoor
open Go.ChangeShapes Go.WideShapes Go.ChangeAt Go.RowKit

/-- No hole in both masks. -/
def meetZ (a b c d : Int) : Bool := bits .and .u64 a c == 0 && bits .and .u64 b d == 0
def qOk (a b c d : Int) : Bool := maskOk b && maskOk d && meetZ a b c d
theorem qOk_1 {b : Int} (a c d : Int) (h : (b / 4294967296 == 0) = false) : qOk a b c d = false := by unfold qOk maskOk; simp [h]
theorem qOk_2 {d : Int} (a b c : Int) (h : (d / 4294967296 == 0) = false) : qOk a b c d = false := by unfold qOk maskOk; simp [h]
theorem qOk_3 {b d : Int} (a c : Int) (h1 : (b / 4294967296 == 0) = true) (h2 : (d / 4294967296 == 0) = true) : qOk a b c d = meetZ a b c d := by unfold qOk maskOk; simp [h1, h2]

theorem sMeet_below (a b c d : Int) (w : World) : Calls Tryz.prog 33 #[.agg #[.int .u64 a, .int .u64 b], .agg #[.int .u64 c, .int .u64 d]] w fun e w' => e = .returned (.agg #[.int .u64 (bits .and .u64 a c), .int .u64 (bits .and .u64 b d)]) ∧ Below w.heap.size w w' :=
  (sMeet_any a b c d w).mono fun e w' ⟨he, hw⟩ => ⟨he, by subst hw; exact (by repeat' (first | (with_reducible exact Below.refl _ _) | (with_reducible assumption) | (with_reducible refine below_drewN ?_ _) | (with_reducible refine Below.drew ?_) | (with_reducible refine below_new ?_ _) | (with_reducible refine below_next ?_ (by with_reducible assumption)) | (with_reducible refine Below.setCell ?_ ?_ _) | go_size))⟩
theorem sMask_any (a b : Int) (w : World) : Calls Tryz.prog 80 #[.agg #[.int .u64 a, .int .u64 b]] w fun e w' => e = .returned (.bool (b / 4294967296 == 0)) ∧ Below w.heap.size w w' := by
  go_enter Tryz.func80, Tryz.ntmps80
  go_wp2
  go_returns
  exact ⟨rfl, (by repeat' (first | (with_reducible exact Below.refl _ _) | (with_reducible assumption) | (with_reducible refine below_drewN ?_ _) | (with_reducible refine Below.drew ?_) | (with_reducible refine below_new ?_ _) | (with_reducible refine below_next ?_ (by with_reducible assumption)) | (with_reducible refine Below.setCell ?_ ?_ _) | go_size))⟩
theorem sMask_is {b : Int} (a : Int) {x : Bool} (h : (b / 4294967296 == 0) = x) : Hid (∀ w : World, Calls Tryz.prog 80 #[.agg #[.int .u64 a, .int .u64 b]] w fun e w' => e = .returned (.bool x) ∧ Below w.heap.size w w') := Lib.hid fun w => by rw [← h]; exact sMask_any a b w
end Go.Proofs.YtnbijfeidgddmaaGreatDoor

namespace Go.Proofs.YtnbijfeidgddmaaGreatDoor
open Go.ChangeShapes Go.WideShapes Go.ChangeAt Go.RowKit

theorem open_query {P : Program} {w : World} {r : Reach} {base : Nat} {t : TypeId} {v : Value} {f0 f1 : Field} {e : TypeId} (hu : P.underlying t = some (.struct #[f0, f1])) (he : P.underlying e = some (.int .u64)) (hts : P.cellTypes P.depth t = some [e, e, e, e]) (hc : P.cellsOf t = 4)
    (h : Value.okWide P w r base t v) : ∃ a b c d : Int, v = .agg #[.int .u64 a, .int .u64 b, .int .u64 c, .int .u64 d] ∧ U64 a ∧ U64 b ∧ U64 c ∧ U64 d := by
  obtain ⟨cs, rfl, hsz, hcell⟩ := open_cells ⟨_, hu, .inl ⟨_, rfl⟩⟩ hts hc h
  obtain ⟨c0, c1, c2, c3, rfl⟩ := Go.Joins.array4 hsz
  obtain ⟨a, rfl, ha⟩ := cell_u64 he (hcell 0 c0 e rfl rfl)
  obtain ⟨b, rfl, hb⟩ := cell_u64 he (hcell 1 c1 e rfl rfl)
  obtain ⟨c, rfl, hc⟩ := cell_u64 he (hcell 2 c2 e rfl rfl)
  obtain ⟨d, rfl, hd⟩ := cell_u64 he (hcell 3 c3 e rfl rfl)
  exact ⟨a, b, c, d, rfl, ⟨by omega, by omega⟩, ⟨by omega, by omega⟩, ⟨by omega, by omega⟩, ⟨by omega, by omega⟩⟩
end Go.Proofs.YtnbijfeidgddmaaGreatDoor

namespace Go.Proofs.YtnbijfeidgddmaaGreatDoor
open Go.ChangeShapes Go.WideShapes Go.ChangeAt Go.RowKit



end Go.Proofs.YtnbijfeidgddmaaGreatDoor
