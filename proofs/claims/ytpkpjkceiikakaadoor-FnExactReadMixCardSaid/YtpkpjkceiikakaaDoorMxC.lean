/- Contracts: the text of a mix, the program's and the model's. -/
import Derived.Test.YtpkpjkceiikakaaDoorAppI
import Derived.Test.YtpkpjkceiikakaaDoorVMix
import Derived.Test.YtpkpjkceiikakaaDoorBoxes
import Derived.Lib.SlBytesConst
import Derived.Deep.DeepCutAuto
namespace Go.Proofs.YtpkpjkceiikakaaDoor
open Go.ChangeShapes Go.WideShapes Go.ChangeAt Go.RowKit

/-- The text of a valid mix. -/
def mxN (T Z Q : Nat) : ByteArray := ((((⟨#[109, 105, 120, 32]⟩ ++ dec2 T) ++ ⟨#[32]⟩) ++ dec2 Z) ++ ⟨#[32]⟩) ++ dec2 Q
theorem mxN_bytes (T Z Q : Nat) : (⟨((((((([109, 105, 120] : List UInt8) ++ [32]) ++ (dec2 T).data.toList) ++ [32]) ++ (dec2 Z).data.toList) ++ [32]) ++ (dec2 Q).data.toList).toArray⟩ : ByteArray) = mxN T Z Q := by
  unfold mxN
  apply ByteArray.ext
  simp only [ByteArray.data_append]
  apply Array.ext'
  simp
def mxT (t z p : Int) : ByteArray := if mixOk t z p = true then mxN t.toNat z.toNat p.toNat else ByteArray.empty
theorem ownG_ltM {B : Nat} {bs : List UInt8} {v : Value} {w : World} (h : OwnG B bs v w) : ∀ k, v.ownBlock = some k → B ≤ k := fun k hk => by
  obtain ⟨g, cap, rfl, h1, _⟩ := h
  have : g = k := Option.some.inj hk
  omega
theorem newM (W : World) (t : TypeId) : (W.alloc (.cells #[.int .u8 32] t)).cell? ((⟨W.heap.size, 0, none⟩ : Addr).add 0) = some (.int .u8 ((32 : UInt8).toNat : Int)) := by
  simp [Addr.add]
/-- An element of an array's value. -/
theorem wpList_indexV {P : Program} {w : World} {ops : Array Oper} {rest : List Oper} {o : Oper} {a : Act} {Q : Exit → Act → World → Prop} (hg : o.guard = none) (x i : Operand) (t : TypeId) (_hop : o.op = Op.index t x i) (v : Value) (hr : ∀ w, (execOp a.eval o).run P w = .ok (.value v) w) (h : wpList P ops Q rest (a.put o.dst v) w) : wpList P ops Q (o :: rest) a w :=
  wpList_plain hg fun K hK' => by unfold Oper.wp; rw [hr]; exact hK' _ _ h
theorem ownG_mix (w : World) (t : TypeId) (fr : Nat × Nat) : OwnG w.heap.size [109, 105, 120] (.slice (some ⟨w.heap.size, 0, none⟩) 3 3) (w.alloc (.cells #[.int .u8 109, .int .u8 105, .int .u8 120] t fr)) := by
  refine ⟨w.heap.size, 3, rfl, Nat.le_refl _, by simp, by simp, fun j u hj => ?_, fun j a b => ?_⟩
  · match j, hj with
    | 0, hj => simp [Lib.byteCells] at hj; subst hj; rw [World.cell?_alloc_mark]; rfl
    | 1, hj => simp [Lib.byteCells] at hj; subst hj; rw [World.cell?_alloc_mark]; rfl
    | 2, hj => simp [Lib.byteCells] at hj; subst hj; rw [World.cell?_alloc_mark]; rfl
  · simp at a; omega

set_option maxRecDepth 100000 in
set_option maxHeartbeats 3200000 in
theorem iMixText_any (t z p : Int) (ht : I16 t) (hz : I16 z) (w : World) :
    Calls Tryd.prog 26 #[.agg #[.int .i16 t, .int .i16 z, .int .i16 p]] w fun e w' => e = .returned (.string (mxT t z p)) ∧ Below w.heap.size w w' := by
  obtain ⟨i0, hi, hz0, hz1, hz2⟩ := info_parts info_by
  have V := fun W => iValidMix_any t z p ht hz W
  have BX := Lib.hid (below_new (Below.refl w.heap.size w) (.cells #[.int .i16 t, .int .i16 z, .int .i16 p] 24))
  have NX := Lib.hid (block_alloc w (.cells #[.int .i16 t, .int .i16 z, .int .i16 p] 24))
  unfold mxT
  cases hk : mixOk t z p
  · rw [hk] at V
    replace V := Lib.hid V
    simp only [Bool.false_eq_true, if_false]
    clear hk ht hz
    go_enter Tryd.func26, Tryd.ntmps26
    go_wp2_with (go_at_call 49; refine (V.out _).mono ?_; rintro e w1 ⟨rfl, hB⟩; have B1 := Lib.hid (BX.out.trans (Below.mono hB BX.out.size)); clear hB)
    go_returns
    exact ⟨rfl, B1.out⟩
  · rw [hk] at V
    obtain ⟨m1, m2, m3, m4, m5, m6⟩ := mix_inv hk
    obtain ⟨T, rfl⟩ := Int.eq_ofNat_of_zero_le m1
    obtain ⟨Z, rfl⟩ := Int.eq_ofNat_of_zero_le (show 0 ≤ z by omega)
    obtain ⟨Q, rfl⟩ := Int.eq_ofNat_of_zero_le (show 0 ≤ p by omega)
    simp only [if_true, Int.toNat_natCast]
    have hT : T < 100 := by omega
    have hZ : Z < 100 := by omega
    have hQ : Q < 100 := by omega
    have x1 : IntKind.i64.wrap (T : Int) = (T : Int) := IntWalk.i64_in _ (by omega)
    have x2 : IntKind.i64.wrap (Z : Int) = (Z : Int) := IntWalk.i64_in _ (by omega)
    have x3 : IntKind.i64.wrap (Q : Int) = (Q : Int) := IntWalk.i64_in _ (by omega)
    have sT := dec2_le hT
    have sZ := dec2_le hZ
    have sQ := dec2_le hQ
    have lT : (dec2 T).data.toList.length = (dec2 T).size := Array.length_toList
    have lZ : (dec2 Z).data.toList.length = (dec2 Z).size := Array.length_toList
    have lQ : (dec2 Q).data.toList.length = (dec2 Q).size := Array.length_toList
    have AT := Lib.hid fun bs v W (hO : OwnG w.heap.size bs v W) hB (hl : bs.length ≤ 100) h0 => appI_any w.heap.size bs v T hT W hO hB (by omega) h0
    have AZ := Lib.hid fun bs v W (hO : OwnG w.heap.size bs v W) hB (hl : bs.length ≤ 100) h0 => appI_any w.heap.size bs v Z hZ W hO hB (by omega) h0
    have AQ := Lib.hid fun bs v W (hO : OwnG w.heap.size bs v W) hB (hl : bs.length ≤ 100) h0 => appI_any w.heap.size bs v Q hQ W hO hB (by omega) h0
    have MB := Lib.hid (mxN_bytes T Z Q)
    have kc := fun (w : World) (C : Array Value) (n c : Nat) => Lib.run_convert_bytes_const (P := Tryd.prog) w 81 5 C n c Tryd.underlying81 Tryd.underlying5
    replace V := Lib.hid V
    clear hk ht hz m1 m2 m3 m4 m5 m6 hT hZ hQ
    generalize mxN T Z Q = R at *
    have LT : (dec2 T).data.toList.length ≤ 2 := by omega
    have LZ : (dec2 Z).data.toList.length ≤ 2 := by omega
    have LQ : (dec2 Q).data.toList.length ≤ 2 := by omega
    clear sT sZ sQ lT lZ lQ
    generalize (dec2 T).data.toList = bT at *
    generalize (dec2 Z).data.toList = bZ at *
    generalize (dec2 Q).data.toList = bQ at *
    go_enter Tryd.func26, Tryd.ntmps26
    go_upto_region 5 with (go_at_call 49; refine (V.out _).mono ?_; rintro e w1 ⟨rfl, hB⟩; have B1 := Lib.hid (BX.out.trans (Below.mono hB BX.out.size)); have N1 := Lib.hid (Ab.block hB NX.out); have k1 := cell_of_block N1.out; have z1 := lt_of_block N1.out; clear hB)
    have O2 := Lib.hid (ownG_weak (ownG_mix w1 5 (3, 4)) B1.out.size)
    have B2 := Lib.hid (below_new B1.out (.cells #[.int .u8 109, .int .u8 105, .int .u8 120] 5 (3, 4)))
    generalize w1.alloc (.cells #[.int .u8 109, .int .u8 105, .int .u8 120] 5 (3, 4)) = w2 at *
    generalize Value.slice (some ⟨w1.heap.size, 0, none⟩) 3 3 = v2 at *
    clear k1 z1 kc
    have tok1 : True := trivial
    have tok2 : True := trivial
    have tok3 : True := trivial
    have tok4 : True := trivial
    have tok5 : True := trivial
    refine wp_loop_rounds 4 ?_
    rw [rounds_succ]
    go_wp2_with (first
      | (refine wpList_indexV rfl _ _ _ rfl (.int .i16 (T : Int)) (fun _ => by kernel_rfl) ?_)
      | (at_builtin; have _t := tok1; clear _t tok1; refine wp_pushG _ rfl _ _ 81 rfl 5 i0 Tryd.underlying81 hi hz0 hz1 hz2 w.heap.size ([109, 105, 120]) _ rfl (ownG_kept O2.out (below_new (Below.refl w2.heap.size w2) (.cells #[.int .u8 32] 5))) (by have h := B2.out.size; simp; omega) (by simp <;> omega) ⟨w2.heap.size, 0, none⟩ 1 32 rfl (newM _ _) ?_; intro v3 w3 hG; have G3 := Lib.hid hG; have B3 := Lib.hid (Below.grown (below_new B2.out (.cells #[.int .u8 32] 5)) hG.2.1 (by have h := B2.out.size; simp; omega) (ownG_ltM O2.out)); clear hG)
      | (go_at_call 50; have _t := tok2; clear _t tok2; refine (AT.out (([109, 105, 120]) ++ [32]) _ _ G3.out.1 B3.out.size (by simp <;> omega) (by simp)).mono ?_; rintro e w4 ⟨v4, rfl, hG⟩; have G4 := Lib.hid hG; have B4 := Lib.hid (Below.grown B3.out hG.2.1 B3.out.size (ownG_ltM G3.out.1)); clear hG))
    rw [rounds_succ]
    go_wp2_with (first
      | (refine wpList_indexV rfl _ _ _ rfl (.int .i16 (Z : Int)) (fun _ => by kernel_rfl) ?_)
      | (at_builtin; have _t := tok3; clear _t tok3; refine wp_pushG _ rfl _ _ 81 rfl 5 i0 Tryd.underlying81 hi hz0 hz1 hz2 w.heap.size ((([109, 105, 120]) ++ [32]) ++ bT) _ rfl (ownG_kept G4.out.1 (below_new (Below.refl w4.heap.size w4) (.cells #[.int .u8 32] 5))) (by have h := B4.out.size; simp; omega) (by simp <;> omega) ⟨w4.heap.size, 0, none⟩ 1 32 rfl (newM _ _) ?_; intro v5 w5 hG; have G5 := Lib.hid hG; have B5 := Lib.hid (Below.grown (below_new B4.out (.cells #[.int .u8 32] 5)) hG.2.1 (by have h := B4.out.size; simp; omega) (ownG_ltM G4.out.1)); clear hG)
      | (go_at_call 50; have _t := tok4; clear _t tok4; refine (AZ.out (((([109, 105, 120]) ++ [32]) ++ bT) ++ [32]) _ _ G5.out.1 B5.out.size (by simp <;> omega) (by simp)).mono ?_; rintro e w6 ⟨v6, rfl, hG⟩; have G6 := Lib.hid hG; have B6 := Lib.hid (Below.grown B5.out hG.2.1 B5.out.size (ownG_ltM G5.out.1)); clear hG))
    rw [rounds_succ]
    go_wp2_with (first
      | (refine wpList_indexV rfl _ _ _ rfl (.int .i16 (Q : Int)) (fun _ => by kernel_rfl) ?_)
      | (at_builtin; have _t := tok5; clear _t tok5; refine wp_pushG _ rfl _ _ 81 rfl 5 i0 Tryd.underlying81 hi hz0 hz1 hz2 w.heap.size ((((([109, 105, 120]) ++ [32]) ++ bT) ++ [32]) ++ bZ) _ rfl (ownG_kept G6.out.1 (below_new (Below.refl w6.heap.size w6) (.cells #[.int .u8 32] 5))) (by have h := B6.out.size; simp; omega) (by simp <;> omega) ⟨w6.heap.size, 0, none⟩ 1 32 rfl (newM _ _) ?_; intro v7 w7 hG; have G7 := Lib.hid hG; have B7 := Lib.hid (Below.grown (below_new B6.out (.cells #[.int .u8 32] 5)) hG.2.1 (by have h := B6.out.size; simp; omega) (ownG_ltM G6.out.1)); clear hG)
      | (go_at_call 50; refine (AQ.out (((((([109, 105, 120]) ++ [32]) ++ bT) ++ [32]) ++ bZ) ++ [32]) _ _ G7.out.1 B7.out.size (by simp <;> omega) (by simp)).mono ?_; rintro e w8 ⟨v8, rfl, hG⟩; have G8 := Lib.hid hG; have B8 := Lib.hid (Below.grown B7.out hG.2.1 B7.out.size (ownG_ltM G7.out.1)); clear hG))
    rw [rounds_succ]
    have cvb := conv_backG (P := Tryd.prog) (src := 81) (dst := 9) (e := 5) G8.out.1 Tryd.underlying81 Tryd.underlying5 Tryd.underlying9
    rw [MB.out] at cvb
    go_wp2
    go_returns
    exact ⟨rfl, B8.out⟩

theorem and_three {P Q R : Prop} (a : P) (b : Q) (c : R) : P ∧ Q ∧ R := ⟨a, b, c⟩

end Go.Proofs.YtpkpjkceiikakaaDoor
