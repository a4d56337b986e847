/- Several texts in one, as a claim has at most 60 files: CtC CtS EtT ReM Spt RcI LnF EtC ReI ReJ EtI RxI NuS SplS FloM RcS EtS PeL EdsMk EbH. -/
import Derived.Test.YtpkpjkceiikakaaGreatDoorRxZ
import Derived.Test.YtpkpjkceiikakaaGreatDoorBoxes
import Derived.Deep.DeepCutAuto
import Derived.Test.YtpkpjkceiikakaaGreatDoorBdK
import Derived.Test.YtpkpjkceiikakaaGreatDoorStT
import Derived.Test.YtpkpjkceiikakaaGreatDoorShelf
import Derived.Test.YtpkpjkceiikakaaGreatDoorStrL
import Derived.Shelf.Strings.Split
import Derived.Shelf.Strconv.ErrVarParseInt
import Derived.Test.YtpkpjkceiikakaaGreatDoorMasks
import Derived.Test.YtpkpjkceiikakaaGreatDoorHolesIn
import Derived.Test.YtpkpjkceiikakaaGreatDoorRngO
import Derived.RangeFuncBox
import Derived.Laws.MakeOwn
import Derived.Laws.DeepStrings4
import Derived.Stop.LaidErr
import Derived.RowKitTokens
import Derived.Test.YtpkpjkceiikakaaGreatDoorQuiet
namespace Go.Proofs.YtpkpjkceiikakaaGreatDoor
open Go.ChangeShapes Go.WideShapes Go.ChangeAt Go.RowKit

theorem intsIn_grown {w w' : World} {row : Option Nat} {a : Option Addr} {zs : List Int} (h : IntsIn w a zs) (hg : w.grownBy w' row) (hne : ∀ p, a = some p → row ≠ some p.block) : IntsIn w' a zs := fun i hi => by
  obtain ⟨b, off, ha, hlt, hc⟩ := h i hi
  exact ⟨b, off, ha, Nat.lt_of_lt_of_le hlt hg.size, (World.cell?_of_block (a := ⟨b, off + i, none⟩) (hg.block b hlt (fun e => hne _ ha e.symm))).trans hc⟩
/-- The list lies in another block than the bytes. -/
def NoB (a : Option Addr) (v : Value) : Prop := ∀ p, a = some p → v.ownBlock ≠ some p.block
theorem noB_start {B n : Nat} {zs : List Int} {a : Option Addr} {c : Nat} {w w' : World} {v : Value} {bs : List UInt8} (h : OwnInts B zs (.slice a zs.length c) w) (hv : OwnG n bs v w') (hB : w'.heap.size ≤ B) : NoB a v := by
  intro p hp
  subst hp
  obtain ⟨g, cap, rfl, _, hlt, _⟩ := hv
  have := (World.ownsRow.lt h p.block rfl).1
  intro e
  have e2 : g = p.block := Option.some.inj e
  omega
theorem noB_next {a : Option Addr} {v v' : Value} {w w' : World} {B : Nat} {bs : List UInt8} {zs : List Int} (h : NoB a v) (hi : IntsIn w a zs) (hz : 0 < zs.length) (hG : Grn B bs v w v' w') : NoB a v' := by
  intro p hp
  rcases hG.2.2 with e | ⟨g, e, hg⟩
  · rw [e]; exact h p hp
  · rw [e]
    obtain ⟨b, off, ha, hlt, _⟩ := hi 0 hz
    rw [ha] at hp
    cases hp
    intro q
    have : g = b := Option.some.inj q
    omega
theorem ownG_lt {B : Nat} {bs : List UInt8} {v : Value} {w : World} (h : OwnG B bs v w) : ∀ k, v.ownBlock = some k → B ≤ k := fun k hk => by
  obtain ⟨g, cap, rfl, h1, _⟩ := h
  have : g = k := Option.some.inj hk
  omega
theorem newB (W : World) (t : TypeId) : (W.alloc (.cells #[.int .u8 32] t)).cell? ((⟨W.heap.size, 0, none⟩ : Addr).add 0) = some (.int .u8 ((32 : UInt8).toNat : Int)) := by
  simp [Addr.add]

set_option maxRecDepth 100000 in
set_option maxHeartbeats 3200000 in
theorem iCardText_any (s : ByteArray) (a b : Int) (hs : s.size ≤ maxLen) (ha : U64 a) (hb : U64 b) (w : World) :
    Calls Tryz.prog 59 #[.agg #[.string s, .int .u64 a, .int .u64 b]] w fun e w' => e = .returned (.string (cdT s a b)) ∧ Below w.heap.size w w' := by
  obtain ⟨i0, hi, hz0, hz1, hz2⟩ := info_parts info_by
  have V := fun W => iValidCard_any s a b hs W
  have BX := Lib.hid (below_new (Below.refl w.heap.size w) (.cells #[.string s, .int .u64 a, .int .u64 b] 80))
  have NX := Lib.hid (block_alloc w (.cells #[.string s, .int .u64 a, .int .u64 b] 80))
  unfold cdT
  cases hk : cardOk s b
  · rw [hk] at V
    replace V := Lib.hid V
    simp only [Bool.false_eq_true, if_false]
    clear hk ha hb hs
    go_enter Tryz.func59, Tryz.ntmps59
    go_wp2_with (go_at_call 84; refine (V.out _).mono ?_; rintro e w1 ⟨rfl, hB⟩; have B1 := Lib.hid (BX.out.trans (Below.mono hB BX.out.size)); clear hB)
    go_returns
    exact ⟨rfl, B1.out⟩
  · rw [hk] at V
    have hk2 := hk
    unfold cardOk at hk2
    rw [Bool.and_eq_true] at hk2
    obtain ⟨ns1, ns2⟩ := nameOk_size hk2.1
    have HI := fun W => iHolesIn_any a b ha hb W
    have mk : (b / 4294967296 == 0) = true := hk2.2
    rw [hz_yes _ mk, hzC_yes mk] at HI
    have hl := hol_len (hasB a b) 96
    have HM := fun j hj => hol_atX (f := hasB a b) (n := 96) (j := j) hj
    simp only [if_true]
    generalize hol (hasB a b) 96 = zs at *
    have CS := Lib.hid (cdN_size s (zs := zs) HM)
    have CP := Lib.hid (cdN_pos (s := s) (by omega) zs)
    have CB := Lib.hid (cdN_bytes s zs)
    replace HM := Lib.hid HM
    replace V := Lib.hid V
    replace HI := Lib.hid HI
    obtain ⟨cV, cH0⟩ := Classical.axiomOfChoice (fun W => conv_toG (P := Tryz.prog) (src := 9) (dst := 76) (e := 5) s W Tryz.underlying9 Tryz.underlying76 Tryz.underlying5)
    obtain ⟨cW, cH⟩ := Classical.axiomOfChoice cH0
    have cv := fun W => (cH W).1
    have CG := Lib.hid fun W => (cH W).2
    clear hk hk2 mk ha hb hs cH cH0
    have tok1 : True := trivial
    go_enter Tryz.func59, Tryz.ntmps59
    go_upto_region 4 with (go_at_call 84; refine (V.out _).mono ?_; rintro e w1 ⟨rfl, hB⟩; have B1 := Lib.hid (BX.out.trans (Below.mono hB BX.out.size)); have N1 := Lib.hid (Ab.block hB NX.out); have k1 := cell_of_block N1.out; have z1 := lt_of_block N1.out; clear hB)
    obtain ⟨hO2, hB2⟩ := CG.out w1
    have N2 := Lib.hid (Ab.block hB2 N1.out)
    have B2 := Lib.hid (B1.out.trans (Below.mono hB2 B1.out.size))
    have O2 := Lib.hid (ownG_weak hO2 B1.out.size)
    clear k1 z1 cv CG hO2 hB2
    generalize cW w1 = w2 at *
    generalize cV w1 = v2 at *
    obtain ⟨g2, p2, hv, _⟩ := O2.out
    subst hv
    have k1 := cell_of_block N2.out
    have z1 := lt_of_block N2.out
    go_wp2_with (go_at_call 54; refine (HI.out _).mono ?_; rintro e w3 ⟨v3, rfl, hO, hB⟩; have I3 := Lib.hid hO; have A3 := Lib.hid (show Ab w2 w3 from hB); obtain ⟨a3, c3, hv, _⟩ := ownInts_in hO; subst hv; clear hO hB k1 z1)
    have P3 := Lib.hid (noB_start I3.out O2.out (Nat.le_refl _))
    have X3 := Lib.hid (show IntsIn w3 a3 zs from by obtain ⟨_, _, hv, hi⟩ := ownInts_in I3.out; cases hv; exact hi)
    have B3 := Lib.hid (B2.out.trans (Below.mono A3.out B2.out.size))
    have O3 := Lib.hid (ownG_kept O2.out A3.out)
    clear I3
    go_loopw [3, 22] (fun v i wr => ∃ j : Nat, j ≤ zs.length ∧ i = .int .i64 (j : Int) ∧ OwnG w.heap.size (cdN s zs j).data.toList v wr ∧ Below w.heap.size w wr ∧ IntsIn wr a3 zs ∧ NoB a3 v) (fun _ i _ => zs.length - (intOf i).toNat)
    case atStart => exact ⟨0, Nat.zero_le _, rfl, O3.out, B3.out, X3.out, P3.out⟩
    case round =>
      obtain ⟨j, hj, rfl, hO, hB, hI, hN⟩ := hrel
      have O5 := Lib.hid hO
      have B5 := Lib.hid hB
      have I5 := Lib.hid hI
      have N5 := Lib.hid hN
      clear hO hN
      by_cases hjl : j < zs.length
      · have hd : decide ((j : Int) < (zs.length : Int)) = true := by simpa using hjl
        obtain ⟨b1, o1, ha3, y1, d0⟩ := hI j hjl
        subst ha3
        have i1 : (0 : Int) ≤ (j : Int) := by omega
        have i2 : (j : Int) < (zs.length : Int) := by omega
        obtain ⟨h0, h1⟩ := HM.out j hjl
        have cs := CS.out j hj
        have cp := CP.out j
        have cb := Lib.hid (CB.out j)
        have sl : (cdN s zs j).data.toList.length = (cdN s zs j).size := Array.length_toList
        obtain ⟨m, hm⟩ := Int.eq_ofNat_of_zero_le h0
        rw [hm] at d0 h1 cb
        rw [Int.toNat_natCast] at cb
        have hm1 : m < 96 := by omega
        have s5 := B5.out.size
        have NB := Lib.hid (below_new (Below.refl wr.heap.size wr) (.cells #[.int .u8 32] 5))
        have OA := Lib.hid (ownG_kept O5.out NB.out)
        have IA := Lib.hid (show IntsIn (wr.alloc (.cells #[.int .u8 32] 5)) (some ⟨b1, o1, none⟩) zs from intsIn_below I5.out NB.out)
        have zl : 0 < zs.length := by omega
        have hbl : (cdN s zs j).data.toList.length ≤ 400 := by omega
        have hb0 : 0 < (cdN s zs j).data.toList.length := by omega
        clear h0 h1 hm cs cp sl hI hB
        generalize (cdN s zs j).data.toList = bs at *
        go_wp2_with (first
          | (at_builtin; refine wp_pushG _ rfl _ _ 76 rfl 5 i0 Tryz.underlying76 hi hz0 hz1 hz2 w.heap.size bs _ rfl OA.out (by simp; omega) (by omega) ⟨wr.heap.size, 0, none⟩ 1 32 rfl (newB _ _) ?_; intro v6 w6 hG; have G6 := Lib.hid hG; have I6 := Lib.hid (intsIn_grown IA.out hG.2.1 N5.out); have N6 := Lib.hid (noB_next N5.out IA.out zl hG); have B6 := Lib.hid (Below.grown (below_new B5.out (.cells #[.int .u8 32] 5)) hG.2.1 (by simp; omega) (ownG_lt O5.out)); clear hG)
          | (go_at_call 45; refine (appI_any w.heap.size (bs ++ [32]) _ m (by omega) _ G6.out.1 B6.out.size (by rw [List.length_append]; simp; omega) (by rw [List.length_append]; simp)).mono ?_; rintro e w7 ⟨v7, rfl, hG⟩; have G7 := Lib.hid hG; have I7 := Lib.hid (intsIn_grown I6.out hG.2.1 N6.out); have N7 := Lib.hid (noB_next N6.out I6.out zl hG); have B7 := Lib.hid (Below.grown B6.out hG.2.1 B6.out.size (ownG_lt G6.out.1)); clear hG))
        exact ⟨⟨j + 1, hjl, by rw [Int.natCast_succ], by rw [← cb.out]; exact G7.out.1, B7.out, I7.out, N7.out⟩, by (simp [intOf]) <;> omega⟩
      · have e : j = zs.length := by omega
        subst e
        have hd : decide ((zs.length : Int) < (zs.length : Int)) = false := by simp
        have cvb := conv_backG (P := Tryz.prog) (src := 76) (dst := 9) (e := 5) O5.out Tryz.underlying76 Tryz.underlying5 Tryz.underlying9
        have BE := Lib.hid (back_eq (cdN s zs zs.length))
        generalize (cdN s zs zs.length).data.toList = bs at *
        obtain ⟨g5, p5, hv, _⟩ := O5.out
        subst hv
        clear hB hI
        go_wp2
        go_returns
        exact ⟨ret_strC BE.out, B5.out⟩
end Go.Proofs.YtpkpjkceiikakaaGreatDoor

namespace Go.Proofs.YtpkpjkceiikakaaGreatDoor
open Go.ChangeShapes Go.WideShapes Go.ChangeAt Go.RowKit

set_option maxRecDepth 100000 in
set_option maxHeartbeats 3200000 in
theorem sCt_any (s : ByteArray) (a b : Int) (hs : s.size ≤ 16) (ha : U64 a) (hb : U64 b) (g o : Nat) (w : World) (h0 : w.cell? ⟨g, o, none⟩ = some (.string s)) (h1 : w.cell? ⟨g, o + 1, none⟩ = some (.int .u64 a)) (h2 : w.cell? ⟨g, o + 2, none⟩ = some (.int .u64 b)) :
    Calls Tryz.prog 79 #[.pointer (some ⟨g, o, none⟩)] w fun e w' => e = .returned (.string (cdN s (hol (hasB a b) 96) (hol (hasB a b) 96).length)) ∧ Below w.heap.size w w' := by
  have hg := World.block_lt_of_cell? _ _ h0
  have HI := fun W => sHoles_any a b ha hb W
  have hl := hol_len (hasB a b) 96
  have HM := fun j hj => hol_atX (f := hasB a b) (n := 96) (j := j) hj
  generalize hol (hasB a b) 96 = zs at *
  have CS := Lib.hid (cdN_size s (zs := zs) HM)
  have CN := Lib.hid (cdN_next s zs)
  replace HM := Lib.hid HM
  replace HI := Lib.hid HI
  clear ha hb
  have z32 : (ByteArray.mk #[32]).size = 1 := rfl
  go_enter Tryz.func79, Tryz.ntmps79
  go_wp2_with (go_at_call 105; refine (HI.out _).mono ?_; rintro e w1 ⟨v1, rfl, hO, hB⟩; obtain ⟨a1, c1, hv, hi⟩ := ownInts_in hO; subst hv; have I1 := Lib.hid hi; have B1 := Lib.hid hB; clear hO hi hB)
  go_loopw [3, 5] (fun v i wr => ∃ j : Nat, j ≤ zs.length ∧ i = .int .i64 (j : Int) ∧ v = .string (cdN s zs j) ∧ Below w1.heap.size w1 wr) (fun _ i _ => zs.length - (intOf i).toNat)
  case atStart => exact ⟨0, Nat.zero_le _, rfl, rfl, Below.refl _ _⟩
  case round =>
    obtain ⟨j, hj, rfl, rfl, hB⟩ := hrel
    have B5 := Lib.hid hB
    by_cases hjl : j < zs.length
    · have hd : decide ((j : Int) < (zs.length : Int)) = true := by simpa using hjl
      obtain ⟨b1, o1, rfl, y1, p0⟩ := I1.out j hjl
      have d0 := (hB.cell (p := ⟨b1, o1 + j, none⟩) y1).trans p0
      have y2 : b1 < wr.heap.size := Nat.lt_of_lt_of_le y1 hB.size
      have i1 : (0 : Int) ≤ (j : Int) := by omega
      have i2 : (j : Int) < (zs.length : Int) := by omega
      obtain ⟨h3, h4⟩ := HM.out j hjl
      have cs := CS.out j hj
      have cn := CN.out j
      obtain ⟨m, hm⟩ := Int.eq_ofNat_of_zero_le h3
      rw [hm] at d0 h4 cn
      rw [Int.toNat_natCast] at cn
      replace cn := Lib.hid cn
      have hm1 : m < 96 := by omega
      have ys := dec2_le (n := m) (by omega)
      have D := Lib.hid fun W => sDec_any m (by omega) W
      generalize cdN s zs j = t at *
      generalize dec2 m = y at *
      have sl1 : ¬ 9223372036854775807 < 1 + y.size := by omega
      have sl4 : ¬ 9223372036854775807 < t.size + (1 + y.size) := by omega
      clear hB p0 y1 h3 h4 hm cs ys hm1
      go_wp2_with (go_at_call 106; refine (D.out _).mono ?_; rintro e w3 ⟨rfl, hB⟩; have B3 := Lib.hid (B5.out.trans (Below.mono hB B5.out.size)); clear hB)
      exact ⟨⟨j + 1, hjl, by rw [Int.natCast_succ], by rw [cn.out], B3.out⟩, by (simp [intOf]) <;> omega⟩
    · have e : j = zs.length := by omega
      subst e
      have hd : decide ((zs.length : Int) < (zs.length : Int)) = false := by simp
      clear hB
      go_wp2
      go_ret
      exact ⟨rfl, B1.out.trans (Below.mono B5.out B1.out.size)⟩

end Go.Proofs.YtpkpjkceiikakaaGreatDoor

namespace Go.Proofs.YtpkpjkceiikakaaGreatDoor
open Go.ChangeShapes Go.WideShapes Go.ChangeAt Go.RowKit

def edWd : List (List UInt8) := [[], [97, 100, 100], [100, 114, 111, 112], [110, 111, 116, 99, 104], [102, 105, 108, 108]]
/-- The word of a kind. -/
def wdOf (k : Int) : ByteArray := ⟨(edWd.getD k.toNat []).toArray⟩
theorem edWd_size : ∀ i : Nat, (edWd.getD i []).length ≤ 5
  | 0 => by decide
  | 1 => by decide
  | 2 => by decide
  | 3 => by decide
  | 4 => by decide
  | _ + 5 => Nat.zero_le _
theorem wdOf_size (k : Int) : (wdOf k).size ≤ 5 := by
  unfold wdOf
  show (edWd.getD k.toNat []).toArray.size ≤ 5
  rw [List.size_toArray]
  exact edWd_size _
/-- What is told behind the word. -/
def edL (x : Ed) : ByteArray := if x.k = 1 ∨ x.k = 2 then cdT x.s x.a x.b else x.s ++ (⟨#[32]⟩ ++ dec2 x.h.toNat)
/-- The text of the first n edits. -/
def etN (es : List Ed) : Nat → ByteArray
  | 0 => ByteArray.empty
  | n + 1 => (etN es n ++ (wdOf (edAt es n).k ++ ⟨#[32]⟩)) ++ (edL (edAt es n) ++ ⟨#[10]⟩)
theorem etN_next (es : List Ed) (n : Nat) : etN es (n + 1) = (etN es n ++ (wdOf (edAt es n).k ++ ⟨#[32]⟩)) ++ (edL (edAt es n) ++ ⟨#[10]⟩) := rfl
theorem etN_next2 (es : List Ed) (n : Nat) : etN es (n + 1) = (((etN es n ++ wdOf (edAt es n).k) ++ ⟨#[32]⟩) ++ edL (edAt es n)) ++ ⟨#[10]⟩ := by
  rw [etN_next]; simp only [ByteArray.append_assoc]
/-- The text of edits. -/
def etT (es : List Ed) : ByteArray := if edsC es = 0 then etN es es.length else ByteArray.empty
theorem edsC_inv {es : List Ed} (h : edsC es = 0) : edTil es es.length = true ∧ es.length ≤ 200 := by
  unfold edsC at h
  by_cases k : edTil es es.length = true
  · rw [if_pos k] at h
    by_cases l : es.length ≤ 200
    · exact ⟨k, l⟩
    · rw [if_neg l] at h; omega
  · rw [if_neg k] at h; omega
/-- A valid edit's parts. -/
theorem edOk_inv {x : Ed} (h : edOk x = true) : nameOk x.s = true ∧ ((x.k = 1 ∨ x.k = 2) ∧ maskOk x.b = true ∨ (x.k = 3 ∨ x.k = 4) ∧ 0 ≤ x.h ∧ x.h ≤ 95) := by
  by_cases h1 : x.k = 1 ∨ x.k = 2
  · rw [edOk_card h1] at h
    simp only [Bool.and_eq_true] at h
    exact ⟨h.1, .inl ⟨h1, h.2.2⟩⟩
  · by_cases h2 : x.k = 3 ∨ x.k = 4
    · rw [edOk_hole h2] at h
      simp only [Bool.and_eq_true, decide_eq_true_eq] at h
      exact ⟨h.1, .inr ⟨h2, h.2.1⟩⟩
    · rw [edOk_none (by omega)] at h; cases h
theorem one_all : ((List.range 96).all fun z : Nat => (hol (hasB (b0 (z : Int)) (b1 (z : Int))) 96 == [(z : Int)]) && (maskOk (b1 (z : Int)) && (decide (0 ≤ b0 (z : Int) ∧ b0 (z : Int) ≤ 18446744073709551615) && decide (0 ≤ b1 (z : Int) ∧ b1 (z : Int) ≤ 18446744073709551615)))) = true := by kernel_rfl
theorem one_hole {h : Int} (h0 : 0 ≤ h) (h1 : h ≤ 95) : hol (hasB (b0 h) (b1 h)) 96 = [h] ∧ maskOk (b1 h) = true ∧ U64 (b0 h) ∧ U64 (b1 h) := by
  obtain ⟨m, rfl⟩ := Int.eq_ofNat_of_zero_le h0
  have := List.all_eq_true.1 one_all m (List.mem_range.2 (by omega))
  simp only [Bool.and_eq_true, decide_eq_true_eq, beq_iff_eq] at this
  refine ⟨this.1, this.2.1, ?_, ?_⟩
  · unfold U64; omega
  · unfold U64; omega
/-- The mask of which an edit's card tells. -/
def ca (x : Ed) : Int := if x.k = 1 ∨ x.k = 2 then x.a else b0 x.h
def cb (x : Ed) : Int := if x.k = 1 ∨ x.k = 2 then x.b else b1 x.h
theorem cdT_ok {s : ByteArray} {a b : Int} (h : cardOk s b = true) : cdT s a b = cdN s (hol (hasB a b) 96) (hol (hasB a b) 96).length := if_pos h
theorem cdT_ed {x : Ed} (h : edOk x = true) : cdT x.s (ca x) (cb x) = edL x := by
  obtain ⟨hn, h2⟩ := edOk_inv h
  unfold edL ca cb
  rcases h2 with ⟨hk, hm⟩ | ⟨hk, h0, h1⟩
  · rw [if_pos hk, if_pos hk, if_pos hk]
  · have nk : ¬ (x.k = 1 ∨ x.k = 2) := by omega
    obtain ⟨e1, e2, _, _⟩ := one_hole h0 h1
    rw [if_neg nk, if_neg nk, if_neg nk, cdT_ok (by unfold cardOk; rw [hn, e2]; rfl), e1]
    rfl
theorem ca_u64 {x : Ed} (h : edOk x = true) (hf : x.fits) : U64 (ca x) ∧ U64 (cb x) := by
  obtain ⟨hn, h2⟩ := edOk_inv h
  unfold ca cb
  rcases h2 with ⟨hk, hm⟩ | ⟨hk, h0, h1⟩
  · rw [if_pos hk, if_pos hk]; exact ⟨hf.2.2.2.1, hf.2.2.2.2⟩
  · have nk : ¬ (x.k = 1 ∨ x.k = 2) := by omega
    rw [if_neg nk, if_neg nk]
    exact (one_hole h0 h1).2.2
theorem edL_size {x : Ed} (h : edOk x = true) : (edL x).size ≤ 304 := by
  obtain ⟨hn, h2⟩ := edOk_inv h
  have h3 := (nameOk_size hn).2
  unfold edL
  rcases h2 with ⟨hk, hm⟩ | ⟨hk, h0, h1⟩
  · rw [if_pos hk, cdT_ok (by unfold cardOk; rw [hn, hm]; rfl)]
    have h4 := cdN_size x.s (zs := hol (hasB x.a x.b) 96) (fun j hj => hol_atX hj) _ (Nat.le_refl _)
    have h5 := hol_len (hasB x.a x.b) 96
    omega
  · have h4 := dec2_le (n := x.h.toNat) (by omega)
    rw [if_neg (by omega), ByteArray.size_append, ByteArray.size_append]
    have e : (⟨#[32]⟩ : ByteArray).size = 1 := rfl
    omega
theorem etN_size {es : List Ed} (h : ∀ i, i < es.length → edOk (edAt es i) = true) : ∀ n, n ≤ es.length → (etN es n).size ≤ 320 * n
  | 0, _ => Nat.le_refl _
  | n + 1, hn => by
    have ih := etN_size h n (by omega)
    have h2 := edL_size (h n (by omega))
    have h3 := wdOf_size (edAt es n).k
    rw [etN_next, ByteArray.size_append, ByteArray.size_append, ByteArray.size_append, ByteArray.size_append]
    have e : (⟨#[10]⟩ : ByteArray).size = 1 := rfl
    have e2 : (⟨#[32]⟩ : ByteArray).size = 1 := rfl
    omega
theorem et_next {B : Nat} {w a b : World} (h : Below B w a) (hB : B ≤ w.heap.size) (k : Below a.heap.size a b) : Below B w b := h.trans (Below.mono k (Nat.le_trans hB h.size))
/-- The value of the card of which an edit tells. -/
def edCd (x : Ed) : Value := .agg #[.string x.s, .int .u64 (ca x), .int .u64 (cb x)]
end Go.Proofs.YtpkpjkceiikakaaGreatDoor

namespace Go.Proofs.YtpkpjkceiikakaaGreatDoor
open Go.ChangeShapes Go.WideShapes Go.ChangeAt Go.RowKit

/-- The kind for which a word stands. -/
def kindO (w : ByteArray) : Int := if w = wdOf 1 then 1 else if w = wdOf 2 then 2 else if w = wdOf 3 then 3 else if w = wdOf 4 then 4 else 0
theorem kindO_wd {k : Int} (h : k = 1 ∨ k = 2 ∨ k = 3 ∨ k = 4) : kindO (wdOf k) = k := by
  rcases h with rfl | rfl | rfl | rfl <;> decide
theorem kindO_inv {w : ByteArray} (h : kindO w ≠ 0) : (kindO w = 1 ∨ kindO w = 2 ∨ kindO w = 3 ∨ kindO w = 4) ∧ w = wdOf (kindO w) := by
  unfold kindO at h ⊢
  by_cases h1 : w = wdOf 1
  · rw [if_pos h1]; exact ⟨.inl rfl, h1⟩
  · rw [if_neg h1] at h ⊢
    by_cases h2 : w = wdOf 2
    · rw [if_pos h2]; exact ⟨.inr (.inl rfl), h2⟩
    · rw [if_neg h2] at h ⊢
      by_cases h3 : w = wdOf 3
      · rw [if_pos h3]; exact ⟨.inr (.inr (.inl rfl)), h3⟩
      · rw [if_neg h3] at h ⊢
        by_cases h4 : w = wdOf 4
        · rw [if_pos h4]; exact ⟨.inr (.inr (.inr rfl)), h4⟩
        · rw [if_neg h4] at h; exact absurd rfl h
/-- What stands behind the first blank. -/
def restB (line w : ByteArray) : ByteArray := line.extract (w.size + 1) line.size
theorem drop_word (a b : List UInt8) : (a ++ 32 :: b).drop (a.length + 1) = b := by
  rw [show a ++ 32 :: b = (a ++ [32]) ++ b by simp, List.drop_left' (by simp)]
theorem line_split {line w x : ByteArray} {r : List ByteArray} (hp : pieces 32 line = w :: x :: r) : line.data.toList = w.data.toList ++ 32 :: (restB line w).data.toList ∧ (restB line w).data.toList = joinC 32 ((x :: r).map fun p => p.data.toList) := by
  have h := pieces_join 32 line
  rw [hp, List.map_cons, joinC_cons 32 _ (by simp)] at h
  have e : (restB line w).data.toList = joinC 32 ((x :: r).map fun p => p.data.toList) := by
    unfold restB
    rw [Lib.extract_to_end, h, Lib.size_eq w, drop_word]
  exact ⟨by rw [e]; exact h, e⟩
theorem pieces_split {line w L : ByteArray} (h : line.data.toList = w.data.toList ++ 32 :: L.data.toList) (hw : (32 : UInt8) ∉ w.data.toList) : pieces 32 line = w :: pieces 32 L ∧ restB line w = L := by
  constructor
  · unfold pieces
    rw [h, spl_app _ _ _ hw, List.nil_append, List.map_cons, mkS_data]
  · apply data_inj
    unfold restB
    rw [Lib.extract_to_end, h, Lib.size_eq w, drop_word]
def edBy (k : Int) (nm : ByteArray) (a b : Int) : Option Ed := if k = 1 ∨ k = 2 then some ⟨k, nm, 0, a, b⟩ else if k = 3 ∨ k = 4 then (match hol (hasB a b) 96 with
  | [h] => some ⟨k, nm, h, 0, 0⟩
  | _ => none) else none
/-- The program's way. -/
def reI (line : ByteArray) : Option Ed := match pieces 32 line with
  | w :: _ :: _ => match rcG fI (restB line w) with
    | none => none
    | some (nm, a, b) => edBy (kindO w) nm a b
  | _ => none
/-- The model's way. -/
def reS (line : ByteArray) : Option Ed := match pieces 32 line with
  | w :: x :: r => if kindO w = 1 ∨ kindO w = 2 then (match rcG fS (restB line w) with
      | none => none
      | some (nm, a, b) => some ⟨kindO w, nm, 0, a, b⟩) else if kindO w = 3 ∨ kindO w = 4 then (match r with
      | [y] => match fS y with
        | some n => if nameOk x = true then some ⟨kindO w, x, n, 0, 0⟩ else none
        | none => none
      | _ => none) else none
  | _ => none
def EdP (e : Ed) (line : ByteArray) : Prop := edOk e = true ∧ U64 e.a ∧ U64 e.b ∧ line.data.toList = (wdOf e.k).data.toList ++ 32 :: (edL e).data.toList
theorem wd_free (k : Int) (h : k = 1 ∨ k = 2 ∨ k = 3 ∨ k = 4) : (32 : UInt8) ∉ (wdOf k).data.toList := by
  rcases h with rfl | rfl | rfl | rfl <;> decide
theorem u64_zero : U64 0 := by unfold U64; omega
theorem card_mask {nm : ByteArray} {b : Int} (h : cardOk nm b = true) : nameOk nm = true ∧ maskOk b = true := by
  unfold cardOk at h
  rwa [Bool.and_eq_true] at h
theorem reI_some {line : ByteArray} {e : Ed} (h : reI line = some e) : EdP e line := by
  unfold reI at h
  split at h
  · rename_i w x r hp
    obtain ⟨hl, _⟩ := line_split hp
    split at h
    · cases h
    · rename_i nm a b hc
      obtain ⟨hk, ht, ua, ub⟩ := rcG_some hc
      obtain ⟨hn, hm⟩ := card_mask hk
      unfold edBy at h
      by_cases h1 : kindO w = 1 ∨ kindO w = 2
      · rw [if_pos h1] at h
        have h := Option.some.inj h
        subst h
        have hw := (kindO_inv (w := w) (by omega)).2
        refine ⟨by rw [edOk_card h1]; simp [hn, hm], ua, ub, ?_⟩
        unfold edL
        rw [if_pos h1, ht]
        show _ = (wdOf (kindO w)).data.toList ++ _
        rw [← hw]
        exact hl
      · rw [if_neg h1] at h
        by_cases h2 : kindO w = 3 ∨ kindO w = 4
        · rw [if_pos h2] at h
          split at h
          · rename_i z hz
            have h := Option.some.inj h
            subst h
            have hw := (kindO_inv (w := w) (by omega)).2
            have z01 := hol_in96 (hasB a b) z (by rw [hz]; simp)
            refine ⟨by rw [edOk_hole h2]; simp [hn, z01.1, z01.2], u64_zero, u64_zero, ?_⟩
            unfold edL
            rw [if_neg h1]
            show _ = (wdOf (kindO w)).data.toList ++ _
            rw [← hw, hl, ← ht, cdT_ok hk, hz]
            rfl
          · cases h
        · rw [if_neg h2] at h; cases h
  · cases h
theorem ed_kind {e : Ed} (h : edOk e = true) : e.k = 1 ∨ e.k = 2 ∨ e.k = 3 ∨ e.k = 4 := by
  rcases (edOk_inv h).2 with ⟨h, _⟩ | ⟨h, _⟩
  · omega
  · omega
theorem ed_cards {e : Ed} (h : edOk e = true) (ha : U64 e.a) (hb : U64 e.b) : cardOk e.s (cb e) = true ∧ U64 (ca e) ∧ U64 (cb e) := by
  obtain ⟨hn, h2⟩ := edOk_inv h
  unfold ca cb
  rcases h2 with ⟨hk, hm⟩ | ⟨hk, h0, h1⟩
  · rw [if_pos hk, if_pos hk]
    exact ⟨by unfold cardOk; rw [hn, hm]; rfl, ha, hb⟩
  · have nk : ¬ (e.k = 1 ∨ e.k = 2) := by omega
    obtain ⟨_, e2, e3, e4⟩ := one_hole h0 h1
    rw [if_neg nk, if_neg nk]
    exact ⟨by unfold cardOk; rw [hn, e2]; rfl, e3, e4⟩
theorem ed_eta {e : Ed} {k : Int} {s : ByteArray} {h a b : Int} (h1 : e.k = k) (h2 : e.s = s) (h3 : e.h = h) (h4 : e.a = a) (h5 : e.b = b) : Ed.mk k s h a b = e := by
  subst h1; subst h2; subst h3; subst h4; subst h5; rfl
theorem edL_pieces (e : Ed) : ∃ x r, pieces 32 (edL e) = x :: r := by
  cases h : pieces 32 (edL e) with
  | nil => exact absurd h (pieces_ne 32 _)
  | cons x r => exact ⟨x, r, rfl⟩
theorem reI_hit {line : ByteArray} {e : Ed} (h : EdP e line) : reI line = some e := by
  obtain ⟨hk, ha, hb, hl⟩ := h
  have kk := ed_kind hk
  obtain ⟨hp, hr⟩ := pieces_split hl (wd_free _ kk)
  obtain ⟨x, r, hx⟩ := edL_pieces e
  obtain ⟨c1, c2, c3⟩ := ed_cards hk ha hb
  have hc := rcG_hit fI_ok c1 c2 c3
  rw [cdT_ed hk] at hc
  unfold reI
  rw [hp, hx]
  simp only [hr, hc]
  unfold edBy
  rw [kindO_wd kk]
  by_cases h1 : e.k = 1 ∨ e.k = 2
  · rw [if_pos h1]
    have hz : e.h = 0 := by rw [edOk_card h1] at hk; simp only [Bool.and_eq_true, beq_iff_eq] at hk; exact hk.2.1
    unfold ca cb
    rw [if_pos h1, if_pos h1, ed_eta rfl rfl hz rfl rfl]
  · rw [if_neg h1, if_pos (by omega)]
    have h2 : e.k = 3 ∨ e.k = 4 := by omega
    have hz : (0 ≤ e.h ∧ e.h ≤ 95) ∧ e.a = 0 ∧ e.b = 0 := by rw [edOk_hole h2] at hk; simp only [Bool.and_eq_true, beq_iff_eq, decide_eq_true_eq] at hk; exact hk.2
    have e1 := (one_hole hz.1.1 hz.1.2).1
    unfold ca cb
    rw [if_neg h1, if_neg h1, e1]
    simp only
    rw [ed_eta rfl rfl rfl hz.2.1 hz.2.2]
theorem fS_inv {y : ByteArray} {n : Int} (h : fS y = some n) : 0 ≤ n ∧ n ≤ 95 ∧ y = dec2 n.toNat := by
  unfold fS at h
  split at h
  · rename_i m hm
    split at h
    · rename_i hle
      have h := Option.some.inj h
      subst h
      exact ⟨by omega, by omega, by rw [Int.toNat_natCast]; exact dec2_of hm (by omega)⟩
    · cases h
  · cases h
theorem reS_some {line : ByteArray} {e : Ed} (h : reS line = some e) : EdP e line := by
  unfold reS at h
  split at h
  · rename_i w x r hp
    obtain ⟨hl, hj⟩ := line_split hp
    by_cases h1 : kindO w = 1 ∨ kindO w = 2
    · rw [if_pos h1] at h
      split at h
      · cases h
      · rename_i nm a b hc
        obtain ⟨hk, ht, ua, ub⟩ := rcG_some hc
        obtain ⟨hn, hm⟩ := card_mask hk
        have h := Option.some.inj h
        subst h
        have hw := (kindO_inv (w := w) (by omega)).2
        refine ⟨by rw [edOk_card h1]; simp [hn, hm], ua, ub, ?_⟩
        unfold edL
        rw [if_pos h1, ht]
        show _ = (wdOf (kindO w)).data.toList ++ _
        rw [← hw]
        exact hl
    · rw [if_neg h1] at h
      by_cases h2 : kindO w = 3 ∨ kindO w = 4
      · rw [if_pos h2] at h
        split at h
        · split at h
          · rename_i y n hy
            split at h
            · rename_i hn
              have h := Option.some.inj h
              subst h
              obtain ⟨n0, n1, rfl⟩ := fS_inv hy
              have hw := (kindO_inv (w := w) (by omega)).2
              refine ⟨by rw [edOk_hole h2]; simp [hn, n0, n1], u64_zero, u64_zero, ?_⟩
              unfold edL
              rw [if_neg h1]
              show _ = (wdOf (kindO w)).data.toList ++ _
              rw [← hw, hl, hj]
              simp [joinC]
            · cases h
          · cases h
        · cases h
      · rw [if_neg h2] at h; cases h
  · cases h
theorem reS_hit {line : ByteArray} {e : Ed} (h : EdP e line) : reS line = some e := by
  obtain ⟨hk, ha, hb, hl⟩ := h
  have kk := ed_kind hk
  obtain ⟨hp, hr⟩ := pieces_split hl (wd_free _ kk)
  by_cases h1 : e.k = 1 ∨ e.k = 2
  · obtain ⟨x, r, hx⟩ := edL_pieces e
    obtain ⟨c1, c2, c3⟩ := ed_cards hk ha hb
    have hc := rcG_hit fS_ok c1 c2 c3
    rw [cdT_ed hk] at hc
    unfold reS
    rw [hp, hx]
    simp only [kindO_wd kk, if_pos h1, hr, hc]
    have hz : e.h = 0 := by rw [edOk_card h1] at hk; simp only [Bool.and_eq_true, beq_iff_eq] at hk; exact hk.2.1
    unfold ca cb
    rw [if_pos h1, if_pos h1, ed_eta rfl rfl hz rfl rfl]
  · have h2 : e.k = 3 ∨ e.k = 4 := by omega
    have hz : nameOk e.s = true ∧ (0 ≤ e.h ∧ e.h ≤ 95) ∧ e.a = 0 ∧ e.b = 0 := by rw [edOk_hole h2] at hk; simp only [Bool.and_eq_true, beq_iff_eq, decide_eq_true_eq] at hk; exact hk
    have hx : pieces 32 (edL e) = [e.s, dec2 e.h.toNat] := pieces_of (by unfold edL; rw [if_neg h1]; simp [joinC]) (by simp) (fun p hp => by
      simp only [List.mem_cons, List.not_mem_nil, or_false] at hp
      rcases hp with rfl | rfl
      · exact name_free hz.1
      · exact dec_free (by omega))
    unfold reS
    rw [hp, hx]
    have hf := fS_ok e.h.toNat (by omega)
    simp only [kindO_wd kk, if_neg h1, if_pos h2, hf, if_pos hz.1]
    rw [ed_eta rfl rfl (by omega) hz.2.2.1 hz.2.2.2]
theorem re_same (line : ByteArray) : reI line = reS line := by
  cases hI : reI line with
  | some e => rw [reS_hit (reI_some hI)]
  | none =>
    cases hS : reS line with
    | none => rfl
    | some e => rw [reI_hit (reS_some hS)] at hI; cases hI

/-! ### The lines -/
def rdM (g : ByteArray → Option Ed) : List ByteArray → Option (List Ed)
  | [] => some []
  | t :: r => match g t with
    | none => none
    | some c => match rdM g r with
      | none => none
      | some ds => some (c :: ds)
theorem rdM_snoc {g : ByteArray → Option Ed} : ∀ {ts : List ByteArray} {ds : List Ed} {x : ByteArray} {c : Ed}, rdM g ts = some ds → g x = some c → rdM g (ts ++ [x]) = some (ds ++ [c])
  | [], ds, x, c, h, hx => by
    rw [rdM] at h
    rw [← Option.some.inj h]
    show rdM g [x] = _
    rw [rdM, hx]; rfl
  | t :: r, ds, x, c, h, hx => by
    rw [rdM] at h
    cases ht : g t with
    | none => rw [ht] at h; cases h
    | some c' =>
      rw [ht] at h
      cases hr : rdM g r with
      | none => rw [hr] at h; cases h
      | some ds' =>
        rw [hr] at h
        have h := Option.some.inj h
        rw [List.cons_append, rdM, ht]
        simp only [rdM_snoc hr hx]
        rw [← h]; rfl
theorem rdM_bad {g : ByteArray → Option Ed} : ∀ {ts : List ByteArray} {x : ByteArray}, g x = none → ∀ r, rdM g (ts ++ x :: r) = none
  | [], x, hx, r => by
    show rdM g (x :: r) = none
    rw [rdM, hx]
  | t :: ts, x, hx, r => by
    rw [List.cons_append, rdM, rdM_bad hx r]
    cases g t <;> rfl
theorem rdM_none_app {g : ByteArray → Option Ed} : ∀ {ts : List ByteArray}, rdM g ts = none → ∀ r, rdM g (ts ++ r) = none
  | [], h, _ => by rw [rdM] at h; cases h
  | t :: ts, h, r => by
    rw [rdM] at h
    rw [List.cons_append, rdM]
    cases ht : g t with
    | none => rfl
    | some c =>
      rw [ht] at h
      cases hr : rdM g ts with
      | none => simp only [rdM_none_app hr r]
      | some ds => rw [hr] at h; cases h
theorem rdM_len {g : ByteArray → Option Ed} : ∀ {ts : List ByteArray} {ds : List Ed}, rdM g ts = some ds → ds.length = ts.length
  | [], ds, h => by rw [rdM] at h; rw [← Option.some.inj h]; rfl
  | t :: r, ds, h => by
    rw [rdM] at h
    cases ht : g t with
    | none => rw [ht] at h; cases h
    | some c =>
      rw [ht] at h
      cases hr : rdM g r with
      | none => rw [hr] at h; cases h
      | some ds' => rw [hr] at h; rw [← Option.some.inj h, List.length_cons, List.length_cons, rdM_len hr]
theorem rdM_at {g : ByteArray → Option Ed} : ∀ {ts : List ByteArray} {ds : List Ed}, rdM g ts = some ds → ∀ i, i < ds.length → g (ts.getD i ByteArray.empty) = some (edAt ds i)
  | [], ds, h, i, hi => by rw [rdM] at h; rw [← Option.some.inj h] at hi; exact absurd hi (Nat.not_lt_zero _)
  | t :: r, ds, h, i, hi => by
    rw [rdM] at h
    cases ht : g t with
    | none => rw [ht] at h; cases h
    | some c =>
      rw [ht] at h
      cases hr : rdM g r with
      | none => rw [hr] at h; cases h
      | some ds' =>
        rw [hr] at h
        have h := Option.some.inj h
        subst h
        cases i with
        | zero => exact ht
        | succ i => exact rdM_at hr i (by simpa using hi)
theorem rdM_same (ts : List ByteArray) : rdM reI ts = rdM reS ts := by
  induction ts with
  | nil => rfl
  | cons t r ih => rw [rdM, rdM, re_same, ih]
theorem rdM_ok {ts : List ByteArray} {ds : List Ed} (h : rdM reI ts = some ds) {i : Nat} (hi : i < ds.length) : edOk (edAt ds i) = true := (reI_some (rdM_at h i hi)).1
theorem edTil_all {ds : List Ed} : ∀ n, (∀ i, i < n → edOk (edAt ds i) = true) → edTil ds n = true
  | 0, _ => rfl
  | n + 1, h => by
    rw [edTil, edTil_all n (fun i hi => h i (by omega)), h n (by omega)]; rfl
theorem etN_join {ds : List Ed} {ts : List ByteArray} (h : rdM reI ts = some ds) : ∀ n, n ≤ ds.length → (etN ds n).data.toList = joinC 10 (((ts.take n).map fun p => p.data.toList) ++ [[]])
  | 0, _ => rfl
  | n + 1, hn => by
    have hl := rdM_len h
    have e : (ts.take (n + 1)).map (fun p => p.data.toList) = (ts.take n).map (fun p => p.data.toList) ++ [(ts.getD n ByteArray.empty).data.toList] := by
      rw [List.take_add_one, List.getElem?_eq_getElem (show n < ts.length by omega), List.map_append]
      simp [List.getD, show n < ts.length by omega]
    have hp := (reI_some (rdM_at h n (by omega))).2.2.2
    rw [etN_next, e, joinC_snoc 10 [] (by simp), joinC_last, ← etN_join h n (by omega), hp]
    simp
def rxI (s : ByteArray) : Option (List Ed) := match rdM reI (tl s) with
  | some ds => if etT ds = s then some ds else none
  | none => none
def rxS (s : ByteArray) : Option (List Ed) := if (pieces 10 s).getLast? = some ByteArray.empty ∧ (pieces 10 s).length - 1 ≤ 200 then rdM reS (pieces 10 s).dropLast else none
theorem rx_same (s : ByteArray) : rxI s = rxS s := by
  unfold rxI rxS
  rcases tl_pieces s with ⟨h1, h2⟩ | ⟨h1, h2⟩
  · have hl : (pieces 10 s).length - 1 = (tl s).length := by rw [h2]; simp
    have hd : (pieces 10 s).dropLast = tl s := by rw [h2, List.dropLast_concat]
    rw [hd, hl, ← rdM_same]
    cases hr : rdM reI (tl s) with
    | none => simp
    | some ds =>
      simp only
      have hn := rdM_len hr
      have ht := edTil_all ds.length fun i hi => rdM_ok hr hi
      by_cases h200 : (tl s).length ≤ 200
      · rw [if_pos (c := (pieces 10 s).getLast? = some ByteArray.empty ∧ (tl s).length ≤ 200) ⟨h1, h200⟩, if_pos]
        apply data_inj
        unfold etT
        rw [if_pos (edsC_0 ht (by omega)), etN_join hr _ (Nat.le_refl _), hn, List.take_length, pieces_join 10 s, h2, List.map_append]; rfl
      · rw [if_neg (c := (pieces 10 s).getLast? = some ByteArray.empty ∧ (tl s).length ≤ 200) (fun q => h200 q.2), if_neg]
        intro he
        unfold etT at he
        rw [edsC_3 ht (by omega), if_neg (by decide)] at he
        rw [← he] at h2
        have : (tl ByteArray.empty).length = 0 := rfl
        rw [← he, this] at h200
        omega
  · rw [if_neg (fun q => h1 q.1)]
    cases hr : rdM reI (tl s) with
    | none => rfl
    | some ds =>
      simp only
      refine if_neg ?_
      intro he
      have ht := edTil_all ds.length fun i hi => rdM_ok hr hi
      unfold etT at he
      by_cases h200 : ds.length ≤ 200
      · rw [if_pos (edsC_0 ht h200)] at he
        have hj := etN_join hr _ (Nat.le_refl _)
        rw [rdM_len hr, List.take_length, ← rdM_len hr, he] at hj
        have hp := pieces_of (c := 10) (s := s) (ps := tl s ++ [ByteArray.empty]) (by rw [hj, List.map_append]; rfl) (by simp) (fun p hp => by
          rcases List.mem_append.1 hp with hp | hp
          · rw [← h2] at hp; exact pieces_free hp
          · rw [List.mem_singleton.1 hp]; exact fun q => by cases q)
        have := congrArg List.length (h2.symm.trans hp)
        simp at this
      · rw [edsC_3 ht h200, if_neg (by decide)] at he
        rw [← he] at h1
        exact h1 (by decide)
theorem rxI_prefix {s : ByteArray} {pre : List ByteArray} (hp : pre <+: lns s) (h : rdM reI (pre.map trimB) = none) : rxI s = none := by
  obtain ⟨r, hr⟩ := hp
  unfold rxI tl
  rw [← hr, List.map_append, rdM_none_app h]
end Go.Proofs.YtpkpjkceiikakaaGreatDoor

namespace Go.Proofs.YtpkpjkceiikakaaGreatDoor
open Go.ChangeShapes Go.WideShapes Go.ChangeAt Go.RowKit

theorem spt_info : (Tryz.prog.info? 9).map (fun i => (i.zero, i.size, i.bytes)) = some (some (.string ByteArray.empty), 1, 16) := by kernel_rfl
theorem genSplit_any (s : ByteArray) (c : UInt8) (hs : s.size ≤ 1048576) (w : World) :
    Calls Tryz.prog 68 #[.string s, .string ⟨#[c]⟩, .int .i64 0, .int .i64 (-1)] w fun e w' => e = .returned (.slice (some ⟨w.heap.size, 0, none⟩) (pieces c s).length (pieces c s).length) ∧ w' = w.alloc (.cells ((pieces c s).map Value.string).toArray 9) := by
  have z1 : (ByteArray.mk #[c]).size = 1 := rfl
  have hle := Lib.countB_le ⟨#[c]⟩ (by rw [z1]; exact Nat.le_refl _) s.size s (Nat.le_refl _)
  have h := Any.strings_genSplit_core { Tryz.lays146 with } spt_info s ⟨#[c]⟩ 0 (-1) (Lib.countB s ⟨#[c]⟩ + 1) w (by omega) (by rw [z1]; exact Nat.le_refl _) (Nat.zero_le _)
    (fun x q hx => by
      have h := Any.strings_Index_one { Tryz.lays146 with } x c (w.alloc (.cells q 9))
      rw [← Lib.index_one] at h
      exact h)
    (by
      refine (Any.strings_Count_one { Tryz.lays146 with } s c w).mono fun e w' ⟨he, hw⟩ => ⟨?_, hw⟩
      rw [he]
      show _ = Ending.returned (Value.int .i64 ((Lib.count s.data.toList [c] : Nat) : Int))
      rw [Lib.count_one]
      rfl)
    (by decide) (by decide) (by rw [if_pos (by decide)]; omega)
  rw [Nat.add_sub_cancel, splitB_pieces c _ s rfl, countB_pieces c s, Lib.cellsOf_full] at h
  exact h
theorem split_any (s : ByteArray) (c : UInt8) (hs : s.size ≤ 1048576) (w : World) :
    Calls Tryz.prog 37 #[.string s, .string ⟨#[c]⟩] w fun e w' => ∃ a, e = .returned (.slice (some a) (pieces c s).length (pieces c s).length) ∧ w.heap.size ≤ a.block ∧ StrsIn w' (some a) (pieces c s) ∧ Below w.heap.size w w' := by
  have h := genSplit_any s c hs w
  go_enter Tryz.func37, Tryz.ntmps37
  go_wp2_with (go_at_call 68; refine h.mono ?_; rintro e w1 ⟨rfl, hw⟩; have HW := Lib.hid hw; clear hw)
  go_ret
  refine ⟨_, rfl, Nat.le_refl _, ?_, by rw [HW.out]; exact below_new (Below.refl _ _) _⟩
  rw [HW.out]
  intro i hi
  refine ⟨w.heap.size, 0, rfl, by simp, ?_⟩
  rw [World.cell?_alloc_mark]
  simp [hi]

/-! ### Numbers -/
/-- The two errors that the library's reader of numbers names hold some error each. -/
structure PE (W : World) : Prop where
  s : ∃ tp p, W.var? Tryz.prog "strconv.ErrSyntax" = some #[.iface tp p]
  r : ∃ tp p, W.var? Tryz.prog "strconv.ErrRange" = some #[.iface tp p]
theorem varP_below {P : Program} {W W' : World} {n : String} {cs : Array Value} (h : W.var? P n = some cs) {B : Nat} (hb : Below B W W') (hB : W.heap.size ≤ B) : W'.var? P n = some cs := by
  unfold World.var? at h ⊢
  cases hg : P.globalNamed n with
  | none => simp [hg] at h
  | some g =>
    simp only [hg, Option.bind_some] at h ⊢
    have hlt : g < W.heap.size := by
      rcases Nat.lt_or_ge g W.heap.size with h' | h'
      · exact h'
      · simp [Array.getElem?_eq_none h'] at h
    rw [hb.block g (by omega)]
    exact h
theorem PE.kept {W0 W W' : World} {B : Nat} (h : PE W0) (h0 : Below W0.heap.size W0 W) (hb : Below B W W') (hB : W0.heap.size ≤ B) : PE W' := by
  obtain ⟨⟨a, b, h1⟩, ⟨c, d, h2⟩⟩ := h
  have hk : Below W0.heap.size W0 W' := h0.trans (Below.mono hb hB)
  exact ⟨⟨a, b, varP_below h1 hk (Nat.le_refl _)⟩, ⟨c, d, varP_below h2 hk (Nat.le_refl _)⟩⟩
theorem PE.below {W W' : World} (h : PE W) (hb : Below W.heap.size W W') : PE W' := h.kept (Below.refl _ _) hb (Nat.le_refl _)
theorem below_bytes {w w' : World} {t : TypeId} (h : w' = w ∨ ∃ s, w' = Lib.bytesWorld w t s) : Below w.heap.size w w' := by
  rcases h with rfl | ⟨s, rfl⟩
  · exact Below.refl _ _
  · exact Lib.bytesWorld_below _ _ _
theorem parse16_ok (s : ByteArray) (hs : s.size ≤ 1048576) (v : Int) (h : pIn 16 s = some v) (w : World) :
    Calls Tryz.prog 39 #[.string s, .int .i64 10, .int .i64 16] w fun e w' => e = .returned (.tuple #[.int .i64 v, .nilIface]) ∧ Below w.heap.size w w' := by
  have h2 : Lib.parseIntB 16 s.data.toList = .ok v := by
    unfold pIn at h
    split at h
    · rename_i e; rw [e, Option.some.inj h]
    · cases h
  exact (Any.strconv_ParseInt_10_at16_ok Tryz.lays174 s (by omega) v h2 w).mono fun e w' ⟨he, hw⟩ => ⟨he, below_bytes hw⟩
theorem parse16_bad (s : ByteArray) (hs : s.size ≤ 1048576) (h : pIn 16 s = none) (w : World) (hP : PE w) :
    Calls Tryz.prog 39 #[.string s, .int .i64 10, .int .i64 16] w fun e w' => ∃ n t q, e = .returned (.tuple #[.int .i64 n, .iface t q]) ∧ Below w.heap.size w w' := by
  obtain ⟨⟨a, b, h1⟩, ⟨c, d, h2⟩⟩ := hP
  cases e : Lib.parseIntB 16 s.data.toList with
  | ok v => unfold pIn at h; rw [e] at h; cases h
  | «syntax» => exact (Any.strconv_ParseInt_10_at16_syntax_var Tryz.lays174 s (by omega) e a b w h1).mono fun e w' ⟨N, he, _, _, hb⟩ => ⟨_, _, _, he, hb⟩
  | range => exact (Any.strconv_ParseInt_10_at16_range_var Tryz.lays174 s (by omega) e c d w h2).mono fun e w' ⟨N, he, _, _, hb⟩ => ⟨_, _, _, he, hb⟩
theorem parse64_ok (s : ByteArray) (hs : s.size ≤ 1048576) (v : Int) (h : pIn 64 s = some v) (w : World) :
    Calls Tryz.prog 39 #[.string s, .int .i64 10, .int .i64 64] w fun e w' => e = .returned (.tuple #[.int .i64 v, .nilIface]) ∧ Below w.heap.size w w' := by
  have h2 : Lib.parseIntB 64 s.data.toList = .ok v := by
    unfold pIn at h
    split at h
    · rename_i e; rw [e, Option.some.inj h]
    · cases h
  exact (Any.strconv_ParseInt_10_at64_ok Tryz.lays174 s (by omega) v h2 w).mono fun e w' ⟨he, hw⟩ => ⟨he, below_bytes hw⟩
theorem parse64_bad (s : ByteArray) (hs : s.size ≤ 1048576) (h : pIn 64 s = none) (w : World) (hP : PE w) :
    Calls Tryz.prog 39 #[.string s, .int .i64 10, .int .i64 64] w fun e w' => ∃ n t q, e = .returned (.tuple #[.int .i64 n, .iface t q]) ∧ Below w.heap.size w w' := by
  obtain ⟨⟨a, b, h1⟩, ⟨c, d, h2⟩⟩ := hP
  cases e : Lib.parseIntB 64 s.data.toList with
  | ok v => unfold pIn at h; rw [e] at h; cases h
  | «syntax» => exact (Any.strconv_ParseInt_10_at64_syntax_var Tryz.lays174 s (by omega) e a b w h1).mono fun e w' ⟨N, he, _, _, hb⟩ => ⟨_, _, _, he, hb⟩
  | range => exact (Any.strconv_ParseInt_10_at64_range_var Tryz.lays174 s (by omega) e c d w h2).mono fun e w' ⟨N, he, _, _, hb⟩ => ⟨_, _, _, he, hb⟩
theorem pIn_bounds {B : Nat} {s : ByteArray} {v : Int} (h : pIn B s = some v) : -((2 ^ (B - 1) : Nat) : Int) ≤ v ∧ v < ((2 ^ (B - 1) : Nat) : Int) := by
  unfold pIn at h
  split at h
  · rename_i e; rw [Option.some.inj h] at e; exact Lib.parseIntB_bounds e
  · cases h
end Go.Proofs.YtpkpjkceiikakaaGreatDoor

namespace Go.Proofs.YtpkpjkceiikakaaGreatDoor
open Go.ChangeShapes Go.WideShapes Go.ChangeAt Go.RowKit

theorem splitC_at (s : ByteArray) (c : UInt8) (hs : s.size ≤ 1048576) (w : World) :
    Calls Tryz.prog 37 #[.string s, .string ⟨#[c]⟩] w fun e w' => e = .returned (.slice (some ⟨w.heap.size, 0, none⟩) (pieces c s).length (pieces c s).length) ∧ w' = w.alloc (.cells ((pieces c s).map Value.string).toArray 9) := by
  have h := genSplit_any s c hs w
  go_enter Tryz.func37, Tryz.ntmps37
  go_wp2_with (go_at_call 68; refine h.mono ?_; rintro e w1 ⟨rfl, hw⟩; have HW := Lib.hid hw; clear hw)
  go_ret
  exact ⟨rfl, HW.out⟩
theorem ab_newC (w : World) (o : Obj) : Ab w (w.alloc o) := below_new (Below.refl _ _) _
theorem str_neC {x y : ByteArray} (h : x ≠ y) : (x.toList == y.toList) = false := by
  rw [beq_eq_false_iff_ne]
  intro e
  apply h
  apply data_inj
  rw [← Lib.toList_data, ← Lib.toList_data, e]
theorem iHoleC {n : Int} {x : Bool} (h : decide (0 ≤ n ∧ n ≤ 95) = x) (w : World) : Calls Tryz.prog 82 #[.int .i64 n] w fun e w' => e = .returned (.bool x) ∧ w = w' := by
  subst h
  by_cases h0 : 0 ≤ n
  · have d0 : decide (0 ≤ n) = true := decide_eq_true h0
    by_cases h1 : n ≤ 95
    · have d1 : decide (n < 96) = true := decide_eq_true (by omega)
      rw [decide_eq_true ⟨h0, h1⟩]
      go_enter Tryz.func82, Tryz.ntmps82
      go_wp2
      go_returns
      exact ⟨rfl, rfl⟩
    · have d1 : decide (n < 96) = false := decide_eq_false (by omega)
      rw [decide_eq_false (fun q => h1 q.2)]
      go_enter Tryz.func82, Tryz.ntmps82
      go_wp2
      go_returns
      exact ⟨rfl, rfl⟩
  · have d0 : decide (0 ≤ n) = false := decide_eq_false h0
    rw [decide_eq_false (fun q => h0 q.1)]
    go_enter Tryz.func82, Tryz.ntmps82
    go_wp2
    go_returns
    exact ⟨rfl, rfl⟩
def rcV : Option (ByteArray × Int × Int) → Value
  | some (nm, a, b) => .tuple #[.agg #[.string nm, .int .u64 a, .int .u64 b], .int .i64 0]
  | none => .tuple #[.agg #[.string ⟨#[]⟩, .int .u64 0, .int .u64 0], .int .i64 5]
theorem iJoinC (a b c d : Int) (w : World) :
    Calls Tryz.prog 44 #[.agg #[.int .u64 a, .int .u64 b], .agg #[.int .u64 c, .int .u64 d]] w fun e w' => e = .returned (.agg #[.int .u64 (bits .or .u64 a c), .int .u64 (bits .or .u64 b d)]) ∧ Below w.heap.size w w' :=
  (iJoin_any a b c d w).mono fun e w' ⟨he, hw⟩ => ⟨he, by rw [← hw]; exact (by repeat' (first | (with_reducible exact Below.refl _ _) | (with_reducible assumption) | (with_reducible refine below_drewN ?_ _) | (with_reducible refine Below.drew ?_) | (with_reducible refine below_new ?_ _) | (with_reducible refine below_next ?_ (by with_reducible assumption)) | (with_reducible refine Below.setCell ?_ ?_ _) | go_size))⟩
theorem two_of (c : UInt8) (s : ByteArray) : ∃ nm ws, pieces c s = nm :: ws := by
  cases h : pieces c s with
  | nil => exact absurd h (pieces_ne c s)
  | cons nm ws => exact ⟨nm, ws, rfl⟩
theorem cell_str (nm : ByteArray) (ws : List ByteArray) (i : Nat) (hi : i < ws.length) : (((nm :: ws).map Value.string).toArray)[1 + i]? = some (.string (ws.getD i ByteArray.empty)) := by
  rw [Nat.add_comm]
  simp [List.getD, hi]
theorem ret_rc {o : Option (ByteArray × Int × Int)} {v : Value} (h : rcV o = v) : Ending.returned v = .returned (rcV o) := by rw [h]

set_option maxRecDepth 100000 in
set_option maxHeartbeats 6400000 in
theorem iReadCard_any (s : ByteArray) (hs : s.size ≤ 1048576) (w : World) (hP : PE w) :
    Calls Tryz.prog 51 #[.string s] w fun e w' => e = .returned (rcV (rcG fI s)) ∧ Below w.heap.size w w' := by
  have SP := Lib.hid fun W => splitC_at s 32 hs W
  have R0 := Lib.hid (block_alloc w (.cells #[.string ⟨#[]⟩, .int .u64 0, .int .u64 0] 80))
  have B0 := Lib.hid (below_new (Below.refl w.heap.size w) (.cells #[.string ⟨#[]⟩, .int .u64 0, .int .u64 0] 80))
  have P0 := Lib.hid hP
  clear hP
  obtain ⟨nm, ws, hp⟩ := two_of 32 s
  have hfit := pieces_fit 32 s
  have PP := Lib.hid hp
  rw [hp] at SP hfit
  rw [List.length_cons] at SP
  have fn : nm.size ≤ 1048576 := Nat.le_trans (hfit nm (by simp)) hs
  have FW := Lib.hid (fun i (hi : i < ws.length) => Nat.le_trans (hfit (ws.getD i ByteArray.empty) (by simp [List.getD, hi])) hs)
  have hlen : ws.length ≤ 1048576 := by
    have h := pieces_len 32 s
    rw [hp, List.length_cons] at h
    omega
  clear hp hfit
  by_cases hne : ws = []
  · subst hne
    go_enter Tryz.func51, Tryz.ntmps51
    go_wp2_with (go_at_call 37; refine (SP.out _).mono ?_; rintro e w1 ⟨rfl, hw⟩; have N1 := Lib.hid (show w1.heap[w.heap.size + 1]? = some (.cells (([nm] : List ByteArray).map Value.string).toArray 9 (0, 0)) from by rw [hw, show w.heap.size + 1 = (w.alloc (.cells #[.string ⟨#[]⟩, .int .u64 0, .int .u64 0] 80)).heap.size from by simp]; exact block_alloc _ _); have hB := (Below.refl (w.heap.size + 1) (w.alloc (.cells #[.string ⟨#[]⟩, .int .u64 0, .int .u64 0] 80))).alloc (by simp) (.cells (([nm] : List ByteArray).map Value.string).toArray 9); rw [← hw] at hB; have R1 := Lib.hid ((hB.block _ (by simp)).trans R0.out); have B1 := Lib.hid (B0.out.trans (Below.mono hB (by simp))); have c0 : w1.cell? ⟨w.heap.size + 1, 0, none⟩ = some (.string nm) := (cell_of_block N1.out 0).trans (by simp); have l0 := lt_of_block N1.out; clear hB hw)
    have M1 := Lib.hid (show (w1.alloc (.cells #[.string nm, .int .u64 0, .int .u64 0] 80)).heap[w1.heap.size]? = some (.cells #[.string nm, .int .u64 (mo b0 [] 0), .int .u64 (mo b1 [] 0)] 80 (0, 0)) from block_alloc w1 _)
    have A1 := Lib.hid (ab_newC w1 (.cells #[.string nm, .int .u64 0, .int .u64 0] 80))
    generalize w1.alloc (.cells #[.string nm, .int .u64 0, .int .u64 0] 80) = wr at *
    have MM := M1
    have R2 := Lib.hid (Ab.block A1.out R1.out)
    have B2 := Lib.hid (B1.out.trans (Below.mono A1.out B1.out.size))
    have ZZ := Lib.hid (show rdH fI ([] : List ByteArray) ([] : List ByteArray).length = some [] from rfl)
    clear c0 l0 M1 A1
    refine wp_loop_rounds 1 ?_
    rw [rounds_succ]
    have er := rcG_at PP.out ZZ.out
    have ux := mo_u64 b0 [] 0
    have uy := mo_u64 b1 [] 0
    simp only [List.length_nil] at er
    generalize mo b0 [] 0 = X at *
    generalize mo b1 [] 0 = Y at *
    have V := fun W => iValidCard_any nm X Y (by unfold maxLen; omega) W
    have C := Lib.hid fun W => iCardText_any nm X Y (by unfold maxLen; omega) ux uy W
    have c0 := cell_of_block MM.out 0
    have c1 := cell_of_block MM.out 1
    have c2 := cell_of_block MM.out 2
    have s0 := lt_of_block MM.out
    clear ux uy
    cases hk : cardOk nm Y
    · rw [hk] at V
      replace V := Lib.hid V
      rw [if_neg (by rw [hk]; simp)] at er
      have EQ := Lib.hid er
      clear er hk
      go_wp2_with (first
        | (go_at_call 84; refine (V.out _).mono ?_; rintro e w9 ⟨rfl, hB⟩; have R9 := Lib.hid (Ab.block hB R2.out); have B9 := Lib.hid (B2.out.trans (Below.mono hB B2.out.size)); have r0 := cell_of_block R9.out 0; have r1 := cell_of_block R9.out 1; have r2 := cell_of_block R9.out 2; have r9 := lt_of_block R9.out; have rf := free_of_block R9.out; clear hB c0 c1 c2 s0))
      refine bodyPost_ret (by simp [results, Tryz.results51, go_sem,  r0, r1, r2]; try rfl) rfl ?_
      exact ⟨ret_rc (by rw [EQ.out]; rfl), ((B9.out.setCell (by simp) _).setCell (by simp) _).setCell (by simp) _⟩
    · rw [hk] at V
      replace V := Lib.hid V
      generalize hX : cdT nm X Y = T at *
      by_cases hT : T = s
      · subst hT
        rw [if_pos ⟨hk, rfl⟩] at er
        have n1 : (T.toList != T.toList) = false := by simp
        have EQ := Lib.hid er
        clear er hk
        go_wp2_with (first
          | (go_at_call 84; refine (V.out _).mono ?_; rintro e w8 ⟨rfl, hB⟩; have R8 := Lib.hid (Ab.block hB R2.out); have M8 := Lib.hid (Ab.block hB MM.out); have B8 := Lib.hid (B2.out.trans (Below.mono hB B2.out.size)); have c0 := cell_of_block M8.out 0; have c1 := cell_of_block M8.out 1; have c2 := cell_of_block M8.out 2; have s0 := lt_of_block M8.out; clear hB)
          | (go_at_call 59; refine (C.out _).mono ?_; rintro e w9 ⟨rfl, hB⟩; have R9 := Lib.hid (Ab.block hB R8.out); have M9 := Lib.hid (Ab.block hB M8.out); have B9 := Lib.hid (B8.out.trans (Below.mono hB B8.out.size)); have r0 := cell_of_block R9.out 0; have r1 := cell_of_block R9.out 1; have r2 := cell_of_block R9.out 2; have r9 := lt_of_block R9.out; have rf := free_of_block R9.out; have y0 := cell_of_block M9.out 0; have y1 := cell_of_block M9.out 1; have y2 := cell_of_block M9.out 2; have y9 := lt_of_block M9.out; clear hB))
        refine bodyPost_ret (by simp [results, Tryz.results51, go_sem,  r0, r1, r2]; try rfl) rfl ?_
        exact ⟨ret_rc (by rw [EQ.out]; rfl), ((B9.out.setCell (by simp) _).setCell (by simp) _).setCell (by simp) _⟩
      · rw [if_neg (fun q => hT q.2)] at er
        have n1 := str_neC hT
        have EQ := Lib.hid er
        clear er hk
        go_wp2_with (first
          | (go_at_call 84; refine (V.out _).mono ?_; rintro e w8 ⟨rfl, hB⟩; have R8 := Lib.hid (Ab.block hB R2.out); have M8 := Lib.hid (Ab.block hB MM.out); have B8 := Lib.hid (B2.out.trans (Below.mono hB B2.out.size)); have c0 := cell_of_block M8.out 0; have c1 := cell_of_block M8.out 1; have c2 := cell_of_block M8.out 2; have s0 := lt_of_block M8.out; clear hB)
          | (go_at_call 59; refine (C.out _).mono ?_; rintro e w9 ⟨rfl, hB⟩; have R9 := Lib.hid (Ab.block hB R8.out); have B9 := Lib.hid (B8.out.trans (Below.mono hB B8.out.size)); have r0 := cell_of_block R9.out 0; have r1 := cell_of_block R9.out 1; have r2 := cell_of_block R9.out 2; have r9 := lt_of_block R9.out; have rf := free_of_block R9.out; clear hB))
        refine bodyPost_ret (by simp [results, Tryz.results51, go_sem,  r0, r1, r2]; try rfl) rfl ?_
        exact ⟨ret_rc (by rw [EQ.out]; rfl), ((B9.out.setCell (by simp) _).setCell (by simp) _).setCell (by simp) _⟩
  · go_enter Tryz.func51, Tryz.ntmps51
    go_wp2_with (go_at_call 37; refine (SP.out _).mono ?_; rintro e w1 ⟨rfl, hw⟩; have N1 := Lib.hid (show w1.heap[w.heap.size + 1]? = some (.cells ((nm :: ws).map Value.string).toArray 9 (0, 0)) from by rw [hw, show w.heap.size + 1 = (w.alloc (.cells #[.string ⟨#[]⟩, .int .u64 0, .int .u64 0] 80)).heap.size from by simp]; exact block_alloc _ _); have hB := (Below.refl (w.heap.size + 1) (w.alloc (.cells #[.string ⟨#[]⟩, .int .u64 0, .int .u64 0] 80))).alloc (by simp) (.cells ((nm :: ws).map Value.string).toArray 9); rw [← hw] at hB; have R1 := Lib.hid ((hB.block _ (by simp)).trans R0.out); have B1 := Lib.hid (B0.out.trans (Below.mono hB (by simp))); have c0 : w1.cell? ⟨w.heap.size + 1, 0, none⟩ = some (.string nm) := (cell_of_block N1.out 0).trans (by simp); have l0 := lt_of_block N1.out; clear hB hw)
    have M1 := Lib.hid (block_alloc w1 (.cells #[.string nm, .int .u64 0, .int .u64 0] 80))
    have A1 := Lib.hid (ab_newC w1 (.cells #[.string nm, .int .u64 0, .int .u64 0] 80))
    have hR := lt_of_block R1.out
    clear c0
    go_loopw [19] (fun i wr => ∃ (j : Nat) (zs : List Int), j ≤ ws.length ∧ rdH fI ws j = some zs ∧ i = .int .i64 (j : Int) ∧ wr.heap[w1.heap.size]? = some (.cells #[.string nm, .int .u64 (mo b0 zs j), .int .u64 (mo b1 zs j)] 80 (0, 0)) ∧ Below w1.heap.size w1 wr) (fun i _ => ws.length - (intOf i).toNat)
    case atStart => exact ⟨0, [], Nat.zero_le _, rfl, rfl, M1.out, A1.out⟩
    case round =>
      obtain ⟨j, zs, hj, hz, rfl, hM, hA⟩ := hrel
      have hzl := rdH_len _ _ hz
      have MM := Lib.hid hM
      have AA := Lib.hid hA
      have ZZ := Lib.hid hz
      have R2 := Lib.hid (hA.block _ hR |>.trans R1.out)
      have B2 := Lib.hid (B1.out.trans (Below.mono hA B1.out.size))
      clear hz hM hA M1 A1
      by_cases hjl : j < ws.length
      · have dl : decide ((j : Int) < (ws.length : Int)) = true := by simpa using hjl
        have c1 : wr.cell? ⟨w.heap.size + 1, 1 + j, none⟩ = some (.string (ws.getD j ByteArray.empty)) := ((AA.out.cell (p := ⟨w.heap.size + 1, 1 + j, none⟩) l0).trans (cell_of_block N1.out (1 + j))).trans (cell_str nm ws j hjl)
        have l1 := Nat.lt_of_lt_of_le l0 AA.out.size
        have fw := FW.out j hjl
        have i1 : (0 : Int) ≤ (j : Int) := by omega
        have i2 : (j : Int) < (ws.length : Int) := by omega
        generalize hwj : ws.getD j ByteArray.empty = wd at *
        cases hv : pIn 64 wd with
        | none =>
          have EQ := Lib.hid (rcG_bad PP.out (n := j + 1) hjl (rdH_bad ZZ.out (by rw [hwj]; exact fI_none hv)))
          go_wp2_with (go_at_call 39; refine (parse64_bad wd fw hv _ (P0.out.kept (Below.refl _ _) B2.out (Nat.le_refl _))).mono ?_; rintro e w9 ⟨n9, t9, q9, rfl, hB⟩; have R9 := Lib.hid (Ab.block hB R2.out); have B9 := Lib.hid (B2.out.trans (Below.mono hB B2.out.size)); have r0 := cell_of_block R9.out 0; have r1 := cell_of_block R9.out 1; have r2 := cell_of_block R9.out 2; have r9 := lt_of_block R9.out; have rf := free_of_block R9.out; clear hB)
          refine bodyPost_ret (by simp [results, Tryz.results51, go_sem,  r0, r1, r2]; try rfl) rfl ?_
          exact ⟨ret_rc (by rw [EQ.out]; rfl), ((B9.out.setCell (by simp) _).setCell (by simp) _).setCell (by simp) _⟩
        | some h =>
          by_cases hh : 0 ≤ h ∧ h ≤ 95
          · have f := Lib.hid (rdH_next ZZ.out (h := h) (by rw [hwj]; exact fI_in hv hh))
            have H := Lib.hid (iHoleC (decide_eq_true hh))
            have p0 := Lib.hid (mo_push b0 zs h)
            have p1 := Lib.hid (mo_push b1 zs h)
            rw [hzl] at p0 p1
            have O := Lib.hid fun W => iOne_any h hh.1 hh.2 W
            generalize mo b0 zs j = X at *
            generalize mo b1 zs j = Y at *
            generalize b0 h = U at *
            generalize b1 h = V at *
            have J := Lib.hid fun W => iJoinC X Y U V W
            clear hh hzl
            go_wp2_with (first
              | (go_at_call 39; refine (parse64_ok wd fw h hv _).mono ?_; rintro e w3 ⟨rfl, hB⟩; have A3 := Lib.hid (AA.out.trans (Below.mono hB AA.out.size)); have M3 := Lib.hid (Ab.block hB MM.out); clear hB c1 l1)
              | (go_at_call 82; refine (H.out _).mono ?_; rintro e w4 ⟨rfl, rfl⟩))
            refine wp_region_last 6 (by kernel_rfl) rfl rfl (by kernel_rfl) (by kernel_rfl) rfl ?_
            simp only [List.take_succ_cons, List.take_zero]
            intro u1 h1
            have c0 := cell_of_block (h1.block M3.out) 0
            have c1 := cell_of_block (h1.block M3.out) 1
            have c2 := cell_of_block (h1.block M3.out) 2
            have s0 := lt_of_block (h1.block M3.out)
            have hbw := cell_bw
            repeat (go_big_quiet_step (first | (go_at_call 83; exact calls_bw (O.out _)) | (go_at_call 44; exact calls_bw (J.out _))))
            refine wpQuiet_nil ?_
            intro u3 h3
            have f0 := cell_of_block (h3.block M3.out) 0
            have f1 := cell_of_block (h3.block M3.out) 1
            have f2 := cell_of_block (h3.block M3.out) 2
            have ff := free_of_block (h3.block M3.out)
            have A4 := Lib.hid (A3.out.trans (Below.mono h3 A3.out.size))
            have M4 := Lib.hid (h3.block M3.out)
            go_simp
            simp only [Yld]
            go_wp2
            go_roundw
            case rel => exact ⟨j + 1, _, hjl, f.out, by go_num, by rw [p0.out, p1.out]; exact block_setCell _ (block_setCell _ M4.out), (A4.out.setCell (by simp) _).setCell (by simp) _⟩
            case measure => simp [intOf]; omega
          · have EQ := Lib.hid (rcG_bad PP.out (n := j + 1) hjl (rdH_bad ZZ.out (by rw [hwj]; exact fI_out hv hh)))
            have H := Lib.hid (iHoleC (decide_eq_false hh))
            clear hh
            go_wp2_with (first
              | (go_at_call 39; refine (parse64_ok wd fw h hv _).mono ?_; rintro e w9 ⟨rfl, hB⟩; have R9 := Lib.hid (Ab.block hB R2.out); have B9 := Lib.hid (B2.out.trans (Below.mono hB B2.out.size)); have r0 := cell_of_block R9.out 0; have r1 := cell_of_block R9.out 1; have r2 := cell_of_block R9.out 2; have r9 := lt_of_block R9.out; have rf := free_of_block R9.out; clear hB)
              | (go_at_call 82; refine (H.out _).mono ?_; rintro e w4 ⟨rfl, rfl⟩))
            refine bodyPost_ret (by simp [results, Tryz.results51, go_sem,  r0, r1, r2]; try rfl) rfl ?_
            exact ⟨ret_rc (by rw [EQ.out]; rfl), ((B9.out.setCell (by simp) _).setCell (by simp) _).setCell (by simp) _⟩
      · obtain rfl : j = ws.length := by omega
        have dl : decide ((ws.length : Int) < (ws.length : Int)) = false := by simp
        have er := rcG_at PP.out ZZ.out
        have ux := mo_u64 b0 zs zs.length
        have uy := mo_u64 b1 zs zs.length
        rw [hzl] at er ux uy
        generalize mo b0 zs ws.length = X at *
        generalize mo b1 zs ws.length = Y at *
        have V := fun W => iValidCard_any nm X Y (by unfold maxLen; omega) W
        have C := Lib.hid fun W => iCardText_any nm X Y (by unfold maxLen; omega) ux uy W
        have c0 := cell_of_block MM.out 0
        have c1 := cell_of_block MM.out 1
        have c2 := cell_of_block MM.out 2
        have s0 := lt_of_block MM.out
        clear ux uy hzl
        cases hk : cardOk nm Y
        · rw [hk] at V
          replace V := Lib.hid V
          rw [if_neg (by rw [hk]; simp)] at er
          have EQ := Lib.hid er
          clear er hk
          go_wp2_with (first
            | (go_at_call 84; refine (V.out _).mono ?_; rintro e w9 ⟨rfl, hB⟩; have R9 := Lib.hid (Ab.block hB R2.out); have B9 := Lib.hid (B2.out.trans (Below.mono hB B2.out.size)); have r0 := cell_of_block R9.out 0; have r1 := cell_of_block R9.out 1; have r2 := cell_of_block R9.out 2; have r9 := lt_of_block R9.out; have rf := free_of_block R9.out; clear hB c0 c1 c2 s0))
          refine bodyPost_ret (by simp [results, Tryz.results51, go_sem,  r0, r1, r2]; try rfl) rfl ?_
          exact ⟨ret_rc (by rw [EQ.out]; rfl), ((B9.out.setCell (by simp) _).setCell (by simp) _).setCell (by simp) _⟩
        · rw [hk] at V
          replace V := Lib.hid V
          generalize hX : cdT nm X Y = T at *
          by_cases hT : T = s
          · subst hT
            rw [if_pos ⟨hk, rfl⟩] at er
            have n1 : (T.toList != T.toList) = false := by simp
            have EQ := Lib.hid er
            clear er hk
            go_wp2_with (first
              | (go_at_call 84; refine (V.out _).mono ?_; rintro e w8 ⟨rfl, hB⟩; have R8 := Lib.hid (Ab.block hB R2.out); have M8 := Lib.hid (Ab.block hB MM.out); have B8 := Lib.hid (B2.out.trans (Below.mono hB B2.out.size)); have c0 := cell_of_block M8.out 0; have c1 := cell_of_block M8.out 1; have c2 := cell_of_block M8.out 2; have s0 := lt_of_block M8.out; clear hB)
              | (go_at_call 59; refine (C.out _).mono ?_; rintro e w9 ⟨rfl, hB⟩; have R9 := Lib.hid (Ab.block hB R8.out); have M9 := Lib.hid (Ab.block hB M8.out); have B9 := Lib.hid (B8.out.trans (Below.mono hB B8.out.size)); have r0 := cell_of_block R9.out 0; have r1 := cell_of_block R9.out 1; have r2 := cell_of_block R9.out 2; have r9 := lt_of_block R9.out; have rf := free_of_block R9.out; have y0 := cell_of_block M9.out 0; have y1 := cell_of_block M9.out 1; have y2 := cell_of_block M9.out 2; have y9 := lt_of_block M9.out; clear hB))
            refine bodyPost_ret (by simp [results, Tryz.results51, go_sem,  r0, r1, r2]; try rfl) rfl ?_
            exact ⟨ret_rc (by rw [EQ.out]; rfl), ((B9.out.setCell (by simp) _).setCell (by simp) _).setCell (by simp) _⟩
          · rw [if_neg (fun q => hT q.2)] at er
            have n1 := str_neC hT
            have EQ := Lib.hid er
            clear er hk
            go_wp2_with (first
              | (go_at_call 84; refine (V.out _).mono ?_; rintro e w8 ⟨rfl, hB⟩; have R8 := Lib.hid (Ab.block hB R2.out); have M8 := Lib.hid (Ab.block hB MM.out); have B8 := Lib.hid (B2.out.trans (Below.mono hB B2.out.size)); have c0 := cell_of_block M8.out 0; have c1 := cell_of_block M8.out 1; have c2 := cell_of_block M8.out 2; have s0 := lt_of_block M8.out; clear hB)
              | (go_at_call 59; refine (C.out _).mono ?_; rintro e w9 ⟨rfl, hB⟩; have R9 := Lib.hid (Ab.block hB R8.out); have B9 := Lib.hid (B8.out.trans (Below.mono hB B8.out.size)); have r0 := cell_of_block R9.out 0; have r1 := cell_of_block R9.out 1; have r2 := cell_of_block R9.out 2; have r9 := lt_of_block R9.out; have rf := free_of_block R9.out; clear hB))
            refine bodyPost_ret (by simp [results, Tryz.results51, go_sem,  r0, r1, r2]; try rfl) rfl ?_
            exact ⟨ret_rc (by rw [EQ.out]; rfl), ((B9.out.setCell (by simp) _).setCell (by simp) _).setCell (by simp) _⟩
end Go.Proofs.YtpkpjkceiikakaaGreatDoor

namespace Go.Proofs.YtpkpjkceiikakaaGreatDoor
open Go.ChangeShapes Go.WideShapes Go.ChangeAt Go.RowKit

theorem new3K (w : World) (x0 x1 x2 : Value) (t : TypeId) : ∀ j u, [x0, x1, x2][j]? = some u → (w.alloc (.cells #[x0, x1, x2] t)).cell? ((⟨w.heap.size, 0, none⟩ : Addr).add j) = some u := by
  intro j u h
  match j, h with
  | 0, h => simp at h; subst h; simp [Addr.add]
  | 1, h => simp at h; subst h; simp [Addr.add]
  | 2, h => simp at h; subst h; simp [Addr.add]

theorem lnB_len : ∀ l acc : List UInt8, (lnB acc l).length ≤ acc.length + l.length
  | [], acc => by
    rw [lnB]
    split
    · simp
    · rename_i h
      have : 0 < acc.length := List.length_pos_iff.2 h
      first | (simp; done) | (simp; omega)
  | x :: xs, acc => by
    rw [lnB]
    split
    · have := lnB_len xs []
      simp at this ⊢; omega
    · have := lnB_len xs (acc ++ [x])
      simp at this ⊢; omega

theorem lnB_fit : ∀ l acc : List UInt8, ∀ p ∈ lnB acc l, p.length ≤ acc.length + l.length
  | [], acc, p, hp => by
    rw [lnB] at hp
    split at hp
    · cases hp
    · rw [List.mem_singleton.1 hp]; simp
  | x :: xs, acc, p, hp => by
    rw [lnB] at hp
    split at hp
    · rcases List.mem_cons.1 hp with rfl | hp
      · first | (simp; done) | (simp; omega)
      · have := lnB_fit xs [] p hp
        simp at this ⊢; omega
    · have := lnB_fit xs (acc ++ [x]) p hp
      simp at this ⊢; omega

theorem lns_len (s : ByteArray) : (lns s).length ≤ s.size := by
  have := lnB_len s.data.toList []
  unfold lns
  rw [List.length_map]
  simpa using this

theorem lns_fit {s p : ByteArray} (h : p ∈ lns s) : p.size ≤ s.size := by
  unfold lns at h
  obtain ⟨l, hl, rfl⟩ := List.mem_map.1 h
  have := lnB_fit s.data.toList [] l hl
  rw [show (mkS l).size = l.length from List.size_toArray]
  simpa using this

theorem trimB_le (s : ByteArray) : (trimB s).size ≤ s.size := by
  unfold trimB trimL Lib.trimSuffix
  rw [show ∀ l, (mkS l).size = l.length from fun l => List.size_toArray]
  have : s.data.toList.length = s.size := Array.length_toList
  split
  · rw [List.length_take]; omega
  · omega

theorem new3N (w : World) (n : Nat) (hn : n = w.heap.size) (x0 x1 x2 : Value) (t : TypeId) : ∀ j u, [x0, x1, x2][j]? = some u → (w.alloc (.cells #[x0, x1, x2] t)).cell? ((⟨n, 0, none⟩ : Addr).add j) = some u := by
  subst hn
  exact new3K w x0 x1 x2 t
theorem iReadCard_no (s : ByteArray) (hs : s.size ≤ 1048576) (h : rcG fI s = none) (w : World) (hP : PE w) :
    Calls Tryz.prog 51 #[.string s] w fun e w' => e = .returned (.tuple #[.agg #[.string ⟨#[]⟩, .int .u64 0, .int .u64 0], .int .i64 5]) ∧ Below w.heap.size w w' := by
  have c := iReadCard_any s hs w hP
  rw [h] at c
  exact c

theorem iReadCard_yes (s : ByteArray) (hs : s.size ≤ 1048576) (nm : ByteArray) (a b : Int) (h : rcG fI s = some (nm, a, b)) (w : World) (hP : PE w) :
    Calls Tryz.prog 51 #[.string s] w fun e w' => e = .returned (.tuple #[.agg #[.string nm, .int .u64 a, .int .u64 b], .int .i64 0]) ∧ Below w.heap.size w w' := by
  have c := iReadCard_any s hs w hP
  rw [h] at c
  exact c

theorem block_four (w : World) (o p q r : Obj) : ((((w.alloc o).alloc p).alloc q).alloc r).heap[w.heap.size]? = some o ∧ ((((w.alloc o).alloc p).alloc q).alloc r).heap[w.heap.size + 1]? = some p ∧ ((((w.alloc o).alloc p).alloc q).alloc r).heap[w.heap.size + 1 + 1]? = some q ∧ ((((w.alloc o).alloc p).alloc q).alloc r).heap[w.heap.size + 1 + 1 + 1]? = some r := by
  have s1 : (w.alloc o).heap.size = w.heap.size + 1 := by simp
  have s2 : ((w.alloc o).alloc p).heap.size = w.heap.size + 1 + 1 := by simp
  have s3 : (((w.alloc o).alloc p).alloc q).heap.size = w.heap.size + 1 + 1 + 1 := by simp
  have a3 : ∀ k, k < w.heap.size + 1 + 1 + 1 → ((((w.alloc o).alloc p).alloc q).alloc r).heap[k]? = (((w.alloc o).alloc p).alloc q).heap[k]? := fun k hk => Below.heap_alloc _ _ _ (by rw [s3]; exact hk)
  have a2 : ∀ k, k < w.heap.size + 1 + 1 → (((w.alloc o).alloc p).alloc q).heap[k]? = ((w.alloc o).alloc p).heap[k]? := fun k hk => Below.heap_alloc _ _ _ (by rw [s2]; exact hk)
  have a1 : ∀ k, k < w.heap.size + 1 → ((w.alloc o).alloc p).heap[k]? = (w.alloc o).heap[k]? := fun k hk => Below.heap_alloc _ _ _ (by rw [s1]; exact hk)
  refine ⟨?_, ?_, ?_, ?_⟩
  · rw [a3 _ (by omega), a2 _ (by omega), a1 _ (by omega)]; exact block_alloc _ _
  · rw [a3 _ (by omega), a2 _ (by omega), ← s1]; exact block_alloc _ _
  · rw [a3 _ (by omega), ← s2]; exact block_alloc _ _
  · rw [← s3]; exact block_alloc _ _

end Go.Proofs.YtpkpjkceiikakaaGreatDoor

namespace Go.Proofs.YtpkpjkceiikakaaGreatDoor
open Go.ChangeShapes Go.WideShapes Go.ChangeAt Go.RowKit

set_option maxRecDepth 100000 in
set_option maxHeartbeats 1600000 in
theorem iEdCard_c (k : Int) (hk : k = 1 ∨ k = 2) (s : ByteArray) (h a b : Int) (w : World) :
    Calls Tryz.prog 60 #[.agg #[.int .i8 k, .string s, .int .i16 h, .int .u64 a, .int .u64 b]] w fun e w' => e = .returned (.agg #[.string s, .int .u64 a, .int .u64 b]) ∧ Below w.heap.size w w' := by
  have O : Hid (∀ W, Calls Tryz.prog 53 #[.agg #[.int .i8 k, .string s, .int .i16 h, .int .u64 a, .int .u64 b]] W fun e w' => e = .returned (.bool false) ∧ Below W.heap.size W w') := by
    rcases hk with rfl | rfl
    · exact Lib.hid fun W => iOfHole_1 s h a b W
    · exact Lib.hid fun W => iOfHole_2 s h a b W
  have HB := Lib.hid (block_alloc2 w (.cells #[.int .i8 k, .string s, .int .i16 h, .int .u64 a, .int .u64 b] 53) (.cells #[.string ByteArray.empty, .int .u64 0, .int .u64 0] 80))
  clear hk
  go_enter Tryz.func60, Tryz.ntmps60
  go_wp2_with (go_at_call 53; refine (O.out _).mono ?_; rintro e w1 ⟨rfl, hB⟩; have B0 := Ab.block hB HB.out.1; have B1 := Ab.block hB HB.out.2; have c0 := cell_of_block B0; have c1 := cell_of_block B1; have g1 := free_of_block B1; have k3 : Below w.heap.size w w1 := (below_new (below_new (Below.refl _ _) _) _).trans (Below.mono hB (by simp; omega)); clear hB B0 B1)
  refine bodyPost_ret (by simp [results, Tryz.results60, go_sem, c1]; try rfl) rfl ?_
  exact ⟨rfl, ((k3.setCell (by simp <;> omega) _).setCell (by simp <;> omega) _).setCell (by simp <;> omega) _⟩

set_option maxRecDepth 100000 in
set_option maxHeartbeats 1600000 in
theorem iEdCard_h (k : Int) (hk : k = 3 ∨ k = 4) (s : ByteArray) (h a b : Int) (h0 : 0 ≤ h) (h1 : h ≤ 95) (w : World) :
    Calls Tryz.prog 60 #[.agg #[.int .i8 k, .string s, .int .i16 h, .int .u64 a, .int .u64 b]] w fun e w' => e = .returned (.agg #[.string s, .int .u64 (b0 h), .int .u64 (b1 h)]) ∧ Below w.heap.size w w' := by
  have O : Hid (∀ W, Calls Tryz.prog 53 #[.agg #[.int .i8 k, .string s, .int .i16 h, .int .u64 a, .int .u64 b]] W fun e w' => e = .returned (.bool true) ∧ Below W.heap.size W w') := by
    rcases hk with rfl | rfl
    · exact Lib.hid fun W => iOfHole_3 s h a b W
    · exact Lib.hid fun W => iOfHole_4 s h a b W
  have HB := Lib.hid (block_alloc2 w (.cells #[.int .i8 k, .string s, .int .i16 h, .int .u64 a, .int .u64 b] 53) (.cells #[.string ByteArray.empty, .int .u64 0, .int .u64 0] 80))
  have M := Lib.hid fun W => iOne_any h h0 h1 W
  have x1 : IntKind.i64.wrap h = h := IntWalk.i64_in _ (by omega)
  generalize b0 h = p at *
  generalize b1 h = q at *
  have hbw := cell_bw
  clear hk h0 h1
  go_enter Tryz.func60, Tryz.ntmps60
  go_upto_region 2 with (go_at_call 53; refine (O.out _).mono ?_; rintro e w1 ⟨rfl, hB⟩; have B0 := Lib.hid (Ab.block hB HB.out.1); have B1 := Lib.hid (Ab.block hB HB.out.2); have k3 : Below w.heap.size w w1 := (below_new (below_new (Below.refl _ _) _) _).trans (Below.mono hB (by simp; omega)); clear hB)
  refine wp_region_last 7 (by kernel_rfl) rfl rfl (by kernel_rfl) (by kernel_rfl) rfl ?_
  simp only [List.take_succ_cons, List.take_zero]
  intro w3 h3
  have c0 := cell_of_block (h3.block B0.out)
  have z0 := lt_of_block (h3.block B0.out)
  repeat (go_big_quiet_step (first | (go_at_call 83; exact calls_bw (M.out _))))
  refine wpQuiet_nil ?_
  intro w4 h4
  have E1 := h4.block B1.out
  have l3 : Below w.heap.size w w4 := k3.trans (Below.mono h4 k3.size)
  have f1 := cell_of_block E1
  have g1 := free_of_block E1
  clear c0 z0 h4 h3 E1
  go_simp
  simp only [Yld]
  go_wp2
  refine bodyPost_ret (by simp [results, Tryz.results60, go_sem, f1]; try rfl) rfl ?_
  exact ⟨rfl, ((l3.setCell (by simp <;> omega) _).setCell (by simp <;> omega) _).setCell (by simp <;> omega) _⟩

theorem iEdCard_any (x : Ed) (hok : edOk x = true) (w : World) :
    Calls Tryz.prog 60 #[.agg #[.int .i8 x.k, .string x.s, .int .i16 x.h, .int .u64 x.a, .int .u64 x.b]] w fun e w' => e = .returned (.agg #[.string x.s, .int .u64 (ca x), .int .u64 (cb x)]) ∧ Below w.heap.size w w' := by
  obtain ⟨_, h2⟩ := edOk_inv hok
  unfold ca cb
  rcases h2 with ⟨hk, _⟩ | ⟨hk, h0, h1⟩
  · rw [if_pos hk, if_pos hk]
    exact iEdCard_c x.k hk x.s x.h x.a x.b w
  · rw [if_neg (by omega), if_neg (by omega)]
    exact iEdCard_h x.k hk x.s x.h x.a x.b h0 h1 w
theorem ed_neq : 53 ≠ 5 := by decide
theorem edK {x : Ed} (h : edOk x = true) : 1 ≤ x.k ∧ x.k ≤ 4 := by
  rcases (edOk_inv h).2 with ⟨k, _⟩ | ⟨k, _⟩ <;> omega
theorem ew_g : Tryz.prog.globalNamed "loop.example/g01261/impl.editWords" = some 1 := by kernel_rfl
/-- What a walk reads at a kind's place of the table. -/
theorem ew_cell {W : World} (h : TxIs Tryz.prog W "loop.example/g01261/impl.editWords" edWd) {k : Int} (h0 : 1 ≤ k) (h1 : k ≤ 4) : W.cell? ⟨1, k.toNat, none⟩ = some (.string (wdOf k)) :=
  tx_cell h ew_g k.toNat (by show k.toNat < 5; omega)
end Go.Proofs.YtpkpjkceiikakaaGreatDoor

namespace Go.Proofs.YtpkpjkceiikakaaGreatDoor
open Go.ChangeShapes Go.WideShapes Go.ChangeAt Go.RowKit

theorem liteCut_none (s : ByteArray) (h : (32 : UInt8) ∉ s.data.toList) (w : World) :
    Calls Tryz.prog 81 #[.string s, .string ⟨#[32]⟩] w fun e w' => e = .returned (.tuple #[.string s, .string ⟨#[]⟩, .bool false]) ∧ Below w.heap.size w w' := by
  have V := Lib.hid fun W => Any.stringslite_Index_one { Tryz.lays143 with } s 32 W
  rcases ib_spec s.data.toList 32 with ⟨hi, hn⟩ | ⟨k, hi, hk, hg, hn⟩
  · rw [hi] at V
    clear h
    go_enter Tryz.func81, Tryz.ntmps81
    go_wp2_with (go_at_call 107; refine (V.out _).mono ?_; rintro e w1 ⟨rfl, rfl⟩)
    go_returns
    exact ⟨rfl, Below.refl _ _⟩
  · exact absurd (List.mem_of_getElem? hg) h
theorem liteCut_some (s : ByteArray) (k : Nat) (hi : Lib.indexByte s.data.toList 32 = (k : Int)) (hk : k < s.size) (hs : s.size ≤ 1048576) (w : World) :
    Calls Tryz.prog 81 #[.string s, .string ⟨#[32]⟩] w fun e w' => e = .returned (.tuple #[.string (s.extract 0 k), .string (s.extract (k + 1) s.size), .bool true]) ∧ Below w.heap.size w w' := by
  have V := Lib.hid fun W => Any.stringslite_Index_one { Tryz.lays143 with } s 32 W
  rw [hi] at V
  have kn : decide ((0 : Int) ≤ (k : Int)) = true := by simp
  have kw1 : IntKind.i64.wrap ((k : Int) + 1) = ((k + 1 : Nat) : Int) := by rw [Int.natCast_succ]; exact IntWalk.i64_in _ (by omega)
  have sz1 : (ByteArray.mk #[32]).size = 1 := rfl
  have hbw := cell_bw
  clear hi
  go_enter Tryz.func81, Tryz.ntmps81
  go_wp2_with (go_at_call 107; refine (V.out _).mono ?_; rintro e w1 ⟨rfl, rfl⟩)
  refine region_bw (by kernel_rfl) (by kernel_rfl) ?_
  repeat (go_big_quiet_step (fail))
  refine wpQuiet_nil ?_; intro wq hq; replace hq := below_of_bw hq; obtain ⟨qc, qf, qz⟩ := bcell hq
  go_wp2
  go_returns
  exact ⟨rfl, (by repeat' (first | (with_reducible exact Below.refl _ _) | (with_reducible assumption) | (with_reducible refine below_drewN ?_ _) | (with_reducible refine Below.drew ?_) | (with_reducible refine below_new ?_ _) | (with_reducible refine below_next ?_ (by with_reducible assumption)) | (with_reducible refine Below.setCell ?_ ?_ _) | go_size))⟩
theorem cut_none {line w : ByteArray} (hp : pieces 32 line = [w]) (W : World) :
    Calls Tryz.prog 50 #[.string line, .string ⟨#[32]⟩] W fun e w' => (∃ x, e = .returned (.tuple #[.string x, .string ⟨#[]⟩, .bool false])) ∧ Below W.heap.size W w' := by
  have hn : (32 : UInt8) ∉ line.data.toList := by
    have h := pieces_join 32 line
    rw [hp] at h
    have h2 : line = w := data_inj h
    rw [h2]
    exact pieces_free (s := line) (by rw [hp]; simp)
  have V := Lib.hid fun W => liteCut_none line hn W
  clear hn hp
  go_enter Tryz.func50, Tryz.ntmps50
  go_wp2_with (go_at_call 81; refine (V.out _).mono ?_; rintro e w1 ⟨rfl, hB⟩; have BB := Lib.hid hB; clear hB)
  go_returns
  exact ⟨⟨_, rfl⟩, BB.out⟩
theorem cut_some {line w x : ByteArray} {r : List ByteArray} (hp : pieces 32 line = w :: x :: r) (hs : line.size ≤ 1048576) (W : World) :
    Calls Tryz.prog 50 #[.string line, .string ⟨#[32]⟩] W fun e w' => e = .returned (.tuple #[.string w, .string (restB line w), .bool true]) ∧ Below W.heap.size W w' := by
  rcases ib_spec line.data.toList 32 with ⟨hi, hn⟩ | ⟨k, hi, hk, hg, hn⟩
  · rw [pieces_none hn] at hp
    simp at hp
  · have hk2 : k < line.size := by rw [Array.length_toList] at hk; exact hk
    have h := pieces_at hg hn
    rw [hp] at h
    have hw : w = line.extract 0 k := (List.cons.inj h).1
    have hwz : w.size = k := by rw [hw]; simp; omega
    have V := fun W => liteCut_some line k hi hk2 hs W
    rw [← hw, show k + 1 = w.size + 1 by omega] at V
    have V := Lib.hid V
    clear hi hg hn h hw hwz hp hk hk2
    go_enter Tryz.func50, Tryz.ntmps50
    go_wp2_with (go_at_call 81; refine (V.out _).mono ?_; rintro e w1 ⟨rfl, hB⟩; have BB := Lib.hid hB; clear hB)
    go_returns
    exact ⟨rfl, BB.out⟩

/-! ### The kind of a word -/
theorem i8_inE (n : Int) (h : -128 ≤ n ∧ n ≤ 127) : IntKind.i8.wrap n = n := by
  unfold IntKind.wrap
  simp [IntKind.bits, IntKind.signed]
  omega
theorem str_beqE {x y : ByteArray} : (x.toList == y.toList) = decide (x = y) := by
  rw [Bool.eq_iff_iff, beq_iff_eq, decide_eq_true_eq, Lib.toList_data, Lib.toList_data]
  exact ⟨data_inj, fun h => by rw [h]⟩
set_option maxRecDepth 100000 in
set_option maxHeartbeats 1600000 in
theorem iKindOf_any (s : ByteArray) (w : World) (ht : TxIs Tryz.prog w "loop.example/g01261/impl.editWords" edWd) :
    Calls Tryz.prog 52 #[.string s] w fun e w' => e = .returned (.int .i8 (kindO s)) ∧ Below w.heap.size w w' := by
  have c1 := ew_cell ht (k := 1) (by decide) (by decide)
  have c2 := ew_cell ht (k := 2) (by decide) (by decide)
  have c3 := ew_cell ht (k := 3) (by decide) (by decide)
  have c4 := ew_cell ht (k := 4) (by decide) (by decide)
  have hg := World.block_lt_of_cell? _ _ c1
  have t1 : (1 : Int).toNat = 1 := rfl
  have t2 : (2 : Int).toNat = 2 := rfl
  have t3 : (3 : Int).toNat = 3 := rfl
  have t4 : (4 : Int).toNat = 4 := rfl
  rw [t1] at c1
  rw [t2] at c2
  rw [t3] at c3
  rw [t4] at c4
  clear ht t1 t2 t3 t4
  have K := Lib.hid (show kindO s = if wdOf 1 = s then 1 else if wdOf 2 = s then 2 else if wdOf 3 = s then 3 else if wdOf 4 = s then 4 else 0 from by unfold kindO; simp only [eq_comm])
  have e1 := str_beqE (x := wdOf 1) (y := s)
  have e2 := str_beqE (x := wdOf 2) (y := s)
  have e3 := str_beqE (x := wdOf 3) (y := s)
  have e4 := str_beqE (x := wdOf 4) (y := s)
  generalize wdOf 1 = x1 at *
  generalize wdOf 2 = x2 at *
  generalize wdOf 3 = x3 at *
  generalize wdOf 4 = x4 at *
  by_cases h1 : x1 = s
  · have KK := Lib.hid (show kindO s = 1 by rw [K.out, if_pos h1])
    rw [decide_eq_true h1] at e1
    clear K h1
    go_enter Tryz.func52, Tryz.ntmps52
    go_wp2
    refine wp_loop_rounds 5 ?_
    rw [rounds_succ]
    go_wp2
    go_returns
    exact ⟨by rw [KK.out]; rfl, (by repeat' (first | (with_reducible exact Below.refl _ _) | (with_reducible assumption) | (with_reducible refine below_drewN ?_ _) | (with_reducible refine Below.drew ?_) | (with_reducible refine below_new ?_ _) | (with_reducible refine below_next ?_ (by with_reducible assumption)) | (with_reducible refine Below.setCell ?_ ?_ _) | go_size))⟩
  · rw [decide_eq_false h1] at e1
    by_cases h2 : x2 = s
    · have KK := Lib.hid (show kindO s = 2 by rw [K.out, if_neg h1, if_pos h2])
      rw [decide_eq_true h2] at e2
      clear K h1 h2
      go_enter Tryz.func52, Tryz.ntmps52
      go_wp2
      refine wp_loop_rounds 5 ?_
      rw [rounds_succ]
      go_wp2
      rw [rounds_succ]
      go_wp2
      go_returns
      exact ⟨by rw [KK.out]; rfl, (by repeat' (first | (with_reducible exact Below.refl _ _) | (with_reducible assumption) | (with_reducible refine below_drewN ?_ _) | (with_reducible refine Below.drew ?_) | (with_reducible refine below_new ?_ _) | (with_reducible refine below_next ?_ (by with_reducible assumption)) | (with_reducible refine Below.setCell ?_ ?_ _) | go_size))⟩
    · rw [decide_eq_false h2] at e2
      by_cases h3 : x3 = s
      · have KK := Lib.hid (show kindO s = 3 by rw [K.out, if_neg h1, if_neg h2, if_pos h3])
        rw [decide_eq_true h3] at e3
        clear K h1 h2 h3
        go_enter Tryz.func52, Tryz.ntmps52
        go_wp2
        refine wp_loop_rounds 5 ?_
        rw [rounds_succ]
        go_wp2
        rw [rounds_succ]
        go_wp2
        rw [rounds_succ]
        go_wp2
        go_returns
        exact ⟨by rw [KK.out]; rfl, (by repeat' (first | (with_reducible exact Below.refl _ _) | (with_reducible assumption) | (with_reducible refine below_drewN ?_ _) | (with_reducible refine Below.drew ?_) | (with_reducible refine below_new ?_ _) | (with_reducible refine below_next ?_ (by with_reducible assumption)) | (with_reducible refine Below.setCell ?_ ?_ _) | go_size))⟩
      · rw [decide_eq_false h3] at e3
        by_cases h4 : x4 = s
        · have KK := Lib.hid (show kindO s = 4 by rw [K.out, if_neg h1, if_neg h2, if_neg h3, if_pos h4])
          rw [decide_eq_true h4] at e4
          clear K h1 h2 h3 h4
          go_enter Tryz.func52, Tryz.ntmps52
          go_wp2
          refine wp_loop_rounds 5 ?_
          rw [rounds_succ]
          go_wp2
          rw [rounds_succ]
          go_wp2
          rw [rounds_succ]
          go_wp2
          rw [rounds_succ]
          go_wp2
          go_returns
          exact ⟨by rw [KK.out]; rfl, (by repeat' (first | (with_reducible exact Below.refl _ _) | (with_reducible assumption) | (with_reducible refine below_drewN ?_ _) | (with_reducible refine Below.drew ?_) | (with_reducible refine below_new ?_ _) | (with_reducible refine below_next ?_ (by with_reducible assumption)) | (with_reducible refine Below.setCell ?_ ?_ _) | go_size))⟩
        · rw [decide_eq_false h4] at e4
          have KK := Lib.hid (show kindO s = 0 by rw [K.out, if_neg h1, if_neg h2, if_neg h3, if_neg h4])
          clear K h1 h2 h3 h4
          go_enter Tryz.func52, Tryz.ntmps52
          go_wp2
          refine wp_loop_rounds 5 ?_
          rw [rounds_succ]
          go_wp2
          rw [rounds_succ]
          go_wp2
          rw [rounds_succ]
          go_wp2
          rw [rounds_succ]
          go_wp2
          rw [rounds_succ]
          go_wp2
          go_returns
          exact ⟨by rw [KK.out]; rfl, (by repeat' (first | (with_reducible exact Below.refl _ _) | (with_reducible assumption) | (with_reducible refine below_drewN ?_ _) | (with_reducible refine Below.drew ?_) | (with_reducible refine below_new ?_ _) | (with_reducible refine below_next ?_ (by with_reducible assumption)) | (with_reducible refine Below.setCell ?_ ?_ _) | go_size))⟩
end Go.Proofs.YtpkpjkceiikakaaGreatDoor

namespace Go.Proofs.YtpkpjkceiikakaaGreatDoor
open Go.ChangeShapes Go.WideShapes Go.ChangeAt Go.RowKit

set_option maxRecDepth 100000 in
set_option maxHeartbeats 800000 in
theorem iOfHole_0 (k : Int) (s : ByteArray) (h a b : Int) (w : World) (hk : ¬ (k = 1 ∨ k = 2 ∨ k = 3 ∨ k = 4)) :
    Calls Tryz.prog 53 #[.agg #[.int .i8 k, .string s, .int .i16 h, .int .u64 a, .int .u64 b]] w fun e w' => e = .returned (.bool false) ∧ Below w.heap.size w w' := by
  have C := Lib.hid fun W => iChange_0 k s h a b W hk
  have a3 : ∀ w : World, (Instr.typeAssert .nilIface 125 127 true).run Tryz.prog w = .ok (.tuple #[.agg #[.int .i8 0, .string ⟨#[]⟩, .int .i16 0, .int .u64 0, .int .u64 0], .bool false]) w := fun w => by kernel_rfl
  have a4 : ∀ w : World, (Instr.typeAssert .nilIface 125 128 true).run Tryz.prog w = .ok (.tuple #[.agg #[.int .i8 0, .string ⟨#[]⟩, .int .i16 0, .int .u64 0, .int .u64 0], .bool false]) w := fun w => by kernel_rfl
  clear hk
  go_enter Tryz.func53, Tryz.ntmps53
  go_wp2_with (go_at_call 85; refine (C.out _).mono ?_; rintro e w1 ⟨rfl, hB⟩; obtain ⟨hc, hf, hz⟩ := bcell hB)
  go_returns
  exact ⟨rfl, (by repeat' (first | (with_reducible exact Below.refl _ _) | (with_reducible assumption) | (with_reducible refine below_drewN ?_ _) | (with_reducible refine Below.drew ?_) | (with_reducible refine below_new ?_ _) | (with_reducible refine below_next ?_ (by with_reducible assumption)) | (with_reducible refine Below.setCell ?_ ?_ _) | go_size))⟩
theorem iOfHole_no (k : Int) (hk : ¬ (k = 3 ∨ k = 4)) (s : ByteArray) (h a b : Int) (w : World) :
    Calls Tryz.prog 53 #[.agg #[.int .i8 k, .string s, .int .i16 h, .int .u64 a, .int .u64 b]] w fun e w' => e = .returned (.bool false) ∧ Below w.heap.size w w' := by
  by_cases h1 : k = 1
  · subst h1; exact iOfHole_1 s h a b w
  · by_cases h2 : k = 2
    · subst h2; exact iOfHole_2 s h a b w
    · exact iOfHole_0 k s h a b w (by omega)
theorem iOfHole_yes (k : Int) (hk : k = 3 ∨ k = 4) (s : ByteArray) (h a b : Int) (w : World) :
    Calls Tryz.prog 53 #[.agg #[.int .i8 k, .string s, .int .i16 h, .int .u64 a, .int .u64 b]] w fun e w' => e = .returned (.bool true) ∧ Below w.heap.size w w' := by
  rcases hk with rfl | rfl
  · exact iOfHole_3 s h a b w
  · exact iOfHole_4 s h a b w
theorem rcG_empty : rcG fI ⟨#[]⟩ = none := by
  have hp : pieces 32 ⟨#[]⟩ = [⟨#[]⟩] := by decide
  rw [rcG_at hp (hs := []) rfl, if_neg]
  rintro ⟨h, _⟩
  revert h
  decide
theorem reI_two {line w x : ByteArray} {r : List ByteArray} (hp : pieces 32 line = w :: x :: r) (h : rcG fI (restB line w) = none) : reI line = none := by
  unfold reI
  rw [hp]
  simp only [h]
theorem reI_three {line w x : ByteArray} {r : List ByteArray} (hp : pieces 32 line = w :: x :: r) (nm : ByteArray) (a b : Int) (h : rcG fI (restB line w) = some (nm, a, b)) : reI line = edBy (kindO w) nm a b := by
  unfold reI
  rw [hp]
  simp only [h]
theorem i16_inJ (n : Int) (h : -32768 ≤ n ∧ n ≤ 32767) : IntKind.i16.wrap n = n := by
  unfold IntKind.wrap
  simp [IntKind.bits, IntKind.signed]
  omega
/-- What the program's reader of an edit tells. -/
def ReR (line : ByteArray) (w : World) (e : Ending) (w' : World) : Prop := ∃ x : Ed, e = .returned (.tuple #[edV x, .bool (reI line).isSome]) ∧ (∀ v, reI line = some v → v = x) ∧ Below w.heap.size w w'
theorem reR_no {line : ByteArray} {k h a b : Int} {s : ByteArray} {w w' : World} (hn : reI line = none) (hb : Below w.heap.size w w') : ReR line w (.returned (.tuple #[.agg #[.int .i8 k, .string s, .int .i16 h, .int .u64 a, .int .u64 b], .bool false])) w' :=
  ⟨⟨k, s, h, a, b⟩, by rw [hn]; rfl, fun v e => (by rw [hn] at e; cases e), hb⟩
theorem reR_yes {line : ByteArray} {k h a b : Int} {s : ByteArray} {w w' : World} (hn : reI line = some ⟨k, s, h, a, b⟩) (hb : Below w.heap.size w w') : ReR line w (.returned (.tuple #[.agg #[.int .i8 k, .string s, .int .i16 h, .int .u64 a, .int .u64 b], .bool true])) w' :=
  ⟨⟨k, s, h, a, b⟩, by rw [hn]; rfl, fun v e => (by rw [hn] at e; exact (Option.some.inj e).symm), hb⟩
theorem restB_le (line w : ByteArray) : (restB line w).size ≤ line.size := by
  unfold restB
  simp
theorem kindO_cases (w : ByteArray) : (kindO w = 1 ∨ kindO w = 2) ∨ (kindO w = 3 ∨ kindO w = 4) ∨ kindO w = 0 := by
  by_cases h : kindO w = 0
  · exact .inr (.inr h)
  · rcases (kindO_inv h).1 with h | h | h | h
    · exact .inl (.inl h)
    · exact .inl (.inr h)
    · exact .inr (.inl (.inl h))
    · exact .inr (.inl (.inr h))

set_option maxRecDepth 100000 in
set_option maxHeartbeats 6400000 in
theorem iReadEdit_any (line : ByteArray) (hs : line.size ≤ 1048576) (w : World) (hP : PE w) (ht : TxIs Tryz.prog w "loop.example/g01261/impl.editWords" edWd) :
    Calls Tryz.prog 26 #[.string line] w (ReR line w) := by
  have R0 := Lib.hid (block_alloc w (.cells #[.int .i8 0, .string ⟨#[]⟩, .int .i16 0, .int .u64 0, .int .u64 0] 53))
  have B0 := Lib.hid (below_new (Below.refl w.heap.size w) (.cells #[.int .i8 0, .string ⟨#[]⟩, .int .i16 0, .int .u64 0, .int .u64 0] 53))
  have P0 := Lib.hid hP
  have T0 := Lib.hid ht
  clear hP ht
  match hp : pieces 32 line with
  | [] => exact absurd hp (pieces_ne 32 line)
  | [wd] =>
    have EQ := Lib.hid (show reI line = none by unfold reI; rw [hp])
    have V := Lib.hid fun W => cut_none hp W
    have C := Lib.hid fun W hP => iReadCard_no ⟨#[]⟩ (Nat.zero_le _) rcG_empty W hP
    clear hp hs
    go_enter Tryz.func26, Tryz.ntmps26
    go_wp2_with (first
      | (go_at_call 50; refine (V.out _).mono ?_; rintro e w1 ⟨⟨x, rfl⟩, hB⟩; have R1 := Lib.hid (Ab.block hB R0.out); have B1 := Lib.hid (B0.out.trans (Below.mono hB B0.out.size)); clear hB)
      | (go_at_call 51; refine (C.out _ (P0.out.kept (Below.refl _ _) B1.out (Nat.le_refl _))).mono ?_; rintro e w2 ⟨rfl, hB⟩; have hB2 := below_new hB (.cells #[.string ⟨#[]⟩, .int .u64 0, .int .u64 0] 80); have R9 := Lib.hid (Ab.block hB2 R1.out); have B9 := Lib.hid (B1.out.trans (Below.mono hB2 B1.out.size)); have r0 := cell_of_block R9.out 0; have r1 := cell_of_block R9.out 1; have r2 := cell_of_block R9.out 2; have r3 := cell_of_block R9.out 3; have r4 := cell_of_block R9.out 4; have r9 := lt_of_block R9.out; have rf := free_of_block R9.out; clear hB hB2))
    refine bodyPost_ret (by simp [results, Tryz.results26, go_sem,  r0, r1, r2, r3, r4]; try rfl) rfl ?_
    exact reR_no EQ.out (((((B9.out.setCell (by simp) _).setCell (by simp) _).setCell (by simp) _).setCell (by simp) _).setCell (by simp) _)
  | wd :: x :: r =>
    have V := Lib.hid fun W => cut_some hp hs W
    have fr : (restB line wd).size ≤ 1048576 := Nat.le_trans (restB_le line wd) hs
    have hre0 := fun h => reI_two hp h
    have hre1 := fun nm a b h => reI_three hp nm a b h
    clear hp hs
    generalize restB line wd = rest at *
    match hc : rcG fI rest with
    | none =>
      have EQ := Lib.hid (hre0 hc)
      have C := Lib.hid fun W hP => iReadCard_no rest fr hc W hP
      clear hc hre0 hre1 fr
      go_enter Tryz.func26, Tryz.ntmps26
      go_wp2_with (first
        | (go_at_call 50; refine (V.out _).mono ?_; rintro e w1 ⟨rfl, hB⟩; have R1 := Lib.hid (Ab.block hB R0.out); have B1 := Lib.hid (B0.out.trans (Below.mono hB B0.out.size)); clear hB)
        | (go_at_call 51; refine (C.out _ (P0.out.kept (Below.refl _ _) B1.out (Nat.le_refl _))).mono ?_; rintro e w2 ⟨rfl, hB⟩; have hB2 := below_new hB (.cells #[.string ⟨#[]⟩, .int .u64 0, .int .u64 0] 80); have R9 := Lib.hid (Ab.block hB2 R1.out); have B9 := Lib.hid (B1.out.trans (Below.mono hB2 B1.out.size)); have r0 := cell_of_block R9.out 0; have r1 := cell_of_block R9.out 1; have r2 := cell_of_block R9.out 2; have r3 := cell_of_block R9.out 3; have r4 := cell_of_block R9.out 4; have r9 := lt_of_block R9.out; have rf := free_of_block R9.out; clear hB hB2))
      refine bodyPost_ret (by simp [results, Tryz.results26, go_sem,  r0, r1, r2, r3, r4]; try rfl) rfl ?_
      exact reR_no EQ.out (((((B9.out.setCell (by simp) _).setCell (by simp) _).setCell (by simp) _).setCell (by simp) _).setCell (by simp) _)
    | some (nm, a, b) =>
      obtain ⟨hk, hte, ua, ub⟩ := rcG_some hc
      obtain ⟨hn, hm⟩ := card_mask hk
      have fn := nameOk_size hn
      have hre := hre1 nm a b hc
      clear hre0 hre1
      have C := Lib.hid fun W hP => iReadCard_yes rest fr nm a b hc W hP
      have KO := Lib.hid fun W h => iKindOf_any wd W h
      have HI := fun W => iHolesIn_any a b ua ub W
      have mk : (b / 4294967296 == 0) = true := hm
      rw [hz_yes _ mk, hzC_yes mk] at HI
      have kc := kindO_cases wd
      have z96 := hol_in96 (hasB a b)
      have h16 : I16 0 := by unfold I16; omega
      clear hc hk hte mk hm
      generalize kindO wd = k at *
      unfold edBy at hre
      generalize hol (hasB a b) 96 = zs at *
      replace HI := Lib.hid HI
      rcases kc with kc | kc | kc
      · rw [if_pos kc] at hre
        have EQ := Lib.hid hre
        have OF := Lib.hid fun W => iOfHole_no k (by omega) nm 0 a b W
        have VL := Lib.hid (fun W => show Calls Tryz.prog 55 #[.agg #[.int .i8 k, .string nm, .int .i16 0, .int .u64 a, .int .u64 b]] W (fun e w' => e = .returned (.bool true) ∧ Below W.heap.size W w') from (by
          have h := iValid_any ⟨k, nm, 0, a, b⟩ ⟨by show I8 k; unfold I8; omega, by show nm.size ≤ maxLen; unfold maxLen; omega, h16, ua, ub⟩ W
          rw [(reI_some EQ.out).1] at h
          exact h))
        clear hre kc hn fn z96 h16 fr
        go_enter Tryz.func26, Tryz.ntmps26
        go_wp2_with (first | (go_at_call 50; refine (V.out _).mono ?_; rintro e w1 ⟨rfl, hB⟩; have R1 := Lib.hid (Ab.block hB R0.out); have B1 := Lib.hid (B0.out.trans (Below.mono hB B0.out.size)); clear hB) | (go_at_call 51; refine (C.out _ (P0.out.kept (Below.refl _ _) B1.out (Nat.le_refl _))).mono ?_; rintro e w2 ⟨rfl, hB⟩; have hB2 := below_new hB (.cells #[.string nm, .int .u64 a, .int .u64 b] 80); have R2 := Lib.hid (Ab.block hB2 R1.out); have B2 := Lib.hid (B1.out.trans (Below.mono hB2 B1.out.size)); have C2 := Lib.hid (block_alloc w2 (.cells #[.string nm, .int .u64 a, .int .u64 b] 80)); clear hB hB2))
        have l2 := lt_of_block C2.out
        have n2 := lt_of_block R1.out
        obtain ⟨V2, hV2⟩ : ∃ V2, V2 = w2.alloc (.cells #[.string nm, .int .u64 a, .int .u64 b] 80) := ⟨_, rfl⟩
        rw [← hV2] at R2 B2 C2 l2 ⊢
        clear hV2
        refine wp_region_at 7 0 (.cells #[.int .i8 0, .string ⟨#[]⟩, .int .i16 0, .int .u64 0, .int .u64 0] 53) (.cells #[.int .i8 k, .string nm, .int .i16 0, .int .u64 a, .int .u64 b] 53) (by kernel_rfl) rfl rfl rfl (by kernel_rfl) rfl rfl (fun _ _ => by kernel_rfl) ?_
        simp only [Nat.reduceAdd, List.take_succ_cons, List.take_zero, List.drop_succ_cons, List.drop_zero]
        intro u1 h1
        have c0 := cell_of_block (h1.block C2.out) 0
        have c1 := cell_of_block (h1.block C2.out) 1
        have c2 := cell_of_block (h1.block C2.out) 2
        have s0 := lt_of_block (h1.block C2.out)
        have hbw := cell_bw
        have K2 := Lib.hid fun q : Regrown => KO.out (bw u1 q) (tx_below T0.out ((B2.out.trans (Below.mono h1 B2.out.size)).trans (Below.mono (below_bw u1 q) (B2.out.trans (Below.mono h1 B2.out.size)).size)))
        repeat (go_big_quiet_step (first | (go_at_call 52; exact calls_bw (K2.out _))))
        refine wpQuiet_nil ?_
        intro eb heb u2 h2
        refine wpQuiet_nil ?_
        refine ⟨?_, ?_⟩
        · intro u3 h3 hb3
          have f0 := cell_of_block hb3
          have f1 := free_of_block hb3
          go_simp
          exact ⟨((((h3.setCell _ heb).setCell _ heb).setCell _ heb).setCell _ heb).setCell _ heb, block_setCell _ (block_setCell _ (block_setCell _ (block_setCell _ (block_setCell _ hb3))))⟩
        intro u5 h5
        simp only [Act.put, List.setIfInBounds_toArray, List.set_cons_succ, List.set_cons_zero]
        repeat (go_big_quiet_step (fail))
        refine wpQuiet_nil ?_
        intro u6 h6 hb6
        have R6 := Lib.hid (h6.block R2.out)
        have B6 := Lib.hid (B2.out.trans (Below.mono h6 B2.out.size))
        have C6 := Lib.hid (h6.block C2.out)
        have E6 := Lib.hid hb6
        have ne1 : w.heap.size < eb := by have h := lt_of_block R2.out; omega
        have ne2 : w2.heap.size < eb := by omega
        have ne3 : w.heap.size ≠ eb := by omega
        have ne4 : w2.heap.size ≠ eb := by omega
        have lw := lt_of_block R6.out
        clear h1 c0 c1 c2 s0 hbw h2 h5 h6 heb hb6 l2 K2
        clear u5 u2 u1
        have y0 := cell_of_block E6.out 0; have y1 := cell_of_block E6.out 1; have y2 := cell_of_block E6.out 2; have y3 := cell_of_block E6.out 3; have y4 := cell_of_block E6.out 4; have y9 := lt_of_block E6.out; have yf := free_of_block E6.out
        go_wp2_with (go_at_call 53; refine (OF.out _).mono ?_; rintro e w7 ⟨rfl, hB⟩; have R7 := Lib.hid (Ab.block hB R6.out); have B7 := Lib.hid (B6.out.trans (Below.mono hB B6.out.size)); have C7 := Lib.hid (Ab.block hB C6.out); have E7 := Lib.hid (Ab.block hB E6.out); have g0 := cell_of_block C7.out 0; have g1 := cell_of_block C7.out 1; have g2 := cell_of_block C7.out 2; have g9 := lt_of_block C7.out; clear y0 y1 y2 y3 y4 y9 yf; have y0 := cell_of_block E7.out 0; have y1 := cell_of_block E7.out 1; have y2 := cell_of_block E7.out 2; have y3 := cell_of_block E7.out 3; have y4 := cell_of_block E7.out 4; have y9 := lt_of_block E7.out; have yf := free_of_block E7.out; clear hB)
        clear g0 g1 g2 g9
        refine wp_region_store 3 (by kernel_rfl) rfl rfl rfl (by kernel_rfl) (by kernel_rfl) rfl ?_
        simp only [Nat.reduceAdd, List.take_succ_cons, List.take_zero, List.drop_succ_cons, List.drop_zero]
        intro u7 h7
        clear y0 y1 y2 y3 y4 y9 yf
        have y0 := cell_of_block (h7.block E7.out) 0
        have y1 := cell_of_block (h7.block E7.out) 1
        have y2 := cell_of_block (h7.block E7.out) 2
        have y3 := cell_of_block (h7.block E7.out) 3
        have y4 := cell_of_block (h7.block E7.out) 4
        have y9 := lt_of_block (h7.block E7.out)
        have hbw := cell_bw
        repeat (go_big_quiet_step (first | (go_at_call 55; exact calls_bw (VL.out _))))
        refine wpQuiet_nil ?_
        intro u8 h8
        have R9 := Lib.hid (h8.block R7.out)
        have B9 := Lib.hid (B7.out.trans (Below.mono h8 B7.out.size))
        have r0 := cell_of_block R9.out 0
        have r1 := cell_of_block R9.out 1
        have r2 := cell_of_block R9.out 2
        have r3 := cell_of_block R9.out 3
        have r4 := cell_of_block R9.out 4
        have r9 := lt_of_block R9.out
        have rf := free_of_block R9.out
        go_simp
        simp only [Yld, pureRun, pureVal, Act.put, Act.eval, List.setIfInBounds_toArray, List.set_cons_succ, List.set_cons_zero]
        clear hbw y0 y1 y2 y3 y4 y9
        go_wp2
        refine bodyPost_ret (by simp [results, Tryz.results26, go_sem,  r0, r1, r2, r3, r4]; try rfl) rfl ?_
        exact reR_yes EQ.out (((((B9.out.setCell (by simp) _).setCell (by simp) _).setCell (by simp) _).setCell (by simp) _).setCell (by simp) _)
      · rw [if_neg (by omega), if_pos kc] at hre
        have OF := Lib.hid fun W => iOfHole_yes k kc nm 0 a b W
        by_cases hz : ∃ z, zs = [z]
        · obtain ⟨z, rfl⟩ := hz
          have EQ := Lib.hid (show reI line = some ⟨k, nm, z, 0, 0⟩ from hre)
          have zb := z96 z (by simp)
          have zw : IntKind.i16.wrap z = z := i16_inJ z (by omega)
          have VL := Lib.hid (fun W => show Calls Tryz.prog 55 #[.agg #[.int .i8 k, .string nm, .int .i16 z, .int .u64 0, .int .u64 0]] W (fun e w' => e = .returned (.bool true) ∧ Below W.heap.size W w') from (by
            have h := iValid_any ⟨k, nm, z, 0, 0⟩ ⟨by show I8 k; unfold I8; omega, by show nm.size ≤ maxLen; unfold maxLen; omega, by show I16 z; unfold I16; omega, u64_zero, u64_zero⟩ W
            rw [(reI_some EQ.out).1] at h
            exact h))
          clear hre kc hn fn z96 h16 zb fr
          go_enter Tryz.func26, Tryz.ntmps26
          go_wp2_with (first | (go_at_call 50; refine (V.out _).mono ?_; rintro e w1 ⟨rfl, hB⟩; have R1 := Lib.hid (Ab.block hB R0.out); have B1 := Lib.hid (B0.out.trans (Below.mono hB B0.out.size)); clear hB) | (go_at_call 51; refine (C.out _ (P0.out.kept (Below.refl _ _) B1.out (Nat.le_refl _))).mono ?_; rintro e w2 ⟨rfl, hB⟩; have hB2 := below_new hB (.cells #[.string nm, .int .u64 a, .int .u64 b] 80); have R2 := Lib.hid (Ab.block hB2 R1.out); have B2 := Lib.hid (B1.out.trans (Below.mono hB2 B1.out.size)); have C2 := Lib.hid (block_alloc w2 (.cells #[.string nm, .int .u64 a, .int .u64 b] 80)); clear hB hB2))
          have l2 := lt_of_block C2.out
          have n2 := lt_of_block R1.out
          obtain ⟨V2, hV2⟩ : ∃ V2, V2 = w2.alloc (.cells #[.string nm, .int .u64 a, .int .u64 b] 80) := ⟨_, rfl⟩
          rw [← hV2] at R2 B2 C2 l2 ⊢
          clear hV2
          refine wp_region_at 7 0 (.cells #[.int .i8 0, .string ⟨#[]⟩, .int .i16 0, .int .u64 0, .int .u64 0] 53) (.cells #[.int .i8 k, .string nm, .int .i16 0, .int .u64 a, .int .u64 b] 53) (by kernel_rfl) rfl rfl rfl (by kernel_rfl) rfl rfl (fun _ _ => by kernel_rfl) ?_
          simp only [Nat.reduceAdd, List.take_succ_cons, List.take_zero, List.drop_succ_cons, List.drop_zero]
          intro u1 h1
          have c0 := cell_of_block (h1.block C2.out) 0
          have c1 := cell_of_block (h1.block C2.out) 1
          have c2 := cell_of_block (h1.block C2.out) 2
          have s0 := lt_of_block (h1.block C2.out)
          have hbw := cell_bw
          have K2 := Lib.hid fun q : Regrown => KO.out (bw u1 q) (tx_below T0.out ((B2.out.trans (Below.mono h1 B2.out.size)).trans (Below.mono (below_bw u1 q) (B2.out.trans (Below.mono h1 B2.out.size)).size)))
          repeat (go_big_quiet_step (first | (go_at_call 52; exact calls_bw (K2.out _))))
          refine wpQuiet_nil ?_
          intro eb heb u2 h2
          refine wpQuiet_nil ?_
          refine ⟨?_, ?_⟩
          · intro u3 h3 hb3
            have f0 := cell_of_block hb3
            have f1 := free_of_block hb3
            go_simp
            exact ⟨((((h3.setCell _ heb).setCell _ heb).setCell _ heb).setCell _ heb).setCell _ heb, block_setCell _ (block_setCell _ (block_setCell _ (block_setCell _ (block_setCell _ hb3))))⟩
          intro u5 h5
          simp only [Act.put, List.setIfInBounds_toArray, List.set_cons_succ, List.set_cons_zero]
          repeat (go_big_quiet_step (fail))
          refine wpQuiet_nil ?_
          intro u6 h6 hb6
          have R6 := Lib.hid (h6.block R2.out)
          have B6 := Lib.hid (B2.out.trans (Below.mono h6 B2.out.size))
          have C6 := Lib.hid (h6.block C2.out)
          have E6 := Lib.hid hb6
          have ne1 : w.heap.size < eb := by have h := lt_of_block R2.out; omega
          have ne2 : w2.heap.size < eb := by omega
          have ne3 : w.heap.size ≠ eb := by omega
          have ne4 : w2.heap.size ≠ eb := by omega
          have lw := lt_of_block R6.out
          clear h1 c0 c1 c2 s0 hbw h2 h5 h6 heb hb6 l2 K2
          clear u5 u2 u1
          have y0 := cell_of_block E6.out 0; have y1 := cell_of_block E6.out 1; have y2 := cell_of_block E6.out 2; have y3 := cell_of_block E6.out 3; have y4 := cell_of_block E6.out 4; have y9 := lt_of_block E6.out; have yf := free_of_block E6.out
          go_wp2_with (first | (go_at_call 53; refine (OF.out _).mono ?_; rintro e w7 ⟨rfl, hB⟩; have R7 := Lib.hid (Ab.block hB R6.out); have B7 := Lib.hid (B6.out.trans (Below.mono hB B6.out.size)); have C7 := Lib.hid (Ab.block hB C6.out); have E7 := Lib.hid (Ab.block hB E6.out); have g0 := cell_of_block C7.out 0; have g1 := cell_of_block C7.out 1; have g2 := cell_of_block C7.out 2; have g9 := lt_of_block C7.out; clear y0 y1 y2 y3 y4 y9 yf; have y0 := cell_of_block E7.out 0; have y1 := cell_of_block E7.out 1; have y2 := cell_of_block E7.out 2; have y3 := cell_of_block E7.out 3; have y4 := cell_of_block E7.out 4; have y9 := lt_of_block E7.out; have yf := free_of_block E7.out; clear hB) | (go_at_call 54; refine (HI.out _).mono ?_; rintro e w8 ⟨v8, rfl, hO, hB⟩; obtain ⟨a8, c8, hv, hi⟩ := ownInts_in hO; subst hv; have R8 := Lib.hid (Ab.block hB R7.out); have B8 := Lib.hid (B7.out.trans (Below.mono hB B7.out.size)); have E8 := Lib.hid (Ab.block hB E7.out); clear g0 g1 g2 g9 y0 y1 y2 y3 y4 y9 yf; obtain ⟨bz, oz, hz8, lz, dz⟩ := hi 0 (by simp); cases hz8; simp only [Nat.add_zero, List.getD_cons_zero] at dz; have y0 := cell_of_block E8.out 0; have y1 := cell_of_block E8.out 1; have y2 := cell_of_block E8.out 2; have y3 := cell_of_block E8.out 3; have y4 := cell_of_block E8.out 4; have y9 := lt_of_block E8.out; have yf := free_of_block E8.out; clear hO hB hi))
          obtain ⟨W9, hW9⟩ : ∃ W9, W9 = ((w8.setCell ⟨eb, 2, none⟩ (.int .i16 z)).setCell ⟨eb, 3, none⟩ (.int .u64 0)).setCell ⟨eb, 4, none⟩ (.int .u64 0) := ⟨_, rfl⟩
          rw [← hW9]
          have E7 : Hid (W9.heap[eb]? = some (.cells #[.int .i8 k, .string nm, .int .i16 z, .int .u64 0, .int .u64 0] 53 (0, 0))) := Lib.hid (by rw [hW9]; exact block_setCell _ (block_setCell _ (block_setCell _ E8.out)))
          have R7 : Hid (W9.heap[w.heap.size]? = some (.cells #[.int .i8 0, .string ⟨#[]⟩, .int .i16 0, .int .u64 0, .int .u64 0] 53)) := Lib.hid (by rw [hW9]; exact (Below.heap_setCell _ _ _ _ (by simpa using ne3)).trans ((Below.heap_setCell _ _ _ _ (by simpa using ne3)).trans ((Below.heap_setCell _ _ _ _ (by simpa using ne3)).trans R8.out)))
          have B7 : Hid (Below w.heap.size w W9) := Lib.hid (by rw [hW9]; exact ((B8.out.setCell (p := ⟨eb, 2, none⟩) (by simp; omega) _).setCell (p := ⟨eb, 3, none⟩) (by simp; omega) _).setCell (p := ⟨eb, 4, none⟩) (by simp; omega) _)
          clear hW9 dz lz
          refine wp_region_store 3 (by kernel_rfl) rfl rfl rfl (by kernel_rfl) (by kernel_rfl) rfl ?_
          simp only [Nat.reduceAdd, List.take_succ_cons, List.take_zero, List.drop_succ_cons, List.drop_zero]
          intro u7 h7
          clear y0 y1 y2 y3 y4 y9 yf
          have y0 := cell_of_block (h7.block E7.out) 0
          have y1 := cell_of_block (h7.block E7.out) 1
          have y2 := cell_of_block (h7.block E7.out) 2
          have y3 := cell_of_block (h7.block E7.out) 3
          have y4 := cell_of_block (h7.block E7.out) 4
          have y9 := lt_of_block (h7.block E7.out)
          have hbw := cell_bw
          repeat (go_big_quiet_step (first | (go_at_call 55; exact calls_bw (VL.out _))))
          refine wpQuiet_nil ?_
          intro u8 h8
          have R9 := Lib.hid (h8.block R7.out)
          have B9 := Lib.hid (B7.out.trans (Below.mono h8 B7.out.size))
          have r0 := cell_of_block R9.out 0
          have r1 := cell_of_block R9.out 1
          have r2 := cell_of_block R9.out 2
          have r3 := cell_of_block R9.out 3
          have r4 := cell_of_block R9.out 4
          have r9 := lt_of_block R9.out
          have rf := free_of_block R9.out
          go_simp
          simp only [Yld, pureRun, pureVal, Act.put, Act.eval, List.setIfInBounds_toArray, List.set_cons_succ, List.set_cons_zero]
          clear hbw y0 y1 y2 y3 y4 y9
          go_wp2
          refine bodyPost_ret (by simp [results, Tryz.results26, go_sem,  r0, r1, r2, r3, r4]; try rfl) rfl ?_
          exact reR_yes EQ.out (((((B9.out.setCell (by simp) _).setCell (by simp) _).setCell (by simp) _).setCell (by simp) _).setCell (by simp) _)
        · have EQ := Lib.hid (show reI line = none by
            rw [hre]
            split
            · rename_i z
              exact absurd ⟨z, rfl⟩ hz
            · rfl)
          have hl : ¬ zs.length = 1 := fun h => hz (by
            match zs, h with
            | [z], _ => exact ⟨z, rfl⟩)
          have dl : ((zs.length : Int) != 1) = true := by rw [bne_iff_ne]; omega
          clear hre kc hn fn z96 h16 hz hl fr
          go_enter Tryz.func26, Tryz.ntmps26
          go_wp2_with (first | (go_at_call 50; refine (V.out _).mono ?_; rintro e w1 ⟨rfl, hB⟩; have R1 := Lib.hid (Ab.block hB R0.out); have B1 := Lib.hid (B0.out.trans (Below.mono hB B0.out.size)); clear hB) | (go_at_call 51; refine (C.out _ (P0.out.kept (Below.refl _ _) B1.out (Nat.le_refl _))).mono ?_; rintro e w2 ⟨rfl, hB⟩; have hB2 := below_new hB (.cells #[.string nm, .int .u64 a, .int .u64 b] 80); have R2 := Lib.hid (Ab.block hB2 R1.out); have B2 := Lib.hid (B1.out.trans (Below.mono hB2 B1.out.size)); have C2 := Lib.hid (block_alloc w2 (.cells #[.string nm, .int .u64 a, .int .u64 b] 80)); clear hB hB2))
          have l2 := lt_of_block C2.out
          have n2 := lt_of_block R1.out
          obtain ⟨V2, hV2⟩ : ∃ V2, V2 = w2.alloc (.cells #[.string nm, .int .u64 a, .int .u64 b] 80) := ⟨_, rfl⟩
          rw [← hV2] at R2 B2 C2 l2 ⊢
          clear hV2
          refine wp_region_at 7 0 (.cells #[.int .i8 0, .string ⟨#[]⟩, .int .i16 0, .int .u64 0, .int .u64 0] 53) (.cells #[.int .i8 k, .string nm, .int .i16 0, .int .u64 a, .int .u64 b] 53) (by kernel_rfl) rfl rfl rfl (by kernel_rfl) rfl rfl (fun _ _ => by kernel_rfl) ?_
          simp only [Nat.reduceAdd, List.take_succ_cons, List.take_zero, List.drop_succ_cons, List.drop_zero]
          intro u1 h1
          have c0 := cell_of_block (h1.block C2.out) 0
          have c1 := cell_of_block (h1.block C2.out) 1
          have c2 := cell_of_block (h1.block C2.out) 2
          have s0 := lt_of_block (h1.block C2.out)
          have hbw := cell_bw
          have K2 := Lib.hid fun q : Regrown => KO.out (bw u1 q) (tx_below T0.out ((B2.out.trans (Below.mono h1 B2.out.size)).trans (Below.mono (below_bw u1 q) (B2.out.trans (Below.mono h1 B2.out.size)).size)))
          repeat (go_big_quiet_step (first | (go_at_call 52; exact calls_bw (K2.out _))))
          refine wpQuiet_nil ?_
          intro eb heb u2 h2
          refine wpQuiet_nil ?_
          refine ⟨?_, ?_⟩
          · intro u3 h3 hb3
            have f0 := cell_of_block hb3
            have f1 := free_of_block hb3
            go_simp
            exact ⟨((((h3.setCell _ heb).setCell _ heb).setCell _ heb).setCell _ heb).setCell _ heb, block_setCell _ (block_setCell _ (block_setCell _ (block_setCell _ (block_setCell _ hb3))))⟩
          intro u5 h5
          simp only [Act.put, List.setIfInBounds_toArray, List.set_cons_succ, List.set_cons_zero]
          repeat (go_big_quiet_step (fail))
          refine wpQuiet_nil ?_
          intro u6 h6 hb6
          have R6 := Lib.hid (h6.block R2.out)
          have B6 := Lib.hid (B2.out.trans (Below.mono h6 B2.out.size))
          have C6 := Lib.hid (h6.block C2.out)
          have E6 := Lib.hid hb6
          have ne1 : w.heap.size < eb := by have h := lt_of_block R2.out; omega
          have ne2 : w2.heap.size < eb := by omega
          have ne3 : w.heap.size ≠ eb := by omega
          have ne4 : w2.heap.size ≠ eb := by omega
          have lw := lt_of_block R6.out
          clear h1 c0 c1 c2 s0 hbw h2 h5 h6 heb hb6 l2 K2
          clear u5 u2 u1
          have y0 := cell_of_block E6.out 0; have y1 := cell_of_block E6.out 1; have y2 := cell_of_block E6.out 2; have y3 := cell_of_block E6.out 3; have y4 := cell_of_block E6.out 4; have y9 := lt_of_block E6.out; have yf := free_of_block E6.out
          go_wp2_with (first | (go_at_call 53; refine (OF.out _).mono ?_; rintro e w7 ⟨rfl, hB⟩; have R7 := Lib.hid (Ab.block hB R6.out); have B7 := Lib.hid (B6.out.trans (Below.mono hB B6.out.size)); have C7 := Lib.hid (Ab.block hB C6.out); have E7 := Lib.hid (Ab.block hB E6.out); have g0 := cell_of_block C7.out 0; have g1 := cell_of_block C7.out 1; have g2 := cell_of_block C7.out 2; have g9 := lt_of_block C7.out; clear y0 y1 y2 y3 y4 y9 yf; have y0 := cell_of_block E7.out 0; have y1 := cell_of_block E7.out 1; have y2 := cell_of_block E7.out 2; have y3 := cell_of_block E7.out 3; have y4 := cell_of_block E7.out 4; have y9 := lt_of_block E7.out; have yf := free_of_block E7.out; clear hB) | (go_at_call 54; refine (HI.out _).mono ?_; rintro e w8 ⟨v8, rfl, hO, hB⟩; obtain ⟨a8, c8, hv, hi⟩ := ownInts_in hO; subst hv; have R8 := Lib.hid (Ab.block hB R7.out); have B8 := Lib.hid (B7.out.trans (Below.mono hB B7.out.size)); have E8 := Lib.hid (Ab.block hB E7.out); clear g0 g1 g2 g9 y0 y1 y2 y3 y4 y9 yf; have R9 := R8; have B9 := B8; have r0 := cell_of_block R9.out 0; have r1 := cell_of_block R9.out 1; have r2 := cell_of_block R9.out 2; have r3 := cell_of_block R9.out 3; have r4 := cell_of_block R9.out 4; have r9 := lt_of_block R9.out; have rf := free_of_block R9.out; clear hO hB hi))
          refine bodyPost_ret (by simp [results, Tryz.results26, go_sem,  r0, r1, r2, r3, r4]; try rfl) rfl ?_
          exact reR_no EQ.out (((((B9.out.setCell (by simp) _).setCell (by simp) _).setCell (by simp) _).setCell (by simp) _).setCell (by simp) _)
      · subst kc
        rw [if_neg (by decide), if_neg (by decide)] at hre
        have EQ := Lib.hid hre
        have OF := Lib.hid fun W => iOfHole_no 0 (by decide) nm 0 a b W
        have VL := Lib.hid (fun W => show Calls Tryz.prog 55 #[.agg #[.int .i8 0, .string nm, .int .i16 0, .int .u64 a, .int .u64 b]] W (fun e w' => e = .returned (.bool false) ∧ Below W.heap.size W w') from (by
          have h := iValid_any ⟨0, nm, 0, a, b⟩ ⟨by show I8 0; unfold I8; omega, by show nm.size ≤ maxLen; unfold maxLen; omega, h16, ua, ub⟩ W
          rw [edOk_none (by show ¬ ((0 : Int) = 1 ∨ (0 : Int) = 2 ∨ (0 : Int) = 3 ∨ (0 : Int) = 4); decide)] at h
          exact h))
        clear hre hn fn z96 h16 fr
        go_enter Tryz.func26, Tryz.ntmps26
        go_wp2_with (first | (go_at_call 50; refine (V.out _).mono ?_; rintro e w1 ⟨rfl, hB⟩; have R1 := Lib.hid (Ab.block hB R0.out); have B1 := Lib.hid (B0.out.trans (Below.mono hB B0.out.size)); clear hB) | (go_at_call 51; refine (C.out _ (P0.out.kept (Below.refl _ _) B1.out (Nat.le_refl _))).mono ?_; rintro e w2 ⟨rfl, hB⟩; have hB2 := below_new hB (.cells #[.string nm, .int .u64 a, .int .u64 b] 80); have R2 := Lib.hid (Ab.block hB2 R1.out); have B2 := Lib.hid (B1.out.trans (Below.mono hB2 B1.out.size)); have C2 := Lib.hid (block_alloc w2 (.cells #[.string nm, .int .u64 a, .int .u64 b] 80)); clear hB hB2))
        have l2 := lt_of_block C2.out
        have n2 := lt_of_block R1.out
        obtain ⟨V2, hV2⟩ : ∃ V2, V2 = w2.alloc (.cells #[.string nm, .int .u64 a, .int .u64 b] 80) := ⟨_, rfl⟩
        rw [← hV2] at R2 B2 C2 l2 ⊢
        clear hV2
        refine wp_region_at 7 0 (.cells #[.int .i8 0, .string ⟨#[]⟩, .int .i16 0, .int .u64 0, .int .u64 0] 53) (.cells #[.int .i8 0, .string nm, .int .i16 0, .int .u64 a, .int .u64 b] 53) (by kernel_rfl) rfl rfl rfl (by kernel_rfl) rfl rfl (fun _ _ => by kernel_rfl) ?_
        simp only [Nat.reduceAdd, List.take_succ_cons, List.take_zero, List.drop_succ_cons, List.drop_zero]
        intro u1 h1
        have c0 := cell_of_block (h1.block C2.out) 0
        have c1 := cell_of_block (h1.block C2.out) 1
        have c2 := cell_of_block (h1.block C2.out) 2
        have s0 := lt_of_block (h1.block C2.out)
        have hbw := cell_bw
        have K2 := Lib.hid fun q : Regrown => KO.out (bw u1 q) (tx_below T0.out ((B2.out.trans (Below.mono h1 B2.out.size)).trans (Below.mono (below_bw u1 q) (B2.out.trans (Below.mono h1 B2.out.size)).size)))
        repeat (go_big_quiet_step (first | (go_at_call 52; exact calls_bw (K2.out _))))
        refine wpQuiet_nil ?_
        intro eb heb u2 h2
        refine wpQuiet_nil ?_
        refine ⟨?_, ?_⟩
        · intro u3 h3 hb3
          have f0 := cell_of_block hb3
          have f1 := free_of_block hb3
          go_simp
          exact ⟨((((h3.setCell _ heb).setCell _ heb).setCell _ heb).setCell _ heb).setCell _ heb, block_setCell _ (block_setCell _ (block_setCell _ (block_setCell _ (block_setCell _ hb3))))⟩
        intro u5 h5
        simp only [Act.put, List.setIfInBounds_toArray, List.set_cons_succ, List.set_cons_zero]
        repeat (go_big_quiet_step (fail))
        refine wpQuiet_nil ?_
        intro u6 h6 hb6
        have R6 := Lib.hid (h6.block R2.out)
        have B6 := Lib.hid (B2.out.trans (Below.mono h6 B2.out.size))
        have C6 := Lib.hid (h6.block C2.out)
        have E6 := Lib.hid hb6
        have ne1 : w.heap.size < eb := by have h := lt_of_block R2.out; omega
        have ne2 : w2.heap.size < eb := by omega
        have ne3 : w.heap.size ≠ eb := by omega
        have ne4 : w2.heap.size ≠ eb := by omega
        have lw := lt_of_block R6.out
        clear h1 c0 c1 c2 s0 hbw h2 h5 h6 heb hb6 l2 K2
        clear u5 u2 u1
        have y0 := cell_of_block E6.out 0; have y1 := cell_of_block E6.out 1; have y2 := cell_of_block E6.out 2; have y3 := cell_of_block E6.out 3; have y4 := cell_of_block E6.out 4; have y9 := lt_of_block E6.out; have yf := free_of_block E6.out
        go_wp2_with (go_at_call 53; refine (OF.out _).mono ?_; rintro e w7 ⟨rfl, hB⟩; have R7 := Lib.hid (Ab.block hB R6.out); have B7 := Lib.hid (B6.out.trans (Below.mono hB B6.out.size)); have C7 := Lib.hid (Ab.block hB C6.out); have E7 := Lib.hid (Ab.block hB E6.out); have g0 := cell_of_block C7.out 0; have g1 := cell_of_block C7.out 1; have g2 := cell_of_block C7.out 2; have g9 := lt_of_block C7.out; clear y0 y1 y2 y3 y4 y9 yf; have y0 := cell_of_block E7.out 0; have y1 := cell_of_block E7.out 1; have y2 := cell_of_block E7.out 2; have y3 := cell_of_block E7.out 3; have y4 := cell_of_block E7.out 4; have y9 := lt_of_block E7.out; have yf := free_of_block E7.out; clear hB)
        clear g0 g1 g2 g9
        refine wp_region_store 3 (by kernel_rfl) rfl rfl rfl (by kernel_rfl) (by kernel_rfl) rfl ?_
        simp only [Nat.reduceAdd, List.take_succ_cons, List.take_zero, List.drop_succ_cons, List.drop_zero]
        intro u7 h7
        clear y0 y1 y2 y3 y4 y9 yf
        have y0 := cell_of_block (h7.block E7.out) 0
        have y1 := cell_of_block (h7.block E7.out) 1
        have y2 := cell_of_block (h7.block E7.out) 2
        have y3 := cell_of_block (h7.block E7.out) 3
        have y4 := cell_of_block (h7.block E7.out) 4
        have y9 := lt_of_block (h7.block E7.out)
        have hbw := cell_bw
        repeat (go_big_quiet_step (first | (go_at_call 55; exact calls_bw (VL.out _))))
        refine wpQuiet_nil ?_
        intro u8 h8
        have R9 := Lib.hid (h8.block R7.out)
        have B9 := Lib.hid (B7.out.trans (Below.mono h8 B7.out.size))
        have r0 := cell_of_block R9.out 0
        have r1 := cell_of_block R9.out 1
        have r2 := cell_of_block R9.out 2
        have r3 := cell_of_block R9.out 3
        have r4 := cell_of_block R9.out 4
        have r9 := lt_of_block R9.out
        have rf := free_of_block R9.out
        go_simp
        simp only [Yld, pureRun, pureVal, Act.put, Act.eval, List.setIfInBounds_toArray, List.set_cons_succ, List.set_cons_zero]
        clear hbw y0 y1 y2 y3 y4 y9
        go_wp2
        refine bodyPost_ret (by simp [results, Tryz.results26, go_sem,  r0, r1, r2, r3, r4]; try rfl) rfl ?_
        exact reR_no EQ.out (((((B9.out.setCell (by simp) _).setCell (by simp) _).setCell (by simp) _).setCell (by simp) _).setCell (by simp) _)
end Go.Proofs.YtpkpjkceiikakaaGreatDoor

namespace Go.Proofs.YtpkpjkceiikakaaGreatDoor
open Go.ChangeShapes Go.WideShapes Go.ChangeAt Go.RowKit

theorem et_box (w : World) (o : Obj) : (w.alloc o).heap[w.heap.size]? = some o := by unfold World.alloc; simp

set_option maxRecDepth 100000 in
set_option maxHeartbeats 3200000 in
theorem iEtText_any (ad : Option Addr) (es : List Ed) (c : Nat) (w : World) (hc : EditsIn w ad es) (hn : es.length ≤ 1048576) (ht : TxIs Tryz.prog w "loop.example/g01261/impl.editWords" edWd) :
    Calls Tryz.prog 27 #[.slice ad es.length c] w fun e w' => e = .returned (.string (etT es)) ∧ Below w.heap.size w w' := by
  have V := fun W h => iChk_any ad es c W h hn
  have C := Lib.hid hc
  have T0 := Lib.hid ht
  unfold etT
  by_cases hk : edsC es = 0
  · rw [hk] at V
    rw [if_pos hk]
    obtain ⟨e1, l200⟩ := edsC_inv hk
    have OK := Lib.hid fun i (hi : i < es.length) => edTil_at e1 hi
    have SZ := Lib.hid (etN_size OK.out)
    replace V := Lib.hid V
    clear hk hc ht e1 hn
    go_enter Tryz.func27, Tryz.ntmps27
    go_wp2_with (go_at_call 56; refine (V.out _ C.out).mono ?_; rintro e w1 ⟨rfl, hB⟩; have B1 := Lib.hid hB; clear hB)
    have D0 := Lib.hid (bldK_fresh w1)
    have A0 := Lib.hid (below_new (Below.refl w1.heap.size w1) (.cells #[.pointer none, .slice none 0 0] 98))
    have C1 := Lib.hid (editsIn_below C.out B1.out)
    have T1 := Lib.hid (tx_below T0.out B1.out)
    go_loopw [11] (fun i wr => ∃ j : Nat, j ≤ es.length ∧ i = .int .i64 (j : Int) ∧ BldK w1.heap.size w1.heap.size (etN es j) wr ∧ Below w1.heap.size w1 wr ∧ w1.heap.size < wr.heap.size) (fun i _ => es.length - (intOf i).toNat)
    case atStart => exact ⟨0, Nat.zero_le _, rfl, D0.out, A0.out, by simp⟩
    case round =>
      obtain ⟨j, hj, rfl, hD, hB, hlt⟩ := hrel
      have D5 := Lib.hid hD
      have B5 := Lib.hid hB
      clear hD
      by_cases hjl : j < es.length
      · have hd : decide ((j : Int) < (es.length : Int)) = true := by simpa using hjl
        obtain ⟨hf, b1, o1, rfl, hb1, p0, p1, p2, p3, p4⟩ := C1.out j hjl
        have d0 := (hB.cell (p := ⟨b1, o1 + j * 5, none⟩) hb1).trans p0
        have d1 := (hB.cell (p := ⟨b1, o1 + j * 5 + 1, none⟩) hb1).trans p1
        have d2 := (hB.cell (p := ⟨b1, o1 + j * 5 + 2, none⟩) hb1).trans p2
        have d3 := (hB.cell (p := ⟨b1, o1 + j * 5 + 3, none⟩) hb1).trans p3
        have d4 := (hB.cell (p := ⟨b1, o1 + j * 5 + 4, none⟩) hb1).trans p4
        have i1 : (0 : Int) ≤ (j : Int) := by omega
        have i2 : (j : Int) < (es.length : Int) := by omega
        have sz := SZ.out j hj
        have ok := OK.out j hjl
        have NX := Lib.hid (etN_next2 es j)
        have CC := Lib.hid fun W => iEdCard_any (edAt es j) ok W
        have CT := fun W => iCardText_any (edAt es j).s (ca (edAt es j)) (cb (edAt es j)) hf.2.1 (ca_u64 ok hf).1 (ca_u64 ok hf).2 W
        rw [cdT_ed ok] at CT
        replace CT := Lib.hid CT
        have sl := edL_size ok
        have sw := wdOf_size (edAt es j).k
        obtain ⟨kk1, kk4⟩ := edK ok
        have EW := Lib.hid fun W h => ew_cell (W := W) h kk1 kk4
        clear hB p0 p1 p2 p3 p4 hf ok
        generalize edL (edAt es j) = l at *
        generalize wdOf (edAt es j).k = wd at *
        generalize ca (edAt es j) = p at *
        generalize cb (edAt es j) = q at *
        generalize etN es j = t at *
        generalize (edAt es j).k = k at *
        generalize (edAt es j).s = s at *
        generalize (edAt es j).h = h at *
        generalize (edAt es j).a = a at *
        generalize (edAt es j).b = b at *
        have k5 : k < 5 := by omega
        have k0 : 0 ≤ k := by omega
        have z10 : (ByteArray.mk #[10]).size = 1 := rfl
        have z32 : (ByteArray.mk #[32]).size = 1 := rfl
        have A3 := Lib.hid (below_new (Below.refl wr.heap.size wr) (.cells #[.int .i8 k, .string s, .int .i16 h, .int .u64 a, .int .u64 b] 53))
        have D3 := Lib.hid (bldK_kept D5.out A3.out)
        have B3 := Lib.hid (B5.out.trans (Below.mono A3.out B5.out.size))
        have K3 := Lib.hid (et_box wr (.cells #[.int .i8 k, .string s, .int .i16 h, .int .u64 a, .int .u64 b] 53))
        have tc := EW.out _ (tx_below T1.out (Below.mono B3.out (Nat.le_refl _)))
        have nb : Hid (wr.heap.size ≠ w1.heap.size) := Lib.hid (by omega)
        have WB1 := Lib.hid fun (z : ByteArray) W (h : BldK w1.heap.size w1.heap.size z W) hB hl => (show Calls Tryz.prog 58 #[.pointer (some ⟨w1.heap.size, 0, none⟩), .int .u8 32] W _ from bldK_byte w1.heap.size w1.heap.size z 32 W h hB hl)
        have WB2 := Lib.hid fun (z : ByteArray) W (h : BldK w1.heap.size w1.heap.size z W) hB hl => (show Calls Tryz.prog 58 #[.pointer (some ⟨w1.heap.size, 0, none⟩), .int .u8 10] W _ from bldK_byte w1.heap.size w1.heap.size z 10 W h hB hl)
        have tok1 : True := trivial
        have tok2 : True := trivial
        have tok3 : True := trivial
        clear kk1 kk4
        go_wp2_with (first
          | (go_at_call 57; have _t := tok1; clear _t tok1; refine (bldK_str w1.heap.size w1.heap.size t wd _ D3.out B3.out.size (by omega)).mono ?_; rintro e w4 ⟨rfl, hD, hB, hO⟩; have D4 := Lib.hid hD; have B4 := Lib.hid (B3.out.trans hB); have K4 := Lib.hid (othB_block hO K3.out nb.out ed_neq); clear hD hB hO)
          | (go_at_call 58; have _t := tok2; clear _t tok2; refine (WB1.out (t ++ wd) _ D4.out B4.out.size (by rw [ByteArray.size_append]; omega)).mono ?_; rintro e w5 ⟨rfl, hD, hB, hO⟩; have D5 := Lib.hid hD; have B5 := Lib.hid (B4.out.trans hB); have hK := othB_block hO K4.out nb.out ed_neq; have m0 := cell_of_block hK 0; have m1 := cell_of_block hK 1; have m2 := cell_of_block hK 2; have m3 := cell_of_block hK 3; have m4 := cell_of_block hK 4; have hlt5 := lt_of_block hK; clear hD hB hO hK)
          | (go_at_call 60; refine (CC.out _).mono ?_; rintro e w6 ⟨rfl, hB⟩; have D6 := Lib.hid (bldK_kept D5.out hB); have B6 := Lib.hid (et_next B5.out (Nat.le_refl _) hB); have s6 := hB.size; clear hB)
          | (go_at_call 59; refine (CT.out _).mono ?_; rintro e w7 ⟨rfl, hB⟩; have D7 := Lib.hid (bldK_kept D6.out hB); have B7 := Lib.hid (et_next B6.out (Nat.le_refl _) hB); have s7 := hB.size; clear hB)
          | (go_at_call 57; have _t := tok3; clear _t tok3; refine (bldK_str w1.heap.size w1.heap.size ((t ++ wd) ++ ⟨#[32]⟩) l _ D7.out B7.out.size (by rw [ByteArray.size_append, ByteArray.size_append]; omega)).mono ?_; rintro e w8 ⟨rfl, hD, hB, hO⟩; have D8 := Lib.hid hD; have B8 := Lib.hid (B7.out.trans hB); have s8 := hB.size; clear hD hB hO)
          | (go_at_call 58; refine (WB2.out _ _ D8.out B8.out.size (by rw [ByteArray.size_append, ByteArray.size_append, ByteArray.size_append]; omega)).mono ?_; rintro e w9 ⟨rfl, hD, hB, hO⟩; have D9 := Lib.hid hD; have B9 := Lib.hid (B8.out.trans hB); have s9 := hB.size; clear hD hB hO))
        exact ⟨⟨j + 1, hjl, by rw [Int.natCast_succ], by rw [NX.out]; exact D9.out, B9.out, by omega⟩, by (simp [intOf]) <;> omega⟩
      · have e : j = es.length := by omega
        subst e
        have hd : decide ((es.length : Int) < (es.length : Int)) = false := by simp
        clear hB
        go_wp2_with (go_at_call 61; refine (bldK_text w1.heap.size w1.heap.size _ _ D5.out B5.out.size).mono ?_; rintro e w6 ⟨rfl, hB⟩; have B6 := Lib.hid (B5.out.trans hB); clear hB)
        go_returns
        exact ⟨rfl, B1.out.trans (Below.mono B6.out B1.out.size)⟩
  · rw [if_neg hk]
    have nk : (edsC es != 0) = true := by simpa using hk
    replace V := Lib.hid V
    generalize edsC es = z at *
    clear hk hc ht hn
    go_enter Tryz.func27, Tryz.ntmps27
    go_wp2_with (go_at_call 56; refine (V.out _ C.out).mono ?_; rintro e w1 ⟨rfl, hB⟩; have B1 := Lib.hid hB; clear hB)
    go_returns
    exact ⟨rfl, B1.out⟩
end Go.Proofs.YtpkpjkceiikakaaGreatDoor

namespace Go.Proofs.YtpkpjkceiikakaaGreatDoor
open Go.ChangeShapes Go.WideShapes Go.ChangeAt Go.RowKit
attribute [local go_sem] Oper.semAt_some

theorem new5N (w : World) (n : Nat) (hn : n = w.heap.size) (x0 x1 x2 x3 x4 : Value) (t : TypeId) : ∀ j u, [x0, x1, x2, x3, x4][j]? = some u → (w.alloc (.cells #[x0, x1, x2, x3, x4] t)).cell? ((⟨n, 0, none⟩ : Addr).add j) = some u := by
  subst hn
  intro j u h
  match j, h with
  | 0, h => simp at h; subst h; simp [Addr.add]
  | 1, h => simp at h; subst h; simp [Addr.add]
  | 2, h => simp at h; subst h; simp [Addr.add]
  | 3, h => simp at h; subst h; simp [Addr.add]
  | 4, h => simp at h; subst h; simp [Addr.add]
theorem rdM_fits {ts : List ByteArray} {ds : List Ed} (h : rdM reI ts = some ds) (i : Nat) (hi : i < ds.length) : (edAt ds i).fits := by
  obtain ⟨hk, ha, hb, _⟩ := reI_some (rdM_at h i hi)
  obtain ⟨hn, h2⟩ := edOk_inv hk
  have hs := nameOk_size hn
  have kk := ed_kind hk
  refine ⟨by unfold I8; omega, by unfold maxLen; omega, ?_, ha, hb⟩
  rcases h2 with ⟨h1, _⟩ | ⟨_, h0, h1⟩
  · rw [edOk_card h1] at hk
    simp only [Bool.and_eq_true, beq_iff_eq] at hk
    rw [hk.2.1]; unfold I16; omega
  · unfold I16; omega
/-- The answer of ReadEdits. -/
def RxR (o : Option (List Ed)) (w : World) (e : Ending) (w' : World) : Prop := ∃ v, e = .returned (.tuple #[v, .int .i64 (if o.isSome then 0 else 5)]) ∧ OwnEdits w.heap.size (o.getD []) v w' ∧ Below w.heap.size w w'
theorem iReadEdit_no (line : ByteArray) (hs : line.size ≤ 1048576) (h : reI line = none) (w : World) (hP : PE w) (ht : TxIs Tryz.prog w "loop.example/g01261/impl.editWords" edWd) :
    Calls Tryz.prog 26 #[.string line] w fun e w' => ∃ k s h a b, e = .returned (.tuple #[.agg #[.int .i8 k, .string s, .int .i16 h, .int .u64 a, .int .u64 b], .bool false]) ∧ Below w.heap.size w w' :=
  (iReadEdit_any line hs w hP ht).mono fun e w' h' => by
    obtain ⟨⟨k, s, hh, a, b⟩, he, _, hb⟩ := h'
    exact ⟨k, s, hh, a, b, by rw [he, h]; rfl, hb⟩
theorem iReadEdit_yes (line : ByteArray) (hs : line.size ≤ 1048576) (k : Int) (s : ByteArray) (hh a b : Int) (h : reI line = some ⟨k, s, hh, a, b⟩) (w : World) (hP : PE w) (ht : TxIs Tryz.prog w "loop.example/g01261/impl.editWords" edWd) :
    Calls Tryz.prog 26 #[.string line] w fun e w' => e = .returned (.tuple #[.agg #[.int .i8 k, .string s, .int .i16 hh, .int .u64 a, .int .u64 b], .bool true]) ∧ Below w.heap.size w w' :=
  (iReadEdit_any line hs w hP ht).mono fun e w' h' => by
    obtain ⟨x, he, hq, hb⟩ := h'
    have hq := hq _ h
    subst hq
    exact ⟨by rw [he, h]; rfl, hb⟩
theorem str_neX {x y : ByteArray} (h : x ≠ y) : (x.toList == y.toList) = false := by
  rw [beq_eq_false_iff_ne]
  intro e
  apply h
  apply data_inj
  rw [← Lib.toList_data, ← Lib.toList_data, e]

set_option maxRecDepth 100000 in
set_option maxHeartbeats 6400000 in
theorem iReadEdits_any (s : ByteArray) (hs : s.size ≤ 1048576) (w : World) (hP : PE w) (ht : TxIs Tryz.prog w "loop.example/g01261/impl.editWords" edWd) :
    Calls Tryz.prog 11 #[.string s] w (RxR (rxI s) w) := by
  obtain ⟨i0, hi, hz0, hz1, hz2⟩ := info_parts info_ed
  have P0 := Lib.hid hP
  have T0 := Lib.hid ht
  clear hP ht
  refine (callsIn_wide (n := 0)).1 (callsIn_of_wp_marks Tryz.func11 rfl trivial ?_ rfl)
  simp only [Tryz.ntmps11, List.size_toArray, List.length_cons, List.length_nil, Nat.reduceAdd, Nat.reduceSub, Array.replicate_succ, Array.replicate_zero, List.push_toArray, List.append_toArray, List.nil_append, List.cons_append]
  refine wpIn_wide.2 ?_
  go_wp2_with (go_at_call 18; refine (lines_any s _).mono ?_; rintro e w1 ⟨rfl, hw⟩; have HW := Lib.hid hw; clear hw)
  have sz1 : w1.heap.size = w.heap.size + 4 := by rw [← HW.out]; simp
  obtain ⟨q0, q1, q2, q3⟩ := block_four w (.cells #[.slice none 0 0] 28) (.cells #[.int .i64 0] 2) (.cells #[.slice none 0 0] 28) (.cells #[.string s] 9)
  rw [HW.out] at q0 q1 q2 q3
  have c0 := cell_of_block q0 0
  have c1 := cell_of_block q1 0
  have c2 := cell_of_block q2 0
  have c3 := cell_of_block q3 0
  have f0 := free_of_block q0 0
  have f1 := free_of_block q1 0
  have f2 := free_of_block q2 0
  have f3 := free_of_block q3 0
  clear q0 q1 q2 q3
  have B0 : Below w.heap.size w w1 := by rw [← HW.out]; exact (by repeat' (first | (with_reducible exact Below.refl _ _) | (with_reducible assumption) | (with_reducible refine below_drewN ?_ _) | (with_reducible refine Below.drew ?_) | (with_reducible refine below_new ?_ _) | (with_reducible refine below_next ?_ (by with_reducible assumption)) | (with_reducible refine Below.setCell ?_ ?_ _) | go_size))
  clear HW
  have hq := lines_by _ s (by unfold maxLen; omega) w1 (by omega) c3 f3
  have hfit := fun x (hx : x ∈ lns s) => Nat.le_trans (Nat.le_trans (trimB_le x) (lns_fit hx)) hs
  have hlen := lns_len s
  refine wp_rangeO rfl (enters_of Tryz.func35 (by kernel_rfl) rfl) hq (fun _ => rfl) (fun h k => ⟨Nat.le_trans h.1 k.1, k.2.trans h.2⟩)
    (fun A B hAB => ⟨hAB.size, hAB.block _ (by omega)⟩) (fun A B hAB k hk hk2 => hAB.block k (by omega) hk2)
    (fun pre W => ∃ ds v, rdM reI (pre.map trimB) = some ds ∧ W.cell? ⟨w.heap.size + 1 + 1, 0, none⟩ = some v ∧ OwnEdits (w1.heap.size + 2) ds v W ∧ W.cell? ⟨w.heap.size, 0, none⟩ = some (.slice none 0 0) ∧ W.cell? ⟨w.heap.size + 1, 0, none⟩ = some (.int .i64 0) ∧ W.frozen? ⟨w.heap.size, 0, none⟩ = false ∧ W.frozen? ⟨w.heap.size + 1, 0, none⟩ = false ∧ W.frozen? ⟨w.heap.size + 1 + 1, 0, none⟩ = false ∧ w1.heap.size ≤ W.heap.size ∧ Below w.heap.size w W)
    (fun c pre W => (c = .ret ∧ rdM reI (pre.map trimB) = none) ∧ W.cell? ⟨w.heap.size, 0, none⟩ = some (.slice none 0 0) ∧ W.cell? ⟨w.heap.size + 1, 0, none⟩ = some (.int .i64 5) ∧ w1.heap.size ≤ W.heap.size ∧ Below w.heap.size w W)
    ?i1 ?i2 ?i3 ?i4 ?i5 (fun _ _ _ => trivial) ⟨[], _, rfl, c2, ownEdits_nil _ _, c0, c1, f0, f1, f2, Nat.le_refl _, B0⟩
    (fun x => { tmps := #[.string s, undef, .pointer (some ⟨w.heap.size, 0, none⟩), .pointer (some ⟨w.heap.size + 1, 0, none⟩), .pointer (some ⟨w.heap.size + 1 + 1, 0, none⟩), .string x, undef, undef, .string s, .func (.func 35) #[] #[.pointer (some ⟨w.heap.size + 1 + 1 + 1, 0, none⟩)], .string x, undef, undef, undef, undef, undef, undef, undef, undef, undef, undef, undef, undef, undef, undef, undef, undef, undef], defers := [] }) ?assign ?body ?done ?stop
  case i1 =>
    rintro pre A B ⟨ds, v, h1, h2, h3, h4, h5, h6, h7, h8, h9, h10⟩ hs
    exact ⟨ds, v, h1, (cell_same (hs.block _ (by omega) (by omega))).trans h2, ownEdits_oth h3 hs (by omega), (cell_same (hs.block _ (by omega) (by omega))).trans h4, (cell_same (hs.block _ (by omega) (by omega))).trans h5, (frozen_same (hs.block _ (by omega) (by omega))).trans h6, (frozen_same (hs.block _ (by omega) (by omega))).trans h7, (frozen_same (hs.block _ (by omega) (by omega))).trans h8, Nat.le_trans h9 hs.size, h10.trans (Below.mono (hs.below (by omega)) (by omega))⟩
  case i2 =>
    rintro c pre A B ⟨h1, h4, h5, h9, h10⟩ hs
    exact ⟨h1, (cell_same (hs.block _ (by omega) (by omega))).trans h4, (cell_same (hs.block _ (by omega) (by omega))).trans h5, Nat.le_trans h9 hs.size, h10.trans (Below.mono (hs.below (by omega)) (by omega))⟩
  case i3 =>
    rintro pre A o hA ⟨ds, v, h1, h2, h3, h4, h5, h6, h7, h8, h9, h10⟩
    have hs := below_new (Below.refl A.heap.size A) o
    exact ⟨ds, v, h1, (hs.cell (p := ⟨_, 0, none⟩) (by simp; omega)).trans h2, World.ownsRow.alloc h3 _, (hs.cell (p := ⟨_, 0, none⟩) (by simp; omega)).trans h4, (hs.cell (p := ⟨_, 0, none⟩) (by simp; omega)).trans h5, (hs.frozen (p := ⟨_, 0, none⟩) (by simp; omega)).trans h6, (hs.frozen (p := ⟨_, 0, none⟩) (by simp; omega)).trans h7, (hs.frozen (p := ⟨_, 0, none⟩) (by simp; omega)).trans h8, Nat.le_trans h9 hs.size, h10.trans (hs.mono (by omega))⟩
  case i4 =>
    rintro pre A k o o' hk hl ho ⟨ds, v, h1, h2, h3, h4, h5, h6, h7, h8, h9, h10⟩
    have hs : Below w1.heap.size A (A.putObj k o') := below_put hk
    exact ⟨ds, v, h1, (hs.cell (p := ⟨_, 0, none⟩) (by simp; omega)).trans h2, ownsRow_putObj h3 o' hl ho, (hs.cell (p := ⟨_, 0, none⟩) (by simp; omega)).trans h4, (hs.cell (p := ⟨_, 0, none⟩) (by simp; omega)).trans h5, (hs.frozen (p := ⟨_, 0, none⟩) (by simp; omega)).trans h6, (hs.frozen (p := ⟨_, 0, none⟩) (by simp; omega)).trans h7, (hs.frozen (p := ⟨_, 0, none⟩) (by simp; omega)).trans h8, by simpa using h9, h10.trans (hs.mono (by omega))⟩
  case i5 =>
    rintro c pre A k o o' hk hl ho ⟨h1, h4, h5, h9, h10⟩
    have hs : Below w1.heap.size A (A.putObj k o') := below_put hk
    exact ⟨h1, (hs.cell (p := ⟨_, 0, none⟩) (by simp; omega)).trans h4, (hs.cell (p := ⟨_, 0, none⟩) (by simp; omega)).trans h5, by simpa using h9, h10.trans (hs.mono (by omega))⟩
  case assign =>
    intro l x W K hK
    gi_wp2
    exact hK
  case body =>
    rintro l pre x W ⟨ds, v, h1, h2, h3, h4, h5, h6, h7, h8, h9, h10⟩ hask hlt
    have hx := hask.subset (show x ∈ pre ++ [x] by simp)
    have fx := hfit x hx
    have T := Lib.hid fun W => trim_any x (by have := lns_fit hx; unfold maxLen; omega) W
    have pl : pre.length < 1048577 := by
      have := hask.length_le
      simp at this
      omega
    have em : (pre ++ [x]).map trimB = pre.map trimB ++ [trimB x] := by rw [List.map_append]; rfl
    have dl := rdM_len h1
    rw [List.length_map] at dl
    have C := fun h W hP ht => iReadEdit_no (trimB x) fx h W hP ht
    have D := fun k nm hh a b h W hP ht => iReadEdit_yes (trimB x) fx k nm hh a b h W hP ht
    have TW := Lib.hid (tx_below T0.out h10)
    have PW := Lib.hid (P0.out.kept (Below.refl _ _) h10 (Nat.le_refl _))
    have HH := Lib.hid h1
    have OO := Lib.hid h3
    have BB := Lib.hid h10
    have EM := Lib.hid em
    clear hq hask hfit hx em h1 h3 h10
    generalize trimB x = y at *
    cases hr : reI y with
    | none =>
      replace C := Lib.hid (C hr)
      clear D
      have EQ := Lib.hid (show rdM reI (List.map trimB (pre ++ [x])) = none by rw [EM.out]; exact rdM_bad hr [])
      gi_wp2_with (first
        | (refine ⟨trivial, rfl, ?_⟩; gi_at_call 20; refine (CallsIn.inRound l (callsIn_wide.2 (T.out _))).mono ?_; rintro e w2 ⟨rfl, rfl⟩)
        | (refine ⟨trivial, rfl, ?_⟩; gi_at_call 26; refine (CallsIn.inRound l (callsIn_wide.2 (C.out _ PW.out TW.out))).mono ?_; rintro e w3 ⟨ek, es, eh, ea, eb, rfl, hB⟩; have hB3 := below_new hB (.cells #[.int .i8 ek, .string es, .int .i16 eh, .int .u64 ea, .int .u64 eb] 53); have B3 := Lib.hid hB3; have k0 := (hB3.cell (p := ⟨w.heap.size, 0, none⟩) (by simp; omega)).trans h4; have k1 := (hB3.cell (p := ⟨w.heap.size + 1, 0, none⟩) (by simp; omega)).trans h5; have z0 := (hB3.frozen (p := ⟨w.heap.size, 0, none⟩) (by simp; omega)).trans h6; have z1 := (hB3.frozen (p := ⟨w.heap.size + 1, 0, none⟩) (by simp; omega)).trans h7; clear hB hB3))
      generalize w3.alloc (.cells #[.int .i8 ek, .string es, .int .i16 eh, .int .u64 ea, .int .u64 eb] 53) = w4 at *
      have s4 := B3.out.size
      refine ⟨((Kept.of B3.out hlt).trans (Kept.set w4 0 _ (by omega))).trans (Kept.set _ 0 _ (by omega)), ⟨rfl, EQ.out⟩, ?_, ?_, by simp [World.setCell]; omega, ((BB.out.trans (B3.out.mono BB.out.size)).setCell (p := ⟨w.heap.size, 0, none⟩) (Nat.le_refl _) _).setCell (p := ⟨w.heap.size + 1, 0, none⟩) (by simp) _⟩
      · rw [World.cell?_setCell_other (h := by simp)]
        exact World.cell?_setCell_same' _ _ _ (by rw [k0]; rfl)
      · exact World.cell?_setCell_same' _ _ _ (by rw [World.cell?_setCell_other (h := by simp), k1]; rfl)
    | some c =>
      obtain ⟨k, nm, hh, a, b⟩ := c
      replace D := Lib.hid (D k nm hh a b hr)
      clear C
      have EQ := Lib.hid (show rdM reI (List.map trimB (pre ++ [x])) = some (ds ++ [Ed.mk k nm hh a b]) by rw [EM.out]; exact rdM_snoc HH.out hr)
      gi_wp2_with (first
        | (refine ⟨trivial, rfl, ?_⟩; gi_at_call 20; refine (CallsIn.inRound l (callsIn_wide.2 (T.out _))).mono ?_; rintro e w2 ⟨rfl, rfl⟩)
        | (refine ⟨trivial, rfl, ?_⟩; gi_at_call 26; refine (CallsIn.inRound l (callsIn_wide.2 (D.out _ PW.out TW.out))).mono ?_; rintro e w3 ⟨rfl, hB⟩; go_loud (have O3 := Lib.hid (World.ownsRow.alloc (ownEdits_kept OO.out hB) (.cells #[.int .i8 k, .string nm, .int .i16 hh, .int .u64 a, .int .u64 b] 53))); go_loud (have B3 := Lib.hid hB); go_loud (have k2 := (hB.cell (p := ⟨w.heap.size + 1 + 1, 0, none⟩) (by first | (simp; done) | (simp; omega))).trans h2); go_loud (have z2 := (hB.frozen (p := ⟨w.heap.size + 1 + 1, 0, none⟩) (by first | (simp; done) | (simp; omega))).trans h8); go_loud (have s3 := hB.size); go_loud (have y2 : w.heap.size + 1 + 1 < w3.heap.size := by omega); clear hB)
        | (gi_at_builtin; go_loud (refine wpListIn_append_own _ rfl _ _ 28 rfl (w1.heap.size + 2) 53 i0 (.agg #[.int .i8 0, .string ByteArray.empty, .int .i16 0, .int .u64 0, .int .u64 0]) 5 48 Tryz.underlying28 hi hz0 hz1 hz2 rfl (by decide) _ _ _ rfl (World.ownsRow.alloc O3.out _) ⟨w3.heap.size + 1, 0, none⟩ 1 1 [.int .i8 k, .string nm, .int .i16 hh, .int .u64 a, .int .u64 b] rfl rfl (new5N _ _ (by simp) _ _ _ _ _ _) (fun x hx => by simp at hx; rcases hx with rfl | rfl | rfl | rfl | rfl <;> rfl) (by unfold maxLen; omega) (by omega) (by first | (simp; done) | (simp; omega)) ?_; intro v' w5 hown hgrow _; have P0 := ownEdits_push hown; obtain ⟨av, cv, rfl, _⟩ := ownEdits_in P0; have P := Lib.hid P0; clear P0; have G := Lib.hid (Below.grown (((Below.mono B3.out (show w1.heap.size + 2 ≤ _ by omega)).alloc (by omega) (.cells #[.int .i8 k, .string nm, .int .i16 hh, .int .u64 a, .int .u64 b] 53)).alloc (by first | (simp; done) | (simp; omega)) (.cells #[.int .i8 k, .string nm, .int .i16 hh, .int .u64 a, .int .u64 b] 53)) hgrow (by first | (simp; done) | (simp; omega)) (fun j hj => (World.ownsRow.lt OO.out j hj).1)); have k5 := (G.out.cell (p := ⟨w.heap.size + 1 + 1, 0, none⟩) (by first | (simp; done) | (simp; omega))).trans h2; have z5 := (G.out.frozen (p := ⟨w.heap.size + 1 + 1, 0, none⟩) (by first | (simp; done) | (simp; omega))).trans h8; clear hown hgrow)))
      have hL : (ds ++ [Ed.mk k nm hh a b]).length = pre.length + 1 := by simp [dl]
      have PP : OwnEdits (w1.heap.size + 2) (ds ++ [Ed.mk k nm hh a b]) (.slice av (pre.length + 1) cv) w5 := hL ▸ P.out
      have bk : ∀ k, k < w1.heap.size + 2 → k ≠ w.heap.size + 1 + 1 → (w5.setCell ⟨w.heap.size + 1 + 1, 0, none⟩ (.slice av (pre.length + 1) cv)).heap[k]? = w2.heap[k]? := fun k hk hne => (Below.heap_setCell _ _ _ _ (by simp; omega)).trans (G.out.block k hk)
      have gs := G.out.size
      refine ⟨⟨bk _ (by omega) (by omega), bk _ (by omega) (by omega)⟩, ⟨by simp [World.setCell]; omega, bk _ (by omega) (by omega)⟩, _, _, EQ.out, World.cell?_setCell_same' _ _ _ (by rw [k5]; rfl), ownsRow_setCell_below PP (by simp; omega) _, (cell_same (bk _ (by omega) (by omega))).trans h4, (cell_same (bk _ (by omega) (by omega))).trans h5, (frozen_same (bk _ (by omega) (by omega))).trans h6, (frozen_same (bk _ (by omega) (by omega))).trans h7, by rw [World.frozen?_setCell]; exact z5, by simp [World.setCell]; omega, (BB.out.trans (G.out.mono (by omega))).setCell (p := ⟨w.heap.size + 1 + 1, 0, none⟩) (by simp; omega) _⟩
  case done =>
    rintro xs W rfl ⟨ds, v, h1, h2, h3, h4, h5, h6, h7, h8, h9, h10⟩ hK
    obtain ⟨ad, c, rfl, hC⟩ := ownEdits_in h3
    have hC := editsIn_of hC (rdM_fits h1)
    have X := Lib.hid fun W h ht => iEtText_any ad ds c W h (by have h2 := rdM_len h1; have h3 := lns_len s; rw [List.length_map] at h2; omega) ht
    have er : rxI s = if etT ds = s then some ds else none := by
      unfold rxI tl
      rw [h1]
    have HC := Lib.hid hC
    have TW := Lib.hid (tx_below T0.out h10)
    have OO := Lib.hid h3
    have BB := Lib.hid h10
    have lt1 : w1.heap.size < W.heap.size := (Array.getElem?_eq_some_iff.1 hK).1
    clear hq hfit hC h3 h10 h1
    generalize hT0 : etT ds = T at *
    by_cases hT : T = s
    · subst hT
      rw [if_pos rfl] at er
      have n1 : (T.toList == T.toList) = true := by simp
      have EQ := Lib.hid er
      clear er hT0
      go_wp2_with ((go_at_call 27; refine (X.out _ HC.out TW.out).mono ?_; rintro e w4 ⟨rfl, hB⟩; have BL := Lib.hid hB; have k2 := (BL.out.cell (p := ⟨w.heap.size + 1 + 1, 0, none⟩) (by first | (simp; done) | (simp; omega))).trans h2; have s4 := BL.out.size; have y2 : w.heap.size + 1 + 1 < w4.heap.size := (by omega); have k0 := (BL.out.cell (p := ⟨w.heap.size, 0, none⟩) (by first | (simp; done) | (simp; omega))).trans h4; have k1 := (BL.out.cell (p := ⟨w.heap.size + 1, 0, none⟩) (by first | (simp; done) | (simp; omega))).trans h5; have z0 := (BL.out.frozen (p := ⟨w.heap.size, 0, none⟩) (by first | (simp; done) | (simp; omega))).trans h6; have z1 := (BL.out.frozen (p := ⟨w.heap.size + 1, 0, none⟩) (by first | (simp; done) | (simp; omega))).trans h7; clear hB))
      have c5 : ((w4.setCell ⟨w.heap.size, 0, none⟩ (.slice ad ds.length c)).setCell ⟨w.heap.size + 1, 0, none⟩ (.int .i64 0)).cell? ⟨w.heap.size, 0, none⟩ = some (.slice ad ds.length c) := by
        rw [World.cell?_setCell_other (h := by simp)]
        exact World.cell?_setCell_same' _ _ _ (by rw [k0]; rfl)
      have c6 : ((w4.setCell ⟨w.heap.size, 0, none⟩ (.slice ad ds.length c)).setCell ⟨w.heap.size + 1, 0, none⟩ (.int .i64 0)).cell? ⟨w.heap.size + 1, 0, none⟩ = some (.int .i64 0) := World.cell?_setCell_same' _ _ _ (by rw [World.cell?_setCell_other (h := by simp), k1]; rfl)
      have k9 : ((w4.setCell ⟨w.heap.size, 0, none⟩ (.slice ad ds.length c)).setCell ⟨w.heap.size + 1, 0, none⟩ (.int .i64 0)).heap[w.heap.size + 4]? = some (.deferred (some [])) := (Below.heap_setCell _ _ _ _ (by simp)).trans ((Below.heap_setCell _ _ _ _ (by simp)).trans ((BL.out.block _ (by omega)).trans (sz1 ▸ hK)))
      have BF : Below w.heap.size w ((w4.setCell ⟨w.heap.size, 0, none⟩ (.slice ad ds.length c)).setCell ⟨w.heap.size + 1, 0, none⟩ (.int .i64 0)) := ((BB.out.trans (BL.out.mono BB.out.size)).setCell (p := ⟨w.heap.size, 0, none⟩) (Nat.le_refl _) _).setCell (p := ⟨w.heap.size + 1, 0, none⟩) (by simp) _
      have OF : OwnEdits (w1.heap.size + 2) ds (.slice ad ds.length c) ((w4.setCell ⟨w.heap.size, 0, none⟩ (.slice ad ds.length c)).setCell ⟨w.heap.size + 1, 0, none⟩ (.int .i64 0)) := ownsRow_setCell_below (ownsRow_setCell_below (ownEdits_kept OO.out BL.out) (by simp; omega) _) (by simp; omega) _
      generalize (w4.setCell ⟨w.heap.size, 0, none⟩ (.slice ad ds.length c)).setCell ⟨w.heap.size + 1, 0, none⟩ (.int .i64 0) = w9 at *
      refine ⟨by simp, .inl ⟨_, _, rfl, run_takeDeferred k9, ?_⟩⟩
      have c7 := (cell_same (o := 0) (World.putObj_heap_other (w := w9) (o := .deferred none) (show w.heap.size ≠ w.heap.size + 4 by omega))).trans c5
      have c8 := (cell_same (o := 0) (World.putObj_heap_other (w := w9) (o := .deferred none) (show w.heap.size + 1 ≠ w.heap.size + 4 by omega))).trans c6
      refine ⟨.tuple #[(.slice ad ds.length c), .int .i64 0], ?_, (.slice ad ds.length c), by rw [EQ.out]; rfl, ?_, BF.trans (below_put (by omega))⟩
      · simp [results, Tryz.results11, go_sem, c7, c8]
      · rw [EQ.out]; exact ownEdits_weaken (ownsRow_putObj OF _ k9 rfl) (by omega)
    · rw [if_neg hT] at er
      have n1 := str_neX hT
      have EQ := Lib.hid er
      clear er hT0
      go_wp2_with ((go_at_call 27; refine (X.out _ HC.out TW.out).mono ?_; rintro e w4 ⟨rfl, hB⟩; have BL := Lib.hid hB; have k0 := (BL.out.cell (p := ⟨w.heap.size, 0, none⟩) (by first | (simp; done) | (simp; omega))).trans h4; have k1 := (BL.out.cell (p := ⟨w.heap.size + 1, 0, none⟩) (by first | (simp; done) | (simp; omega))).trans h5; have z0 := (BL.out.frozen (p := ⟨w.heap.size, 0, none⟩) (by first | (simp; done) | (simp; omega))).trans h6; have z1 := (BL.out.frozen (p := ⟨w.heap.size + 1, 0, none⟩) (by first | (simp; done) | (simp; omega))).trans h7; clear hB))
      have c5 : ((w4.setCell ⟨w.heap.size, 0, none⟩ (.slice none 0 0)).setCell ⟨w.heap.size + 1, 0, none⟩ (.int .i64 5)).cell? ⟨w.heap.size, 0, none⟩ = some (.slice none 0 0) := by
        rw [World.cell?_setCell_other (h := by simp)]
        exact World.cell?_setCell_same' _ _ _ (by rw [k0]; rfl)
      have c6 : ((w4.setCell ⟨w.heap.size, 0, none⟩ (.slice none 0 0)).setCell ⟨w.heap.size + 1, 0, none⟩ (.int .i64 5)).cell? ⟨w.heap.size + 1, 0, none⟩ = some (.int .i64 5) := World.cell?_setCell_same' _ _ _ (by rw [World.cell?_setCell_other (h := by simp), k1]; rfl)
      have k9 : ((w4.setCell ⟨w.heap.size, 0, none⟩ (.slice none 0 0)).setCell ⟨w.heap.size + 1, 0, none⟩ (.int .i64 5)).heap[w.heap.size + 4]? = some (.deferred (some [])) := (Below.heap_setCell _ _ _ _ (by simp)).trans ((Below.heap_setCell _ _ _ _ (by simp)).trans ((BL.out.block _ (by omega)).trans (sz1 ▸ hK)))
      have BF : Below w.heap.size w ((w4.setCell ⟨w.heap.size, 0, none⟩ (.slice none 0 0)).setCell ⟨w.heap.size + 1, 0, none⟩ (.int .i64 5)) := ((BB.out.trans (BL.out.mono BB.out.size)).setCell (p := ⟨w.heap.size, 0, none⟩) (Nat.le_refl _) _).setCell (p := ⟨w.heap.size + 1, 0, none⟩) (by simp) _
      generalize (w4.setCell ⟨w.heap.size, 0, none⟩ (.slice none 0 0)).setCell ⟨w.heap.size + 1, 0, none⟩ (.int .i64 5) = w9 at *
      refine ⟨by simp, .inl ⟨_, _, rfl, run_takeDeferred k9, ?_⟩⟩
      have c7 := (cell_same (o := 0) (World.putObj_heap_other (w := w9) (o := .deferred none) (show w.heap.size ≠ w.heap.size + 4 by omega))).trans c5
      have c8 := (cell_same (o := 0) (World.putObj_heap_other (w := w9) (o := .deferred none) (show w.heap.size + 1 ≠ w.heap.size + 4 by omega))).trans c6
      refine ⟨.tuple #[(.slice none 0 0), .int .i64 5], ?_, (.slice none 0 0), by rw [EQ.out]; rfl, ?_, BF.trans (below_put (by omega))⟩
      · simp [results, Tryz.results11, go_sem, c7, c8]
      · rw [EQ.out]; exact ownEdits_nil _ _
  case stop =>
    rintro c pre W hpre ⟨⟨rfl, h1⟩, h4, h5, h9, h10⟩ hK
    go_wp2
    refine ⟨by simp, .inl ⟨_, _, rfl, run_takeDeferred hK, ?_⟩⟩
    have c5 : (W.putObj w1.heap.size (.deferred none)).cell? ⟨w.heap.size, 0, none⟩ = some (.slice none 0 0) := (cell_same (World.putObj_heap_other (by omega))).trans h4
    have c6 : (W.putObj w1.heap.size (.deferred none)).cell? ⟨w.heap.size + 1, 0, none⟩ = some (.int .i64 5) := (cell_same (World.putObj_heap_other (by omega))).trans h5
    refine ⟨.tuple #[.slice none 0 0, .int .i64 5], ?_, .slice none 0 0, ?_, ?_, h10.trans (below_put (by omega))⟩
    · simp [results, Tryz.results11, go_sem, c5, c6]
    · rw [rxI_prefix hpre h1]; rfl
    · rw [rxI_prefix hpre h1]; exact ownEdits_nil _ _
end Go.Proofs.YtpkpjkceiikakaaGreatDoor

namespace Go.Proofs.YtpkpjkceiikakaaGreatDoor
open Go.ChangeShapes Go.WideShapes Go.ChangeAt Go.RowKit

def nuV (o : Option Nat) : Value := match o with
  | some n => .tuple #[.int .i64 (n : Int), .bool true]
  | none => .tuple #[.int .i64 0, .bool false]
/-- The first i digits spell n. -/
structure NuAt (s : ByteArray) (n i : Nat) : Prop where
  le : i ≤ s.size
  lt : n < 10 ^ i
  eq : digs 0 s.data.toList = digs n (s.data.toList.drop i)
theorem nuAt_start (s : ByteArray) : NuAt s 0 0 := ⟨Nat.zero_le _, by simp, rfl⟩
theorem nuAt_next {s : ByteArray} {n i : Nat} (h : NuAt s n i) (hi : i < s.size) (h1 : 48 ≤ s[i].toNat) (h2 : s[i].toNat ≤ 57) : NuAt s (10 * n + (s[i].toNat - 48)) (i + 1) := by
  refine ⟨hi, ?_, ?_⟩
  · have := h.lt
    rw [Nat.pow_succ]
    omega
  · rw [h.eq, drop_byte s i hi, digs, if_pos ⟨h1, h2⟩]
theorem nuAt_bad {s : ByteArray} {n i : Nat} (h : NuAt s n i) (hi : i < s.size) (h1 : ¬ (48 ≤ s[i].toNat ∧ s[i].toNat ≤ 57)) : numL s.data.toList = none := by
  unfold numL
  split
  · rfl
  · rw [h.eq, drop_byte s i hi, digs, if_neg h1]
theorem nuAt_end {s : ByteArray} {n : Nat} (h : NuAt s n s.size) (hc : ¬ (s.data.toList = [] ∨ 10 < s.data.toList.length ∨ (s.data.toList.head? = some 48 ∧ 1 < s.data.toList.length))) : numL s.data.toList = some n := by
  unfold numL
  rw [if_neg hc, h.eq, List.drop_eq_nil_of_le (by simp), digs]
theorem len_data (s : ByteArray) : s.data.toList.length = s.size := Array.length_toList
theorem head_data {s : ByteArray} (h : 0 < s.size) : s.data.toList.head? = some s[0] := by
  have := drop_byte s 0 h
  rw [List.drop_zero] at this
  rw [this]; rfl
theorem num_cond {s : ByteArray} (h0 : 0 < s.size) (h1 : s.size ≤ 10) (h2 : ¬ (s[0].toNat = 48 ∧ 1 < s.size)) : ¬ (s.data.toList = [] ∨ 10 < s.data.toList.length ∨ (s.data.toList.head? = some 48 ∧ 1 < s.data.toList.length)) := by
  rintro (h | h | ⟨h, h3⟩)
  · have := len_data s
    rw [h] at this
    simp at this
    omega
  · rw [len_data] at h; omega
  · rw [head_data h0] at h
    rw [len_data] at h3
    exact h2 ⟨by rw [Option.some.inj h]; rfl, h3⟩
theorem num_no {s : ByteArray} (h : s.size = 0 ∨ 10 < s.size ∨ (∃ h : 0 < s.size, s[0].toNat = 48 ∧ 1 < s.size)) : numL s.data.toList = none := by
  unfold numL
  rw [if_pos]
  rcases h with h | h | ⟨h0, h, h3⟩
  · exact .inl (List.length_eq_zero_iff.1 (by rw [len_data]; exact h))
  · exact .inr (.inl (by rw [len_data]; exact h))
  · refine .inr (.inr ⟨?_, by rw [len_data]; exact h3⟩)
    rw [head_data h0]
    congr 1
    exact UInt8.toNat_inj.1 h
theorem ret_nu {o : Option Nat} {v : Value} (h : nuV o = v) : Ending.returned v = .returned (nuV o) := by rw [h]
theorem empty_yes {s : ByteArray} (h : s.size = 0) : s.toList.isEmpty = true := by
  rw [Lib.toList_data, List.isEmpty_iff]
  exact List.length_eq_zero_iff.1 (by rw [len_data]; exact h)
theorem empty_no {s : ByteArray} (h : 0 < s.size) : s.toList.isEmpty = false := by
  rw [Lib.toList_data]
  cases q : s.data.toList with
  | nil => have := len_data s; rw [q] at this; simp at this; omega
  | cons => rfl

set_option maxRecDepth 100000 in
set_option maxHeartbeats 1600000 in
theorem sNum_any (s : ByteArray) (hs : s.size ≤ 1048576) (w : World) :
    Calls Tryz.prog 30 #[.string s] w fun e w' => e = .returned (nuV (numL s.data.toList)) ∧ Below w.heap.size w w' := by
  by_cases h0 : s.size = 0
  · rw [num_no (.inl h0)]
    have he := empty_yes h0
    clear h0
    go_enter Tryz.func30, Tryz.ntmps30
    go_wp2
    go_returns
    exact ⟨rfl, (by repeat' (first | (with_reducible exact Below.refl _ _) | (with_reducible assumption) | (with_reducible refine below_drewN ?_ _) | (with_reducible refine Below.drew ?_) | (with_reducible refine below_new ?_ _) | (with_reducible refine below_next ?_ (by with_reducible assumption)) | (with_reducible refine Below.setCell ?_ ?_ _) | go_size))⟩
  · have he := empty_no (s := s) (by omega)
    by_cases h1 : 10 < s.size
    · rw [num_no (.inr (.inl h1))]
      have d1 : decide ((10 : Int) < (s.size : Int)) = true := by simp; omega
      go_enter Tryz.func30, Tryz.ntmps30
      go_wp2
      go_returns
      exact ⟨rfl, (by repeat' (first | (with_reducible exact Below.refl _ _) | (with_reducible assumption) | (with_reducible refine below_drewN ?_ _) | (with_reducible refine Below.drew ?_) | (with_reducible refine below_new ?_ _) | (with_reducible refine below_next ?_ (by with_reducible assumption)) | (with_reducible refine Below.setCell ?_ ?_ _) | go_size))⟩
    · have d1 : decide ((10 : Int) < (s.size : Int)) = false := by simp; omega
      have hl : 0 < s.size := by omega
      by_cases h2 : s[0].toNat = 48 ∧ 1 < s.size
      · rw [num_no (.inr (.inr ⟨hl, h2⟩))]
        obtain ⟨h2, h3⟩ := h2
        have d2 : ((s[0].toNat : Int) == 48) = true := by rw [h2]; rfl
        have d3 : decide ((1 : Int) < (s.size : Int)) = true := by simp; omega
        go_enter Tryz.func30, Tryz.ntmps30
        go_wp2
        go_returns
        exact ⟨rfl, (by repeat' (first | (with_reducible exact Below.refl _ _) | (with_reducible assumption) | (with_reducible refine below_drewN ?_ _) | (with_reducible refine Below.drew ?_) | (with_reducible refine below_new ?_ _) | (with_reducible refine below_next ?_ (by with_reducible assumption)) | (with_reducible refine Below.setCell ?_ ?_ _) | go_size))⟩
      · have HC := Lib.hid (num_cond hl (by omega) h2)
        have key : ((s[0].toNat : Int) == 48) = false ∨ (((s[0].toNat : Int) == 48) = true ∧ decide ((1 : Int) < (s.size : Int)) = false) := by
          by_cases e : s[0].toNat = 48
          · exact .inr ⟨by rw [e]; rfl, by simp; omega⟩
          · exact .inl (by rw [beq_eq_false_iff_ne]; omega)
        clear h2
        rcases key with d2 | ⟨d2, d3⟩
        all_goals
          have DD := Lib.hid d2
          go_enter Tryz.func30, Tryz.ntmps30
          go_wp2
          go_loop [4, 5] (fun v i => ∃ (n k : Nat), NuAt s n k ∧ i = .int .i64 (k : Int) ∧ v = .int .i64 (n : Int)) (fun _ i => s.size - (intOf i).toNat)
          case atStart => exact ⟨0, 0, nuAt_start s, rfl, rfl⟩
          case round =>
            obtain ⟨n, k, hN, rfl, rfl⟩ := hrel
            have hk := hN.le
            have hn := hN.lt
            have NN := Lib.hid hN
            clear hN
            by_cases hlt : k < s.size
            · have dl : decide ((k : Int) < (s.size : Int)) = true := by simpa using hlt
              by_cases c1 : s[k].toNat < 48
              · have f := Lib.hid (nuAt_bad NN.out hlt (by omega))
                have t1 : decide ((s[k].toNat : Int) < 48) = true := by simp; omega
                clear d2
                go_wp2
                go_returns
                exact ⟨ret_nu (by rw [f.out]; rfl), (by repeat' (first | (with_reducible exact Below.refl _ _) | (with_reducible assumption) | (with_reducible refine below_drewN ?_ _) | (with_reducible refine Below.drew ?_) | (with_reducible refine below_new ?_ _) | (with_reducible refine below_next ?_ (by with_reducible assumption)) | (with_reducible refine Below.setCell ?_ ?_ _) | go_size))⟩
              · by_cases c2 : 57 < s[k].toNat
                · have f := Lib.hid (nuAt_bad NN.out hlt (by omega))
                  have t1 : decide ((s[k].toNat : Int) < 48) = false := by simp; omega
                  have t2 : decide ((57 : Int) < (s[k].toNat : Int)) = true := by simp; omega
                  clear d2
                  go_wp2
                  go_returns
                  exact ⟨ret_nu (by rw [f.out]; rfl), (by repeat' (first | (with_reducible exact Below.refl _ _) | (with_reducible assumption) | (with_reducible refine below_drewN ?_ _) | (with_reducible refine Below.drew ?_) | (with_reducible refine below_new ?_ _) | (with_reducible refine below_next ?_ (by with_reducible assumption)) | (with_reducible refine Below.setCell ?_ ?_ _) | go_size))⟩
                · have f := Lib.hid (nuAt_next NN.out hlt (by omega) (by omega))
                  have t1 : decide ((s[k].toNat : Int) < 48) = false := by simp; omega
                  have t2 : decide ((57 : Int) < (s[k].toNat : Int)) = false := by simp; omega
                  have hp : (10 : Nat) ^ k ≤ 10 ^ 9 := Nat.pow_le_pow_right (by omega) (by omega)
                  have w1 : IntKind.u8.wrap ((s[k].toNat : Int) - 48) = ((s[k].toNat - 48 : Nat) : Int) := by rw [show (s[k].toNat : Int) - 48 = ((s[k].toNat - 48 : Nat) : Int) from by omega]; exact IntWalk.u8_in _ ⟨by omega, by omega⟩
                  have w2 : IntKind.i64.wrap ((s[k].toNat - 48 : Nat) : Int) = ((s[k].toNat - 48 : Nat) : Int) := IntWalk.i64_in _ (by omega)
                  have w3 : IntKind.i64.wrap (10 * (n : Int)) = 10 * (n : Int) := IntWalk.i64_in _ (by omega)
                  have w4 : IntKind.i64.wrap (10 * (n : Int) + ((s[k].toNat - 48 : Nat) : Int)) = ((10 * n + (s[k].toNat - 48) : Nat) : Int) := by rw [show 10 * (n : Int) + ((s[k].toNat - 48 : Nat) : Int) = ((10 * n + (s[k].toNat - 48) : Nat) : Int) from by omega]; exact IntWalk.i64_in _ (by omega)
                  clear d2 hp hn c1 c2
                  go_wp2
                  go_round
                  case rel => exact ⟨_, k + 1, f.out, by go_num, rfl⟩
                  case measure => simp [intOf]; omega
            · obtain rfl : k = s.size := by omega
              have dl : decide ((s.size : Int) < (s.size : Int)) = false := by simp
              have f := Lib.hid (nuAt_end NN.out HC.out)
              clear d2
              go_wp2
              go_returns
              exact ⟨ret_nu (by rw [f.out]; rfl), (by repeat' (first | (with_reducible exact Below.refl _ _) | (with_reducible assumption) | (with_reducible refine below_drewN ?_ _) | (with_reducible refine Below.drew ?_) | (with_reducible refine below_new ?_ _) | (with_reducible refine below_next ?_ (by with_reducible assumption)) | (with_reducible refine Below.setCell ?_ ?_ _) | go_size))⟩
theorem sNum_ok (s : ByteArray) (hs : s.size ≤ 1048576) (n : Nat) (h : numL s.data.toList = some n) (w : World) :
    Calls Tryz.prog 30 #[.string s] w fun e w' => e = .returned (.tuple #[.int .i64 (n : Int), .bool true]) ∧ Below w.heap.size w w' := by
  have c := sNum_any s hs w
  rw [h] at c
  exact c
theorem sNum_no (s : ByteArray) (hs : s.size ≤ 1048576) (h : numL s.data.toList = none) (w : World) :
    Calls Tryz.prog 30 #[.string s] w fun e w' => e = .returned (.tuple #[.int .i64 0, .bool false]) ∧ Below w.heap.size w w' := by
  have c := sNum_any s hs w
  rw [h] at c
  exact c
end Go.Proofs.YtpkpjkceiikakaaGreatDoor

namespace Go.Proofs.YtpkpjkceiikakaaGreatDoor
open Go.ChangeShapes Go.WideShapes Go.ChangeAt Go.RowKit

/-- The slice's texts are these, in a row of the call's own from block B on. -/
def OwnStrs (B : Nat) (ps : List ByteArray) (v : Value) (w : World) : Prop := w.ownsRow B 9 1 v ps.length (ps.map Value.string)
theorem ownStrs_in {B : Nat} {ps : List ByteArray} {v : Value} {w : World} (h : OwnStrs B ps v w) : ∃ a c, v = .slice a ps.length c ∧ StrsIn w a ps := by
  have h0 := h
  obtain ⟨_, h2⟩ := h
  rcases h2 with ⟨rfl, hn⟩ | ⟨g, cap, cur, rfl, hb, hg, _⟩
  · exact ⟨none, 0, by rw [hn], fun i hi => by omega⟩
  · refine ⟨_, cap, rfl, fun i hi => ⟨g, 0, rfl, (Array.getElem?_eq_some_iff.1 hg).1, ?_⟩⟩
    have := World.ownsRow.cellAt h0 i (by omega)
    rw [Nat.zero_add, this, List.getElem?_map, List.getElem?_eq_getElem hi]
    simp [List.getD, hi]
theorem ownStrs_kept {B : Nat} {ps : List ByteArray} {v : Value} {w w' : World} (h : OwnStrs B ps v w) (hb : Below w.heap.size w w') : OwnStrs B ps v w' := by
  obtain ⟨h1, h2⟩ := h
  refine ⟨h1, ?_⟩
  rcases h2 with hn | ⟨g, cap, cur, rfl, hB, hg, rest⟩
  · exact .inl hn
  · exact .inr ⟨g, cap, cur, rfl, hB, (hb.block g (Array.getElem?_eq_some_iff.1 hg).1).trans hg, rest⟩
theorem ownStrs_none {w : World} {n B : Nat} (hn : n = w.heap.size) (hB : B ≤ w.heap.size) : OwnStrs B [] (.slice (some ⟨n, 0, none⟩) 0 0) (w.alloc (.cells #[] 9)) := by
  subst hn; exact World.ownsRow_made w #[] 0 hB (Nat.zero_le _) rfl
theorem ownStrs_push {B : Nat} {ps : List ByteArray} {x : ByteArray} {v : Value} {w : World} (h : w.ownsRow B 9 1 v (ps.length + 1) (ps.map Value.string ++ [.string x])) : OwnStrs B (ps ++ [x]) v w := by unfold OwnStrs; simpa using h
theorem ownStrs_lt {B : Nat} {ps : List ByteArray} {v : Value} {w : World} (h : OwnStrs B ps v w) : ∀ j, v.ownBlock = some j → B ≤ j := fun j hj => (World.ownsRow.lt h j hj).1
theorem one_newS (w : World) (x : Value) (t : TypeId) : ∀ j u, [x][j]? = some u → (w.alloc (.cells #[x] t)).cell? ((⟨w.heap.size, 0, none⟩ : Addr).add j) = some u := by
  intro j u h
  cases j with
  | zero => simp at h; subst h; simp [Addr.add]
  | succ => simp at h

/-- A new slice of texts. -/
def StrsR (ps : List ByteArray) (w : World) (e : Ending) (w' : World) : Prop := ∃ v, e = .returned v ∧ OwnStrs w.heap.size ps v w' ∧ Below w.heap.size w w'

set_option maxRecDepth 100000 in
set_option maxHeartbeats 1600000 in
theorem sSplitAt_any (s : ByteArray) (c : UInt8) (hs : s.size ≤ 4000000) (w : World) :
    Calls Tryz.prog 15 #[.string s, .int .u8 c.toNat] w (StrsR (pieces c s) w) := by
  obtain ⟨i0, hi, hz0, hz1, hz2⟩ := info_parts info_str
  go_enter Tryz.func15, Tryz.ntmps15
  go_wp2
  go_loopw [5, 6, 7] (fun v b i wr => ∃ (done : List ByteArray) (k j : Nat), SplAt c s done k j ∧ i = .int .i64 j ∧ b = .int .i64 k ∧ OwnStrs w.heap.size done v wr ∧ Below w.heap.size w wr) (fun _ _ i _ => s.size - (intOf i).toNat)
  case atStart => exact ⟨[], 0, 0, splAt_start c s, rfl, rfl, ownStrs_none rfl (Nat.le_refl _), below_new (Below.refl _ _) _⟩
  case round =>
    obtain ⟨done, k, j, hS, rfl, rfl, O, hB⟩ := hrel
    have OO := Lib.hid O
    have BB := Lib.hid hB
    have SP := Lib.hid hS
    have hk := hS.le
    have hj := hS.lt
    have hn := hS.len
    have hz := hB.size
    clear O hB hS
    by_cases hjl : j < s.size
    · have hd : decide ((j : Int) < (s.size : Int)) = true := by simpa using hjl
      by_cases hc : s[j] = c
      · have hx : ((s[j].toNat : Int) == (c.toNat : Int)) = true := by rw [hc]; simp
        have N := Lib.hid (splAt_hit SP.out hjl hc)
        go_wp2_with (at_builtin; refine wpList_append_own _ rfl _ _ 33 rfl w.heap.size 9 i0 (.string ⟨#[]⟩) 1 16 Tryz.underlying33 hi hz0 hz1 hz2 rfl (by decide) _ _ _ rfl (OO.out.alloc _) ⟨wr.heap.size, 0, none⟩ 1 1 [.string (s.extract k j)] rfl rfl (one_newS _ _ _) (fun x hx => by simp at hx; subst hx; rfl) (by unfold maxLen; omega) (by omega) (by simp; omega) ?_; intro v' w2 hown hgrow _; have P := Lib.hid (ownStrs_push hown); have G := Lib.hid hgrow; clear hown hgrow)
        exact ⟨⟨_, j + 1, j + 1, N.out, by rw [Int.natCast_succ], by rw [Int.natCast_succ], P.out, Below.grown (BB.out.alloc hz _) G.out (by simp; omega) (ownStrs_lt OO.out)⟩, by (simp [intOf]) <;> omega⟩
      · have hx : ((s[j].toNat : Int) == (c.toNat : Int)) = false := by
          rw [beq_eq_false_iff_ne]
          intro h
          exact hc (UInt8.toNat_inj.1 (by exact_mod_cast h))
        have N := Lib.hid (splAt_miss SP.out hjl hc)
        go_wp2
        exact ⟨⟨_, k, j + 1, N.out, by rw [Int.natCast_succ], rfl, OO.out, BB.out⟩, by (simp [intOf]) <;> omega⟩
    · have e : j = s.size := by omega
      subst e
      have hd : decide ((s.size : Int) < (s.size : Int)) = false := by simp
      have N := Lib.hid (splAt_end SP.out)
      go_wp2_with (at_builtin; refine wpList_append_own _ rfl _ _ 33 rfl w.heap.size 9 i0 (.string ⟨#[]⟩) 1 16 Tryz.underlying33 hi hz0 hz1 hz2 rfl (by decide) _ _ _ rfl (OO.out.alloc _) ⟨wr.heap.size, 0, none⟩ 1 1 [.string (s.extract k s.size)] rfl rfl (one_newS _ _ _) (fun x hx => by simp at hx; subst hx; rfl) (by unfold maxLen; omega) (by omega) (by simp; omega) ?_; intro v' w2 hown hgrow _; have P := Lib.hid (ownStrs_push hown); have G := Lib.hid hgrow; clear hown hgrow)
      go_ret
      exact ⟨_, rfl, by rw [← N.out]; exact P.out, Below.grown (BB.out.alloc hz _) G.out (by simp; omega) (ownStrs_lt OO.out)⟩
end Go.Proofs.YtpkpjkceiikakaaGreatDoor

namespace Go.Proofs.YtpkpjkceiikakaaGreatDoor
open Go.ChangeShapes Go.WideShapes Go.ChangeAt Go.RowKit

/-- Operations that hang on no world, in the text's order; one whose guard says no is left out. -/
def wpPure (P : Program) (ops : Array Oper) (R : Act → Prop) : List Oper → Act → Prop
  | [], a => R a
  | o :: l, a => if Region.wanted o (yielded ops a.tmps) = true then ∃ v, PQ P o a v ∧ wpPure P ops R l (a.put o.dst v) else wpPure P ops R l (a.put o.dst undef)
theorem wpPure_skip {P : Program} {ops : Array Oper} {R : Act → Prop} {o : Oper} {l : List Oper} {a : Act} (h : Region.wanted o (yielded ops a.tmps) = false) (k : wpPure P ops R l (a.put o.dst undef)) : wpPure P ops R (o :: l) a := by
  unfold wpPure
  rw [if_neg (by rw [h]; decide)]
  exact k
theorem wpPure_do {P : Program} {ops : Array Oper} {R : Act → Prop} {o : Oper} {l : List Oper} {a : Act} (v : Value) (h : Region.wanted o (yielded ops a.tmps) = true) (hv : PQ P o a v) (k : wpPure P ops R l (a.put o.dst v)) : wpPure P ops R (o :: l) a := by
  unfold wpPure
  rw [if_pos h]
  exact ⟨v, hv, k⟩
theorem wpPure_nil {P : Program} {ops : Array Oper} {R : Act → Prop} {a : Act} (k : R a) : wpPure P ops R [] a := k
theorem lexW_pureW {P : Program} {ops : Array Oper} {W : World} {G : Type} {I : G → World → Prop} {early : G → Prop} {loud late pur : Nat → Bool} {Q : Act → G → Prop} {R : Act → Prop} {rest : List Oper} {g : G} : ∀ (l : List Oper) (k : Nat) (a : Act), (∀ j, j < l.length → l[j]? = ops[k + j]? ∧ pur (k + j) = true) →
    (∀ a, R a → lexW P ops W I early loud late pur Q rest (k + l.length) a g) → wpPure P ops R l a → lexW P ops W I early loud late pur Q (l ++ rest) k a g
  | [], k, a, _, h2, h => h2 a h
  | o :: l, k, a, hl, h2, h => by
    have h0 : ops[k]? = some o := by simpa using (hl 0 (by simp)).1.symm
    have hpk : pur k = true := by simpa using (hl 0 (by simp)).2
    have next : ∀ a', wpPure P ops R l a' → lexW P ops W I early loud late pur Q (l ++ rest) (k + 1) a' g := fun a' h' =>
      lexW_pureW l (k + 1) a' (fun j hj => by have := hl (j + 1) (by simp; omega); simpa [Nat.add_assoc, Nat.add_comm 1 j] using this) (fun a hR => by have := h2 a hR; simpa [Nat.add_assoc, Nat.add_comm 1 l.length] using this) h'
    unfold wpPure at h
    by_cases hw : Region.wanted o (yielded ops a.tmps) = true
    · rw [if_pos hw] at h
      obtain ⟨v, hv, hk⟩ := h
      refine fOp_of h0 (O := fun v' g' => v' = v ∧ g' = g) ?_ ?_
      · unfold Fam; rw [if_pos hw, if_pos hpk]; exact ⟨_, hv, rfl⟩
      · rintro v' g' ⟨rfl, rfl⟩
        exact next _ hk
    · rw [if_neg hw] at h
      refine fOp_of h0 (O := fun v' g' => v' = undef ∧ g' = g) ?_ ?_
      · unfold Fam; rw [if_neg hw]
      · rintro v' g' ⟨rfl, rfl⟩
        exact next _ h
/-- Every one ahead of number m is waited for by a later one ahead of m, or by number n. -/
def Region.sinksM (md : Region.Mode) (ops : Array Oper) (m n : Nat) : Bool :=
  (List.range m).all fun i => (List.range (n + 1)).any fun j => decide (i < j) && (decide (j < m) || j == n) && match ops[j]? with
    | some oj => oj.after.any fun e => Region.binds md e && e.on == i
    | none => false
theorem late_of_sinksM {md : Region.Mode} {ops : Array Oper} {m n : Nat} (hs : Region.sinksM md ops m n = true) (hmn : m ≤ n) (hn : n < ops.size) : Region.LateLast md ops (fun i => i == n) (fun i => decide (m ≤ i ∧ i ≠ n)) := by
  intro listed hcl
  have key : ∀ d i, n - i = d → i < m → listed.getD i true = false → n ∉ Region.ready md ops listed := by
    intro d
    induction d using Nat.strongRecOn with
    | _ d ih =>
      intro i hd hi hun hr
      have h1 := List.all_eq_true.1 hs i (List.mem_range.2 hi)
      obtain ⟨j, hj, hj2⟩ := List.any_eq_true.1 h1
      rw [Bool.and_eq_true, Bool.and_eq_true, decide_eq_true_eq, Bool.or_eq_true, decide_eq_true_eq, beq_iff_eq] at hj2
      obtain ⟨⟨hij, hjm⟩, hw⟩ := hj2
      cases hoj : ops[j]? with
      | none => rw [hoj] at hw; cases hw
      | some oj =>
        rw [hoj] at hw
        obtain ⟨e, he, hb⟩ := Array.any_eq_true'.1 hw
        simp only [Bool.and_eq_true, beq_iff_eq] at hb
        by_cases hjn : j = n
        · subst hjn
          obtain ⟨_, o2, ho2, hall⟩ := mem_ready.1 hr
          obtain rfl : oj = o2 := Option.some.inj (hoj.symm.trans ho2)
          have := hall e he hb.1
          rw [hb.2, off_off hun] at this
          cases this
        · have hjlt : j < m := by omega
          cases hl : listed.getD j false with
          | true =>
            have := hcl.2 j oj hoj hl e he hb.1
            rw [hb.2, off_off hun] at this
            cases this
          | false =>
            have hjs : j < listed.size := by rw [hcl.1]; omega
            exact ih (n - j) (by omega) j rfl hjlt (by simp [hjs] at hl ⊢; exact hl) hr
  intro i hun j hr hne
  by_cases hjn : j = n
  case neg => exact .inl (by simpa using hjn)
  subst hjn
  by_cases h : i < m
  · exact absurd hr (key _ i rfl h hun)
  · exact .inr (by simp only [decide_eq_true_eq]; exact ⟨by omega, fun e => hne e.symm⟩)

/-- **Number m + d stores; the d ones ahead of it hang on no world, and may come later than it.** -/
theorem wp_region_storeM {P : Program} {id : Nat} {Q : Exit → Act → World → Prop} {a : Act} {w : World} {l : List Oper} {oS : Oper} (m d : Nat)
    (hm : P.follows .mixedOrders = true) (hl : l.take m ++ ((l.drop m).take d ++ oS :: l.drop (m + d + 1)) = l) (hlm : (l.take m).length = m) (hld : ((l.drop m).take d).length = d) (hpu : (l.drop (m + d + 1)).all isPure = true)
    (hB : Region.lexBL .any l.toArray (fun i => i == m + d) = true) (hSk : Region.sinksM .any l.toArray m (m + d) = true) (hgS : oS.guard = none)
    (h : ∀ w1, Ab w w1 → wpQuiet P l.toArray (fun w' => ∃ p : Regrown, w' = bw w1 p) (wpPure P l.toArray (fun a1 => ∀ w3, Ab w w3 → Yld P (fun v w4 => Q .normal (pureRun (l.drop (m + d + 1)) (a1.put oS.dst v)) w4) w3 ((execOp a1.eval oS).run P w3)) ((l.drop m).take d)) (l.take m) a) :
    (Code.region id l.toArray true).wp P Q a w := by
  obtain ⟨ops, hops⟩ : ∃ ops, ops = l.toArray := ⟨_, rfl⟩
  obtain ⟨l1, hl1⟩ : ∃ l1, l1 = l.take m := ⟨_, rfl⟩
  obtain ⟨l2, hl2⟩ : ∃ l2, l2 = (l.drop m).take d := ⟨_, rfl⟩
  obtain ⟨l3, hl3⟩ : ∃ l3, l3 = l.drop (m + d + 1) := ⟨_, rfl⟩
  rw [← hops] at hB hSk h ⊢
  rw [← hl1, ← hl2, ← hl3] at hl h
  rw [← hl1] at hlm
  rw [← hl2] at hld
  rw [← hl3] at hpu
  have hget : ∀ j, l[j]? = ops[j]? := fun j => by rw [hops, List.getElem?_toArray]
  have hlen : ops.size = (l1 ++ (l2 ++ oS :: l3)).length := by rw [hops, List.size_toArray, hl]
  simp only [Region.lexBL, Bool.and_eq_true] at hB
  have wantS : ∀ a : Act, Region.wanted oS (yielded ops a.tmps) = true := fun a => by simp [Region.wanted, hgS]
  have gS : ops[m + d]? = some oS := by
    rw [← hget, ← hl, List.getElem?_append_right (by omega), List.getElem?_append_right (by omega), show m + d - l1.length - l2.length = 0 by omega]; rfl
  have g1 : ∀ j, j < l1.length → l1[j]? = ops[0 + j]? ∧ (fun i => i == m + d) (0 + j) = false ∧ (fun i => decide (m ≤ i ∧ i ≠ m + d)) (0 + j) = false := fun j hj => by
    refine ⟨by rw [← hget, Nat.zero_add, ← hl, List.getElem?_append_left hj], ?_, ?_⟩
    · simp only [beq_eq_false_iff_ne]; omega
    · simp only [decide_eq_false_iff_not]; omega
  have g2 : ∀ j, j < l2.length → l2[j]? = ops[m + j]? ∧ (fun i => decide (m ≤ i ∧ i ≠ m + d)) (m + j) = true := fun j hj => by
    refine ⟨?_, by simp only [decide_eq_true_eq]; omega⟩
    rw [← hget, ← hl, List.getElem?_append_right (by omega), show m + j - l1.length = j by omega, List.getElem?_append_left hj]
  have g3 : ∀ j, j < l3.length → l3[j]? = ops[m + d + 1 + j]? ∧ (fun i => decide (m ≤ i ∧ i ≠ m + d)) (m + d + 1 + j) = true := fun j hj => by
    refine ⟨?_, by simp only [decide_eq_true_eq]; omega⟩
    rw [← hget, ← hl, List.getElem?_append_right (by omega), List.getElem?_append_right (by omega), show m + d + 1 + j - l1.length - l2.length = j + 1 by omega, List.getElem?_cons_succ]
  have base : Ab w { w with drawn := w.drawn + 1 } := ⟨rfl, rfl, rfl, Nat.le_refl _, fun _ _ => rfl⟩
  refine wp_region_any hm (wpAny_of_float (G := Option (World → Prop)) (W := w) (I := fun g w' => match g with | none => Ab w w' | some R => R w') (early := fun g => g = none) (loud := fun i => i == m + d) (late := fun i => i == m + d) (pur := fun i => decide (m ≤ i ∧ i ≠ m + d))
    (Q := fun a' g => ∃ R, g = some R ∧ ∀ w', R w' → Q .normal a' w') ?_ ?_ ?_ _ _ _ none _ base ?_)
  · rintro g w' rfl h; exact h
  · rintro g w' w'' rfl h k; exact Ab.trans h k
  · rintro a' g w' hI ⟨R, rfl, hQ⟩; exact hQ w' hI
  · rw [hlen]
    refine wpAnyF_lex hB.1 (late_of_sinksM hSk (Nat.le_add_right _ _) (by rw [hlen]; simp; omega)) (l1 ++ (l2 ++ oS :: l3)) 0 _ _ _ (by rw [← hlen]; exact closed_start) (fun j => by rw [hl, hget, Nat.zero_add]) (by rw [← hlen]; exact hB.2) ?_
    refine lexW_quiet (loud := fun i => i == m + d) (early := fun g => g = none) (pur := fun i => decide (m ≤ i ∧ i ≠ m + d)) rfl l1 0 a g1 (fun a0 h0 => ?_) h
    rw [Nat.zero_add, hlm]
    refine lexW_pureW l2 m a0 g2 (fun a1 h1 => ?_) h0
    rw [hld]
    refine fOp_of (o := oS) (O := fun v g' => g' = some (fun w' => Q .normal (pureRun l3 (a1.put oS.dst v)) w')) gS ?_ ?_
    · unfold Fam
      rw [if_pos (wantS _), if_neg (by simp), if_pos (by simp)]
      refine ⟨rfl, ⟨⟨undef, _, rfl⟩, fun w' hw' => ?_⟩, fun hlate => absurd hlate (by simp)⟩
      exact Yld.mono (fun v w4 hQ => ⟨_, rfl, hQ⟩) (h1 w' hw')
    · rintro v g' rfl
      exact lexW_pure l3 (m + d + 1) _ g3 hpu ⟨_, rfl, fun w' h' => h'⟩
end Go.Proofs.YtpkpjkceiikakaaGreatDoor

namespace Go.Proofs.YtpkpjkceiikakaaGreatDoor
open Go.ChangeShapes Go.WideShapes Go.ChangeAt Go.RowKit

theorem sInC (n lo hi : Int) (w : World) : Calls Tryz.prog 64 #[.int .i64 n, .int .i64 lo, .int .i64 hi] w fun e w' => e = .returned (.bool (decide (lo ≤ n) && decide (n ≤ hi))) ∧ w = w' := by
  by_cases h : lo ≤ n
  · rw [decide_eq_true h, Bool.true_and]
    by_cases h2 : n ≤ hi
    · have d := decide_eq_true h2
      rw [d]
      go_enter Tryz.func64, Tryz.ntmps64
      go_wp2
      go_returns
      exact ⟨rfl, rfl⟩
    · have d := decide_eq_false h2
      rw [d]
      go_enter Tryz.func64, Tryz.ntmps64
      go_wp2
      go_returns
      exact ⟨rfl, rfl⟩
  · have d := decide_eq_false h
    rw [d, Bool.false_and]
    go_enter Tryz.func64, Tryz.ntmps64
    go_wp2
    go_returns
    exact ⟨rfl, rfl⟩
theorem sHoleC {n : Int} {x : Bool} (h : decide (0 ≤ n ∧ n ≤ 95) = x) (w : World) : Calls Tryz.prog 48 #[.int .i64 n] w fun e w' => e = .returned (.bool x) ∧ w = w' := by
  have hx : (decide (0 ≤ n) && decide (n ≤ 95)) = x := by rw [← h]; by_cases h0 : 0 ≤ n <;> by_cases h1 : n ≤ 95 <;> simp [h0, h1]
  have I := Lib.hid fun W => sInC n 0 95 W
  rw [hx] at I
  clear h hx
  go_enter Tryz.func48, Tryz.ntmps48
  go_wp2_with (go_at_call 64; refine (I.out _).mono ?_; rintro e w1 ⟨rfl, rfl⟩)
  go_returns
  exact ⟨rfl, rfl⟩
theorem sJoinC (a b c d : Int) (w : World) :
    Calls Tryz.prog 34 #[.agg #[.int .u64 a, .int .u64 b], .agg #[.int .u64 c, .int .u64 d]] w fun e w' => e = .returned (.agg #[.int .u64 (bits .or .u64 a c), .int .u64 (bits .or .u64 b d)]) ∧ Below w.heap.size w w' :=
  (sJoin_any a b c d w).mono fun e w' ⟨he, hw⟩ => ⟨he, by rw [← hw]; exact (by repeat' (first | (with_reducible exact Below.refl _ _) | (with_reducible assumption) | (with_reducible refine below_drewN ?_ _) | (with_reducible refine Below.drew ?_) | (with_reducible refine below_new ?_ _) | (with_reducible refine below_next ?_ (by with_reducible assumption)) | (with_reducible refine Below.setCell ?_ ?_ _) | go_size))⟩
theorem strsC_at {w : World} {a : Option Addr} {zs : List ByteArray} (h : StrsIn w a zs) (h0 : 0 < zs.length) : ∃ b off, a = some ⟨b, off, none⟩ ∧ b < w.heap.size ∧ ∀ i, i < zs.length → w.cell? ⟨b, off + i, none⟩ = some (.string (zs.getD i ⟨#[]⟩)) := by
  obtain ⟨b, off, rfl, hb, _⟩ := h 0 h0
  refine ⟨b, off, rfl, hb, fun i hi => ?_⟩
  obtain ⟨b', off', e, _, hc⟩ := h i hi
  cases e
  exact hc
theorem rc_drew {n : Nat} {w W : World} (h : Below n w W) : Below n w W.drew := Below.drew h
/-- What the model's reader of a card tells. -/
def RdR (s : ByteArray) (w : World) (e : Ending) (w' : World) : Prop := ∃ nm x y, e = .returned (.tuple #[.agg #[.string nm, .int .u64 x, .int .u64 y], .bool (rcG fS s).isSome]) ∧ (∀ v, rcG fS s = some v → v = (nm, x, y)) ∧ Below w.heap.size w w'
theorem rdR_no {s nm : ByteArray} {x y : Int} {w w' : World} (h : rcG fS s = none) (hb : Below w.heap.size w w') : RdR s w (.returned (.tuple #[.agg #[.string nm, .int .u64 x, .int .u64 y], .bool false])) w' :=
  ⟨nm, x, y, by rw [h]; rfl, fun v e => (by rw [h] at e; cases e), hb⟩
theorem rdR_yes {s nm : ByteArray} {x y : Int} {w w' : World} (h : rcG fS s = some (nm, x, y)) (hb : Below w.heap.size w w') : RdR s w (.returned (.tuple #[.agg #[.string nm, .int .u64 x, .int .u64 y], .bool true])) w' :=
  ⟨nm, x, y, by rw [h]; rfl, fun v e => (by rw [h] at e; exact (Option.some.inj e).symm), hb⟩

set_option maxRecDepth 100000 in
set_option maxHeartbeats 6400000 in
theorem sRdC_any (s : ByteArray) (hs : s.size ≤ 1048576) (w : World) :
    Calls Tryz.prog 47 #[.string s] w (RdR s w) := by
  have SP := Lib.hid fun W => sSplitAt_any s 32 (by omega) W
  have R0 := Lib.hid (block_alloc w (.cells #[.string ⟨#[]⟩, .int .u64 0, .int .u64 0] 80))
  have B0 := Lib.hid (below_new (Below.refl w.heap.size w) (.cells #[.string ⟨#[]⟩, .int .u64 0, .int .u64 0] 80))
  obtain ⟨nm, ws, hp⟩ := two_of 32 s
  have hfit := pieces_fit 32 s
  have PP := Lib.hid hp
  rw [hp] at SP hfit
  have fn : nm.size ≤ 1048576 := Nat.le_trans (hfit nm (by simp)) hs
  have FW := Lib.hid (fun i (hi : i < ws.length) => Nat.le_trans (hfit (ws.getD i ⟨#[]⟩) (by simp [List.getD, hi])) hs)
  have hlen : ws.length ≤ 1048576 := by
    have h := pieces_len 32 s
    rw [hp, List.length_cons] at h
    omega
  clear hp hfit
  obtain ⟨L, hL⟩ : ∃ L, L = (nm :: ws).length := ⟨_, rfl⟩
  have HL := Lib.hid (show L = ws.length + 1 from hL)
  have hL1 : 1 ≤ L := by have := HL.out; omega
  have hL2 : L ≤ 1048577 := by have := HL.out; omega
  have HQ := Lib.hid hL
  clear hL
  go_enter Tryz.func47, Tryz.ntmps47
  go_wp2_with (go_at_call 15; refine (SP.out _).mono ?_; rintro e w1 ⟨v, rfl, hO, hB⟩; obtain ⟨a1, k1, hv, hI⟩ := ownStrs_in hO; rw [← HQ.out] at hv; obtain ⟨bq, oq, ha1, l1, hc⟩ := strsC_at hI (by simp); subst ha1; subst hv; have R1 := Lib.hid ((hB.block _ (by simp)).trans R0.out); have B1 := Lib.hid (B0.out.trans (Below.mono hB (by simp))); have d0 := hc 0 (by simp); simp only [List.getD_cons_zero, Nat.add_zero] at d0; have DD := Lib.hid (fun k (h1 : 1 ≤ k) (h2 : k < L) => show w1.cell? ⟨bq, oq + k, none⟩ = some (.string (ws.getD (k - 1) ⟨#[]⟩)) from (by obtain ⟨j, rfl⟩ : ∃ j, k = j + 1 := ⟨k - 1, by omega⟩; exact hc (j + 1) (by rw [← HQ.out]; exact h2))); have L1 := Lib.hid l1; have y9 := lt_of_block R1.out; clear hO hB hI hc)
  have M1 := Lib.hid (block_alloc w1 (.cells #[.string nm, .int .u64 0, .int .u64 0] 80))
  have A1 := Lib.hid (ab_newC w1 (.cells #[.string nm, .int .u64 0, .int .u64 0] 80))
  have hR := lt_of_block R1.out
  clear d0 l1 y9 HQ
  go_loopw [6] (fun i wr => ∃ (k : Nat) (zs : List Int), 1 ≤ k ∧ k ≤ L ∧ rdH fS ws (k - 1) = some zs ∧ i = .int .i64 (k : Int) ∧ wr.heap[w1.heap.size]? = some (.cells #[.string nm, .int .u64 (mo b0 zs (k - 1)), .int .u64 (mo b1 zs (k - 1))] 80 (0, 0)) ∧ Below w1.heap.size w1 wr) (fun i _ => L - (intOf i).toNat)
  case atStart => exact ⟨1, [], Nat.le_refl _, hL1, rfl, rfl, M1.out, A1.out⟩
  case round =>
    obtain ⟨k, zs, hk1, hk2, hz, rfl, hM, hA⟩ := hrel
    have hzl := rdH_len _ _ hz
    have MM := Lib.hid hM
    have AA := Lib.hid hA
    have ZZ := Lib.hid hz
    have R2 := Lib.hid (hA.block _ hR |>.trans R1.out)
    have B2 := Lib.hid (B1.out.trans (Below.mono hA B1.out.size))
    have ux := mo_u64 b0 zs zs.length
    have uy := mo_u64 b1 zs zs.length
    have p0 := fun h => mo_push b0 zs h
    have p1 := fun h => mo_push b1 zs h
    rw [hzl] at ux uy p0 p1
    clear hz hM hA M1 A1
    by_cases hkl : k < L
    · have dl : decide ((k : Int) < (L : Int)) = true := by simpa using hkl
      have c1 : wr.cell? ⟨bq, oq + k, none⟩ = some (.string (ws.getD (k - 1) ⟨#[]⟩)) := (AA.out.cell (p := ⟨bq, oq + k, none⟩) L1.out).trans (DD.out k hk1 hkl)
      have l1 := Nat.lt_of_lt_of_le L1.out AA.out.size
      have hkw : k - 1 < ws.length := by have := HL.out; omega
      have fw := FW.out (k - 1) hkw
      have i1 : (0 : Int) ≤ (k : Int) := by omega
      have i2 : (k : Int) < (L : Int) := by omega
      have ek : k - 1 + 1 = k + 1 - 1 := by omega
      have EK := Lib.hid ek
      clear ek
      generalize hwj : ws.getD (k - 1) ⟨#[]⟩ = wd at *
      have er : wr.frozen? ⟨w.heap.size, 0, none⟩ = false := free_of_block R2.out 0
      have FR := free_of_block R2.out
      cases hv : numL wd.data.toList with
      | none =>
        have EQ := Lib.hid (rcG_bad PP.out (n := k - 1 + 1) hkw (rdH_bad ZZ.out (by rw [show ByteArray.empty = ⟨#[]⟩ from rfl, hwj]; exact fS_none hv)))
        go_wp2_with (go_at_call 30; refine (sNum_no wd fw hv _).mono ?_; rintro e w9 ⟨rfl, hB⟩; have R9 := Lib.hid (Ab.block hB R2.out); have M9 := Ab.block hB MM.out; have B9 := Lib.hid (B2.out.trans (Below.mono hB B2.out.size)); have r0 := cell_of_block R9.out 0; have r1 := cell_of_block R9.out 1; have r2 := cell_of_block R9.out 2; have r9 := lt_of_block R9.out; have rf := free_of_block R9.out; have y0 := cell_of_block M9 0; have y1 := cell_of_block M9 1; have y2 := cell_of_block M9 2; have y9 := lt_of_block M9; clear hB M9)
        refine bodyPost_ret (by simp [results, Tryz.results47, go_sem,  r0, r1, r2]; try rfl) rfl ?_
        exact rdR_no EQ.out (((B9.out.setCell (by simp) _).setCell (by simp) _).setCell (by simp) _)
      | some h =>
        by_cases hh : h ≤ 95
        · have f := Lib.hid (rdH_next ZZ.out (h := (h : Int)) (by rw [show ByteArray.empty = ⟨#[]⟩ from rfl, hwj]; exact fS_in hv hh))
          have H := Lib.hid (sHoleC (n := (h : Int)) (decide_eq_true ⟨by omega, by omega⟩))
          have q0 := Lib.hid (p0 (h : Int))
          have q1 := Lib.hid (p1 (h : Int))
          have O := Lib.hid fun W => sBit_any (h : Int) (by omega) (by omega) W
          generalize mo b0 zs (k - 1) = X at *
          generalize mo b1 zs (k - 1) = Y at *
          generalize b0 (h : Int) = U at *
          generalize b1 (h : Int) = V at *
          have J := Lib.hid fun W => sJoinC X Y U V W
          clear hh hzl ux uy p0 p1
          go_wp2_with (first
            | (go_at_call 30; refine (sNum_ok wd fw h hv _).mono ?_; rintro e w3 ⟨rfl, hB⟩; have A3 := Lib.hid (AA.out.trans (Below.mono hB AA.out.size)); have M3 := Lib.hid (Ab.block hB MM.out); clear hB c1 l1)
            | (go_at_call 48; refine (H.out _).mono ?_; rintro e w4 ⟨rfl, rfl⟩))
          refine wp_region_last 6 (by kernel_rfl) rfl rfl (by kernel_rfl) (by kernel_rfl) rfl ?_
          simp only [List.take_succ_cons, List.take_zero]
          intro u1 h1
          have c0 := cell_of_block (h1.block M3.out) 0
          have c1 := cell_of_block (h1.block M3.out) 1
          have c2 := cell_of_block (h1.block M3.out) 2
          have s0 := lt_of_block (h1.block M3.out)
          have hbw := cell_bw
          repeat (go_big_quiet_step (first | (go_at_call 66; exact calls_bw (O.out _)) | (go_at_call 34; exact calls_bw (J.out _))))
          refine wpQuiet_nil ?_
          intro u3 h3
          have f0 := cell_of_block (h3.block M3.out) 0
          have f1 := cell_of_block (h3.block M3.out) 1
          have f2 := cell_of_block (h3.block M3.out) 2
          have ff := free_of_block (h3.block M3.out)
          have A4 := Lib.hid (A3.out.trans (Below.mono h3 A3.out.size))
          have M4 := Lib.hid (h3.block M3.out)
          go_simp
          simp only [Yld]
          go_wp2
          go_roundw
          case rel => exact ⟨k + 1, _, by omega, hkl, EK.out ▸ f.out, by go_num, by rw [← EK.out, q0.out, q1.out]; exact block_setCell _ (block_setCell _ M4.out), (A4.out.setCell (by simp) _).setCell (by simp) _⟩
          case measure => simp [intOf]; omega
        · have EQ := Lib.hid (rcG_bad PP.out (n := k - 1 + 1) hkw (rdH_bad ZZ.out (by rw [show ByteArray.empty = ⟨#[]⟩ from rfl, hwj]; exact fS_out hv hh)))
          have H := Lib.hid (sHoleC (n := (h : Int)) (decide_eq_false (by omega)))
          clear hh
          go_wp2_with (first
            | (go_at_call 30; refine (sNum_ok wd fw h hv _).mono ?_; rintro e w9 ⟨rfl, hB⟩; have R9 := Lib.hid (Ab.block hB R2.out); have M9 := Ab.block hB MM.out; have B9 := Lib.hid (B2.out.trans (Below.mono hB B2.out.size)); have r0 := cell_of_block R9.out 0; have r1 := cell_of_block R9.out 1; have r2 := cell_of_block R9.out 2; have r9 := lt_of_block R9.out; have rf := free_of_block R9.out; have y0 := cell_of_block M9 0; have y1 := cell_of_block M9 1; have y2 := cell_of_block M9 2; have y9 := lt_of_block M9; clear hB M9)
            | (go_at_call 48; refine (H.out _).mono ?_; rintro e w4 ⟨rfl, rfl⟩))
          refine bodyPost_ret (by simp [results, Tryz.results47, go_sem,  r0, r1, r2]; try rfl) rfl ?_
          exact rdR_no EQ.out (((B9.out.setCell (by simp) _).setCell (by simp) _).setCell (by simp) _)
    · obtain rfl : k = L := by omega
      have dl : decide ((k : Int) < (k : Int)) = false := by simp
      have ekL : k - 1 = ws.length := by have := HL.out; omega
      have er := rcG_at PP.out (hs := zs) (by rw [← ekL]; exact ZZ.out)
      rw [hzl] at er
      generalize mo b0 zs (k - 1) = X at *
      generalize mo b1 zs (k - 1) = Y at *
      have V := fun W h0 h1 h2 => sOk_any nm Y (by unfold maxLen; omega) w1.heap.size 0 W X h0 h1 h2
      clear hzl ekL p0 p1
      cases hk : cardOk nm Y
      · rw [hk] at V
        rw [if_neg (by rw [hk]; simp)] at er
        have EQ := Lib.hid er
        replace V := Lib.hid V
        clear er hk
        have c0 := cell_of_block MM.out 0
        have c0 := cell_of_block MM.out 0
        go_wp2_with fail
        clear c0
        refine wp_region_storeM 4 3 (by kernel_rfl) rfl rfl rfl rfl (by kernel_rfl) (by kernel_rfl) rfl ?_
        simp only [Nat.reduceAdd, List.take_succ_cons, List.take_zero, List.drop_succ_cons, List.drop_zero]
        intro u1 h1
        have c0 := cell_of_block (h1.block MM.out) 0
        have c1 := cell_of_block (h1.block MM.out) 1
        have c2 := cell_of_block (h1.block MM.out) 2
        have s0 := lt_of_block (h1.block MM.out)
        have hbw := cell_bw
        have V2 := Lib.hid fun q : Regrown => V.out (bw u1 q) ((cell_bw u1 q _ 0 s0).trans (c0.trans (by simp))) ((cell_bw u1 q _ 1 s0).trans (c1.trans (by simp))) ((cell_bw u1 q _ 2 s0).trans (c2.trans (by simp)))
        repeat (go_big_quiet_step (first | (go_at_call 78; exact calls_bw (V2.out _))))
        refine wpQuiet_nil ?_
        refine wpPure_skip rfl ?_
        refine wpPure_skip rfl ?_
        refine wpPure_do (.bool false) rfl (fun w => by go_simp) (wpPure_nil ?_)
        intro u3 h3
        have R5 := Lib.hid (h3.block R2.out)
        have B5 := Lib.hid (B2.out.trans (Below.mono h3 B2.out.size))
        have g0 := cell_of_block R5.out 0
        have g1 := cell_of_block R5.out 1
        have g2 := cell_of_block R5.out 2
        have g9 := lt_of_block R5.out
        have gf := free_of_block R5.out
        go_simp
        simp only [Yld, pureRun, pureVal, Act.put, Act.eval, List.setIfInBounds_toArray, List.set_cons_succ, List.set_cons_zero]
        clear hbw c0 c1 c2 s0
        go_wp2
        refine bodyPost_ret (by simp [results, Tryz.results47, go_sem,  g0, g1, g2]; try rfl) rfl ?_
        exact rdR_no EQ.out (((B5.out.setCell (by simp) _).setCell (by simp) _).setCell (by simp) _)
      · rw [hk] at V
        have nk : nm.size ≤ 16 := by
          have hk2 := hk
          unfold cardOk at hk2
          rw [Bool.and_eq_true] at hk2
          exact (nameOk_size hk2.1).2
        have C := fun W h0 h1 h2 => sCt_any nm X Y nk ux uy w1.heap.size 0 W h0 h1 h2
        have hT : cdT nm X Y = cdN nm (hol (hasB X Y) 96) (hol (hasB X Y) 96).length := by unfold cdT; rw [if_pos hk]
        rw [← hT] at C
        clear hT
        replace C := Lib.hid C
        replace V := Lib.hid V
        generalize cdT nm X Y = T at *
        by_cases hT : T = s
        · subst hT
          rw [if_pos ⟨hk, rfl⟩] at er
          have n1 : (T.toList == T.toList) = true := by simp
          have EQ := Lib.hid er
          clear er hk
          have c0 := cell_of_block MM.out 0
          have c0 := cell_of_block MM.out 0
          go_wp2_with fail
          clear c0
          refine wp_region_storeM 4 3 (by kernel_rfl) rfl rfl rfl rfl (by kernel_rfl) (by kernel_rfl) rfl ?_
          simp only [Nat.reduceAdd, List.take_succ_cons, List.take_zero, List.drop_succ_cons, List.drop_zero]
          intro u1 h1
          have c0 := cell_of_block (h1.block MM.out) 0
          have c1 := cell_of_block (h1.block MM.out) 1
          have c2 := cell_of_block (h1.block MM.out) 2
          have s0 := lt_of_block (h1.block MM.out)
          have hbw := cell_bw
          have V2 := Lib.hid fun q : Regrown => V.out (bw u1 q) ((cell_bw u1 q _ 0 s0).trans (c0.trans (by simp))) ((cell_bw u1 q _ 1 s0).trans (c1.trans (by simp))) ((cell_bw u1 q _ 2 s0).trans (c2.trans (by simp)))
          have C2 := Lib.hid fun q : Regrown => C.out (bw u1 q) ((cell_bw u1 q _ 0 s0).trans (c0.trans (by simp))) ((cell_bw u1 q _ 1 s0).trans (c1.trans (by simp))) ((cell_bw u1 q _ 2 s0).trans (c2.trans (by simp)))
          repeat (go_big_quiet_step (first | (go_at_call 78; exact calls_bw (V2.out _)) | (go_at_call 79; exact calls_bw (C2.out _))))
          refine wpQuiet_nil ?_
          refine wpPure_do (.string T) rfl (fun _ => rfl) ?_
          refine wpPure_do (.bool true) rfl (fun w => by go_simp) ?_
          refine wpPure_do (.bool true) rfl (fun w => by go_simp) (wpPure_nil ?_)
          intro u3 h3
          have R5 := Lib.hid (h3.block R2.out)
          have B5 := Lib.hid (B2.out.trans (Below.mono h3 B2.out.size))
          have g0 := cell_of_block R5.out 0
          have g1 := cell_of_block R5.out 1
          have g2 := cell_of_block R5.out 2
          have g9 := lt_of_block R5.out
          have gf := free_of_block R5.out
          go_simp
          simp only [Yld, pureRun, pureVal, Act.put, Act.eval, List.setIfInBounds_toArray, List.set_cons_succ, List.set_cons_zero]
          clear hbw c0 c1 c2 s0
          go_wp2
          refine bodyPost_ret (by simp [results, Tryz.results47, go_sem,  g0, g1, g2]; try rfl) rfl ?_
          exact rdR_yes EQ.out (((B5.out.setCell (by simp) _).setCell (by simp) _).setCell (by simp) _)
        · rw [if_neg (fun q => hT q.2)] at er
          have n1 := str_neC hT
          have EQ := Lib.hid er
          clear er hk
          have c0 := cell_of_block MM.out 0
          have c0 := cell_of_block MM.out 0
          go_wp2_with fail
          clear c0
          refine wp_region_storeM 4 3 (by kernel_rfl) rfl rfl rfl rfl (by kernel_rfl) (by kernel_rfl) rfl ?_
          simp only [Nat.reduceAdd, List.take_succ_cons, List.take_zero, List.drop_succ_cons, List.drop_zero]
          intro u1 h1
          have c0 := cell_of_block (h1.block MM.out) 0
          have c1 := cell_of_block (h1.block MM.out) 1
          have c2 := cell_of_block (h1.block MM.out) 2
          have s0 := lt_of_block (h1.block MM.out)
          have hbw := cell_bw
          have V2 := Lib.hid fun q : Regrown => V.out (bw u1 q) ((cell_bw u1 q _ 0 s0).trans (c0.trans (by simp))) ((cell_bw u1 q _ 1 s0).trans (c1.trans (by simp))) ((cell_bw u1 q _ 2 s0).trans (c2.trans (by simp)))
          have C2 := Lib.hid fun q : Regrown => C.out (bw u1 q) ((cell_bw u1 q _ 0 s0).trans (c0.trans (by simp))) ((cell_bw u1 q _ 1 s0).trans (c1.trans (by simp))) ((cell_bw u1 q _ 2 s0).trans (c2.trans (by simp)))
          repeat (go_big_quiet_step (first | (go_at_call 78; exact calls_bw (V2.out _)) | (go_at_call 79; exact calls_bw (C2.out _))))
          refine wpQuiet_nil ?_
          refine wpPure_do (.string s) rfl (fun _ => rfl) ?_
          refine wpPure_do (.bool false) rfl (fun w => by go_simp) ?_
          refine wpPure_do (.bool false) rfl (fun w => by go_simp) (wpPure_nil ?_)
          intro u3 h3
          have R5 := Lib.hid (h3.block R2.out)
          have B5 := Lib.hid (B2.out.trans (Below.mono h3 B2.out.size))
          have g0 := cell_of_block R5.out 0
          have g1 := cell_of_block R5.out 1
          have g2 := cell_of_block R5.out 2
          have g9 := lt_of_block R5.out
          have gf := free_of_block R5.out
          go_simp
          simp only [Yld, pureRun, pureVal, Act.put, Act.eval, List.setIfInBounds_toArray, List.set_cons_succ, List.set_cons_zero]
          clear hbw c0 c1 c2 s0
          go_wp2
          refine bodyPost_ret (by simp [results, Tryz.results47, go_sem,  g0, g1, g2]; try rfl) rfl ?_
          exact rdR_no EQ.out (((B5.out.setCell (by simp) _).setCell (by simp) _).setCell (by simp) _)

end Go.Proofs.YtpkpjkceiikakaaGreatDoor

namespace Go.Proofs.YtpkpjkceiikakaaGreatDoor
open Go.ChangeShapes Go.WideShapes Go.ChangeAt Go.RowKit

theorem et_drew {B : Nat} {w a : World} (h : Below B w a) : Below B w a.drew := h.trans ⟨rfl, rfl, rfl, Nat.le_refl _, fun _ _ => rfl⟩
set_option maxRecDepth 100000 in
set_option maxHeartbeats 800000 in
theorem sWords_any (w : World) : Calls Tryz.prog 46 #[] w fun e w' => ∃ g, e = .returned (.slice (some ⟨g, 0, none⟩) 5 5) ∧ g < w'.heap.size ∧ (∀ k : Int, 1 ≤ k → k ≤ 4 → w'.cell? ⟨g, k.toNat, none⟩ = some (.string (wdOf k))) ∧ Below w.heap.size w w' := by
  go_enter Tryz.func46, Tryz.ntmps46
  go_wp2
  go_ret
  refine ⟨w.heap.size, rfl, by simp, fun k h1 h4 => ?_, below_new (Below.refl _ _) _⟩
  rw [cell_of_block (block_alloc w _)]
  have h : k = 1 ∨ k = 2 ∨ k = 3 ∨ k = 4 := by omega
  rcases h with rfl | rfl | rfl | rfl <;> rfl

theorem sWordK_any (k : Int) (h1 : 1 ≤ k) (h4 : k ≤ 4) (w : World) : Calls Tryz.prog 46 #[] w fun e w' => ∃ g, e = .returned (.slice (some ⟨g, 0, none⟩) 5 5) ∧ g < w'.heap.size ∧ w'.cell? ⟨g, k.toNat, none⟩ = some (.string (wdOf k)) ∧ Below w.heap.size w w' :=
  (sWords_any w).mono fun _ _ ⟨g, h, l, c, b⟩ => ⟨g, h, l, c k h1 h4, b⟩
theorem sDecH (h : Int) (h0 : 0 ≤ h) (h1 : h ≤ 95) (w : World) : Calls Tryz.prog 106 #[.int .i64 h] w fun e w' => e = .returned (.string (dec2 h.toNat)) ∧ Below w.heap.size w w' := by
  obtain ⟨m, rfl⟩ := Int.eq_ofNat_of_zero_le h0
  exact sDec_any m (by omega) w

end Go.Proofs.YtpkpjkceiikakaaGreatDoor

namespace Go.Proofs.YtpkpjkceiikakaaGreatDoor
open Go.ChangeShapes Go.WideShapes Go.ChangeAt Go.RowKit

theorem pe_star : "*" ++ "errors.errorString" = "*errors.errorString" := by decide
theorem pe_row (u : TypeId) (h : Tryz.prog.typeName? 3 u = some "*errors.errorString") : u = 169 :=
  typeName_ptr_named (nm := "errors.errorString") (by rw [pe_star]; kernel_rfl) (by kernel_rfl) (by decide) u (by rw [pe_star]; exact h)
theorem pe_of_laid {x0 x1 x2 x3 : String × DataW Unit} {r : List (String × DataW Unit)} {t1 t2 : List UInt8} {W : World}
    (h : laidMet Tryz.prog (x0 :: x1 :: x2 :: x3 :: ("strconv.ErrRange", .iface "*errors.errorString" (.ptr (.agg [.lit (.string t1)]))) :: ("strconv.ErrSyntax", .iface "*errors.errorString" (.ptr (.agg [.lit (.string t2)]))) :: r) W) : PE W := by
  have h4 := h.tail.tail.tail.tail
  obtain ⟨a, _, v1, _⟩ := laid_sentinel (g := 4) h4 (by kernel_rfl) (by kernel_rfl) Tryz.underlying70 pe_row Tryz.underlying169 Tryz.underlying171 rfl rfl Tryz.underlying9 (by kernel_rfl) (by kernel_rfl)
  obtain ⟨b, _, v2, _⟩ := laid_sentinel (g := 3) h4.tail (by kernel_rfl) (by kernel_rfl) Tryz.underlying70 pe_row Tryz.underlying169 Tryz.underlying171 rfl rfl Tryz.underlying9 (by kernel_rfl) (by kernel_rfl)
  exact ⟨⟨_, _, v2⟩, ⟨_, _, v1⟩⟩
end Go.Proofs.YtpkpjkceiikakaaGreatDoor

namespace Go.Proofs.YtpkpjkceiikakaaGreatDoor
open Go.ChangeShapes Go.WideShapes Go.ChangeAt Go.RowKit

def w8 (q : Nat) : Int := IntKind.i8.wrap (q : Int)
def w16 (q : Nat) : Int := IntKind.i16.wrap ((q : Int) + 1 + 1)
/-- The edit that is written with the number q. -/
def mkEd (q : Nat) : Ed := ⟨w8 q, mtext (q + 1), w16 q, (q : Int) + 1 + 1 + 1, (q : Int) + 1 + 1 + 1 + 1⟩
/-- The first j edits are marked, from k on. -/
def EdMarked (k j : Nat) (cs : List Ed) : Prop := ∀ l, l < j → edAt cs l = mkEd (k + 5 * l)
theorem edMarked_next {k j : Nat} {cs : List Ed} (h : EdMarked k j cs) (hj : j < cs.length) : EdMarked k (j + 1) (cs.set j (mkEd (k + 5 * j))) := by
  intro l hl
  unfold edAt
  rw [List.getD, List.getElem?_set]
  by_cases e : j = l
  · subst e; simp [hj]
  · rw [if_neg e]; exact h l (by omega)
theorem markText_1 (q : Nat) (h : q + 1 ≤ 4000000) (w : World) : Calls Tryz.prog 24 #[.int .i64 ((q : Int) + 1)] w fun e w' => e = .returned (.string (mtext (q + 1))) ∧ Below w.heap.size w w' := by
  have := markText_is (q + 1) h w
  rwa [Int.natCast_succ] at this

set_option maxRecDepth 100000 in
set_option maxHeartbeats 3200000 in
theorem markEditsOwn_any (B : Nat) (cs : List Ed) (v : Value) (k : Nat) (w : World) (h : OwnEdits B cs v w) (hk : k + 5 * cs.length ≤ 4000000) :
    Calls Tryz.prog 13 #[v, .int .i64 (k : Int)] w fun e w' => e = .returned (.int .i64 ((k + 5 * cs.length : Nat) : Int)) ∧ (∃ ds, ds.length = cs.length ∧ EdMarked k ds.length ds ∧ OwnEdits B ds v w') ∧ Below B w w' := by
  obtain ⟨h1, h2⟩ := h
  rcases h2 with ⟨rfl, hz⟩ | ⟨g, cap, cur, rfl, hb, hg, hcap, hmax, hsz, htk⟩
  · have e : cs = [] := List.length_eq_zero_iff.1 hz
    subst e
    go_enter Tryz.func13, Tryz.ntmps13
    go_wp2
    refine wp_loop_rounds 1 ?_
    rw [rounds_succ]; go_wp2
    go_ret
    exact ⟨rfl, ⟨[], rfl, fun l hl => absurd hl (Nat.not_lt_zero _), ⟨rfl, .inl ⟨rfl, rfl⟩⟩⟩, Below.refl _ _⟩
  · have O : OwnEdits B cs (.slice (some ⟨g, 0, none⟩) cs.length cap) w := ⟨h1, .inr ⟨g, cap, cur, rfl, hb, hg, hcap, hmax, hsz, htk⟩⟩
    have hgB := Lib.hid hb
    have OW := Lib.hid O
    clear h1 hg hcap hsz htk hmax cur O
    obtain ⟨n, hn⟩ : ∃ n, cs.length = n := ⟨_, rfl⟩
    rw [hn] at hk ⊢
    have NN := Lib.hid hn
    clear hn
    go_enter Tryz.func13, Tryz.ntmps13
    go_wp2
    go_loopw [1, 5] (fun q i wr => ∃ (j q0 : Nat) (ds : List Ed), j ≤ n ∧ i = .int .i64 j ∧ q = .int .i64 (q0 : Int) ∧ q0 = k + 5 * j ∧ ds.length = n ∧ EdMarked k j ds ∧ OwnEdits B ds (.slice (some ⟨g, 0, none⟩) ds.length cap) wr ∧ Below B w wr) (fun _ i _ => n - (intOf i).toNat)
    case atStart => exact ⟨0, k, cs, Nat.zero_le _, rfl, rfl, by omega, NN.out, fun l hl => absurd hl (Nat.not_lt_zero _), OW.out, Below.refl _ _⟩
    case round =>
      obtain ⟨j, q0, ds, hj, rfl, rfl, hq, hds, hM, hO, hB⟩ := hrel
      have Q := Lib.hid hq
      have DS := Lib.hid hds
      have MM := Lib.hid hM
      have OO := Lib.hid hO
      have BB := Lib.hid hB
      have gl : g < wr.heap.size := (World.ownsRow.lt hO g rfl).2
      by_cases hkl : j < n
      · have hd : decide ((j : Int) < (n : Int)) = true := by simpa using hkl
        have qb : q0 + 1 ≤ 4000000 := by omega
        have i1 : (0 : Int) ≤ (j : Int) := by omega
        have i2 : (j : Int) < (n : Int) := by omega
        have hjd : j < ds.length := by omega
        have g3 := fled_get ds j hjd
        have r0 := (World.ownsRow.cellAt hO (j * 5) (by omega)).trans g3.1
        have r1 := (World.ownsRow.cellAt hO (j * 5 + 1) (by omega)).trans g3.2.1
        have r2 := (World.ownsRow.cellAt hO (j * 5 + 2) (by omega)).trans g3.2.2.1
        have r3 := (World.ownsRow.cellAt hO (j * 5 + 3) (by omega)).trans g3.2.2.2.1
        have r4 := (World.ownsRow.cellAt hO (j * 5 + 4) (by omega)).trans g3.2.2.2.2
        have fz := fun j => World.ownsRow.frozenAt hO j
        have FZ := Lib.hid fz
        have R1 := Lib.hid r1
        have R2 := Lib.hid r2
        have R3 := Lib.hid r3
        have R4 := Lib.hid r4
        have RR1 := Lib.hid g3.2.1
        have RR2 := Lib.hid g3.2.2.1
        have RR3 := Lib.hid g3.2.2.2.1
        have RR4 := Lib.hid g3.2.2.2.2
        have JD := Lib.hid hjd
        have K := Lib.hid fun W => markText_1 q0 qb W
        have NX := Lib.hid (edMarked_next hM hjd)
        have ST := Lib.hid (fled_set ds j (mkEd (k + 5 * j)))
        have QM := Lib.hid (show mkEd (k + 5 * j) = ⟨w8 q0, mtext (q0 + 1), w16 q0, (q0 : Int) + 1 + 1 + 1, (q0 : Int) + 1 + 1 + 1 + 1⟩ by rw [← hq]; rfl)
        have x1 : IntKind.i64.wrap ((q0 : Int) + 1) = (q0 : Int) + 1 := IntWalk.i64_in _ (by omega)
        have x2 : IntKind.i64.wrap ((q0 : Int) + 1 + 1) = (q0 : Int) + 1 + 1 := IntWalk.i64_in _ (by omega)
        have x3 : IntKind.i64.wrap ((q0 : Int) + 1 + 1 + 1) = (q0 : Int) + 1 + 1 + 1 := IntWalk.i64_in _ (by omega)
        have x6 : IntKind.i64.wrap ((q0 : Int) + 1 + 1 + 1 + 1) = (q0 : Int) + 1 + 1 + 1 + 1 := IntWalk.i64_in _ (by omega)
        have x7 : IntKind.i64.wrap ((q0 : Int) + 1 + 1 + 1 + 1 + 1) = (q0 : Int) + 1 + 1 + 1 + 1 + 1 := IntWalk.i64_in _ (by omega)
        have x4 : IntKind.u64.wrap ((q0 : Int) + 1 + 1 + 1) = (q0 : Int) + 1 + 1 + 1 := IntWalk.u64_in _ (by omega)
        have x5 : IntKind.u64.wrap ((q0 : Int) + 1 + 1 + 1 + 1) = (q0 : Int) + 1 + 1 + 1 + 1 := IntWalk.u64_in _ (by omega)
        have x8 : IntKind.i8.wrap (q0 : Int) = w8 q0 := rfl
        have x9 : IntKind.i16.wrap ((q0 : Int) + 1 + 1) = w16 q0 := rfl
        clear hq hds hM hO hB r1 r2 r3 r4 g3 hjd
        generalize mtext (q0 + 1) = s at *
        generalize w8 q0 = t8 at *
        generalize w16 q0 = t16 at *
        go_wp2_with (go_at_call 24; refine (K.out _).mono ?_; rintro e w2 ⟨rfl, hB⟩; go_loud (have O2 := Lib.hid (owned_below (World.ownsRow.stored OO.out (j * 5) (.int .i8 t8)).1 hB)); go_loud (have B2 := Lib.hid ((BB.out.setCell (p := ⟨g, j * 5, none⟩) hgB.out (.int .i8 t8)).trans (Below.mono hB (by rw [World.size_setCell]; exact Nat.le_trans hgB.out (Nat.le_of_lt gl))))); go_loud (have t1 := (World.ownsRow.cellAt O2.out (j * 5 + 1) (by have := JD.out; omega)).trans ((List.getElem?_set_ne (by omega)).trans RR1.out)); go_loud (have t2 := (World.ownsRow.cellAt O2.out (j * 5 + 2) (by have := JD.out; omega)).trans ((List.getElem?_set_ne (by omega)).trans RR2.out)); go_loud (have t3 := (World.ownsRow.cellAt O2.out (j * 5 + 3) (by have := JD.out; omega)).trans ((List.getElem?_set_ne (by omega)).trans RR3.out)); go_loud (have t4 := (World.ownsRow.cellAt O2.out (j * 5 + 4) (by have := JD.out; omega)).trans ((List.getElem?_set_ne (by omega)).trans RR4.out)); go_loud (have fz2 := fun j => World.ownsRow.frozenAt O2.out j); have g2 : g < w2.heap.size := (World.ownsRow.lt O2.out g rfl).2; clear hB)
        refine wp_loop_rounds 3 ?_
        rw [rounds_succ]; go_wp2
        rw [rounds_succ]; go_wp2
        rw [rounds_succ]; go_wp2
        have s1 := (World.ownsRow.stored O2.out (j * 5 + 1) (.string s)).1
        have s2 := (World.ownsRow.stored s1 (j * 5 + 2) (.int .i16 t16)).1
        have s3 := (World.ownsRow.stored s2 (j * 5 + 3) (.int .u64 ((q0 : Int) + 1 + 1 + 1))).1
        have s4 := (World.ownsRow.stored s3 (j * 5 + 4) (.int .u64 ((q0 : Int) + 1 + 1 + 1 + 1))).1
        have st := ST.out
        have nx := NX.out
        rw [QM.out] at st nx
        simp only at st
        rw [st] at s4
        refine ⟨⟨j + 1, q0 + 5, _, hkl, by rw [Int.natCast_succ], by rw [show ((q0 + 5 : Nat) : Int) = (q0 : Int) + 1 + 1 + 1 + 1 + 1 by omega], by have := Q.out; omega, by rw [List.length_set]; exact DS.out, nx, ?_, ((((B2.out.setCell hgB.out _).setCell hgB.out _).setCell hgB.out _).setCell hgB.out _)⟩, by (simp [intOf]) <;> omega⟩
        unfold OwnEdits
        rw [List.length_set]
        exact s4
      · have e : j = n := by omega
        subst e
        have hd : decide ((j : Int) < (j : Int)) = false := by simp
        clear hds hM hO hB
        have hq2 := hq
        subst hq2
        clear hq
        go_wp2
        go_ret
        exact ⟨rfl, ⟨ds, DS.out, by rw [DS.out]; exact MM.out, by have := OO.out; rw [DS.out] at this; exact this⟩, BB.out⟩
end Go.Proofs.YtpkpjkceiikakaaGreatDoor

namespace Go.Proofs.YtpkpjkceiikakaaGreatDoor
open Go.ChangeShapes Go.WideShapes Go.ChangeAt Go.RowKit

set_option maxRecDepth 100000 in
set_option maxHeartbeats 3200000 in
theorem heldEdits_any (a : Option Addr) (ds : List Ed) (c k m : Nat) (hm0 : m = ds.length) (w : World) (h : Cellsed w a ds) (hm : EdMarked k ds.length ds) (hk : k + 5 * ds.length ≤ 4000000) :
    Calls Tryz.prog 14 #[.slice a m c, .int .i64 (k : Int)] w fun e w' => e = .returned (.int .i64 ((k + 5 * m : Nat) : Int)) ∧ Below w.heap.size w w' := by
  subst hm0
  have H := Lib.hid h
  have M := Lib.hid hm
  clear h hm
  have hbw := cell_bw
  go_enter Tryz.func14, Tryz.ntmps14
  go_wp2
  go_loopw [1, 5] (fun q i wr => ∃ j q0 : Nat, j ≤ ds.length ∧ i = .int .i64 j ∧ q = .int .i64 (q0 : Int) ∧ q0 = k + 5 * j ∧ Below w.heap.size w wr) (fun _ i _ => ds.length - (intOf i).toNat)
  case atStart => exact ⟨0, k, Nat.zero_le _, rfl, rfl, by omega, Below.refl _ _⟩
  case round =>
    obtain ⟨j, q0, hj, rfl, rfl, hq, hB⟩ := hrel
    have Q := Lib.hid hq
    have BB := Lib.hid hB
    by_cases hkl : j < ds.length
    · have hd : decide ((j : Int) < (ds.length : Int)) = true := by simpa using hkl
      have qb : q0 + 1 ≤ 4000000 := by omega
      have i1 : (0 : Int) ≤ (j : Int) := by omega
      have i2 : (j : Int) < (ds.length : Int) := by omega
      obtain ⟨b, o, rfl, hb, c0, c1, c2, c3, c4⟩ := H.out j hkl
      have e := M.out j hkl
      rw [← hq] at e
      rw [e] at c0 c1 c2 c3 c4
      have d0 := (hB.cell (p := ⟨b, o + j * 5, none⟩) hb).trans c0
      have d1 := (hB.cell (p := ⟨b, o + j * 5 + 1, none⟩) hb).trans c1
      have d2 := (hB.cell (p := ⟨b, o + j * 5 + 2, none⟩) hb).trans c2
      have d3 := (hB.cell (p := ⟨b, o + j * 5 + 3, none⟩) hb).trans c3
      have d4 := (hB.cell (p := ⟨b, o + j * 5 + 4, none⟩) hb).trans c4
      simp only [mkEd] at d0 d1 d2 d3 d4
      have y : b < wr.heap.size := Nat.lt_of_lt_of_le hb hB.size
      have K := Lib.hid fun W => markText_1 q0 qb W
      have x1 : IntKind.i64.wrap ((q0 : Int) + 1) = (q0 : Int) + 1 := IntWalk.i64_in _ (by omega)
      have x2 : IntKind.i64.wrap ((q0 : Int) + 1 + 1) = (q0 : Int) + 1 + 1 := IntWalk.i64_in _ (by omega)
      have x3 : IntKind.i64.wrap ((q0 : Int) + 1 + 1 + 1) = (q0 : Int) + 1 + 1 + 1 := IntWalk.i64_in _ (by omega)
      have x6 : IntKind.i64.wrap ((q0 : Int) + 1 + 1 + 1 + 1) = (q0 : Int) + 1 + 1 + 1 + 1 := IntWalk.i64_in _ (by omega)
      have x7 : IntKind.i64.wrap ((q0 : Int) + 1 + 1 + 1 + 1 + 1) = (q0 : Int) + 1 + 1 + 1 + 1 + 1 := IntWalk.i64_in _ (by omega)
      have x4 : IntKind.u64.wrap ((q0 : Int) + 1 + 1 + 1) = (q0 : Int) + 1 + 1 + 1 := IntWalk.u64_in _ (by omega)
      have x5 : IntKind.u64.wrap ((q0 : Int) + 1 + 1 + 1 + 1) = (q0 : Int) + 1 + 1 + 1 + 1 := IntWalk.u64_in _ (by omega)
      have x8 : IntKind.i8.wrap (q0 : Int) = w8 q0 := rfl
      have x9 : IntKind.i16.wrap ((q0 : Int) + 1 + 1) = w16 q0 := rfl
      clear hq hB c0 c1 c2 c3 c4 e
      generalize mtext (q0 + 1) = s at *
      generalize w8 q0 = t8 at *
      generalize w16 q0 = t16 at *
      have n0 : (t8 != t8) = false := by simp
      have n4 : (t16 != t16) = false := by simp
      have n1 : ((q0 : Int) + 1 + 1 + 1 != (q0 : Int) + 1 + 1 + 1) = false := by simp
      have n2 : ((q0 : Int) + 1 + 1 + 1 + 1 != (q0 : Int) + 1 + 1 + 1 + 1) = false := by simp
      have n3 : (s.toList != s.toList) = false := by simp
      go_wp2_with fail
      refine region_bw (by kernel_rfl) (by kernel_rfl) ?_
      repeat (go_big_quiet_step (first | (go_at_call 24; exact calls_bw (K.out _))))
      refine wpQuiet_nil ?_; intro wq hq; replace hq := below_of_bw hq; obtain ⟨qc, qf, qz⟩ := bcell hq
      have B2 := Lib.hid (BB.out.trans (hq.mono BB.out.size))
      have t2 := (Below.cell hq (p := ⟨b, o + j * 5 + 2, none⟩) y).trans d2
      have t3 := (Below.cell hq (p := ⟨b, o + j * 5 + 3, none⟩) y).trans d3
      have t4 := (Below.cell hq (p := ⟨b, o + j * 5 + 4, none⟩) y).trans d4
      clear d0 d1 d2 d3 d4 hq qc qf qz hbw
      go_wp2_with fail
      refine wp_loop_rounds 3 ?_
      rw [rounds_succ]; go_wp2
      rw [rounds_succ]; go_wp2
      rw [rounds_succ]; go_wp2
      exact ⟨⟨j + 1, q0 + 5, hkl, by rw [Int.natCast_succ], by rw [show ((q0 + 5 : Nat) : Int) = (q0 : Int) + 1 + 1 + 1 + 1 + 1 by omega], by have := Q.out; omega, B2.out⟩, by (simp [intOf]) <;> omega⟩
    · have e : j = ds.length := by omega
      subst e
      have hd : decide ((ds.length : Int) < (ds.length : Int)) = false := by simp
      have hq2 := hq
      subst hq2
      clear hq hB
      go_wp2
      go_ret
      exact ⟨rfl, BB.out⟩
end Go.Proofs.YtpkpjkceiikakaaGreatDoor
