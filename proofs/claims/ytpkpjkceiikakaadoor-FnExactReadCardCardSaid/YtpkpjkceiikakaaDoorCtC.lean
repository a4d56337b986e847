/- Contract: the program's CardText. -/
import Derived.Test.YtpkpjkceiikakaaDoorCtM
import Derived.Test.YtpkpjkceiikakaaDoorBoxes
import Derived.Test.YtpkpjkceiikakaaDoorFloat
import Derived.Deep.DeepCutAuto
namespace Go.Proofs.YtpkpjkceiikakaaDoor
open Go.ChangeShapes Go.WideShapes Go.ChangeAt Go.RowKit

theorem intsIn_grown {w w' : World} {row : Option Nat} {a : Option Addr} {zs : List Int} (h : IntsIn w a zs) (hg : w.grownBy w' row) (hne : ∀ p, a = some p → row ≠ some p.block) : IntsIn w' a zs := fun i hi => by
  obtain ⟨b, off, ha, hlt, hc⟩ := h i hi
  exact ⟨b, off, ha, Nat.lt_of_lt_of_le hlt hg.size, (World.cell?_of_block (a := ⟨b, off + i, none⟩) (hg.block b hlt (fun e => hne _ ha e.symm))).trans hc⟩
/-- The list lies in another block than the bytes. -/
def NoB (a : Option Addr) (v : Value) : Prop := ∀ p, a = some p → v.ownBlock ≠ some p.block
theorem noB_start {B n : Nat} {zs : List Int} {a : Option Addr} {c : Nat} {w w' : World} {v : Value} {bs : List UInt8} (h : OwnInts B zs (.slice a zs.length c) w) (hv : OwnG n bs v w') (hB : w'.heap.size ≤ B) : NoB a v := by
  intro p hp
  subst hp
  obtain ⟨g, cap, rfl, _, hlt, _⟩ := hv
  have := (World.ownsRow.lt h p.block rfl).1
  intro e
  have e2 : g = p.block := Option.some.inj e
  omega
theorem noB_next {a : Option Addr} {v v' : Value} {w w' : World} {B : Nat} {bs : List UInt8} {zs : List Int} (h : NoB a v) (hi : IntsIn w a zs) (hz : 0 < zs.length) (hG : Grn B bs v w v' w') : NoB a v' := by
  intro p hp
  rcases hG.2.2 with e | ⟨g, e, hg⟩
  · rw [e]; exact h p hp
  · rw [e]
    obtain ⟨b, off, ha, hlt, _⟩ := hi 0 hz
    rw [ha] at hp
    cases hp
    intro q
    have : g = b := Option.some.inj q
    omega
theorem ownG_lt {B : Nat} {bs : List UInt8} {v : Value} {w : World} (h : OwnG B bs v w) : ∀ k, v.ownBlock = some k → B ≤ k := fun k hk => by
  obtain ⟨g, cap, rfl, h1, _⟩ := h
  have : g = k := Option.some.inj hk
  omega
theorem newB (W : World) (t : TypeId) : (W.alloc (.cells #[.int .u8 32] t)).cell? ((⟨W.heap.size, 0, none⟩ : Addr).add 0) = some (.int .u8 ((32 : UInt8).toNat : Int)) := by
  simp [Addr.add]

set_option maxRecDepth 100000 in
set_option maxHeartbeats 3200000 in
theorem iCardText_any (s : ByteArray) (a b : Int) (hs : s.size ≤ maxLen) (ha : U64 a) (hb : U64 b) (w : World) :
    Calls Tryd.prog 32 #[.agg #[.string s, .int .u64 a, .int .u64 b]] w fun e w' => e = .returned (.string (cdT s a b)) ∧ Below w.heap.size w w' := by
  obtain ⟨i0, hi, hz0, hz1, hz2⟩ := info_parts info_by
  have V := fun W => iValidCard_any s a b hs W
  have BX := Lib.hid (below_new (Below.refl w.heap.size w) (.cells #[.string s, .int .u64 a, .int .u64 b] 33))
  have NX := Lib.hid (block_alloc w (.cells #[.string s, .int .u64 a, .int .u64 b] 33))
  unfold cdT
  cases hk : cardOk s b
  · rw [hk] at V
    replace V := Lib.hid V
    simp only [Bool.false_eq_true, if_false]
    clear hk ha hb hs
    go_enter Tryd.func32, Tryd.ntmps32
    go_wp2_with (go_at_call 31; refine (V.out _).mono ?_; rintro e w1 ⟨rfl, hB⟩; have B1 := Lib.hid (BX.out.trans (Below.mono hB BX.out.size)); clear hB)
    go_returns
    exact ⟨rfl, B1.out⟩
  · rw [hk] at V
    have hk2 := hk
    unfold cardOk at hk2
    rw [Bool.and_eq_true] at hk2
    obtain ⟨ns1, ns2⟩ := nameOk_size hk2.1
    have HI := fun W => iHolesIn_any a b ha hb W
    have mk : (b / 4294967296 == 0) = true := hk2.2
    rw [hz_yes _ mk, hzC_yes mk] at HI
    have hl := hol_len (hasB a b) 96
    have HM := fun j hj => hol_atX (f := hasB a b) (n := 96) (j := j) hj
    simp only [if_true]
    generalize hol (hasB a b) 96 = zs at *
    have CS := Lib.hid (cdN_size s (zs := zs) HM)
    have CP := Lib.hid (cdN_pos (s := s) (by omega) zs)
    have CB := Lib.hid (cdN_bytes s zs)
    replace HM := Lib.hid HM
    replace V := Lib.hid V
    replace HI := Lib.hid HI
    obtain ⟨cV, cH0⟩ := Classical.axiomOfChoice (fun W => conv_toG (P := Tryd.prog) (src := 9) (dst := 81) (e := 5) s W Tryd.underlying9 Tryd.underlying81 Tryd.underlying5)
    obtain ⟨cW, cH⟩ := Classical.axiomOfChoice cH0
    have cv := fun W => (cH W).1
    have CG := Lib.hid fun W => (cH W).2
    clear hk hk2 mk ha hb hs cH cH0
    have tok1 : True := trivial
    go_enter Tryd.func32, Tryd.ntmps32
    go_upto_region 4 with (go_at_call 31; refine (V.out _).mono ?_; rintro e w1 ⟨rfl, hB⟩; have B1 := Lib.hid (BX.out.trans (Below.mono hB BX.out.size)); have N1 := Lib.hid (Ab.block hB NX.out); have k1 := cell_of_block N1.out; have z1 := lt_of_block N1.out; clear hB)
    obtain ⟨hO2, hB2⟩ := CG.out w1
    have N2 := Lib.hid (Ab.block hB2 N1.out)
    have B2 := Lib.hid (B1.out.trans (Below.mono hB2 B1.out.size))
    have O2 := Lib.hid (ownG_weak hO2 B1.out.size)
    clear k1 z1 cv CG hO2 hB2
    generalize cW w1 = w2 at *
    generalize cV w1 = v2 at *
    obtain ⟨g2, p2, hv, _⟩ := O2.out
    subst hv
    have k1 := cell_of_block N2.out
    have z1 := lt_of_block N2.out
    go_wp2_with (go_at_call 56; refine (HI.out _).mono ?_; rintro e w3 ⟨v3, rfl, hO, hB⟩; have I3 := Lib.hid hO; have A3 := Lib.hid (show Ab w2 w3 from hB); obtain ⟨a3, c3, hv, _⟩ := ownInts_in hO; subst hv; clear hO hB k1 z1)
    have P3 := Lib.hid (noB_start I3.out O2.out (Nat.le_refl _))
    have X3 := Lib.hid (show IntsIn w3 a3 zs from by obtain ⟨_, _, hv, hi⟩ := ownInts_in I3.out; cases hv; exact hi)
    have B3 := Lib.hid (B2.out.trans (Below.mono A3.out B2.out.size))
    have O3 := Lib.hid (ownG_kept O2.out A3.out)
    clear I3
    go_loopw [3, 22] (fun v i wr => ∃ j : Nat, j ≤ zs.length ∧ i = .int .i64 (j : Int) ∧ OwnG w.heap.size (cdN s zs j).data.toList v wr ∧ Below w.heap.size w wr ∧ IntsIn wr a3 zs ∧ NoB a3 v) (fun _ i _ => zs.length - (intOf i).toNat)
    case atStart => exact ⟨0, Nat.zero_le _, rfl, O3.out, B3.out, X3.out, P3.out⟩
    case round =>
      obtain ⟨j, hj, rfl, hO, hB, hI, hN⟩ := hrel
      have O5 := Lib.hid hO
      have B5 := Lib.hid hB
      have I5 := Lib.hid hI
      have N5 := Lib.hid hN
      clear hO hN
      by_cases hjl : j < zs.length
      · have hd : decide ((j : Int) < (zs.length : Int)) = true := by simpa using hjl
        obtain ⟨b1, o1, ha3, y1, d0⟩ := hI j hjl
        subst ha3
        have i1 : (0 : Int) ≤ (j : Int) := by omega
        have i2 : (j : Int) < (zs.length : Int) := by omega
        obtain ⟨h0, h1⟩ := HM.out j hjl
        have cs := CS.out j hj
        have cp := CP.out j
        have cb := Lib.hid (CB.out j)
        have sl : (cdN s zs j).data.toList.length = (cdN s zs j).size := Array.length_toList
        obtain ⟨m, hm⟩ := Int.eq_ofNat_of_zero_le h0
        rw [hm] at d0 h1 cb
        rw [Int.toNat_natCast] at cb
        have hm1 : m < 96 := by omega
        have s5 := B5.out.size
        have NB := Lib.hid (below_new (Below.refl wr.heap.size wr) (.cells #[.int .u8 32] 5))
        have OA := Lib.hid (ownG_kept O5.out NB.out)
        have IA := Lib.hid (show IntsIn (wr.alloc (.cells #[.int .u8 32] 5)) (some ⟨b1, o1, none⟩) zs from intsIn_below I5.out NB.out)
        have zl : 0 < zs.length := by omega
        have hbl : (cdN s zs j).data.toList.length ≤ 400 := by omega
        have hb0 : 0 < (cdN s zs j).data.toList.length := by omega
        clear h0 h1 hm cs cp sl hI hB
        generalize (cdN s zs j).data.toList = bs at *
        go_wp2_with (first
          | (at_builtin; refine wp_pushG _ rfl _ _ 81 rfl 5 i0 Tryd.underlying81 hi hz0 hz1 hz2 w.heap.size bs _ rfl OA.out (by simp; omega) (by omega) ⟨wr.heap.size, 0, none⟩ 1 32 rfl (newB _ _) ?_; intro v6 w6 hG; have G6 := Lib.hid hG; have I6 := Lib.hid (intsIn_grown IA.out hG.2.1 N5.out); have N6 := Lib.hid (noB_next N5.out IA.out zl hG); have B6 := Lib.hid (Below.grown (below_new B5.out (.cells #[.int .u8 32] 5)) hG.2.1 (by simp; omega) (ownG_lt O5.out)); clear hG)
          | (go_at_call 50; refine (appI_any w.heap.size (bs ++ [32]) _ m (by omega) _ G6.out.1 B6.out.size (by rw [List.length_append]; simp; omega) (by rw [List.length_append]; simp)).mono ?_; rintro e w7 ⟨v7, rfl, hG⟩; have G7 := Lib.hid hG; have I7 := Lib.hid (intsIn_grown I6.out hG.2.1 N6.out); have N7 := Lib.hid (noB_next N6.out I6.out zl hG); have B7 := Lib.hid (Below.grown B6.out hG.2.1 B6.out.size (ownG_lt G6.out.1)); clear hG))
        exact ⟨⟨j + 1, hjl, by rw [Int.natCast_succ], by rw [← cb.out]; exact G7.out.1, B7.out, I7.out, N7.out⟩, by (simp [intOf]) <;> omega⟩
      · have e : j = zs.length := by omega
        subst e
        have hd : decide ((zs.length : Int) < (zs.length : Int)) = false := by simp
        have cvb := conv_backG (P := Tryd.prog) (src := 81) (dst := 9) (e := 5) O5.out Tryd.underlying81 Tryd.underlying5 Tryd.underlying9
        have BE := Lib.hid (back_eq (cdN s zs zs.length))
        generalize (cdN s zs zs.length).data.toList = bs at *
        obtain ⟨g5, p5, hv, _⟩ := O5.out
        subst hv
        clear hB hI
        go_wp2
        go_returns
        exact ⟨ret_strC BE.out, B5.out⟩
end Go.Proofs.YtpkpjkceiikakaaDoor
