/- Several texts in one, as a claim has at most 60 files: EdU EtT ReM EtC ReI KwI. -/
import Derived.Test.YtnbijfeidgddmaaGreatDoorEdXC
import Derived.Test.YtnbijfeidgddmaaGreatDoorRsZ2
import Derived.Deep.AppendLies
import Derived.Test.YtnbijfeidgddmaaGreatDoorRsZ1
import Derived.Deep.DeepCutAuto
import Derived.Test.YtnbijfeidgddmaaGreatDoorRsZ4
import Derived.Test.YtnbijfeidgddmaaGreatDoorRsZ0
namespace Go.Proofs.YtnbijfeidgddmaaGreatDoor
open Go.ChangeShapes Go.WideShapes Go.ChangeAt Go.RowKit

/-- Are the first n valid. -/
def edTil (cs : List Ed) : Nat → Bool
  | 0 => true
  | n + 1 => edTil cs n && edOk (edAt cs n)
theorem edTil_no {cs : List Ed} {j : Nat} (h : edOk (edAt cs j) = false) : ∀ n, j < n → edTil cs n = false
  | 0, hj => absurd hj (Nat.not_lt_zero _)
  | n + 1, hj => by
    unfold edTil
    by_cases e : j = n
    · subst e; rw [h, Bool.and_false]
    · rw [edTil_no h n (by omega), Bool.false_and]
theorem edTil_next {cs : List Ed} {j : Nat} (h : edTil cs j = true) (k : edOk (edAt cs j) = true) : edTil cs (j + 1) = true := by unfold edTil; rw [h, k]; rfl
theorem edTil_at {cs : List Ed} : ∀ {n j : Nat}, edTil cs n = true → j < n → edOk (edAt cs j) = true
  | 0, _, _, hj => absurd hj (Nat.not_lt_zero _)
  | n + 1, j, h, hj => by
    unfold edTil at h
    rw [Bool.and_eq_true] at h
    by_cases e : j = n
    · subst e; exact h.2
    · exact edTil_at h.1 (by omega)
/-- The code of what is wrong with several edits. -/
def edsC (cs : List Ed) : Int := if edTil cs cs.length then (if cs.length ≤ 200 then 0 else 3) else 1
theorem edsC_1 {cs : List Ed} (h : edTil cs cs.length = false) : edsC cs = 1 := by unfold edsC; rw [h]; rfl
theorem edsC_3 {cs : List Ed} (h : edTil cs cs.length = true) (k : ¬ cs.length ≤ 200) : edsC cs = 3 := by unfold edsC; rw [if_pos h, if_neg k]
theorem edsC_0 {cs : List Ed} (h : edTil cs cs.length = true) (k : cs.length ≤ 200) : edsC cs = 0 := by unfold edsC; rw [if_pos h, if_pos k]

set_option maxRecDepth 100000 in
set_option maxHeartbeats 3200000 in
theorem iChk_any (ad : Option Addr) (cs : List Ed) (c : Nat) (w : World) (hc : EditsIn w ad cs) (hn : cs.length ≤ 1048576) :
    Calls Tryz.prog 56 #[.slice ad cs.length c] w fun e w' => e = .returned (.int .i64 (edsC cs)) ∧ Below w.heap.size w w' := by
  have C := Lib.hid hc
  clear hc
  go_enter Tryz.func56, Tryz.ntmps56
  go_wp2
  go_loopw [7] (fun i wr => ∃ j : Nat, j ≤ cs.length ∧ i = .int .i64 j ∧ edTil cs j = true ∧ Below w.heap.size w wr) (fun i _ => cs.length - (intOf i).toNat)
  case atStart => exact ⟨0, Nat.zero_le _, rfl, rfl, Below.refl _ _⟩
  case round =>
    obtain ⟨j, hj, rfl, hT, hB⟩ := hrel
    have BB := Lib.hid hB
    have TT := Lib.hid hT
    clear hT
    by_cases hjl : j < cs.length
    · have hd : decide ((j : Int) < (cs.length : Int)) = true := by simpa using hjl
      obtain ⟨hf, b1, o1, rfl, hb1, p0, p1, p2, p3, p4⟩ := C.out j hjl
      have d0 := (hB.cell (p := ⟨b1, o1 + j * 5, none⟩) hb1).trans p0
      have d1 := (hB.cell (p := ⟨b1, o1 + j * 5 + 1, none⟩) hb1).trans p1
      have d2 := (hB.cell (p := ⟨b1, o1 + j * 5 + 2, none⟩) hb1).trans p2
      have d3 := (hB.cell (p := ⟨b1, o1 + j * 5 + 3, none⟩) hb1).trans p3
      have d4 := (hB.cell (p := ⟨b1, o1 + j * 5 + 4, none⟩) hb1).trans p4
      have i1 : (0 : Int) ≤ (j : Int) := by omega
      have i2 : (j : Int) < (cs.length : Int) := by omega
      have K := fun W => iValid_any (edAt cs j) hf W
      have NO := Lib.hid fun h => edTil_no (cs := cs) (j := j) h cs.length hjl
      have YE := Lib.hid fun h => edTil_next TT.out (j := j) h
      have AA := Lib.hid (show Ab wr (wr.alloc (.cells #[.int .i8 (edAt cs j).k, .string (edAt cs j).s, .int .i16 (edAt cs j).h, .int .u64 (edAt cs j).a, .int .u64 (edAt cs j).b] 53)) from below_new (Below.refl _ _) _)
      clear hB p0 p1 p2 p3 p4 hf
      cases hk : edOk (edAt cs j)
      · rw [hk] at K
        have K := Lib.hid K
        have N := Lib.hid (edsC_1 (NO.out hk))
        clear hk YE NO
        generalize edAt cs j = x at *
        obtain ⟨k, s, h, a, b⟩ := x
        simp only at d0 d1 d2 d3 d4 K AA
        go_wp2_with (go_at_call 55; refine (K.out _).mono ?_; rintro e w3 ⟨rfl, hB3⟩; have B3 := Lib.hid (BB.out.trans (Below.mono (AA.out.trans hB3) BB.out.size)); clear hB3)
        go_returns
        exact ⟨by rw [N.out]; rfl, B3.out⟩
      · rw [hk] at K
        have K := Lib.hid K
        have Y := Lib.hid (YE.out hk)
        clear hk YE NO
        generalize edAt cs j = x at *
        obtain ⟨k, s, h, a, b⟩ := x
        simp only at d0 d1 d2 d3 d4 K AA
        go_wp2_with (go_at_call 55; refine (K.out _).mono ?_; rintro e w3 ⟨rfl, hB3⟩; have B3 := Lib.hid (BB.out.trans (Below.mono (AA.out.trans hB3) BB.out.size)); clear hB3)
        exact ⟨⟨j + 1, hjl, by rw [Int.natCast_succ], Y.out, B3.out⟩, by (simp [intOf]) <;> omega⟩
    · have e : j = cs.length := by omega
      subst e
      have hd : decide ((cs.length : Int) < (cs.length : Int)) = false := by simp
      clear hB
      by_cases hl : cs.length ≤ 200
      · have E0 := Lib.hid (edsC_0 TT.out hl)
        have dl : decide ((200 : Int) < (cs.length : Int)) = false := by simp; omega
        go_wp2
        go_returns
        exact ⟨by rw [E0.out]; rfl, BB.out⟩
      · have E0 := Lib.hid (edsC_3 TT.out hl)
        have dl : decide ((200 : Int) < (cs.length : Int)) = true := by simp; omega
        go_wp2
        go_returns
        exact ⟨by rw [E0.out]; rfl, BB.out⟩

end Go.Proofs.YtnbijfeidgddmaaGreatDoor

namespace Go.Proofs.YtnbijfeidgddmaaGreatDoor
open Go.ChangeShapes Go.WideShapes Go.ChangeAt Go.RowKit

def edWd : List (List UInt8) := [[], [97, 100, 100], [100, 114, 111, 112], [110, 111, 116, 99, 104], [102, 105, 108, 108]]
/-- The word of a kind. -/
def wdOf (k : Int) : ByteArray := ⟨(edWd.getD k.toNat []).toArray⟩
theorem edWd_size : ∀ i : Nat, (edWd.getD i []).length ≤ 5
  | 0 => by decide
  | 1 => by decide
  | 2 => by decide
  | 3 => by decide
  | 4 => by decide
  | _ + 5 => Nat.zero_le _
theorem wdOf_size (k : Int) : (wdOf k).size ≤ 5 := by
  unfold wdOf
  show (edWd.getD k.toNat []).toArray.size ≤ 5
  rw [List.size_toArray]
  exact edWd_size _
/-- What is told behind the word. -/
def edL (x : Ed) : ByteArray := if x.k = 1 ∨ x.k = 2 then cdT x.s x.a x.b else x.s ++ (⟨#[32]⟩ ++ dec2 x.h.toNat)
/-- The text of the first n edits. -/
def etN (es : List Ed) : Nat → ByteArray
  | 0 => ByteArray.empty
  | n + 1 => (etN es n ++ (wdOf (edAt es n).k ++ ⟨#[32]⟩)) ++ (edL (edAt es n) ++ ⟨#[10]⟩)
theorem etN_next (es : List Ed) (n : Nat) : etN es (n + 1) = (etN es n ++ (wdOf (edAt es n).k ++ ⟨#[32]⟩)) ++ (edL (edAt es n) ++ ⟨#[10]⟩) := rfl
theorem etN_next2 (es : List Ed) (n : Nat) : etN es (n + 1) = (((etN es n ++ wdOf (edAt es n).k) ++ ⟨#[32]⟩) ++ edL (edAt es n)) ++ ⟨#[10]⟩ := by
  rw [etN_next]; simp only [ByteArray.append_assoc]
/-- The text of edits. -/
def etT (es : List Ed) : ByteArray := if edsC es = 0 then etN es es.length else ByteArray.empty
theorem edsC_inv {es : List Ed} (h : edsC es = 0) : edTil es es.length = true ∧ es.length ≤ 200 := by
  unfold edsC at h
  by_cases k : edTil es es.length = true
  · rw [if_pos k] at h
    by_cases l : es.length ≤ 200
    · exact ⟨k, l⟩
    · rw [if_neg l] at h; omega
  · rw [if_neg k] at h; omega
/-- A valid edit's parts. -/
theorem edOk_inv {x : Ed} (h : edOk x = true) : nameOk x.s = true ∧ ((x.k = 1 ∨ x.k = 2) ∧ maskOk x.b = true ∨ (x.k = 3 ∨ x.k = 4) ∧ 0 ≤ x.h ∧ x.h ≤ 95) := by
  by_cases h1 : x.k = 1 ∨ x.k = 2
  · rw [edOk_card h1] at h
    simp only [Bool.and_eq_true] at h
    exact ⟨h.1, .inl ⟨h1, h.2.2⟩⟩
  · by_cases h2 : x.k = 3 ∨ x.k = 4
    · rw [edOk_hole h2] at h
      simp only [Bool.and_eq_true, decide_eq_true_eq] at h
      exact ⟨h.1, .inr ⟨h2, h.2.1⟩⟩
    · rw [edOk_none (by omega)] at h; cases h
theorem one_all : ((List.range 96).all fun z : Nat => (hol (hasB (b0 (z : Int)) (b1 (z : Int))) 96 == [(z : Int)]) && (maskOk (b1 (z : Int)) && (decide (0 ≤ b0 (z : Int) ∧ b0 (z : Int) ≤ 18446744073709551615) && decide (0 ≤ b1 (z : Int) ∧ b1 (z : Int) ≤ 18446744073709551615)))) = true := by kernel_rfl
theorem one_hole {h : Int} (h0 : 0 ≤ h) (h1 : h ≤ 95) : hol (hasB (b0 h) (b1 h)) 96 = [h] ∧ maskOk (b1 h) = true ∧ U64 (b0 h) ∧ U64 (b1 h) := by
  obtain ⟨m, rfl⟩ := Int.eq_ofNat_of_zero_le h0
  have := List.all_eq_true.1 one_all m (List.mem_range.2 (by omega))
  simp only [Bool.and_eq_true, decide_eq_true_eq, beq_iff_eq] at this
  refine ⟨this.1, this.2.1, ?_, ?_⟩
  · unfold U64; omega
  · unfold U64; omega
/-- The mask of which an edit's card tells. -/
def ca (x : Ed) : Int := if x.k = 1 ∨ x.k = 2 then x.a else b0 x.h
def cb (x : Ed) : Int := if x.k = 1 ∨ x.k = 2 then x.b else b1 x.h
theorem cdT_ok {s : ByteArray} {a b : Int} (h : cardOk s b = true) : cdT s a b = cdN s (hol (hasB a b) 96) (hol (hasB a b) 96).length := if_pos h
theorem cdT_ed {x : Ed} (h : edOk x = true) : cdT x.s (ca x) (cb x) = edL x := by
  obtain ⟨hn, h2⟩ := edOk_inv h
  unfold edL ca cb
  rcases h2 with ⟨hk, hm⟩ | ⟨hk, h0, h1⟩
  · rw [if_pos hk, if_pos hk, if_pos hk]
  · have nk : ¬ (x.k = 1 ∨ x.k = 2) := by omega
    obtain ⟨e1, e2, _, _⟩ := one_hole h0 h1
    rw [if_neg nk, if_neg nk, if_neg nk, cdT_ok (by unfold cardOk; rw [hn, e2]; rfl), e1]
    rfl
theorem ca_u64 {x : Ed} (h : edOk x = true) (hf : x.fits) : U64 (ca x) ∧ U64 (cb x) := by
  obtain ⟨hn, h2⟩ := edOk_inv h
  unfold ca cb
  rcases h2 with ⟨hk, hm⟩ | ⟨hk, h0, h1⟩
  · rw [if_pos hk, if_pos hk]; exact ⟨hf.2.2.2.1, hf.2.2.2.2⟩
  · have nk : ¬ (x.k = 1 ∨ x.k = 2) := by omega
    rw [if_neg nk, if_neg nk]
    exact (one_hole h0 h1).2.2
theorem edL_size {x : Ed} (h : edOk x = true) : (edL x).size ≤ 304 := by
  obtain ⟨hn, h2⟩ := edOk_inv h
  have h3 := (nameOk_size hn).2
  unfold edL
  rcases h2 with ⟨hk, hm⟩ | ⟨hk, h0, h1⟩
  · rw [if_pos hk, cdT_ok (by unfold cardOk; rw [hn, hm]; rfl)]
    have h4 := cdN_size x.s (zs := hol (hasB x.a x.b) 96) (fun j hj => hol_atX hj) _ (Nat.le_refl _)
    have h5 := hol_len (hasB x.a x.b) 96
    omega
  · have h4 := dec2_le (n := x.h.toNat) (by omega)
    rw [if_neg (by omega), ByteArray.size_append, ByteArray.size_append]
    have e : (⟨#[32]⟩ : ByteArray).size = 1 := rfl
    omega
theorem etN_size {es : List Ed} (h : ∀ i, i < es.length → edOk (edAt es i) = true) : ∀ n, n ≤ es.length → (etN es n).size ≤ 320 * n
  | 0, _ => Nat.le_refl _
  | n + 1, hn => by
    have ih := etN_size h n (by omega)
    have h2 := edL_size (h n (by omega))
    have h3 := wdOf_size (edAt es n).k
    rw [etN_next, ByteArray.size_append, ByteArray.size_append, ByteArray.size_append, ByteArray.size_append]
    have e : (⟨#[10]⟩ : ByteArray).size = 1 := rfl
    have e2 : (⟨#[32]⟩ : ByteArray).size = 1 := rfl
    omega
theorem et_next {B : Nat} {w a b : World} (h : Below B w a) (hB : B ≤ w.heap.size) (k : Below a.heap.size a b) : Below B w b := h.trans (Below.mono k (Nat.le_trans hB h.size))
/-- The value of the card of which an edit tells. -/
def edCd (x : Ed) : Value := .agg #[.string x.s, .int .u64 (ca x), .int .u64 (cb x)]
end Go.Proofs.YtnbijfeidgddmaaGreatDoor

namespace Go.Proofs.YtnbijfeidgddmaaGreatDoor
open Go.ChangeShapes Go.WideShapes Go.ChangeAt Go.RowKit

/-- The kind for which a word stands. -/
def kindO (w : ByteArray) : Int := if w = wdOf 1 then 1 else if w = wdOf 2 then 2 else if w = wdOf 3 then 3 else if w = wdOf 4 then 4 else 0
theorem kindO_wd {k : Int} (h : k = 1 ∨ k = 2 ∨ k = 3 ∨ k = 4) : kindO (wdOf k) = k := by
  rcases h with rfl | rfl | rfl | rfl <;> decide
theorem kindO_inv {w : ByteArray} (h : kindO w ≠ 0) : (kindO w = 1 ∨ kindO w = 2 ∨ kindO w = 3 ∨ kindO w = 4) ∧ w = wdOf (kindO w) := by
  unfold kindO at h ⊢
  by_cases h1 : w = wdOf 1
  · rw [if_pos h1]; exact ⟨.inl rfl, h1⟩
  · rw [if_neg h1] at h ⊢
    by_cases h2 : w = wdOf 2
    · rw [if_pos h2]; exact ⟨.inr (.inl rfl), h2⟩
    · rw [if_neg h2] at h ⊢
      by_cases h3 : w = wdOf 3
      · rw [if_pos h3]; exact ⟨.inr (.inr (.inl rfl)), h3⟩
      · rw [if_neg h3] at h ⊢
        by_cases h4 : w = wdOf 4
        · rw [if_pos h4]; exact ⟨.inr (.inr (.inr rfl)), h4⟩
        · rw [if_neg h4] at h; exact absurd rfl h
/-- What stands behind the first blank. -/
def restB (line w : ByteArray) : ByteArray := line.extract (w.size + 1) line.size
theorem drop_word (a b : List UInt8) : (a ++ 32 :: b).drop (a.length + 1) = b := by
  rw [show a ++ 32 :: b = (a ++ [32]) ++ b by simp, List.drop_left' (by simp)]
theorem line_split {line w x : ByteArray} {r : List ByteArray} (hp : pieces 32 line = w :: x :: r) : line.data.toList = w.data.toList ++ 32 :: (restB line w).data.toList ∧ (restB line w).data.toList = joinC 32 ((x :: r).map fun p => p.data.toList) := by
  have h := pieces_join 32 line
  rw [hp, List.map_cons, joinC_cons 32 _ (by simp)] at h
  have e : (restB line w).data.toList = joinC 32 ((x :: r).map fun p => p.data.toList) := by
    unfold restB
    rw [Lib.extract_to_end, h, Lib.size_eq w, drop_word]
  exact ⟨by rw [e]; exact h, e⟩
theorem pieces_split {line w L : ByteArray} (h : line.data.toList = w.data.toList ++ 32 :: L.data.toList) (hw : (32 : UInt8) ∉ w.data.toList) : pieces 32 line = w :: pieces 32 L ∧ restB line w = L := by
  constructor
  · unfold pieces
    rw [h, spl_app _ _ _ hw, List.nil_append, List.map_cons, mkS_data]
  · apply data_inj
    unfold restB
    rw [Lib.extract_to_end, h, Lib.size_eq w, drop_word]
def edBy (k : Int) (nm : ByteArray) (a b : Int) : Option Ed := if k = 1 ∨ k = 2 then some ⟨k, nm, 0, a, b⟩ else if k = 3 ∨ k = 4 then (match hol (hasB a b) 96 with
  | [h] => some ⟨k, nm, h, 0, 0⟩
  | _ => none) else none
/-- The program's way. -/
def reI (line : ByteArray) : Option Ed := match pieces 32 line with
  | w :: _ :: _ => match rcG fI (restB line w) with
    | none => none
    | some (nm, a, b) => edBy (kindO w) nm a b
  | _ => none
/-- The model's way. -/
def reS (line : ByteArray) : Option Ed := match pieces 32 line with
  | w :: x :: r => if kindO w = 1 ∨ kindO w = 2 then (match rcG fS (restB line w) with
      | none => none
      | some (nm, a, b) => some ⟨kindO w, nm, 0, a, b⟩) else if kindO w = 3 ∨ kindO w = 4 then (match r with
      | [y] => match fS y with
        | some n => if nameOk x = true then some ⟨kindO w, x, n, 0, 0⟩ else none
        | none => none
      | _ => none) else none
  | _ => none
def EdP (e : Ed) (line : ByteArray) : Prop := edOk e = true ∧ U64 e.a ∧ U64 e.b ∧ line.data.toList = (wdOf e.k).data.toList ++ 32 :: (edL e).data.toList
theorem wd_free (k : Int) (h : k = 1 ∨ k = 2 ∨ k = 3 ∨ k = 4) : (32 : UInt8) ∉ (wdOf k).data.toList := by
  rcases h with rfl | rfl | rfl | rfl <;> decide
theorem u64_zero : U64 0 := by unfold U64; omega
theorem card_mask {nm : ByteArray} {b : Int} (h : cardOk nm b = true) : nameOk nm = true ∧ maskOk b = true := by
  unfold cardOk at h
  rwa [Bool.and_eq_true] at h
theorem reI_some {line : ByteArray} {e : Ed} (h : reI line = some e) : EdP e line := by
  unfold reI at h
  split at h
  · rename_i w x r hp
    obtain ⟨hl, _⟩ := line_split hp
    split at h
    · cases h
    · rename_i nm a b hc
      obtain ⟨hk, ht, ua, ub⟩ := rcG_some hc
      obtain ⟨hn, hm⟩ := card_mask hk
      unfold edBy at h
      by_cases h1 : kindO w = 1 ∨ kindO w = 2
      · rw [if_pos h1] at h
        have h := Option.some.inj h
        subst h
        have hw := (kindO_inv (w := w) (by omega)).2
        refine ⟨by rw [edOk_card h1]; simp [hn, hm], ua, ub, ?_⟩
        unfold edL
        rw [if_pos h1, ht]
        show _ = (wdOf (kindO w)).data.toList ++ _
        rw [← hw]
        exact hl
      · rw [if_neg h1] at h
        by_cases h2 : kindO w = 3 ∨ kindO w = 4
        · rw [if_pos h2] at h
          split at h
          · rename_i z hz
            have h := Option.some.inj h
            subst h
            have hw := (kindO_inv (w := w) (by omega)).2
            have z01 := hol_in96 (hasB a b) z (by rw [hz]; simp)
            refine ⟨by rw [edOk_hole h2]; simp [hn, z01.1, z01.2], u64_zero, u64_zero, ?_⟩
            unfold edL
            rw [if_neg h1]
            show _ = (wdOf (kindO w)).data.toList ++ _
            rw [← hw, hl, ← ht, cdT_ok hk, hz]
            rfl
          · cases h
        · rw [if_neg h2] at h; cases h
  · cases h
theorem ed_kind {e : Ed} (h : edOk e = true) : e.k = 1 ∨ e.k = 2 ∨ e.k = 3 ∨ e.k = 4 := by
  rcases (edOk_inv h).2 with ⟨h, _⟩ | ⟨h, _⟩
  · omega
  · omega
theorem ed_cards {e : Ed} (h : edOk e = true) (ha : U64 e.a) (hb : U64 e.b) : cardOk e.s (cb e) = true ∧ U64 (ca e) ∧ U64 (cb e) := by
  obtain ⟨hn, h2⟩ := edOk_inv h
  unfold ca cb
  rcases h2 with ⟨hk, hm⟩ | ⟨hk, h0, h1⟩
  · rw [if_pos hk, if_pos hk]
    exact ⟨by unfold cardOk; rw [hn, hm]; rfl, ha, hb⟩
  · have nk : ¬ (e.k = 1 ∨ e.k = 2) := by omega
    obtain ⟨_, e2, e3, e4⟩ := one_hole h0 h1
    rw [if_neg nk, if_neg nk]
    exact ⟨by unfold cardOk; rw [hn, e2]; rfl, e3, e4⟩
theorem ed_eta {e : Ed} {k : Int} {s : ByteArray} {h a b : Int} (h1 : e.k = k) (h2 : e.s = s) (h3 : e.h = h) (h4 : e.a = a) (h5 : e.b = b) : Ed.mk k s h a b = e := by
  subst h1; subst h2; subst h3; subst h4; subst h5; rfl
theorem edL_pieces (e : Ed) : ∃ x r, pieces 32 (edL e) = x :: r := by
  cases h : pieces 32 (edL e) with
  | nil => exact absurd h (pieces_ne 32 _)
  | cons x r => exact ⟨x, r, rfl⟩
theorem reI_hit {line : ByteArray} {e : Ed} (h : EdP e line) : reI line = some e := by
  obtain ⟨hk, ha, hb, hl⟩ := h
  have kk := ed_kind hk
  obtain ⟨hp, hr⟩ := pieces_split hl (wd_free _ kk)
  obtain ⟨x, r, hx⟩ := edL_pieces e
  obtain ⟨c1, c2, c3⟩ := ed_cards hk ha hb
  have hc := rcG_hit fI_ok c1 c2 c3
  rw [cdT_ed hk] at hc
  unfold reI
  rw [hp, hx]
  simp only [hr, hc]
  unfold edBy
  rw [kindO_wd kk]
  by_cases h1 : e.k = 1 ∨ e.k = 2
  · rw [if_pos h1]
    have hz : e.h = 0 := by rw [edOk_card h1] at hk; simp only [Bool.and_eq_true, beq_iff_eq] at hk; exact hk.2.1
    unfold ca cb
    rw [if_pos h1, if_pos h1, ed_eta rfl rfl hz rfl rfl]
  · rw [if_neg h1, if_pos (by omega)]
    have h2 : e.k = 3 ∨ e.k = 4 := by omega
    have hz : (0 ≤ e.h ∧ e.h ≤ 95) ∧ e.a = 0 ∧ e.b = 0 := by rw [edOk_hole h2] at hk; simp only [Bool.and_eq_true, beq_iff_eq, decide_eq_true_eq] at hk; exact hk.2
    have e1 := (one_hole hz.1.1 hz.1.2).1
    unfold ca cb
    rw [if_neg h1, if_neg h1, e1]
    simp only
    rw [ed_eta rfl rfl rfl hz.2.1 hz.2.2]
theorem fS_inv {y : ByteArray} {n : Int} (h : fS y = some n) : 0 ≤ n ∧ n ≤ 95 ∧ y = dec2 n.toNat := by
  unfold fS at h
  split at h
  · rename_i m hm
    split at h
    · rename_i hle
      have h := Option.some.inj h
      subst h
      exact ⟨by omega, by omega, by rw [Int.toNat_natCast]; exact dec2_of hm (by omega)⟩
    · cases h
  · cases h
theorem reS_some {line : ByteArray} {e : Ed} (h : reS line = some e) : EdP e line := by
  unfold reS at h
  split at h
  · rename_i w x r hp
    obtain ⟨hl, hj⟩ := line_split hp
    by_cases h1 : kindO w = 1 ∨ kindO w = 2
    · rw [if_pos h1] at h
      split at h
      · cases h
      · rename_i nm a b hc
        obtain ⟨hk, ht, ua, ub⟩ := rcG_some hc
        obtain ⟨hn, hm⟩ := card_mask hk
        have h := Option.some.inj h
        subst h
        have hw := (kindO_inv (w := w) (by omega)).2
        refine ⟨by rw [edOk_card h1]; simp [hn, hm], ua, ub, ?_⟩
        unfold edL
        rw [if_pos h1, ht]
        show _ = (wdOf (kindO w)).data.toList ++ _
        rw [← hw]
        exact hl
    · rw [if_neg h1] at h
      by_cases h2 : kindO w = 3 ∨ kindO w = 4
      · rw [if_pos h2] at h
        split at h
        · split at h
          · rename_i y n hy
            split at h
            · rename_i hn
              have h := Option.some.inj h
              subst h
              obtain ⟨n0, n1, rfl⟩ := fS_inv hy
              have hw := (kindO_inv (w := w) (by omega)).2
              refine ⟨by rw [edOk_hole h2]; simp [hn, n0, n1], u64_zero, u64_zero, ?_⟩
              unfold edL
              rw [if_neg h1]
              show _ = (wdOf (kindO w)).data.toList ++ _
              rw [← hw, hl, hj]
              simp [joinC]
            · cases h
          · cases h
        · cases h
      · rw [if_neg h2] at h; cases h
  · cases h
theorem reS_hit {line : ByteArray} {e : Ed} (h : EdP e line) : reS line = some e := by
  obtain ⟨hk, ha, hb, hl⟩ := h
  have kk := ed_kind hk
  obtain ⟨hp, hr⟩ := pieces_split hl (wd_free _ kk)
  by_cases h1 : e.k = 1 ∨ e.k = 2
  · obtain ⟨x, r, hx⟩ := edL_pieces e
    obtain ⟨c1, c2, c3⟩ := ed_cards hk ha hb
    have hc := rcG_hit fS_ok c1 c2 c3
    rw [cdT_ed hk] at hc
    unfold reS
    rw [hp, hx]
    simp only [kindO_wd kk, if_pos h1, hr, hc]
    have hz : e.h = 0 := by rw [edOk_card h1] at hk; simp only [Bool.and_eq_true, beq_iff_eq] at hk; exact hk.2.1
    unfold ca cb
    rw [if_pos h1, if_pos h1, ed_eta rfl rfl hz rfl rfl]
  · have h2 : e.k = 3 ∨ e.k = 4 := by omega
    have hz : nameOk e.s = true ∧ (0 ≤ e.h ∧ e.h ≤ 95) ∧ e.a = 0 ∧ e.b = 0 := by rw [edOk_hole h2] at hk; simp only [Bool.and_eq_true, beq_iff_eq, decide_eq_true_eq] at hk; exact hk
    have hx : pieces 32 (edL e) = [e.s, dec2 e.h.toNat] := pieces_of (by unfold edL; rw [if_neg h1]; simp [joinC]) (by simp) (fun p hp => by
      simp only [List.mem_cons, List.not_mem_nil, or_false] at hp
      rcases hp with rfl | rfl
      · exact name_free hz.1
      · exact dec_free (by omega))
    unfold reS
    rw [hp, hx]
    have hf := fS_ok e.h.toNat (by omega)
    simp only [kindO_wd kk, if_neg h1, if_pos h2, hf, if_pos hz.1]
    rw [ed_eta rfl rfl (by omega) hz.2.2.1 hz.2.2.2]
theorem re_same (line : ByteArray) : reI line = reS line := by
  cases hI : reI line with
  | some e => rw [reS_hit (reI_some hI)]
  | none =>
    cases hS : reS line with
    | none => rfl
    | some e => rw [reI_hit (reS_some hS)] at hI; cases hI

/-! ### The lines -/
def rdM (g : ByteArray → Option Ed) : List ByteArray → Option (List Ed)
  | [] => some []
  | t :: r => match g t with
    | none => none
    | some c => match rdM g r with
      | none => none
      | some ds => some (c :: ds)
theorem rdM_snoc {g : ByteArray → Option Ed} : ∀ {ts : List ByteArray} {ds : List Ed} {x : ByteArray} {c : Ed}, rdM g ts = some ds → g x = some c → rdM g (ts ++ [x]) = some (ds ++ [c])
  | [], ds, x, c, h, hx => by
    rw [rdM] at h
    rw [← Option.some.inj h]
    show rdM g [x] = _
    rw [rdM, hx]; rfl
  | t :: r, ds, x, c, h, hx => by
    rw [rdM] at h
    cases ht : g t with
    | none => rw [ht] at h; cases h
    | some c' =>
      rw [ht] at h
      cases hr : rdM g r with
      | none => rw [hr] at h; cases h
      | some ds' =>
        rw [hr] at h
        have h := Option.some.inj h
        rw [List.cons_append, rdM, ht]
        simp only [rdM_snoc hr hx]
        rw [← h]; rfl
theorem rdM_bad {g : ByteArray → Option Ed} : ∀ {ts : List ByteArray} {x : ByteArray}, g x = none → ∀ r, rdM g (ts ++ x :: r) = none
  | [], x, hx, r => by
    show rdM g (x :: r) = none
    rw [rdM, hx]
  | t :: ts, x, hx, r => by
    rw [List.cons_append, rdM, rdM_bad hx r]
    cases g t <;> rfl
theorem rdM_none_app {g : ByteArray → Option Ed} : ∀ {ts : List ByteArray}, rdM g ts = none → ∀ r, rdM g (ts ++ r) = none
  | [], h, _ => by rw [rdM] at h; cases h
  | t :: ts, h, r => by
    rw [rdM] at h
    rw [List.cons_append, rdM]
    cases ht : g t with
    | none => rfl
    | some c =>
      rw [ht] at h
      cases hr : rdM g ts with
      | none => simp only [rdM_none_app hr r]
      | some ds => rw [hr] at h; cases h
theorem rdM_len {g : ByteArray → Option Ed} : ∀ {ts : List ByteArray} {ds : List Ed}, rdM g ts = some ds → ds.length = ts.length
  | [], ds, h => by rw [rdM] at h; rw [← Option.some.inj h]; rfl
  | t :: r, ds, h => by
    rw [rdM] at h
    cases ht : g t with
    | none => rw [ht] at h; cases h
    | some c =>
      rw [ht] at h
      cases hr : rdM g r with
      | none => rw [hr] at h; cases h
      | some ds' => rw [hr] at h; rw [← Option.some.inj h, List.length_cons, List.length_cons, rdM_len hr]
theorem rdM_at {g : ByteArray → Option Ed} : ∀ {ts : List ByteArray} {ds : List Ed}, rdM g ts = some ds → ∀ i, i < ds.length → g (ts.getD i ByteArray.empty) = some (edAt ds i)
  | [], ds, h, i, hi => by rw [rdM] at h; rw [← Option.some.inj h] at hi; exact absurd hi (Nat.not_lt_zero _)
  | t :: r, ds, h, i, hi => by
    rw [rdM] at h
    cases ht : g t with
    | none => rw [ht] at h; cases h
    | some c =>
      rw [ht] at h
      cases hr : rdM g r with
      | none => rw [hr] at h; cases h
      | some ds' =>
        rw [hr] at h
        have h := Option.some.inj h
        subst h
        cases i with
        | zero => exact ht
        | succ i => exact rdM_at hr i (by simpa using hi)
theorem rdM_same (ts : List ByteArray) : rdM reI ts = rdM reS ts := by
  induction ts with
  | nil => rfl
  | cons t r ih => rw [rdM, rdM, re_same, ih]
theorem rdM_ok {ts : List ByteArray} {ds : List Ed} (h : rdM reI ts = some ds) {i : Nat} (hi : i < ds.length) : edOk (edAt ds i) = true := (reI_some (rdM_at h i hi)).1
theorem edTil_all {ds : List Ed} : ∀ n, (∀ i, i < n → edOk (edAt ds i) = true) → edTil ds n = true
  | 0, _ => rfl
  | n + 1, h => by
    rw [edTil, edTil_all n (fun i hi => h i (by omega)), h n (by omega)]; rfl
theorem etN_join {ds : List Ed} {ts : List ByteArray} (h : rdM reI ts = some ds) : ∀ n, n ≤ ds.length → (etN ds n).data.toList = joinC 10 (((ts.take n).map fun p => p.data.toList) ++ [[]])
  | 0, _ => rfl
  | n + 1, hn => by
    have hl := rdM_len h
    have e : (ts.take (n + 1)).map (fun p => p.data.toList) = (ts.take n).map (fun p => p.data.toList) ++ [(ts.getD n ByteArray.empty).data.toList] := by
      rw [List.take_add_one, List.getElem?_eq_getElem (show n < ts.length by omega), List.map_append]
      simp [List.getD, show n < ts.length by omega]
    have hp := (reI_some (rdM_at h n (by omega))).2.2.2
    rw [etN_next, e, joinC_snoc 10 [] (by simp), joinC_last, ← etN_join h n (by omega), hp]
    simp
def rxI (s : ByteArray) : Option (List Ed) := match rdM reI (tl s) with
  | some ds => if etT ds = s then some ds else none
  | none => none
def rxS (s : ByteArray) : Option (List Ed) := if (pieces 10 s).getLast? = some ByteArray.empty ∧ (pieces 10 s).length - 1 ≤ 200 then rdM reS (pieces 10 s).dropLast else none
theorem rx_same (s : ByteArray) : rxI s = rxS s := by
  unfold rxI rxS
  rcases tl_pieces s with ⟨h1, h2⟩ | ⟨h1, h2⟩
  · have hl : (pieces 10 s).length - 1 = (tl s).length := by rw [h2]; simp
    have hd : (pieces 10 s).dropLast = tl s := by rw [h2, List.dropLast_concat]
    rw [hd, hl, ← rdM_same]
    cases hr : rdM reI (tl s) with
    | none => simp
    | some ds =>
      simp only
      have hn := rdM_len hr
      have ht := edTil_all ds.length fun i hi => rdM_ok hr hi
      by_cases h200 : (tl s).length ≤ 200
      · rw [if_pos (c := (pieces 10 s).getLast? = some ByteArray.empty ∧ (tl s).length ≤ 200) ⟨h1, h200⟩, if_pos]
        apply data_inj
        unfold etT
        rw [if_pos (edsC_0 ht (by omega)), etN_join hr _ (Nat.le_refl _), hn, List.take_length, pieces_join 10 s, h2, List.map_append]; rfl
      · rw [if_neg (c := (pieces 10 s).getLast? = some ByteArray.empty ∧ (tl s).length ≤ 200) (fun q => h200 q.2), if_neg]
        intro he
        unfold etT at he
        rw [edsC_3 ht (by omega), if_neg (by decide)] at he
        rw [← he] at h2
        have : (tl ByteArray.empty).length = 0 := rfl
        rw [← he, this] at h200
        omega
  · rw [if_neg (fun q => h1 q.1)]
    cases hr : rdM reI (tl s) with
    | none => rfl
    | some ds =>
      simp only
      refine if_neg ?_
      intro he
      have ht := edTil_all ds.length fun i hi => rdM_ok hr hi
      unfold etT at he
      by_cases h200 : ds.length ≤ 200
      · rw [if_pos (edsC_0 ht h200)] at he
        have hj := etN_join hr _ (Nat.le_refl _)
        rw [rdM_len hr, List.take_length, ← rdM_len hr, he] at hj
        have hp := pieces_of (c := 10) (s := s) (ps := tl s ++ [ByteArray.empty]) (by rw [hj, List.map_append]; rfl) (by simp) (fun p hp => by
          rcases List.mem_append.1 hp with hp | hp
          · rw [← h2] at hp; exact pieces_free hp
          · rw [List.mem_singleton.1 hp]; exact fun q => by cases q)
        have := congrArg List.length (h2.symm.trans hp)
        simp at this
      · rw [edsC_3 ht h200, if_neg (by decide)] at he
        rw [← he] at h1
        exact h1 (by decide)
theorem rxI_prefix {s : ByteArray} {pre : List ByteArray} (hp : pre <+: lns s) (h : rdM reI (pre.map trimB) = none) : rxI s = none := by
  obtain ⟨r, hr⟩ := hp
  unfold rxI tl
  rw [← hr, List.map_append, rdM_none_app h]
end Go.Proofs.YtnbijfeidgddmaaGreatDoor

namespace Go.Proofs.YtnbijfeidgddmaaGreatDoor
open Go.ChangeShapes Go.WideShapes Go.ChangeAt Go.RowKit

set_option maxRecDepth 100000 in
set_option maxHeartbeats 1600000 in
theorem iEdCard_c (k : Int) (hk : k = 1 ∨ k = 2) (s : ByteArray) (h a b : Int) (w : World) :
    Calls Tryz.prog 60 #[.agg #[.int .i8 k, .string s, .int .i16 h, .int .u64 a, .int .u64 b]] w fun e w' => e = .returned (.agg #[.string s, .int .u64 a, .int .u64 b]) ∧ Below w.heap.size w w' := by
  have O : Hid (∀ W, Calls Tryz.prog 53 #[.agg #[.int .i8 k, .string s, .int .i16 h, .int .u64 a, .int .u64 b]] W fun e w' => e = .returned (.bool false) ∧ Below W.heap.size W w') := by
    rcases hk with rfl | rfl
    · exact Lib.hid fun W => iOfHole_1 s h a b W
    · exact Lib.hid fun W => iOfHole_2 s h a b W
  have HB := Lib.hid (block_alloc2 w (.cells #[.int .i8 k, .string s, .int .i16 h, .int .u64 a, .int .u64 b] 53) (.cells #[.string ByteArray.empty, .int .u64 0, .int .u64 0] 80))
  clear hk
  go_enter Tryz.func60, Tryz.ntmps60
  go_wp2_with (go_at_call 53; refine (O.out _).mono ?_; rintro e w1 ⟨rfl, hB⟩; have B0 := Ab.block hB HB.out.1; have B1 := Ab.block hB HB.out.2; have c0 := cell_of_block B0; have c1 := cell_of_block B1; have g1 := free_of_block B1; have k3 : Below w.heap.size w w1 := (below_new (below_new (Below.refl _ _) _) _).trans (Below.mono hB (by simp; omega)); clear hB B0 B1)
  refine bodyPost_ret (by simp [results, Tryz.results60, go_sem, c1]; try rfl) rfl ?_
  exact ⟨rfl, ((k3.setCell (by simp <;> omega) _).setCell (by simp <;> omega) _).setCell (by simp <;> omega) _⟩

set_option maxRecDepth 100000 in
set_option maxHeartbeats 1600000 in
theorem iEdCard_h (k : Int) (hk : k = 3 ∨ k = 4) (s : ByteArray) (h a b : Int) (h0 : 0 ≤ h) (h1 : h ≤ 95) (w : World) :
    Calls Tryz.prog 60 #[.agg #[.int .i8 k, .string s, .int .i16 h, .int .u64 a, .int .u64 b]] w fun e w' => e = .returned (.agg #[.string s, .int .u64 (b0 h), .int .u64 (b1 h)]) ∧ Below w.heap.size w w' := by
  have O : Hid (∀ W, Calls Tryz.prog 53 #[.agg #[.int .i8 k, .string s, .int .i16 h, .int .u64 a, .int .u64 b]] W fun e w' => e = .returned (.bool true) ∧ Below W.heap.size W w') := by
    rcases hk with rfl | rfl
    · exact Lib.hid fun W => iOfHole_3 s h a b W
    · exact Lib.hid fun W => iOfHole_4 s h a b W
  have HB := Lib.hid (block_alloc2 w (.cells #[.int .i8 k, .string s, .int .i16 h, .int .u64 a, .int .u64 b] 53) (.cells #[.string ByteArray.empty, .int .u64 0, .int .u64 0] 80))
  have M := Lib.hid fun W => iOne_any h h0 h1 W
  have x1 : IntKind.i64.wrap h = h := IntWalk.i64_in _ (by omega)
  generalize b0 h = p at *
  generalize b1 h = q at *
  have hbw := cell_bw
  clear hk h0 h1
  go_enter Tryz.func60, Tryz.ntmps60
  go_upto_region 2 with (go_at_call 53; refine (O.out _).mono ?_; rintro e w1 ⟨rfl, hB⟩; have B0 := Lib.hid (Ab.block hB HB.out.1); have B1 := Lib.hid (Ab.block hB HB.out.2); have k3 : Below w.heap.size w w1 := (below_new (below_new (Below.refl _ _) _) _).trans (Below.mono hB (by simp; omega)); clear hB)
  refine wp_region_last 7 (by kernel_rfl) rfl rfl (by kernel_rfl) (by kernel_rfl) rfl ?_
  simp only [List.take_succ_cons, List.take_zero]
  intro w3 h3
  have c0 := cell_of_block (h3.block B0.out)
  have z0 := lt_of_block (h3.block B0.out)
  repeat (go_big_quiet_step (first | (go_at_call 83; exact calls_bw (M.out _))))
  refine wpQuiet_nil ?_
  intro w4 h4
  have E1 := h4.block B1.out
  have l3 : Below w.heap.size w w4 := k3.trans (Below.mono h4 k3.size)
  have f1 := cell_of_block E1
  have g1 := free_of_block E1
  clear c0 z0 h4 h3 E1
  go_simp
  simp only [Yld]
  go_wp2
  refine bodyPost_ret (by simp [results, Tryz.results60, go_sem, f1]; try rfl) rfl ?_
  exact ⟨rfl, ((l3.setCell (by simp <;> omega) _).setCell (by simp <;> omega) _).setCell (by simp <;> omega) _⟩

theorem iEdCard_any (x : Ed) (hok : edOk x = true) (w : World) :
    Calls Tryz.prog 60 #[.agg #[.int .i8 x.k, .string x.s, .int .i16 x.h, .int .u64 x.a, .int .u64 x.b]] w fun e w' => e = .returned (.agg #[.string x.s, .int .u64 (ca x), .int .u64 (cb x)]) ∧ Below w.heap.size w w' := by
  obtain ⟨_, h2⟩ := edOk_inv hok
  unfold ca cb
  rcases h2 with ⟨hk, _⟩ | ⟨hk, h0, h1⟩
  · rw [if_pos hk, if_pos hk]
    exact iEdCard_c x.k hk x.s x.h x.a x.b w
  · rw [if_neg (by omega), if_neg (by omega)]
    exact iEdCard_h x.k hk x.s x.h x.a x.b h0 h1 w
theorem ed_neq : 53 ≠ 5 := by decide
theorem edK {x : Ed} (h : edOk x = true) : 1 ≤ x.k ∧ x.k ≤ 4 := by
  rcases (edOk_inv h).2 with ⟨k, _⟩ | ⟨k, _⟩ <;> omega
theorem ew_g : Tryz.prog.globalNamed "loop.example/g01261/impl.editWords" = some 1 := by kernel_rfl
/-- What a walk reads at a kind's place of the table. -/
theorem ew_cell {W : World} (h : TxIs Tryz.prog W "loop.example/g01261/impl.editWords" edWd) {k : Int} (h0 : 1 ≤ k) (h1 : k ≤ 4) : W.cell? ⟨1, k.toNat, none⟩ = some (.string (wdOf k)) :=
  tx_cell h ew_g k.toNat (by show k.toNat < 5; omega)
end Go.Proofs.YtnbijfeidgddmaaGreatDoor

namespace Go.Proofs.YtnbijfeidgddmaaGreatDoor
open Go.ChangeShapes Go.WideShapes Go.ChangeAt Go.RowKit

theorem liteCut_none (s : ByteArray) (h : (32 : UInt8) ∉ s.data.toList) (w : World) :
    Calls Tryz.prog 81 #[.string s, .string ⟨#[32]⟩] w fun e w' => e = .returned (.tuple #[.string s, .string ⟨#[]⟩, .bool false]) ∧ Below w.heap.size w w' := by
  have V := Lib.hid fun W => Any.stringslite_Index_one { Tryz.lays143 with } s 32 W
  rcases ib_spec s.data.toList 32 with ⟨hi, hn⟩ | ⟨k, hi, hk, hg, hn⟩
  · rw [hi] at V
    clear h
    go_enter Tryz.func81, Tryz.ntmps81
    go_wp2_with (go_at_call 107; refine (V.out _).mono ?_; rintro e w1 ⟨rfl, rfl⟩)
    go_returns
    exact ⟨rfl, Below.refl _ _⟩
  · exact absurd (List.mem_of_getElem? hg) h
theorem liteCut_some (s : ByteArray) (k : Nat) (hi : Lib.indexByte s.data.toList 32 = (k : Int)) (hk : k < s.size) (hs : s.size ≤ 1048576) (w : World) :
    Calls Tryz.prog 81 #[.string s, .string ⟨#[32]⟩] w fun e w' => e = .returned (.tuple #[.string (s.extract 0 k), .string (s.extract (k + 1) s.size), .bool true]) ∧ Below w.heap.size w w' := by
  have V := Lib.hid fun W => Any.stringslite_Index_one { Tryz.lays143 with } s 32 W
  rw [hi] at V
  have kn : decide ((0 : Int) ≤ (k : Int)) = true := by simp
  have kw1 : IntKind.i64.wrap ((k : Int) + 1) = ((k + 1 : Nat) : Int) := by rw [Int.natCast_succ]; exact IntWalk.i64_in _ (by omega)
  have sz1 : (ByteArray.mk #[32]).size = 1 := rfl
  have hbw := cell_bw
  clear hi
  go_enter Tryz.func81, Tryz.ntmps81
  go_wp2_with (go_at_call 107; refine (V.out _).mono ?_; rintro e w1 ⟨rfl, rfl⟩)
  refine region_bw (by kernel_rfl) (by kernel_rfl) ?_
  repeat (go_big_quiet_step (fail))
  refine wpQuiet_nil ?_; intro wq hq; replace hq := below_of_bw hq; obtain ⟨qc, qf, qz⟩ := bcell hq
  go_wp2
  go_returns
  exact ⟨rfl, (by repeat' (first | (with_reducible exact Below.refl _ _) | (with_reducible assumption) | (with_reducible refine below_drewN ?_ _) | (with_reducible refine Below.drew ?_) | (with_reducible refine below_new ?_ _) | (with_reducible refine below_next ?_ (by with_reducible assumption)) | (with_reducible refine Below.setCell ?_ ?_ _) | go_size))⟩
theorem cut_none {line w : ByteArray} (hp : pieces 32 line = [w]) (W : World) :
    Calls Tryz.prog 50 #[.string line, .string ⟨#[32]⟩] W fun e w' => (∃ x, e = .returned (.tuple #[.string x, .string ⟨#[]⟩, .bool false])) ∧ Below W.heap.size W w' := by
  have hn : (32 : UInt8) ∉ line.data.toList := by
    have h := pieces_join 32 line
    rw [hp] at h
    have h2 : line = w := data_inj h
    rw [h2]
    exact pieces_free (s := line) (by rw [hp]; simp)
  have V := Lib.hid fun W => liteCut_none line hn W
  clear hn hp
  go_enter Tryz.func50, Tryz.ntmps50
  go_wp2_with (go_at_call 81; refine (V.out _).mono ?_; rintro e w1 ⟨rfl, hB⟩; have BB := Lib.hid hB; clear hB)
  go_returns
  exact ⟨⟨_, rfl⟩, BB.out⟩
theorem cut_some {line w x : ByteArray} {r : List ByteArray} (hp : pieces 32 line = w :: x :: r) (hs : line.size ≤ 1048576) (W : World) :
    Calls Tryz.prog 50 #[.string line, .string ⟨#[32]⟩] W fun e w' => e = .returned (.tuple #[.string w, .string (restB line w), .bool true]) ∧ Below W.heap.size W w' := by
  rcases ib_spec line.data.toList 32 with ⟨hi, hn⟩ | ⟨k, hi, hk, hg, hn⟩
  · rw [pieces_none hn] at hp
    simp at hp
  · have hk2 : k < line.size := by rw [Array.length_toList] at hk; exact hk
    have h := pieces_at hg hn
    rw [hp] at h
    have hw : w = line.extract 0 k := (List.cons.inj h).1
    have hwz : w.size = k := by rw [hw]; simp; omega
    have V := fun W => liteCut_some line k hi hk2 hs W
    rw [← hw, show k + 1 = w.size + 1 by omega] at V
    have V := Lib.hid V
    clear hi hg hn h hw hwz hp hk hk2
    go_enter Tryz.func50, Tryz.ntmps50
    go_wp2_with (go_at_call 81; refine (V.out _).mono ?_; rintro e w1 ⟨rfl, hB⟩; have BB := Lib.hid hB; clear hB)
    go_returns
    exact ⟨rfl, BB.out⟩

/-! ### The kind of a word -/
theorem i8_inE (n : Int) (h : -128 ≤ n ∧ n ≤ 127) : IntKind.i8.wrap n = n := by
  unfold IntKind.wrap
  simp [IntKind.bits, IntKind.signed]
  omega
theorem str_beqE {x y : ByteArray} : (x.toList == y.toList) = decide (x = y) := by
  rw [Bool.eq_iff_iff, beq_iff_eq, decide_eq_true_eq, Lib.toList_data, Lib.toList_data]
  exact ⟨data_inj, fun h => by rw [h]⟩
set_option maxRecDepth 100000 in
set_option maxHeartbeats 1600000 in
theorem iKindOf_any (s : ByteArray) (w : World) (ht : TxIs Tryz.prog w "loop.example/g01261/impl.editWords" edWd) :
    Calls Tryz.prog 52 #[.string s] w fun e w' => e = .returned (.int .i8 (kindO s)) ∧ Below w.heap.size w w' := by
  have c1 := ew_cell ht (k := 1) (by decide) (by decide)
  have c2 := ew_cell ht (k := 2) (by decide) (by decide)
  have c3 := ew_cell ht (k := 3) (by decide) (by decide)
  have c4 := ew_cell ht (k := 4) (by decide) (by decide)
  have hg := World.block_lt_of_cell? _ _ c1
  have t1 : (1 : Int).toNat = 1 := rfl
  have t2 : (2 : Int).toNat = 2 := rfl
  have t3 : (3 : Int).toNat = 3 := rfl
  have t4 : (4 : Int).toNat = 4 := rfl
  rw [t1] at c1
  rw [t2] at c2
  rw [t3] at c3
  rw [t4] at c4
  clear ht t1 t2 t3 t4
  have K := Lib.hid (show kindO s = if wdOf 1 = s then 1 else if wdOf 2 = s then 2 else if wdOf 3 = s then 3 else if wdOf 4 = s then 4 else 0 from by unfold kindO; simp only [eq_comm])
  have e1 := str_beqE (x := wdOf 1) (y := s)
  have e2 := str_beqE (x := wdOf 2) (y := s)
  have e3 := str_beqE (x := wdOf 3) (y := s)
  have e4 := str_beqE (x := wdOf 4) (y := s)
  generalize wdOf 1 = x1 at *
  generalize wdOf 2 = x2 at *
  generalize wdOf 3 = x3 at *
  generalize wdOf 4 = x4 at *
  by_cases h1 : x1 = s
  · have KK := Lib.hid (show kindO s = 1 by rw [K.out, if_pos h1])
    rw [decide_eq_true h1] at e1
    clear K h1
    go_enter Tryz.func52, Tryz.ntmps52
    go_wp2
    refine wp_loop_rounds 5 ?_
    rw [rounds_succ]
    go_wp2
    go_returns
    exact ⟨by rw [KK.out]; rfl, (by repeat' (first | (with_reducible exact Below.refl _ _) | (with_reducible assumption) | (with_reducible refine below_drewN ?_ _) | (with_reducible refine Below.drew ?_) | (with_reducible refine below_new ?_ _) | (with_reducible refine below_next ?_ (by with_reducible assumption)) | (with_reducible refine Below.setCell ?_ ?_ _) | go_size))⟩
  · rw [decide_eq_false h1] at e1
    by_cases h2 : x2 = s
    · have KK := Lib.hid (show kindO s = 2 by rw [K.out, if_neg h1, if_pos h2])
      rw [decide_eq_true h2] at e2
      clear K h1 h2
      go_enter Tryz.func52, Tryz.ntmps52
      go_wp2
      refine wp_loop_rounds 5 ?_
      rw [rounds_succ]
      go_wp2
      rw [rounds_succ]
      go_wp2
      go_returns
      exact ⟨by rw [KK.out]; rfl, (by repeat' (first | (with_reducible exact Below.refl _ _) | (with_reducible assumption) | (with_reducible refine below_drewN ?_ _) | (with_reducible refine Below.drew ?_) | (with_reducible refine below_new ?_ _) | (with_reducible refine below_next ?_ (by with_reducible assumption)) | (with_reducible refine Below.setCell ?_ ?_ _) | go_size))⟩
    · rw [decide_eq_false h2] at e2
      by_cases h3 : x3 = s
      · have KK := Lib.hid (show kindO s = 3 by rw [K.out, if_neg h1, if_neg h2, if_pos h3])
        rw [decide_eq_true h3] at e3
        clear K h1 h2 h3
        go_enter Tryz.func52, Tryz.ntmps52
        go_wp2
        refine wp_loop_rounds 5 ?_
        rw [rounds_succ]
        go_wp2
        rw [rounds_succ]
        go_wp2
        rw [rounds_succ]
        go_wp2
        go_returns
        exact ⟨by rw [KK.out]; rfl, (by repeat' (first | (with_reducible exact Below.refl _ _) | (with_reducible assumption) | (with_reducible refine below_drewN ?_ _) | (with_reducible refine Below.drew ?_) | (with_reducible refine below_new ?_ _) | (with_reducible refine below_next ?_ (by with_reducible assumption)) | (with_reducible refine Below.setCell ?_ ?_ _) | go_size))⟩
      · rw [decide_eq_false h3] at e3
        by_cases h4 : x4 = s
        · have KK := Lib.hid (show kindO s = 4 by rw [K.out, if_neg h1, if_neg h2, if_neg h3, if_pos h4])
          rw [decide_eq_true h4] at e4
          clear K h1 h2 h3 h4
          go_enter Tryz.func52, Tryz.ntmps52
          go_wp2
          refine wp_loop_rounds 5 ?_
          rw [rounds_succ]
          go_wp2
          rw [rounds_succ]
          go_wp2
          rw [rounds_succ]
          go_wp2
          rw [rounds_succ]
          go_wp2
          go_returns
          exact ⟨by rw [KK.out]; rfl, (by repeat' (first | (with_reducible exact Below.refl _ _) | (with_reducible assumption) | (with_reducible refine below_drewN ?_ _) | (with_reducible refine Below.drew ?_) | (with_reducible refine below_new ?_ _) | (with_reducible refine below_next ?_ (by with_reducible assumption)) | (with_reducible refine Below.setCell ?_ ?_ _) | go_size))⟩
        · rw [decide_eq_false h4] at e4
          have KK := Lib.hid (show kindO s = 0 by rw [K.out, if_neg h1, if_neg h2, if_neg h3, if_neg h4])
          clear K h1 h2 h3 h4
          go_enter Tryz.func52, Tryz.ntmps52
          go_wp2
          refine wp_loop_rounds 5 ?_
          rw [rounds_succ]
          go_wp2
          rw [rounds_succ]
          go_wp2
          rw [rounds_succ]
          go_wp2
          rw [rounds_succ]
          go_wp2
          rw [rounds_succ]
          go_wp2
          go_returns
          exact ⟨by rw [KK.out]; rfl, (by repeat' (first | (with_reducible exact Below.refl _ _) | (with_reducible assumption) | (with_reducible refine below_drewN ?_ _) | (with_reducible refine Below.drew ?_) | (with_reducible refine below_new ?_ _) | (with_reducible refine below_next ?_ (by with_reducible assumption)) | (with_reducible refine Below.setCell ?_ ?_ _) | go_size))⟩
end Go.Proofs.YtnbijfeidgddmaaGreatDoor

namespace Go.Proofs.YtnbijfeidgddmaaGreatDoor
open Go.ChangeShapes Go.WideShapes Go.ChangeAt Go.RowKit

/-- The kind of a field for which a word stands. -/
def kdO (s : ByteArray) : Option Int := if kwOf 0 = s then some 0 else if kwOf 1 = s then some 1 else if kwOf 2 = s then some 2 else if kwOf 3 = s then some 3 else none
theorem kdO_inv {s : ByteArray} {k : Int} (h : kdO s = some k) : (0 ≤ k ∧ k ≤ 3) ∧ kwOf k = s := by
  unfold kdO at h
  split at h
  · cases h; exact ⟨by decide, by assumption⟩
  · split at h
    · cases h; exact ⟨by decide, by assumption⟩
    · split at h
      · cases h; exact ⟨by decide, by assumption⟩
      · split at h
        · cases h; exact ⟨by decide, by assumption⟩
        · cases h
theorem kdO_kw {k : Int} (h0 : 0 ≤ k) (h3 : k ≤ 3) : kdO (kwOf k) = some k := by
  have h : k = 0 ∨ k = 1 ∨ k = 2 ∨ k = 3 := by omega
  rcases h with rfl | rfl | rfl | rfl <;> decide

set_option maxRecDepth 100000 in
set_option maxHeartbeats 1600000 in
theorem iKwOf_any (s : ByteArray) (w : World) (ht : TxIs Tryz.prog w "loop.example/g01261/impl.kindWords" kdWd) :
    Calls Tryz.prog 38 #[.string s] w fun e w' => e = .returned (.tuple #[.int .i8 ((kdO s).getD 0), .bool (kdO s).isSome]) ∧ Below w.heap.size w w' := by
  have c0 := kw_cell ht (k := 0) (by decide) (by decide)
  have c1 := kw_cell ht (k := 1) (by decide) (by decide)
  have c2 := kw_cell ht (k := 2) (by decide) (by decide)
  have c3 := kw_cell ht (k := 3) (by decide) (by decide)
  have hg := World.block_lt_of_cell? _ _ c0
  rw [show (0 : Int).toNat = 0 from rfl] at c0
  rw [show (1 : Int).toNat = 1 from rfl] at c1
  rw [show (2 : Int).toNat = 2 from rfl] at c2
  rw [show (3 : Int).toNat = 3 from rfl] at c3
  clear ht
  have K := Lib.hid (show kdO s = _ from rfl)
  have e0 := str_beqE (x := kwOf 0) (y := s)
  have e1 := str_beqE (x := kwOf 1) (y := s)
  have e2 := str_beqE (x := kwOf 2) (y := s)
  have e3 := str_beqE (x := kwOf 3) (y := s)
  have d0 := Lib.hid (show kdO s = if kwOf 0 = s then some 0 else if kwOf 1 = s then some 1 else if kwOf 2 = s then some 2 else if kwOf 3 = s then some 3 else none from rfl)
  clear K
  generalize kwOf 0 = x0 at *
  generalize kwOf 1 = x1 at *
  generalize kwOf 2 = x2 at *
  generalize kwOf 3 = x3 at *
  by_cases h0 : x0 = s
  · have KK := Lib.hid (show kdO s = some 0 by rw [d0.out, if_pos h0])
    rw [decide_eq_true h0] at e0
    clear d0 h0
    go_enter Tryz.func38, Tryz.ntmps38
    go_wp2
    refine wp_loop_rounds 5 ?_
    rw [rounds_succ]
    go_wp2
    go_returns
    exact ⟨by rw [KK.out]; rfl, (by repeat' (first | (with_reducible exact Below.refl _ _) | (with_reducible assumption) | (with_reducible refine below_drewN ?_ _) | (with_reducible refine Below.drew ?_) | (with_reducible refine below_new ?_ _) | (with_reducible refine below_next ?_ (by with_reducible assumption)) | (with_reducible refine Below.setCell ?_ ?_ _) | go_size))⟩
  · rw [decide_eq_false h0] at e0
    by_cases h1 : x1 = s
    · have KK := Lib.hid (show kdO s = some 1 by rw [d0.out, if_neg h0, if_pos h1])
      rw [decide_eq_true h1] at e1
      clear d0 h0 h1
      go_enter Tryz.func38, Tryz.ntmps38
      go_wp2
      refine wp_loop_rounds 5 ?_
      rw [rounds_succ]
      go_wp2
      rw [rounds_succ]
      go_wp2
      go_returns
      exact ⟨by rw [KK.out]; rfl, (by repeat' (first | (with_reducible exact Below.refl _ _) | (with_reducible assumption) | (with_reducible refine below_drewN ?_ _) | (with_reducible refine Below.drew ?_) | (with_reducible refine below_new ?_ _) | (with_reducible refine below_next ?_ (by with_reducible assumption)) | (with_reducible refine Below.setCell ?_ ?_ _) | go_size))⟩
    · rw [decide_eq_false h1] at e1
      by_cases h2 : x2 = s
      · have KK := Lib.hid (show kdO s = some 2 by rw [d0.out, if_neg h0, if_neg h1, if_pos h2])
        rw [decide_eq_true h2] at e2
        clear d0 h0 h1 h2
        go_enter Tryz.func38, Tryz.ntmps38
        go_wp2
        refine wp_loop_rounds 5 ?_
        rw [rounds_succ]
        go_wp2
        rw [rounds_succ]
        go_wp2
        rw [rounds_succ]
        go_wp2
        go_returns
        exact ⟨by rw [KK.out]; rfl, (by repeat' (first | (with_reducible exact Below.refl _ _) | (with_reducible assumption) | (with_reducible refine below_drewN ?_ _) | (with_reducible refine Below.drew ?_) | (with_reducible refine below_new ?_ _) | (with_reducible refine below_next ?_ (by with_reducible assumption)) | (with_reducible refine Below.setCell ?_ ?_ _) | go_size))⟩
      · rw [decide_eq_false h2] at e2
        by_cases h3 : x3 = s
        · have KK := Lib.hid (show kdO s = some 3 by rw [d0.out, if_neg h0, if_neg h1, if_neg h2, if_pos h3])
          rw [decide_eq_true h3] at e3
          clear d0 h0 h1 h2 h3
          go_enter Tryz.func38, Tryz.ntmps38
          go_wp2
          refine wp_loop_rounds 5 ?_
          rw [rounds_succ]
          go_wp2
          rw [rounds_succ]
          go_wp2
          rw [rounds_succ]
          go_wp2
          rw [rounds_succ]
          go_wp2
          go_returns
          exact ⟨by rw [KK.out]; rfl, (by repeat' (first | (with_reducible exact Below.refl _ _) | (with_reducible assumption) | (with_reducible refine below_drewN ?_ _) | (with_reducible refine Below.drew ?_) | (with_reducible refine below_new ?_ _) | (with_reducible refine below_next ?_ (by with_reducible assumption)) | (with_reducible refine Below.setCell ?_ ?_ _) | go_size))⟩
        · rw [decide_eq_false h3] at e3
          have KK := Lib.hid (show kdO s = none by rw [d0.out, if_neg h0, if_neg h1, if_neg h2, if_neg h3])
          clear d0 h0 h1 h2 h3
          go_enter Tryz.func38, Tryz.ntmps38
          go_wp2
          refine wp_loop_rounds 5 ?_
          rw [rounds_succ]
          go_wp2
          rw [rounds_succ]
          go_wp2
          rw [rounds_succ]
          go_wp2
          rw [rounds_succ]
          go_wp2
          rw [rounds_succ]
          go_wp2
          go_returns
          exact ⟨by rw [KK.out]; rfl, (by repeat' (first | (with_reducible exact Below.refl _ _) | (with_reducible assumption) | (with_reducible refine below_drewN ?_ _) | (with_reducible refine Below.drew ?_) | (with_reducible refine below_new ?_ _) | (with_reducible refine below_next ?_ (by with_reducible assumption)) | (with_reducible refine Below.setCell ?_ ?_ _) | go_size))⟩
end Go.Proofs.YtnbijfeidgddmaaGreatDoor
