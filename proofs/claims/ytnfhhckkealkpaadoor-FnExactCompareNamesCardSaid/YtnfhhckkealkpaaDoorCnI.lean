/- Contracts: CompareNames, the program's. -/
import Derived.Test.YtnfhhckkealkpaaDoorCnF
namespace Go.Proofs.YtnfhhckkealkpaaDoor
open Go.ChangeShapes Go.WideShapes Go.ChangeAt Go.RowKit

theorem ws_ok {s : ByteArray} (h : ename s = true) : WsOk (fw s) := fun i hi => by
  have := name_plain h ((fw s).getD i ByteArray.empty) (by simp [List.getD, hi])
  exact ⟨this.1, by omega⟩
theorem cnV_or (xs ys : List ByteArray) (o : Int) : orI (lc xs ys) o = cnV xs ys o := rfl

set_option maxRecDepth 100000 in
set_option maxHeartbeats 3200000 in
theorem iNames_any (a b : ByteArray) (ha : ename a = true) (hb : ename b = true) (w : World) :
    Calls Tryd.prog 26 #[.string a, .string b] w fun e w' => e = .returned (.int .i64 (cmpN a b)) ∧ Below w.heap.size w w' := by
  have sa : a.size ≤ 24 := by unfold ename at ha; rw [Bool.and_eq_true, decide_eq_true_eq] at ha; exact ha.1
  have sb : b.size ≤ 24 := by unfold ename at hb; rw [Bool.and_eq_true, decide_eq_true_eq] at hb; exact hb.1
  have WA := Lib.hid fun W => iWords_any a (by omega) W
  have WB := Lib.hid fun W => iWords_any b (by omega) W
  have na := Nat.le_trans (fw_len a) (pieces_len 32 a)
  have nb := Nat.le_trans (fw_len b) (pieces_len 32 b)
  have EA := fun aa ab c d W hx hy => iEach_any aa ab (fw a) (fw b) c d W hx hy (ws_ok ha) (ws_ok hb) (by omega) (by omega)
  have CS := Lib.hid fun W => cmpS_any a b W
  unfold cmpN
  generalize ordB a b = o at *
  rw [← cnV_or]
  generalize fw a = xs at *
  generalize fw b = ys at *
  generalize lc xs ys = p at *
  have K := Lib.hid fun g W h0 h1 => orI_any p o g W h0 h1
  generalize orI p o = r at *
  have EA := Lib.hid EA
  clear ha hb na nb sa sb
  have tok1 : True := trivial
  go_enter Tryd.func26, Tryd.ntmps26
  go_wp2_with (first
    | (go_at_call 45; have _t := tok1; clear _t tok1; refine (WA.out _).mono ?_; rintro e w1 ⟨a1, k1, rfl, hI, hB⟩; have B1 := Lib.hid hB; have I1 := Lib.hid hI; clear hB hI)
    | (go_at_call 45; refine (WB.out _).mono ?_; rintro e w2 ⟨a2, k2, rfl, hI, hB⟩; have B2 := Lib.hid (B1.out.trans (Below.mono hB B1.out.size)); have I2 := Lib.hid hI; have J2 := Lib.hid (strsIn_below I1.out hB); clear hB hI)
    | (go_at_call 44; refine (EA.out _ _ _ _ _ J2.out I2.out).mono ?_; rintro e w3 ⟨rfl, hB⟩; have B3 := Lib.hid (B2.out.trans (Below.mono hB B2.out.size)); clear hB)
    | (go_at_call 46; refine (CS.out _).mono ?_; rintro e w4 ⟨rfl, rfl⟩)
    | (go_at_call 43; refine (K.out _ _ (by simp) (by simp)).mono ?_; rintro e w5 ⟨rfl, rfl⟩))
  go_returns
  exact ⟨rfl, below_new B3.out _⟩

set_option maxHeartbeats 1600000 in
theorem iCompareNames_any (a b : ByteArray) (hna : a.size ≤ 1048576) (hnb : b.size ≤ 1048576) (w : World) :
    Calls Tryd.prog 8 #[.string a, .string b] w fun e w' => e = .returned (cnR a b) ∧ Below w.heap.size w w' := by
  have N1 := fun W => iEName_any a (by unfold maxLen; omega) W
  have N2 := fun W => iEName_any b (by unfold maxLen; omega) W
  have tok1 : True := trivial
  cases ha : ename a
  · rw [cnR_no (.inl ha)]
    rw [ha] at N1
    have N1 := Lib.hid N1
    clear ha N2
    go_enter Tryd.func8, Tryd.ntmps8
    go_wp2_with (go_at_call 25; refine (N1.out _).mono ?_; rintro e w1 ⟨rfl, hB⟩; have B1 := Lib.hid hB; clear hB)
    go_returns
    exact ⟨rfl, B1.out⟩
  · cases hb : ename b
    · rw [cnR_no (.inr hb)]
      rw [ha] at N1
      rw [hb] at N2
      have N1 := Lib.hid N1
      have N2 := Lib.hid N2
      clear ha hb
      go_enter Tryd.func8, Tryd.ntmps8
      go_wp2_with (first
        | (go_at_call 25; have _t := tok1; clear _t tok1; refine (N1.out _).mono ?_; rintro e w1 ⟨rfl, hB⟩; have B1 := Lib.hid hB; clear hB)
        | (go_at_call 25; refine (N2.out _).mono ?_; rintro e w2 ⟨rfl, hB⟩; have B2 := Lib.hid (B1.out.trans (Below.mono hB B1.out.size)); clear hB))
      go_returns
      exact ⟨rfl, B2.out⟩
    · rw [cnR_yes ha hb]
      have CM := Lib.hid fun W => iNames_any a b ha hb W
      rw [ha] at N1
      rw [hb] at N2
      have N1 := Lib.hid N1
      have N2 := Lib.hid N2
      clear ha hb
      go_enter Tryd.func8, Tryd.ntmps8
      go_wp2_with (first
        | (go_at_call 25; have _t := tok1; clear _t tok1; refine (N1.out _).mono ?_; rintro e w1 ⟨rfl, hB⟩; have B1 := Lib.hid hB; clear hB)
        | (go_at_call 25; refine (N2.out _).mono ?_; rintro e w2 ⟨rfl, hB⟩; have B2 := Lib.hid (B1.out.trans (Below.mono hB B1.out.size)); clear hB)
        | (go_at_call 26; refine (CM.out _).mono ?_; rintro e w3 ⟨rfl, hB⟩; have B3 := Lib.hid (B2.out.trans (Below.mono hB B2.out.size)); clear hB))
      go_returns
      exact ⟨rfl, B3.out⟩
end Go.Proofs.YtnfhhckkealkpaaDoor
