/- Contracts: is a text a name of an entry, the model's. -/
import Derived.Test.YtppjmngnjdeigaaDoorSplS
import Derived.Test.YtppjmngnjdeigaaDoorEName
import Derived.Deep.DeepCutAuto
namespace Go.Proofs.YtppjmngnjdeigaaDoor
open Go.ChangeShapes Go.WideShapes Go.ChangeAt Go.RowKit

theorem retB9 {x y : Bool} (h : y = x) : Ending.returned (.bool x) = Ending.returned (.bool y) := by rw [h]
theorem in_any (n l h : Int) (w : World) :
    Calls Tryd.prog 57 #[.int .i64 n, .int .i64 l, .int .i64 h] w fun e w' => e = .returned (.bool (decide (l ≤ n) && decide (n ≤ h))) ∧ Below w.heap.size w w' := by
  by_cases h1 : l ≤ n
  · have d1 : decide (l ≤ n) = true := decide_eq_true h1
    have g1 : decide (n < l) = false := decide_eq_false (by omega)
    by_cases h2 : n ≤ h
    · have d2 : decide (n ≤ h) = true := decide_eq_true h2
      have g2 : decide (h < n) = false := decide_eq_false (by omega)
      go_enter Tryd.func57, Tryd.ntmps57
      go_wp2
      go_returns
      exact ⟨by rw [d1, d2]; rfl, Below.refl _ _⟩
    · have d2 : decide (n ≤ h) = false := decide_eq_false h2
      have g2 : decide (h < n) = true := decide_eq_true (by omega)
      go_enter Tryd.func57, Tryd.ntmps57
      go_wp2
      go_returns
      exact ⟨rfl, Below.refl _ _⟩
  · have d1 : decide (l ≤ n) = false := decide_eq_false h1
    have g1 : decide (n < l) = true := decide_eq_true (by omega)
    go_enter Tryd.func57, Tryd.ntmps57
    go_wp2
    go_returns
    exact ⟨rfl, Below.refl _ _⟩

def plainN (n : Nat) : Bool := (decide (97 ≤ n) && decide (n ≤ 122)) || (decide (48 ≤ n) && decide (n ≤ 57))
theorem plain_fin : ∀ n : Fin 256, plainSet.data.toList.contains (UInt8.ofNat n.val) = plainN n.val := by decide +kernel
theorem plain_is (b : UInt8) : plainSet.data.toList.contains b = plainN b.toNat := by
  have h := plain_fin ⟨b.toNat, b.toNat_lt⟩
  simpa using h

set_option maxHeartbeats 1600000 in
theorem sPlain_any (b : UInt8) (w : World) :
    Calls Tryd.prog 105 #[.int .u8 b.toNat] w fun e w' => e = .returned (.bool (plainSet.data.toList.contains b)) ∧ Below w.heap.size w w' := by
  rw [plain_is]
  unfold plainN
  by_cases h1 : 97 ≤ b.toNat
  · have g1 : decide ((97 : Int) ≤ (b.toNat : Int)) = true := decide_eq_true (by omega)
    by_cases h2 : b.toNat ≤ 122
    · have g2 : decide ((b.toNat : Int) ≤ 122) = true := decide_eq_true (by omega)
      go_enter Tryd.func105, Tryd.ntmps105
      go_wp2
      go_returns
      exact ⟨by simp [h1, h2], Below.refl _ _⟩
    · have g2 : decide ((b.toNat : Int) ≤ 122) = false := decide_eq_false (by omega)
      have g3 : decide ((48 : Int) ≤ (b.toNat : Int)) = true := decide_eq_true (by omega)
      have g4 : decide ((b.toNat : Int) ≤ 57) = false := decide_eq_false (by omega)
      go_enter Tryd.func105, Tryd.ntmps105
      go_wp2
      go_returns
      exact ⟨by simp [h2]; omega, Below.refl _ _⟩
  · have g1 : decide ((97 : Int) ≤ (b.toNat : Int)) = false := decide_eq_false (by omega)
    by_cases h3 : 48 ≤ b.toNat
    · have g3 : decide ((48 : Int) ≤ (b.toNat : Int)) = true := decide_eq_true (by omega)
      by_cases h4 : b.toNat ≤ 57
      · have g4 : decide ((b.toNat : Int) ≤ 57) = true := decide_eq_true (by omega)
        go_enter Tryd.func105, Tryd.ntmps105
        go_wp2
        go_returns
        exact ⟨by simp [h1, h3, h4], Below.refl _ _⟩
      · have g4 : decide ((b.toNat : Int) ≤ 57) = false := decide_eq_false (by omega)
        go_enter Tryd.func105, Tryd.ntmps105
        go_wp2
        go_returns
        exact ⟨by simp [h1, h4], Below.refl _ _⟩
    · have g3 : decide ((48 : Int) ≤ (b.toNat : Int)) = false := decide_eq_false (by omega)
      go_enter Tryd.func105, Tryd.ntmps105
      go_wp2
      go_returns
      exact ⟨by simp [h1, h3], Below.refl _ _⟩

/-- The first j pieces are words. -/
def PcTo (ps : List ByteArray) (j : Nat) : Prop := (ps.take j).all wordOk = true
theorem pcTo_next {ps : List ByteArray} {j : Nat} (h : PcTo ps j) (hj : j < ps.length) (hw : wordOk (ps.getD j ⟨#[]⟩) = true) : PcTo ps (j + 1) := by
  unfold PcTo at *
  rw [List.take_add_one, List.all_append, h, List.getElem?_eq_getElem hj, Bool.true_and]
  rw [List.getD, List.getElem?_eq_getElem hj] at hw
  simpa using hw
theorem pcTo_end {ps : List ByteArray} (h : PcTo ps ps.length) : ps.all wordOk = true := by unfold PcTo at h; rwa [List.take_length] at h
theorem pc_bad {s : ByteArray} {j : Nat} (hj : j < (pieces 32 s).length) (hw : wordOk ((pieces 32 s).getD j ⟨#[]⟩) = false) : ename s = false := by
  unfold ename
  rw [Bool.and_eq_false_iff]
  rw [List.getD, List.getElem?_eq_getElem hj] at hw
  exact .inr (List.all_eq_false.2 ⟨_, List.getElem_mem hj, by simpa using hw⟩)
/-- The first k bytes are letters or digits. -/
def PlTo (p : ByteArray) (k : Nat) : Prop := ∀ (j : Nat) (h : j < p.size), j < k → plainSet.data.toList.contains p[j] = true
theorem plTo_next {p : ByteArray} {k : Nat} (h : PlTo p k) (hk : k < p.size) (hg : plainSet.data.toList.contains p[k] = true) : PlTo p (k + 1) := by
  intro j hj hlt
  by_cases e : j = k
  · subst e; exact hg
  · exact h j hj (by omega)
theorem word_yes {p : ByteArray} (h : PlTo p p.size) (h0 : p.toList.isEmpty = false) : wordOk p = true := by
  unfold wordOk allIn
  rw [h0]
  simp only [Bool.not_false, Bool.true_and]
  rw [List.all_eq_true]
  intro c hc
  obtain ⟨j, hj, rfl⟩ := List.mem_iff_getElem.1 hc
  have hj' : j < p.size := by simpa using hj
  exact h j hj' hj'
theorem word_no {p : ByteArray} {k : Nat} (hk : k < p.size) (hg : plainSet.data.toList.contains p[k] = false) : wordOk p = false := by
  unfold wordOk allIn
  rw [Bool.and_eq_false_iff]
  exact .inr (List.all_eq_false.2 ⟨p[k], List.mem_iff_getElem.2 ⟨k, by simpa using hk, rfl⟩, by rw [hg]; simp⟩)
theorem word_empty {p : ByteArray} (h0 : p.toList.isEmpty = true) : wordOk p = false := by unfold wordOk; rw [h0]; rfl
theorem ename_none {s : ByteArray} (h : s.size < 1) : ename s = false := by
  have e : s.data.toList = [] := List.length_eq_zero_iff.1 (by have := Lib.size_eq s; omega)
  unfold ename pieces
  rw [e]
  simp [spl, mkS, wordOk]

set_option maxRecDepth 100000 in
set_option maxHeartbeats 1600000 in
theorem sEName_any (s : ByteArray) (w : World) (hs : s.size ≤ maxLen) :
    Calls Tryd.prog 79 #[.string s] w fun e w' => e = .returned (.bool (ename s)) ∧ Below w.heap.size w w' := by
  unfold maxLen at hs
  have IN := Lib.hid fun W => in_any (s.size : Int) 1 24 W
  by_cases h : decide ((1 : Int) ≤ (s.size : Int)) && decide ((s.size : Int) ≤ 24)
  · rw [h] at IN
    simp only [Bool.and_eq_true, decide_eq_true_eq] at h
    have V := Lib.hid fun W => sSplitAt_any s 32 (by omega) W
    have hfit := pieces_fit 32 s
    have PS := Lib.hid fun j (hj : j < (pieces 32 s).length) (e : wordOk ((pieces 32 s).getD j ⟨#[]⟩) = false) => pc_bad (s := s) hj e
    have YES := Lib.hid fun (e : PcTo (pieces 32 s) (pieces 32 s).length) => ename_all (s := s) (by omega) (pcTo_end e)
    have FT := Lib.hid fun j (hj : j < (pieces 32 s).length) => (show ((pieces 32 s).getD j ⟨#[]⟩).size ≤ 24 from Nat.le_trans (by rw [List.getD, List.getElem?_eq_getElem hj]; exact hfit _ (List.getElem_mem hj)) (by omega))
    have LN := Lib.hid (Nat.le_trans (pieces_len 32 s) (show s.size + 1 ≤ 25 by omega))
    clear hfit h
    generalize pieces 32 s = ps at *
    generalize ename s = q at *
    go_enter Tryd.func79, Tryd.ntmps79
    go_wp2_with (first
      | (go_at_call 57; refine (IN.out _).mono ?_; rintro e w1 ⟨rfl, hB⟩; have B1 := Lib.hid hB; clear hB)
      | (go_at_call 24; refine (V.out _).mono ?_; rintro e w2 ⟨v, rfl, hO, hB⟩; obtain ⟨a, cap, rfl, hin⟩ := ownStrs_in hO; have B2 := Lib.hid (B1.out.trans (hB.mono B1.out.size)); have O := Lib.hid hin; clear hO hin hB))
    have hl := LN.out
    go_loopw [4, 5] (fun i k wr => ∃ j : Nat, j ≤ ps.length ∧ i = .int .i64 j ∧ PcTo ps j ∧ Below w2.heap.size w2 wr) (fun i _ _ => ps.length - (intOf i).toNat)
    case atStart => exact ⟨0, Nat.zero_le _, rfl, rfl, Below.refl _ _⟩
    case round =>
      obtain ⟨j, hj, rfl, hp, hB⟩ := hrel
      have BB := Lib.hid hB
      have SP := Lib.hid hp
      clear hp
      by_cases hjl : j < ps.length
      · have hd : decide ((j : Int) < (ps.length : Int)) = true := by simpa using hjl
        obtain ⟨b, off, rfl, hb, c0⟩ := O.out j hjl
        have c1 := (hB.cell (p := ⟨b, off + j, none⟩) hb).trans c0
        have hf := FT.out j hjl
        have no := Lib.hid (PS.out j hjl)
        have nx := Lib.hid (pcTo_next SP.out hjl)
        have i1 : (0 : Int) ≤ (j : Int) := by omega
        have i2 : (j : Int) < (ps.length : Int) := by omega
        generalize ps.getD j ⟨#[]⟩ = p at *
        clear hB
        cases he : p.toList.isEmpty
        · have NX := Lib.hid fun e => nx.out (word_yes e he)
          have NO := Lib.hid fun k (hk : k < p.size) e => no.out (word_no (p := p) hk e)
          have C0 := Lib.hid c0
          have z0 := BB.out
          clear nx no PS YES SP c0
          go_wp2
          go_loopw [5] (fun u wr2 => ∃ k : Nat, k ≤ p.size ∧ u = .int .i64 k ∧ PlTo p k ∧ Below w2.heap.size w2 wr2) (fun u _ => p.size - (intOf u).toNat)
          case atStart => exact ⟨0, Nat.zero_le _, rfl, fun _ _ h => absurd h (Nat.not_lt_zero _), BB.out⟩
          case round =>
            obtain ⟨k, hk, rfl, hq, hB⟩ := hrel
            have Q := Lib.hid hq
            have BB2 := Lib.hid hB
            have c2 := (hB.cell (p := ⟨b, off + j, none⟩) hb).trans C0.out
            clear hq hB c1 z0
            by_cases hkl : k < p.size
            · have hd2 : decide ((k : Int) < (p.size : Int)) = true := by simpa using hkl
              have K := Lib.hid fun W => sPlain_any p[k] W
              cases hx : plainSet.data.toList.contains p[k]
              · rw [hx] at K
                go_wp2_with (go_at_call 105; refine (K.out _).mono ?_; rintro e w3 ⟨rfl, hB3⟩; have B3 := Lib.hid hB3; clear hB3)
                go_ret
                exact ⟨retB9 (NO.out k hkl hx), B2.out.trans ((BB2.out.trans (B3.out.mono BB2.out.size)).mono B2.out.size)⟩
              · rw [hx] at K
                go_wp2_with (go_at_call 105; refine (K.out _).mono ?_; rintro e w3 ⟨rfl, hB3⟩; have B3 := Lib.hid hB3; clear hB3)
                exact ⟨⟨k + 1, hkl, by rw [Int.natCast_succ], plTo_next Q.out hkl hx, BB2.out.trans (B3.out.mono BB2.out.size)⟩, by (simp [intOf]) <;> omega⟩
            · have e : k = p.size := by omega
              subst e
              have hd2 : decide ((p.size : Int) < (p.size : Int)) = false := by simp
              go_wp2
              exact ⟨⟨j + 1, hjl, by rw [Int.natCast_succ], NX.out Q.out, BB2.out⟩, by (simp [intOf]) <;> omega⟩
        · go_wp2
          go_ret
          exact ⟨retB9 (no.out (word_empty he)), B2.out.trans (BB.out.mono B2.out.size)⟩
      · have e : j = ps.length := by omega
        subst e
        have hd : decide ((ps.length : Int) < (ps.length : Int)) = false := by simp
        clear hB
        go_wp2
        go_ret
        exact ⟨retB9 (YES.out SP.out), B2.out.trans (BB.out.mono B2.out.size)⟩
  · have hq : (decide ((1 : Int) ≤ (s.size : Int)) && decide ((s.size : Int) ≤ 24)) = false := by simpa using h
    rw [hq] at IN
    have no : ename s = false := by
      by_cases h1 : s.size < 1
      · exact ename_none h1
      · refine ename_long ?_
        intro h2
        simp at hq
        omega
    rw [no]
    go_enter Tryd.func79, Tryd.ntmps79
    go_wp2_with (go_at_call 57; refine (IN.out _).mono ?_; rintro e w1 ⟨rfl, hB⟩; have B1 := Lib.hid hB; clear hB)
    go_returns
    exact ⟨rfl, B1.out⟩
end Go.Proofs.YtppjmngnjdeigaaDoor
