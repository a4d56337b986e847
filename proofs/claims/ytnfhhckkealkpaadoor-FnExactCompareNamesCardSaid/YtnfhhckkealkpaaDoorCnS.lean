/- Contracts: how names are filed, the model's. -/
import Derived.Test.YtnfhhckkealkpaaDoorCnM
import Derived.Test.YtnfhhckkealkpaaDoorSplS
import Derived.Test.YtnfhhckkealkpaaDoorQuiet
import Derived.Test.YtnfhhckkealkpaaDoorBoxes
namespace Go.Proofs.YtnfhhckkealkpaaDoor
open Go.ChangeShapes Go.WideShapes Go.ChangeAt Go.RowKit

theorem byte_mem {u : ByteArray} {b : UInt8} (h : b ∈ u.data.toList) : ∃ k, ∃ hk : k < u.size, u[k] = b := by
  obtain ⟨k, hk, e⟩ := List.mem_iff_getElem.1 h
  exact ⟨k, by simpa using hk, by rw [← e]; rfl⟩
theorem dig_bad {u : ByteArray} {k : Nat} (hk : k < u.size) (hc : 57 < u[k].toNat) : dig u = false := by
  unfold dig
  rw [Bool.eq_false_iff]
  intro h
  have hm : u[k] ∈ u.data.toList := by
    have : k < u.data.toList.length := by simpa using hk
    exact List.mem_iff_getElem.2 ⟨k, this, rfl⟩
  have := List.all_eq_true.1 h _ hm
  rw [decide_eq_true_eq] at this
  omega
theorem dig_all {u : ByteArray} (h : ∀ k (hk : k < u.size), u[k].toNat ≤ 57) : dig u = true := by
  unfold dig
  rw [List.all_eq_true]
  intro b hb
  obtain ⟨k, hk, rfl⟩ := byte_mem hb
  exact decide_eq_true (h k hk)

set_option maxHeartbeats 1600000 in
theorem sDigits_any (u : ByteArray) (hu : u.size ≤ 1048576) (w : World) :
    Calls Tryd.prog 52 #[.string u] w fun e w' => e = .returned (.bool (dig u)) ∧ w = w' := by
  go_enter Tryd.func52, Tryd.ntmps52
  go_wp2
  go_loop [3] (fun i => ∃ j : Nat, i = .int .i64 (j : Int) ∧ j ≤ u.size ∧ ∀ k (hk : k < u.size), k < j → u[k].toNat ≤ 57) (fun i => u.size - (intOf i).toNat)
  case atStart => exact ⟨0, rfl, Nat.zero_le _, fun k _ h => absurd h (Nat.not_lt_zero _)⟩
  case round =>
    obtain ⟨j, rfl, hj, hg⟩ := hrel
    have G := Lib.hid hg
    clear hg
    by_cases hlt : j < u.size
    · have dl : decide ((j : Int) < (u.size : Int)) = true := by simpa using hlt
      have x5 : IntKind.i64.wrap ((j : Int) + 1) = (j : Int) + 1 := IntWalk.i64_in _ (by omega)
      by_cases hc : 57 < u[j].toNat
      · have t1 : decide ((57 : Int) < (u[j].toNat : Int)) = true := by simp; omega
        have f := Lib.hid (dig_bad hlt hc)
        clear hc
        go_wp2
        go_ret
        exact ⟨by rw [f.out]; rfl, rfl⟩
      · have t1 : decide ((57 : Int) < (u[j].toNat : Int)) = false := by simp; omega
        have f := Lib.hid (show ∀ k (hk : k < u.size), k < j + 1 → u[k].toNat ≤ 57 from fun k hk h => by
          by_cases e : k = j
          · subst e; omega
          · exact G.out k hk (by omega))
        clear hc
        go_wp2
        exact ⟨⟨j + 1, by rw [Int.natCast_succ], hlt, f.out⟩, by (simp [intOf]) <;> omega⟩
    · have dl : decide ((j : Int) < (u.size : Int)) = false := by simp; omega
      have f := Lib.hid (dig_all fun k hk => G.out k hk (by omega))
      go_wp2
      go_ret
      exact ⟨by rw [f.out]; rfl, rfl⟩

/-! ### Without zeros in front -/
theorem va_step {t : ByteArray} (h : 0 < t.size) (h0 : t[0].toNat = 48) : Lib.trimLeftB (t.extract 1 t.size).data.toList 48 = Lib.trimLeftB t.data.toList 48 := by
  have e := drop_byte t 0 h
  rw [List.drop_zero] at e
  have e1 : (t.extract 1 t.size).data.toList = t.data.toList.drop 1 := by rw [Lib.extract_to_end]
  have e2 : t[0] = 48 := UInt8.toNat_inj.1 h0
  rw [e1]
  conv => rhs; rw [e]
  unfold Lib.trimLeftB
  rw [List.dropWhile_cons, e2]
  exact (if_pos (by decide)).symm
theorem va_stop {t : ByteArray} (h : 0 < t.size) (h0 : t[0].toNat ≠ 48) : Lib.trimLeftB t.data.toList 48 = t.data.toList := by
  have e := drop_byte t 0 h
  rw [List.drop_zero] at e
  have e2 : (t[0] == (48 : UInt8)) = false := by
    rw [beq_eq_false_iff_ne]
    intro e3
    rw [e3] at h0
    exact h0 rfl
  rw [e]
  unfold Lib.trimLeftB
  rw [List.dropWhile_cons, e2]
  rfl
theorem va_none {t : ByteArray} (h : ¬ 0 < t.size) : Lib.trimLeftB t.data.toList 48 = t.data.toList := by
  have e : t.data.toList = [] := List.eq_nil_of_length_eq_zero (by have : t.data.toList.length = t.size := by simp
                                                                   omega)
  rw [e]; rfl
theorem va_is {u t : ByteArray} (h1 : Lib.trimLeftB t.data.toList 48 = Lib.trimLeftB u.data.toList 48) (h2 : Lib.trimLeftB t.data.toList 48 = t.data.toList) : t = vaL u := by
  unfold vaL
  rw [← h1, h2]

set_option maxHeartbeats 1600000 in
theorem sValue_any (u : ByteArray) (_hu : u.size ≤ 1048576) (w : World) :
    Calls Tryd.prog 53 #[.string u] w fun e w' => e = .returned (.string (vaL u)) ∧ w = w' := by
  go_enter Tryd.func53, Tryd.ntmps53
  go_wp2
  go_loop [0] (fun v => ∃ t : ByteArray, v = .string t ∧ t.size ≤ u.size ∧ Hid (Lib.trimLeftB t.data.toList 48 = Lib.trimLeftB u.data.toList 48)) (fun v => match v with | .string t => t.size | _ => 0)
  case atStart => exact ⟨u, rfl, Nat.le_refl _, Lib.hid rfl⟩
  case round =>
    obtain ⟨t, rfl, ht, T⟩ := hrel
    by_cases hl : 0 < t.size
    · have dl : decide ((0 : Int) < (t.size : Int)) = true := by simpa using hl
      by_cases h0 : t[0].toNat = 48
      · have t1 : ((t[0].toNat : Int) == 48) = true := by rw [h0]; rfl
        have f := Lib.hid ((va_step hl h0).trans T.out)
        have SZ := Lib.hid (show (t.extract 1 t.size).size < t.size by simp; omega)
        have ST := Lib.hid (Nat.le_trans (Nat.le_of_lt SZ.out) ht)
        clear h0
        go_wp2
        exact ⟨⟨_, rfl, ST.out, f⟩, SZ.out⟩
      · have t1 : ((t[0].toNat : Int) == 48) = false := by rw [beq_eq_false_iff_ne]; omega
        have f := Lib.hid (va_is T.out (va_stop hl h0))
        clear h0
        go_wp2
        go_ret
        exact ⟨by rw [← f.out]; rfl, rfl⟩
    · have dl : decide ((0 : Int) < (t.size : Int)) = false := decide_eq_false (by omega)
      have f := Lib.hid (va_is T.out (va_none hl))
      go_wp2
      go_ret
      exact ⟨by rw [← f.out]; rfl, rfl⟩

/-! ### Two words -/
def sgn (n : Int) : Int := if n < 0 then -1 else if 0 < n then 1 else 0
theorem sgn_cmp (m n : Int) : sgn (m - n) = cmpI m n := by
  unfold sgn cmpI
  by_cases h1 : m < n
  · rw [if_pos h1, if_pos (by omega)]
  · rw [if_neg h1, if_neg (by omega)]
    by_cases h2 : n < m
    · rw [if_pos h2, if_pos (by omega)]
    · rw [if_neg h2, if_neg (by omega)]
theorem cmpI_ne {m n : Int} (h : m ≠ n) : cmpI m n ≠ 0 := by
  unfold cmpI
  by_cases h1 : m < n
  · rw [if_pos h1]; decide
  · rw [if_neg h1, if_pos (by omega)]; decide
theorem cmpI_eq (m : Int) : cmpI m m = 0 := by unfold cmpI; rw [if_neg (by omega), if_neg (by omega)]
theorem sSign_any (n : Int) (w : World) : Calls Tryd.prog 39 #[.int .i64 n] w fun e w' => e = .returned (.int .i64 (sgn n)) ∧ w = w' := by
  unfold sgn
  by_cases h1 : n < 0
  · have d1 : decide (n < 0) = true := decide_eq_true h1
    rw [if_pos h1]
    go_enter Tryd.func39, Tryd.ntmps39
    go_wp2
    go_returns
    exact ⟨rfl, rfl⟩
  · have d1 : decide (n < 0) = false := decide_eq_false h1
    rw [if_neg h1]
    by_cases h2 : 0 < n
    · have d2 : decide (0 < n) = true := decide_eq_true h2
      rw [if_pos h2]
      go_enter Tryd.func39, Tryd.ntmps39
      go_wp2
      go_returns
      exact ⟨rfl, rfl⟩
    · have d2 : decide (0 < n) = false := decide_eq_false h2
      rw [if_neg h2]
      go_enter Tryd.func39, Tryd.ntmps39
      go_wp2
      go_returns
      exact ⟨rfl, rfl⟩
theorem ordB_is (x y : ByteArray) : ordB x y = if Op.bytesLess x.toList y.toList = true then -1 else if (x.toList == y.toList) = true then 0 else 1 := by
  unfold ordB; rw [cmpB_eq, Lib.toList_data, Lib.toList_data]
theorem sOrder_any (x y : ByteArray) (w : World) : Calls Tryd.prog 40 #[.string x, .string y] w fun e w' => e = .returned (.int .i64 (ordB x y)) ∧ w = w' := by
  rw [ordB_is]
  obtain ⟨b1, h1⟩ : ∃ b, Op.bytesLess x.toList y.toList = b := ⟨_, rfl⟩
  obtain ⟨b2, h2⟩ : ∃ b, (x.toList == y.toList) = b := ⟨_, rfl⟩
  rw [h1, h2]
  cases b1 <;> cases b2
  all_goals
    go_enter Tryd.func40, Tryd.ntmps40
    go_wp2
    go_returns
    exact ⟨rfl, rfl⟩

theorem valC_ne {u v : ByteArray} (h : (vaL u).size ≠ (vaL v).size) : valC u v = cmpI (vaL u).size (vaL v).size := by unfold valC; rw [if_pos (cmpI_ne (by omega))]
theorem valC_eq {u v : ByteArray} (h : (vaL u).size = (vaL v).size) : valC u v = ordB (vaL u) (vaL v) := by unfold valC; rw [h, if_neg (by rw [cmpI_eq]; simp)]

set_option maxHeartbeats 1600000 in
theorem sWord_any (u v : ByteArray) (hu : u.size ≤ 1048576) (hv : v.size ≤ 1048576) (w : World) :
    Calls Tryd.prog 38 #[.string u, .string v] w fun e w' => e = .returned (.int .i64 (wcmp u v)) ∧ w = w' := by
  have D1 := sDigits_any u hu
  have D2 := sDigits_any v hv
  have V1 := sValue_any u hu
  have V2 := sValue_any v hv
  have tok1 : True := trivial
  have tok2 : True := trivial
  cases h1 : dig u <;> cases h2 : dig v
  all_goals
    rw [h1] at D1
    rw [h2] at D2
  · rw [wcmp_nn h1 h2]
    have D1 := Lib.hid D1
    have D2 := Lib.hid D2
    clear h1 h2 V1 V2
    go_enter Tryd.func38, Tryd.ntmps38
    go_wp2_with (first
      | (go_at_call 52; have _t := tok1; clear _t tok1; refine (D1.out _).mono ?_; rintro e w1 ⟨rfl, rfl⟩)
      | (go_at_call 52; refine (D2.out _).mono ?_; rintro e w1 ⟨rfl, rfl⟩)
      | (go_at_call 40; refine (sOrder_any _ _ _).mono ?_; rintro e w1 ⟨rfl, rfl⟩))
    go_returns
    exact ⟨rfl, rfl⟩
  · rw [wcmp_1v h1 h2]
    have D1 := Lib.hid D1
    have D2 := Lib.hid D2
    clear h1 h2 V1 V2
    go_enter Tryd.func38, Tryd.ntmps38
    go_wp2_with (first
      | (go_at_call 52; have _t := tok1; clear _t tok1; refine (D1.out _).mono ?_; rintro e w1 ⟨rfl, rfl⟩)
      | (go_at_call 52; refine (D2.out _).mono ?_; rintro e w1 ⟨rfl, rfl⟩))
    go_returns
    exact ⟨rfl, rfl⟩
  · rw [wcmp_v1 h1 h2]
    have D1 := Lib.hid D1
    have D2 := Lib.hid D2
    clear h1 h2 V1 V2
    go_enter Tryd.func38, Tryd.ntmps38
    go_wp2_with (first
      | (go_at_call 52; have _t := tok1; clear _t tok1; refine (D1.out _).mono ?_; rintro e w1 ⟨rfl, rfl⟩)
      | (go_at_call 52; refine (D2.out _).mono ?_; rintro e w1 ⟨rfl, rfl⟩))
    go_returns
    exact ⟨rfl, rfl⟩
  · rw [wcmp_vv h1 h2]
    have s1 := Nat.le_trans (vaL_size u) hu
    have s2 := Nat.le_trans (vaL_size v) hv
    have D1 := Lib.hid D1
    have D2 := Lib.hid D2
    clear h1 h2 hu hv
    by_cases e : (vaL u).size = (vaL v).size
    · rw [valC_eq e]
      generalize vaL u = x at *
      generalize vaL v = y at *
      have dd : ((x.size : Int) != (y.size : Int)) = false := by simp [e]
      have V1 := Lib.hid V1
      have V2 := Lib.hid V2
      clear e
      go_enter Tryd.func38, Tryd.ntmps38
      go_wp2_with (first
        | (go_at_call 52; have _t := tok1; clear _t tok1; refine (D1.out _).mono ?_; rintro e w1 ⟨rfl, rfl⟩)
        | (go_at_call 52; refine (D2.out _).mono ?_; rintro e w1 ⟨rfl, rfl⟩)
        | (go_at_call 53; have _t := tok2; clear _t tok2; refine (V1.out _).mono ?_; rintro e w1 ⟨rfl, rfl⟩)
        | (go_at_call 53; refine (V2.out _).mono ?_; rintro e w1 ⟨rfl, rfl⟩)
        | (go_at_call 40; refine (sOrder_any _ _ _).mono ?_; rintro e w1 ⟨rfl, rfl⟩))
      go_returns
      exact ⟨rfl, rfl⟩
    · rw [valC_ne e, ← sgn_cmp]
      generalize vaL u = x at *
      generalize vaL v = y at *
      have dd : ((x.size : Int) != (y.size : Int)) = true := by rw [bne_iff_ne]; omega
      have x1 : IntKind.i64.wrap ((x.size : Int) - (y.size : Int)) = (x.size : Int) - (y.size : Int) := IntWalk.i64_in _ (by omega)
      have V1 := Lib.hid V1
      have V2 := Lib.hid V2
      clear e
      go_enter Tryd.func38, Tryd.ntmps38
      go_wp2_with (first
        | (go_at_call 52; have _t := tok1; clear _t tok1; refine (D1.out _).mono ?_; rintro e w1 ⟨rfl, rfl⟩)
        | (go_at_call 52; refine (D2.out _).mono ?_; rintro e w1 ⟨rfl, rfl⟩)
        | (go_at_call 53; have _t := tok2; clear _t tok2; refine (V1.out _).mono ?_; rintro e w1 ⟨rfl, rfl⟩)
        | (go_at_call 53; refine (V2.out _).mono ?_; rintro e w1 ⟨rfl, rfl⟩)
        | (go_at_call 39; refine (sSign_any _ _).mono ?_; rintro e w1 ⟨rfl, rfl⟩))
      go_returns
      exact ⟨rfl, rfl⟩

/-! ### The words of a name -/
def WordsR (ws : List ByteArray) (w : World) (e : Ending) (w' : World) : Prop := ∃ a c, e = .returned (.slice a ws.length c) ∧ StrsIn w' a ws ∧ Below w.heap.size w w'
theorem spl_ne (c : UInt8) : ∀ l acc : List UInt8, spl c acc l ≠ []
  | [], acc => by simp [spl]
  | x :: xs, acc => by
    rw [spl]
    split
    · simp
    · exact spl_ne c xs _
theorem pieces_ne (c : UInt8) (s : ByteArray) : pieces c s ≠ [] := by
  unfold pieces
  intro h
  exact spl_ne c _ _ (List.map_eq_nil_iff.1 h)
theorem two_or {l : List ByteArray} (h : l ≠ []) : (∃ x, l = [x]) ∨ ∃ x y r, l = x :: y :: r := by
  match l, h with
  | [], h => exact absurd rfl h
  | [x], _ => exact .inl ⟨x, rfl⟩
  | x :: y :: r, _ => exact .inr ⟨x, y, r, rfl⟩
theorem bytes_beqC {x y : ByteArray} : (x.toList == y.toList) = decide (x = y) := by
  rw [Bool.eq_iff_iff, beq_iff_eq, decide_eq_true_eq, Lib.toList_data, Lib.toList_data]
  exact ⟨fun h => by rw [← Lib.mk_data x, h, Lib.mk_data], fun h => by rw [h]⟩
theorem strs_tail {w : World} {b o : Nat} {x : ByteArray} {r : List ByteArray} (h : StrsIn w (some ⟨b, o, none⟩) (x :: r)) : StrsIn w (some ⟨b, o + 1, none⟩) r := fun i hi => by
  obtain ⟨b1, o1, e, hl, hc⟩ := h (i + 1) (by simpa using hi)
  injection e with e
  injection e with e1 e2
  subst e1; subst e2
  exact ⟨b, o + 1, rfl, hl, by rw [show o + 1 + i = o + (i + 1) by omega]; exact hc⟩
end Go.Proofs.YtnfhhckkealkpaaDoor
