/- Contract: the model's reader of a number. -/
import Derived.Test.YtpkpjkceiikakaaDoorRdN
namespace Go.Proofs.YtpkpjkceiikakaaDoor
open Go.ChangeShapes Go.WideShapes Go.ChangeAt Go.RowKit

def nuV (o : Option Nat) : Value := match o with
  | some n => .tuple #[.int .i64 (n : Int), .bool true]
  | none => .tuple #[.int .i64 0, .bool false]
/-- The first i digits spell n. -/
structure NuAt (s : ByteArray) (n i : Nat) : Prop where
  le : i ≤ s.size
  lt : n < 10 ^ i
  eq : digs 0 s.data.toList = digs n (s.data.toList.drop i)
theorem nuAt_start (s : ByteArray) : NuAt s 0 0 := ⟨Nat.zero_le _, by simp, rfl⟩
theorem nuAt_next {s : ByteArray} {n i : Nat} (h : NuAt s n i) (hi : i < s.size) (h1 : 48 ≤ s[i].toNat) (h2 : s[i].toNat ≤ 57) : NuAt s (10 * n + (s[i].toNat - 48)) (i + 1) := by
  refine ⟨hi, ?_, ?_⟩
  · have := h.lt
    rw [Nat.pow_succ]
    omega
  · rw [h.eq, drop_byte s i hi, digs, if_pos ⟨h1, h2⟩]
theorem nuAt_bad {s : ByteArray} {n i : Nat} (h : NuAt s n i) (hi : i < s.size) (h1 : ¬ (48 ≤ s[i].toNat ∧ s[i].toNat ≤ 57)) : numL s.data.toList = none := by
  unfold numL
  split
  · rfl
  · rw [h.eq, drop_byte s i hi, digs, if_neg h1]
theorem nuAt_end {s : ByteArray} {n : Nat} (h : NuAt s n s.size) (hc : ¬ (s.data.toList = [] ∨ 10 < s.data.toList.length ∨ (s.data.toList.head? = some 48 ∧ 1 < s.data.toList.length))) : numL s.data.toList = some n := by
  unfold numL
  rw [if_neg hc, h.eq, List.drop_eq_nil_of_le (by simp), digs]
theorem len_data (s : ByteArray) : s.data.toList.length = s.size := Array.length_toList
theorem head_data {s : ByteArray} (h : 0 < s.size) : s.data.toList.head? = some s[0] := by
  have := drop_byte s 0 h
  rw [List.drop_zero] at this
  rw [this]; rfl
theorem num_cond {s : ByteArray} (h0 : 0 < s.size) (h1 : s.size ≤ 10) (h2 : ¬ (s[0].toNat = 48 ∧ 1 < s.size)) : ¬ (s.data.toList = [] ∨ 10 < s.data.toList.length ∨ (s.data.toList.head? = some 48 ∧ 1 < s.data.toList.length)) := by
  rintro (h | h | ⟨h, h3⟩)
  · have := len_data s
    rw [h] at this
    simp at this
    omega
  · rw [len_data] at h; omega
  · rw [head_data h0] at h
    rw [len_data] at h3
    exact h2 ⟨by rw [Option.some.inj h]; rfl, h3⟩
theorem num_no {s : ByteArray} (h : s.size = 0 ∨ 10 < s.size ∨ (∃ h : 0 < s.size, s[0].toNat = 48 ∧ 1 < s.size)) : numL s.data.toList = none := by
  unfold numL
  rw [if_pos]
  rcases h with h | h | ⟨h0, h, h3⟩
  · exact .inl (List.length_eq_zero_iff.1 (by rw [len_data]; exact h))
  · exact .inr (.inl (by rw [len_data]; exact h))
  · refine .inr (.inr ⟨?_, by rw [len_data]; exact h3⟩)
    rw [head_data h0]
    congr 1
    exact UInt8.toNat_inj.1 h
theorem ret_nu {o : Option Nat} {v : Value} (h : nuV o = v) : Ending.returned v = .returned (nuV o) := by rw [h]
theorem empty_yes {s : ByteArray} (h : s.size = 0) : s.toList.isEmpty = true := by
  rw [Lib.toList_data, List.isEmpty_iff]
  exact List.length_eq_zero_iff.1 (by rw [len_data]; exact h)
theorem empty_no {s : ByteArray} (h : 0 < s.size) : s.toList.isEmpty = false := by
  rw [Lib.toList_data]
  cases q : s.data.toList with
  | nil => have := len_data s; rw [q] at this; simp at this; omega
  | cons => rfl

set_option maxRecDepth 100000 in
set_option maxHeartbeats 1600000 in
theorem sNum_any (s : ByteArray) (hs : s.size ≤ 1048576) (w : World) :
    Calls Tryd.prog 22 #[.string s] w fun e w' => e = .returned (nuV (numL s.data.toList)) ∧ Below w.heap.size w w' := by
  by_cases h0 : s.size = 0
  · rw [num_no (.inl h0)]
    have he := empty_yes h0
    clear h0
    go_enter Tryd.func22, Tryd.ntmps22
    go_wp2
    go_returns
    exact ⟨rfl, (by repeat' (first | (with_reducible exact Below.refl _ _) | (with_reducible assumption) | (with_reducible refine below_drewN ?_ _) | (with_reducible refine Below.drew ?_) | (with_reducible refine below_new ?_ _) | (with_reducible refine below_next ?_ (by with_reducible assumption)) | (with_reducible refine Below.setCell ?_ ?_ _) | go_size))⟩
  · have he := empty_no (s := s) (by omega)
    by_cases h1 : 10 < s.size
    · rw [num_no (.inr (.inl h1))]
      have d1 : decide ((10 : Int) < (s.size : Int)) = true := by simp; omega
      go_enter Tryd.func22, Tryd.ntmps22
      go_wp2
      go_returns
      exact ⟨rfl, (by repeat' (first | (with_reducible exact Below.refl _ _) | (with_reducible assumption) | (with_reducible refine below_drewN ?_ _) | (with_reducible refine Below.drew ?_) | (with_reducible refine below_new ?_ _) | (with_reducible refine below_next ?_ (by with_reducible assumption)) | (with_reducible refine Below.setCell ?_ ?_ _) | go_size))⟩
    · have d1 : decide ((10 : Int) < (s.size : Int)) = false := by simp; omega
      have hl : 0 < s.size := by omega
      by_cases h2 : s[0].toNat = 48 ∧ 1 < s.size
      · rw [num_no (.inr (.inr ⟨hl, h2⟩))]
        obtain ⟨h2, h3⟩ := h2
        have d2 : ((s[0].toNat : Int) == 48) = true := by rw [h2]; rfl
        have d3 : decide ((1 : Int) < (s.size : Int)) = true := by simp; omega
        go_enter Tryd.func22, Tryd.ntmps22
        go_wp2
        go_returns
        exact ⟨rfl, (by repeat' (first | (with_reducible exact Below.refl _ _) | (with_reducible assumption) | (with_reducible refine below_drewN ?_ _) | (with_reducible refine Below.drew ?_) | (with_reducible refine below_new ?_ _) | (with_reducible refine below_next ?_ (by with_reducible assumption)) | (with_reducible refine Below.setCell ?_ ?_ _) | go_size))⟩
      · have HC := Lib.hid (num_cond hl (by omega) h2)
        have key : ((s[0].toNat : Int) == 48) = false ∨ (((s[0].toNat : Int) == 48) = true ∧ decide ((1 : Int) < (s.size : Int)) = false) := by
          by_cases e : s[0].toNat = 48
          · exact .inr ⟨by rw [e]; rfl, by simp; omega⟩
          · exact .inl (by rw [beq_eq_false_iff_ne]; omega)
        clear h2
        rcases key with d2 | ⟨d2, d3⟩
        all_goals
          have DD := Lib.hid d2
          go_enter Tryd.func22, Tryd.ntmps22
          go_wp2
          go_loop [4, 5] (fun v i => ∃ (n k : Nat), NuAt s n k ∧ i = .int .i64 (k : Int) ∧ v = .int .i64 (n : Int)) (fun _ i => s.size - (intOf i).toNat)
          case atStart => exact ⟨0, 0, nuAt_start s, rfl, rfl⟩
          case round =>
            obtain ⟨n, k, hN, rfl, rfl⟩ := hrel
            have hk := hN.le
            have hn := hN.lt
            have NN := Lib.hid hN
            clear hN
            by_cases hlt : k < s.size
            · have dl : decide ((k : Int) < (s.size : Int)) = true := by simpa using hlt
              by_cases c1 : s[k].toNat < 48
              · have f := Lib.hid (nuAt_bad NN.out hlt (by omega))
                have t1 : decide ((s[k].toNat : Int) < 48) = true := by simp; omega
                clear d2
                go_wp2
                go_returns
                exact ⟨ret_nu (by rw [f.out]; rfl), (by repeat' (first | (with_reducible exact Below.refl _ _) | (with_reducible assumption) | (with_reducible refine below_drewN ?_ _) | (with_reducible refine Below.drew ?_) | (with_reducible refine below_new ?_ _) | (with_reducible refine below_next ?_ (by with_reducible assumption)) | (with_reducible refine Below.setCell ?_ ?_ _) | go_size))⟩
              · by_cases c2 : 57 < s[k].toNat
                · have f := Lib.hid (nuAt_bad NN.out hlt (by omega))
                  have t1 : decide ((s[k].toNat : Int) < 48) = false := by simp; omega
                  have t2 : decide ((57 : Int) < (s[k].toNat : Int)) = true := by simp; omega
                  clear d2
                  go_wp2
                  go_returns
                  exact ⟨ret_nu (by rw [f.out]; rfl), (by repeat' (first | (with_reducible exact Below.refl _ _) | (with_reducible assumption) | (with_reducible refine below_drewN ?_ _) | (with_reducible refine Below.drew ?_) | (with_reducible refine below_new ?_ _) | (with_reducible refine below_next ?_ (by with_reducible assumption)) | (with_reducible refine Below.setCell ?_ ?_ _) | go_size))⟩
                · have f := Lib.hid (nuAt_next NN.out hlt (by omega) (by omega))
                  have t1 : decide ((s[k].toNat : Int) < 48) = false := by simp; omega
                  have t2 : decide ((57 : Int) < (s[k].toNat : Int)) = false := by simp; omega
                  have hp : (10 : Nat) ^ k ≤ 10 ^ 9 := Nat.pow_le_pow_right (by omega) (by omega)
                  have w1 : IntKind.u8.wrap ((s[k].toNat : Int) - 48) = ((s[k].toNat - 48 : Nat) : Int) := by rw [show (s[k].toNat : Int) - 48 = ((s[k].toNat - 48 : Nat) : Int) from by omega]; exact IntWalk.u8_in _ ⟨by omega, by omega⟩
                  have w2 : IntKind.i64.wrap ((s[k].toNat - 48 : Nat) : Int) = ((s[k].toNat - 48 : Nat) : Int) := IntWalk.i64_in _ (by omega)
                  have w3 : IntKind.i64.wrap (10 * (n : Int)) = 10 * (n : Int) := IntWalk.i64_in _ (by omega)
                  have w4 : IntKind.i64.wrap (10 * (n : Int) + ((s[k].toNat - 48 : Nat) : Int)) = ((10 * n + (s[k].toNat - 48) : Nat) : Int) := by rw [show 10 * (n : Int) + ((s[k].toNat - 48 : Nat) : Int) = ((10 * n + (s[k].toNat - 48) : Nat) : Int) from by omega]; exact IntWalk.i64_in _ (by omega)
                  clear d2 hp hn c1 c2
                  go_wp2
                  go_round
                  case rel => exact ⟨_, k + 1, f.out, by go_num, rfl⟩
                  case measure => simp [intOf]; omega
            · obtain rfl : k = s.size := by omega
              have dl : decide ((s.size : Int) < (s.size : Int)) = false := by simp
              have f := Lib.hid (nuAt_end NN.out HC.out)
              clear d2
              go_wp2
              go_returns
              exact ⟨ret_nu (by rw [f.out]; rfl), (by repeat' (first | (with_reducible exact Below.refl _ _) | (with_reducible assumption) | (with_reducible refine below_drewN ?_ _) | (with_reducible refine Below.drew ?_) | (with_reducible refine below_new ?_ _) | (with_reducible refine below_next ?_ (by with_reducible assumption)) | (with_reducible refine Below.setCell ?_ ?_ _) | go_size))⟩
theorem sNum_ok (s : ByteArray) (hs : s.size ≤ 1048576) (n : Nat) (h : numL s.data.toList = some n) (w : World) :
    Calls Tryd.prog 22 #[.string s] w fun e w' => e = .returned (.tuple #[.int .i64 (n : Int), .bool true]) ∧ Below w.heap.size w w' := by
  have c := sNum_any s hs w
  rw [h] at c
  exact c
theorem sNum_no (s : ByteArray) (hs : s.size ≤ 1048576) (h : numL s.data.toList = none) (w : World) :
    Calls Tryd.prog 22 #[.string s] w fun e w' => e = .returned (.tuple #[.int .i64 0, .bool false]) ∧ Below w.heap.size w w' := by
  have c := sNum_any s hs w
  rw [h] at c
  exact c
end Go.Proofs.YtpkpjkceiikakaaDoor
