/- A mix read from a text: the program's way and the model's tell the same. No program. -/
import Derived.Test.YtpkpjkceiikakaaDoorRdN
import Derived.Test.YtpkpjkceiikakaaDoorMxC
namespace Go.Proofs.YtpkpjkceiikakaaDoor
open Go.ChangeShapes Go.WideShapes Go.ChangeAt Go.RowKit

def mixW : ByteArray := ⟨#[109, 105, 120]⟩
/-- The program's way. -/
def rm3 (s b c d : ByteArray) : Option (Int × Int × Int) := match pIn 16 b, pIn 16 c, pIn 16 d with
  | some x, some y, some z => if mxT x y z = s then some (x, y, z) else none
  | _, _, _ => none
def rmI (s : ByteArray) : Option (Int × Int × Int) := match pieces 32 s with
  | [_, b, c, d] => rm3 s b c d
  | _ => none
theorem rm3_b {s b c d : ByteArray} (h : pIn 16 b = none) : rm3 s b c d = none := by unfold rm3; rw [h]
theorem rm3_c {s b c d : ByteArray} {x : Int} (hb : pIn 16 b = some x) (h : pIn 16 c = none) : rm3 s b c d = none := by unfold rm3; rw [hb, h]
theorem rm3_d {s b c d : ByteArray} {x y : Int} (hb : pIn 16 b = some x) (hc : pIn 16 c = some y) (h : pIn 16 d = none) : rm3 s b c d = none := by unfold rm3; rw [hb, hc, h]
theorem rm3_all {s b c d : ByteArray} {x y z : Int} (hb : pIn 16 b = some x) (hc : pIn 16 c = some y) (hd : pIn 16 d = some z) : rm3 s b c d = if mxT x y z = s then some (x, y, z) else none := by unfold rm3; rw [hb, hc, hd]
theorem rmI_four {s a b c d : ByteArray} (h : pieces 32 s = [a, b, c, d]) : rmI s = rm3 s b c d := by unfold rmI; rw [h]
/-- The model's way. -/
def rs3 (b c d : ByteArray) : Option (Int × Int × Int) := match numL b.data.toList, numL c.data.toList, numL d.data.toList with
  | some x, some y, some z => if x ≤ 96 ∧ y ≤ 96 ∧ z ≤ 96 ∧ mixOk x y z = true then some ((x : Int), (y : Int), (z : Int)) else none
  | _, _, _ => none
def rmS (s : ByteArray) : Option (Int × Int × Int) := match pieces 32 s with
  | [a, b, c, d] => if a = mixW then rs3 b c d else none
  | _ => none
theorem rmS_four {s a b c d : ByteArray} (h : pieces 32 s = [a, b, c, d]) : rmS s = if a = mixW then rs3 b c d else none := by unfold rmS; rw [h]
theorem rmS_not {s : ByteArray} (h : ¬ (pieces 32 s).length = 4) : rmS s = none := by
  unfold rmS
  split
  · rename_i hp; rw [hp] at h; exact absurd rfl h
  · rfl
theorem rs3_b {b c d : ByteArray} (h : ∀ x, numL b.data.toList = some x → ¬ x ≤ 96) : rs3 b c d = none := by
  unfold rs3
  split
  · rename_i hx _ _
    exact if_neg fun e => h _ hx e.1
  · rfl
theorem rs3_c {b c d : ByteArray} (h : ∀ x, numL c.data.toList = some x → ¬ x ≤ 96) : rs3 b c d = none := by
  unfold rs3
  split
  · rename_i _ hx _
    exact if_neg fun e => h _ hx e.2.1
  · rfl
theorem rs3_d {b c d : ByteArray} (h : ∀ x, numL d.data.toList = some x → ¬ x ≤ 96) : rs3 b c d = none := by
  unfold rs3
  split
  · rename_i _ _ hx
    exact if_neg fun e => h _ hx e.2.2.1
  · rfl
theorem rs3_all {b c d : ByteArray} {x y z : Nat} (hb : numL b.data.toList = some x) (hc : numL c.data.toList = some y) (hd : numL d.data.toList = some z) (h1 : x ≤ 96) (h2 : y ≤ 96) (h3 : z ≤ 96) :
    rs3 b c d = if mixOk x y z = true then some ((x : Int), (y : Int), (z : Int)) else none := by
  unfold rs3
  rw [hb, hc, hd]
  by_cases h : mixOk x y z = true
  · rw [if_pos h]; exact if_pos ⟨h1, h2, h3, h⟩
  · rw [if_neg h]; exact if_neg fun e => h e.2.2.2
/-- The answer. -/
def rmV : Option (Int × Int × Int) → Value
  | some (x, y, z) => .tuple #[.agg #[.int .i16 x, .int .i16 y, .int .i16 z], .int .i64 0]
  | none => .tuple #[.agg #[.int .i16 0, .int .i16 0, .int .i16 0], .int .i64 5]
theorem mxN_data (T Z Q : Nat) : (mxN T Z Q).data.toList = joinC 32 ([mixW, dec2 T, dec2 Z, dec2 Q].map fun p => p.data.toList) := by
  rw [← mxN_bytes]
  simp [joinC, mixW]
theorem dec2_free {n : Nat} (h : n < 100) : (32 : UInt8) ∉ (dec2 n).data.toList := by
  intro hm
  rw [dec2_data] at hm
  have := no_blank_dec n h _ hm
  exact absurd this (by decide)
theorem mxN_pieces {T Z Q : Nat} (hT : T < 100) (hZ : Z < 100) (hQ : Q < 100) : pieces 32 (mxN T Z Q) = [mixW, dec2 T, dec2 Z, dec2 Q] :=
  pieces_of (mxN_data T Z Q) (by simp) (fun p hp => by
    simp only [List.mem_cons, List.not_mem_nil, or_false] at hp
    rcases hp with rfl | rfl | rfl | rfl
    · decide
    · exact dec2_free hT
    · exact dec2_free hZ
    · exact dec2_free hQ)
theorem mix_nat {x y z : Int} (h : mixOk x y z = true) : ∃ T Z Q : Nat, x = T ∧ y = Z ∧ z = Q ∧ T < 97 ∧ Z < 97 ∧ Q < 97 := by
  obtain ⟨h1, h2, h3, h4, h5, h6⟩ := mix_inv h
  exact ⟨x.toNat, y.toNat, z.toNat, by omega, by omega, by omega, by omega, by omega, by omega⟩
/-- The text of a mix is read by both ways. -/
theorem rm_hit {T Z Q : Nat} (h : mixOk T Z Q = true) : rmI (mxN T Z Q) = some ((T : Int), (Z : Int), (Q : Int)) ∧ rmS (mxN T Z Q) = some ((T : Int), (Z : Int), (Q : Int)) := by
  obtain ⟨h1, h2, h3, h4, h5, h6⟩ := mix_inv h
  have hT : T < 100 := by omega
  have hZ : Z < 100 := by omega
  have hQ : Q < 100 := by omega
  have e : mxT T Z Q = mxN T Z Q := by
    unfold mxT
    rw [if_pos h]
    rfl
  constructor
  · rw [rmI_four (mxN_pieces hT hZ hQ), rm3_all (pIn16 hT) (pIn16 hZ) (pIn16 hQ), if_pos e]
  · rw [rmS_four (mxN_pieces hT hZ hQ), if_pos rfl, rs3_all (numL_dec2 hT) (numL_dec2 hZ) (numL_dec2 hQ) (by omega) (by omega) (by omega), if_pos h]
theorem rm_same (s : ByteArray) : rmI s = rmS s := by
  have one : ∀ v, rmI s = some v → rmS s = some v := by
    rintro ⟨x, y, z⟩ h
    have h0 := h
    unfold rmI at h
    split at h
    · rename_i hp
      unfold rm3 at h
      split at h
      · split at h
        · rename_i he
          by_cases hk : mixOk x y z = true
          · obtain ⟨T, Z, Q, rfl, rfl, rfl, _⟩ := mix_nat hk
            have e : mxT T Z Q = mxN T Z Q := by unfold mxT; rw [if_pos hk]; rfl
            rename_i x' y' z' _ _ _
            have hh := Option.some.inj h
            simp only [Prod.mk.injEq] at hh
            obtain ⟨rfl, rfl, rfl⟩ := hh
            rw [← he, e]
            exact (rm_hit hk).2
          · exfalso
            rename_i x' y' z' _ _ _
            have hh := Option.some.inj h
            simp only [Prod.mk.injEq] at hh
            obtain ⟨rfl, rfl, rfl⟩ := hh
            unfold mxT at he
            rw [if_neg hk] at he
            subst he
            have : pieces 32 ByteArray.empty = [ByteArray.empty] := by decide
            rw [this] at hp
            simp at hp
        · cases h
      · cases h
    · cases h
  have two : ∀ v, rmS s = some v → rmI s = some v := by
    rintro ⟨x, y, z⟩ h
    unfold rmS at h
    split at h
    · rename_i a b c d hp
      split at h
      · rename_i ha
        unfold rs3 at h
        split at h
        · rename_i T Z Q hT hZ hQ
          split at h
          · rename_i hk
            have hh := Option.some.inj h
            simp only [Prod.mk.injEq] at hh
            obtain ⟨rfl, rfl, rfl⟩ := hh
            have es : s = mxN T Z Q := by
              apply data_inj
              rw [pieces_join 32 s, hp, mxN_data, ha, dec2_of hT (by omega), dec2_of hZ (by omega), dec2_of hQ (by omega)]
            rw [es]
            exact (rm_hit hk.2.2.2).1
          · cases h
        · cases h
      · cases h
    · cases h
  cases hI : rmI s with
  | some v => rw [one v hI]
  | none =>
    cases hS : rmS s with
    | none => rfl
    | some v => rw [two v hS] at hI; cases hI
end Go.Proofs.YtpkpjkceiikakaaDoor
