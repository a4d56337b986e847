/- A card read from a text: the program's way and the model's tell the same. No program. -/
import Derived.Test.YtpkpjkceiikakaaDoorRdN
import Derived.Test.YtpkpjkceiikakaaDoorFmM
import Derived.Test.YtpkpjkceiikakaaDoorCtM
namespace Go.Proofs.YtpkpjkceiikakaaDoor
open Go.ChangeShapes Go.WideShapes Go.ChangeAt Go.RowKit

/-- The holes of the first n words. -/
def rdH (f : ByteArray → Option Int) (ws : List ByteArray) : Nat → Option (List Int)
  | 0 => some []
  | n + 1 => match rdH f ws n with
    | some hs => match f (ws.getD n ByteArray.empty) with
      | some h => some (hs ++ [h])
      | none => none
    | none => none
theorem rdH_next {f : ByteArray → Option Int} {ws : List ByteArray} {n : Nat} {hs : List Int} {h : Int} (h1 : rdH f ws n = some hs) (h2 : f (ws.getD n ByteArray.empty) = some h) : rdH f ws (n + 1) = some (hs ++ [h]) := by rw [rdH, h1]; simp only [h2]
theorem rdH_bad {f : ByteArray → Option Int} {ws : List ByteArray} {n : Nat} {hs : List Int} (h1 : rdH f ws n = some hs) (h2 : f (ws.getD n ByteArray.empty) = none) : rdH f ws (n + 1) = none := by rw [rdH, h1]; simp only [h2]
theorem rdH_none {f : ByteArray → Option Int} {ws : List ByteArray} {n : Nat} (h : rdH f ws n = none) : ∀ k, n ≤ k → rdH f ws k = none
  | 0, hk => by obtain rfl : n = 0 := by omega
                exact h
  | k + 1, hk => by
    by_cases e : n = k + 1
    · rw [← e]; exact h
    · rw [rdH, rdH_none h k (by omega)]
theorem rdH_len {f : ByteArray → Option Int} {ws : List ByteArray} : ∀ (n : Nat) (hs : List Int), rdH f ws n = some hs → hs.length = n
  | 0, hs, h => by rw [rdH] at h; rw [← Option.some.inj h]; rfl
  | n + 1, hs, h => by
    rw [rdH] at h
    split at h
    · rename_i hs' e
      split at h
      · rw [← Option.some.inj h, List.length_append, rdH_len n hs' e]; rfl
      · cases h
    · cases h
/-- The program's hole of a word, and the model's. -/
def fI (w : ByteArray) : Option Int := match pIn 64 w with
  | some h => if 0 ≤ h ∧ h ≤ 95 then some h else none
  | none => none
def fS (w : ByteArray) : Option Int := match numL w.data.toList with
  | some n => if n ≤ 95 then some (n : Int) else none
  | none => none
theorem fI_none {w : ByteArray} (h : pIn 64 w = none) : fI w = none := by unfold fI; rw [h]
theorem fI_out {w : ByteArray} {v : Int} (h : pIn 64 w = some v) (hv : ¬ (0 ≤ v ∧ v ≤ 95)) : fI w = none := by unfold fI; rw [h]; exact if_neg hv
theorem fI_in {w : ByteArray} {v : Int} (h : pIn 64 w = some v) (hv : 0 ≤ v ∧ v ≤ 95) : fI w = some v := by unfold fI; rw [h]; exact if_pos hv
theorem fS_none {w : ByteArray} (h : numL w.data.toList = none) : fS w = none := by unfold fS; rw [h]
theorem fS_out {w : ByteArray} {n : Nat} (h : numL w.data.toList = some n) (hv : ¬ n ≤ 95) : fS w = none := by unfold fS; rw [h]; exact if_neg hv
theorem fS_in {w : ByteArray} {n : Nat} (h : numL w.data.toList = some n) (hv : n ≤ 95) : fS w = some (n : Int) := by unfold fS; rw [h]; exact if_pos hv
def Fok (f : ByteArray → Option Int) : Prop := ∀ n : Nat, n < 96 → f (dec2 n) = some (n : Int)
theorem fI_ok : Fok fI := fun _ hn => fI_in (pIn64 (by omega)) (by omega)
theorem fS_ok : Fok fS := fun _ hn => fS_in (numL_dec2 (by omega)) (by omega)

/-- The card with a text, by a way to read holes. -/
def rcG (f : ByteArray → Option Int) (s : ByteArray) : Option (ByteArray × Int × Int) := match pieces 32 s with
  | [] => none
  | nm :: ws => match rdH f ws ws.length with
    | none => none
    | some hs => if cardOk nm (mo b1 hs hs.length) = true ∧ cdT nm (mo b0 hs hs.length) (mo b1 hs hs.length) = s then some (nm, mo b0 hs hs.length, mo b1 hs hs.length) else none
theorem rcG_bad {f : ByteArray → Option Int} {s nm : ByteArray} {ws : List ByteArray} (hp : pieces 32 s = nm :: ws) {n : Nat} (hn : n ≤ ws.length) (h : rdH f ws n = none) : rcG f s = none := by
  unfold rcG
  rw [hp]
  simp only [rdH_none h _ hn]
theorem rcG_at {f : ByteArray → Option Int} {s nm : ByteArray} {ws : List ByteArray} (hp : pieces 32 s = nm :: ws) {hs : List Int} (h : rdH f ws ws.length = some hs) :
    rcG f s = if cardOk nm (mo b1 hs hs.length) = true ∧ cdT nm (mo b0 hs hs.length) (mo b1 hs hs.length) = s then some (nm, mo b0 hs hs.length, mo b1 hs hs.length) else none := by
  unfold rcG
  rw [hp]
  simp only [h]
theorem u64_wrapR (x : Int) : U64 (IntKind.u64.wrap x) := by
  unfold U64 IntKind.wrap
  simp [IntKind.bits, IntKind.signed]
  omega
theorem mo_u64 (f : Int → Int) (zs : List Int) : ∀ k, U64 (mo f zs k)
  | 0 => by unfold mo U64; omega
  | k + 1 => by unfold mo; exact u64_wrapR _
theorem mo_app (f : Int → Int) (zs ys : List Int) : ∀ k, k ≤ zs.length → mo f (zs ++ ys) k = mo f zs k
  | 0, _ => rfl
  | k + 1, h => by
    unfold mo
    rw [mo_app f zs ys k (by omega)]
    congr 2
    simp only [List.getD]
    rw [List.getElem?_append_left (by omega)]
theorem mo_push (f : Int → Int) (zs : List Int) (z : Int) : mo f (zs ++ [z]) (zs.length + 1) = bits .or .u64 (mo f zs zs.length) (f z) := by
  show bits .or .u64 (mo f (zs ++ [z]) zs.length) (f ((zs ++ [z]).getD zs.length 0)) = _
  rw [mo_app f zs [z] _ (Nat.le_refl _)]
  congr 2
  simp [List.getD]
theorem joinC_snoc (c : UInt8) (q : List UInt8) : ∀ {ps : List (List UInt8)}, ps ≠ [] → joinC c (ps ++ [q]) = joinC c ps ++ c :: q
  | [], h => absurd rfl h
  | [a], _ => rfl
  | a :: b :: r, _ => by
    have ih := joinC_snoc c q (ps := b :: r) (by simp)
    show joinC c (a :: ((b :: r) ++ [q])) = _
    rw [joinC_cons c a (by simp), ih, joinC_cons c a (by simp), List.append_assoc]; rfl
/-- The words of holes. -/
def hw (zs : List Int) : List ByteArray := zs.map fun z => dec2 z.toNat
theorem cdN_join (s : ByteArray) (zs : List Int) : ∀ n, n ≤ zs.length → (cdN s zs n).data.toList = joinC 32 ((s :: hw (zs.take n)).map fun p => p.data.toList)
  | 0, _ => rfl
  | n + 1, h => by
    have e : hw (zs.take (n + 1)) = hw (zs.take n) ++ [dec2 (zs.getD n 0).toNat] := by
      unfold hw
      rw [List.take_add_one, List.getElem?_eq_getElem (show n < zs.length by omega), List.map_append]
      simp [List.getD, show n < zs.length by omega]
    have hs : ((s :: (hw (zs.take n) ++ [dec2 (zs.getD n 0).toNat])).map fun p => p.data.toList) = ((s :: hw (zs.take n)).map fun p => p.data.toList) ++ [(dec2 (zs.getD n 0).toNat).data.toList] := by simp
    rw [← cdN_bytes, cdN_join s zs n (by omega), e, hs, joinC_snoc _ _ (by simp), List.append_assoc]
    rfl
theorem name_free {s : ByteArray} (h : nameOk s = true) : (32 : UInt8) ∉ s.data.toList := by
  intro hm
  unfold nameOk at h
  rw [Bool.and_eq_true] at h
  have := List.all_eq_true.1 h.2 _ hm
  exact absurd this (by decide)
theorem dec_free {n : Nat} (h : n < 100) : (32 : UInt8) ∉ (dec2 n).data.toList := by
  intro hm
  rw [dec2_data] at hm
  have := no_blank_dec n h _ hm
  exact absurd this (by decide)
theorem hw_free {zs : List Int} (h : ∀ z ∈ zs, 0 ≤ z ∧ z ≤ 95) : ∀ p ∈ hw zs, (32 : UInt8) ∉ p.data.toList := by
  intro p hp
  obtain ⟨z, hz, rfl⟩ := List.mem_map.1 hp
  have := h z hz
  exact dec_free (by omega)
theorem rdH_hw {f : ByteArray → Option Int} (hf : Fok f) {zs : List Int} (h : ∀ z ∈ zs, 0 ≤ z ∧ z ≤ 95) : ∀ n, n ≤ zs.length → rdH f (hw zs) n = some (zs.take n)
  | 0, _ => rfl
  | n + 1, hn => by
    have hz := h (zs[n]) (List.getElem_mem _)
    have e : (hw zs).getD n ByteArray.empty = dec2 (zs[n]).toNat := by unfold hw; simp [List.getD, show n < zs.length by omega]
    have h2 : f ((hw zs).getD n ByteArray.empty) = some zs[n] := by
      rw [e, hf _ (by omega)]
      congr 1
      omega
    rw [rdH_next (rdH_hw hf h n (by omega)) h2, List.take_add_one, List.getElem?_eq_getElem (show n < zs.length by omega)]
    rfl
theorem rcG_some {f : ByteArray → Option Int} {s nm : ByteArray} {a b : Int} (h : rcG f s = some (nm, a, b)) : cardOk nm b = true ∧ cdT nm a b = s ∧ U64 a ∧ U64 b := by
  unfold rcG at h
  split at h
  · cases h
  · split at h
    · cases h
    · split at h
      · rename_i hk
        have hh := Option.some.inj h
        simp only [Prod.mk.injEq] at hh
        obtain ⟨rfl, rfl, rfl⟩ := hh
        exact ⟨hk.1, hk.2, mo_u64 _ _ _, mo_u64 _ _ _⟩
      · cases h
theorem rcG_hit {f : ByteArray → Option Int} (hf : Fok f) {nm : ByteArray} {a b : Int} (hk : cardOk nm b = true) (ha : U64 a) (hb : U64 b) : rcG f (cdT nm a b) = some (nm, a, b) := by
  have hk2 := hk
  unfold cardOk at hk2
  rw [Bool.and_eq_true] at hk2
  obtain ⟨hn, hm⟩ := hk2
  unfold U64 at ha hb
  have hb2 : b < 4294967296 := by
    have : b / 4294967296 = 0 := by simpa [maskOk] using hm
    omega
  obtain ⟨x, rfl⟩ := Int.eq_ofNat_of_zero_le ha.1
  obtain ⟨y, rfl⟩ := Int.eq_ofNat_of_zero_le hb.1
  have e0 := mo_hol0 x y (by omega)
  have e1 := mo_hol1 x y (by omega)
  have hz := hol_in96 (hasB (x : Int) (y : Int))
  have ht : cdT nm x y = cdN nm (hol (hasB (x : Int) (y : Int)) 96) (hol (hasB (x : Int) (y : Int)) 96).length := by unfold cdT; rw [if_pos hk]
  generalize hol (hasB (x : Int) (y : Int)) 96 = zs at *
  have hj := cdN_join nm zs zs.length (Nat.le_refl _)
  rw [List.take_length] at hj
  have hp : pieces 32 (cdT nm x y) = nm :: hw zs := by
    rw [ht]
    exact pieces_of hj (by simp) (fun p hp => by
      rcases List.mem_cons.1 hp with rfl | hp
      · exact name_free hn
      · exact hw_free hz p hp)
  have hl : (hw zs).length = zs.length := by unfold hw; rw [List.length_map]
  have hr := rdH_hw hf hz zs.length (Nat.le_refl _)
  rw [List.take_length, ← hl] at hr
  rw [rcG_at hp hr, e0, e1, if_pos ⟨hk, rfl⟩]
theorem rc_same (s : ByteArray) : rcG fI s = rcG fS s := by
  have one : ∀ f g, Fok g → ∀ v, rcG f s = some v → rcG g s = some v := by
    rintro f g hg ⟨nm, a, b⟩ h
    obtain ⟨h1, h2, h3, h4⟩ := rcG_some h
    rw [← h2]
    exact rcG_hit hg h1 h3 h4
  cases hI : rcG fI s with
  | some v => rw [one _ _ fS_ok v hI]
  | none =>
    cases hS : rcG fS s with
    | none => rfl
    | some v => rw [one _ _ fI_ok v hS] at hI; cases hI
end Go.Proofs.YtpkpjkceiikakaaDoor
