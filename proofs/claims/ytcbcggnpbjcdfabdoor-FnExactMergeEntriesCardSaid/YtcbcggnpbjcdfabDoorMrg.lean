/- A catalogue in which one entry has become a synonym of another one stays valid (no program). -/
import Derived.Test.YtcbcggnpbjcdfabDoorLeads
namespace Go.Proofs.YtcbcggnpbjcdfabDoor
open Go.ChangeShapes Go.WideShapes Go.ChangeAt Go.RowKit

def mE (i k : Int) (n : Nat) (e : Et) : Et := if (n : Int) = i then ⟨e.s, k, -1⟩ else ⟨e.s, if e.a = i then k else e.a, if e.b = i then k else e.b⟩
def mgL (cs : List Et) (i k : Int) : List Et := (List.range cs.length).map fun n => mE i k n (etAt cs n)
theorem mg_len (cs : List Et) (i k : Int) : (mgL cs i k).length = cs.length := by unfold mgL; simp
theorem mg_at {cs : List Et} (i k : Int) {n : Nat} (h : n < cs.length) : etAt (mgL cs i k) n = mE i k n (etAt cs n) := etAt_map _ _ _ h
theorem mg_s (i k : Int) (n : Nat) (e : Et) : (mE i k n e).s = e.s := by unfold mE; split <;> rfl
section
variable {cs : List Et} {i k : Int}
theorem mg_pref (hi : pref cs i = true) (hk : pref cs k = true) {x : Int} : pref (mgL cs i k) x = true ↔ pref cs x = true ∧ x ≠ i := by
  have h1 := pref_iff.1 hi
  have h2 := pref_iff.1 hk
  rw [pref_iff, pref_iff, mg_len]
  constructor
  · rintro ⟨hx, ha⟩
    rw [mg_at i k (by omega)] at ha
    unfold mE at ha
    by_cases e : ((x.toNat : Nat) : Int) = i
    · rw [if_pos e] at ha; simp at ha; omega
    · rw [if_neg e] at ha
      simp only at ha
      by_cases e2 : (etAt cs x.toNat).a = i
      · rw [if_pos e2] at ha; omega
      · rw [if_neg e2] at ha; exact ⟨⟨hx, ha⟩, by omega⟩
  · rintro ⟨⟨hx, ha⟩, hne⟩
    refine ⟨hx, ?_⟩
    rw [mg_at i k (by omega)]
    unfold mE
    rw [if_neg (by omega)]
    simp only
    rw [if_neg (by omega)]
    exact ha
theorem mg_ent (hi : pref cs i = true) (hk : pref cs k = true) (hne : k ≠ i) {n : Nat} (h : entOk cs (etAt cs n) = true) : entOk (mgL cs i k) (mE i k n (etAt cs n)) = true := by
  have h1 := pref_iff.1 hi
  have h2 := pref_iff.1 hk
  have pk : pref (mgL cs i k) k = true := (mg_pref hi hk).2 ⟨hk, hne⟩
  unfold entOk at h ⊢
  simp only [Bool.and_eq_true, Bool.or_eq_true, beq_iff_eq] at h ⊢
  obtain ⟨⟨ha, hb⟩, hc⟩ := h
  unfold mE
  split
  · exact ⟨⟨.inr pk, .inl rfl⟩, .inr rfl⟩
  · refine ⟨⟨?_, ?_⟩, ?_⟩
    · show (if (etAt cs n).a = i then k else (etAt cs n).a) = -1 ∨ pref (mgL cs i k) (if (etAt cs n).a = i then k else (etAt cs n).a) = true
      split
      · exact .inr pk
      · next e => exact ha.imp id fun p => (mg_pref hi hk).2 ⟨p, e⟩
    · show (if (etAt cs n).b = i then k else (etAt cs n).b) = -1 ∨ pref (mgL cs i k) (if (etAt cs n).b = i then k else (etAt cs n).b) = true
      split
      · exact .inr pk
      · next e => exact hb.imp id fun p => (mg_pref hi hk).2 ⟨p, e⟩
    · show (if (etAt cs n).a = i then k else (etAt cs n).a) = -1 ∨ (if (etAt cs n).b = i then k else (etAt cs n).b) = -1
      rcases hc with e | e
      · left; rw [if_neg (by omega)]; exact e
      · right; rw [if_neg (by omega)]; exact e
theorem mg_names (n : Nat) (hn : n ≤ cs.length) : enTo (mgL cs i k) n = enTo cs n := by
  unfold enTo
  refine List.map_congr_left fun j hj => ?_
  rw [mg_at i k (by have := List.mem_range.1 hj; omega), mg_s]
theorem mg_eTo (hi : pref cs i = true) (hk : pref cs k = true) (hne : k ≠ i) (hT : eTo cs cs.length = true) : ∀ n, n ≤ cs.length → eTo (mgL cs i k) n = true
  | 0, _ => rfl
  | n + 1, hn => by
    have h1 := eTo_at hT (show n < cs.length by omega)
    have h3 : hasN (enTo cs n) (etAt cs n).s = false := by
      cases e : hasN (enTo cs n) (etAt cs n).s
      · rfl
      · rw [eTo_no (eTo_twice e) cs.length (by omega)] at hT; cases hT
    refine eTo_yes (mg_eTo hi hk hne hT n (by omega)) ?_ ?_ ?_
    · rw [mg_at i k (by omega), mg_s]; exact h1.1
    · rw [mg_at i k (by omega)]; exact mg_ent hi hk hne h1.2
    · rw [mg_names n (by omega), mg_at i k (by omega), mg_s]; exact h3
theorem mg_up (hi : pref cs i = true) (hT : eTo cs cs.length = true) {x : Int} (hx : pref cs x = true) : ∀ l, (∀ j, j ≤ l → up cs j x ≠ i) → up (mgL cs i k) l x = up cs l x
  | 0, _ => rfl
  | l + 1, h => by
    have h1 := pref_iff.1 hi
    have ih := mg_up hi hT hx l fun j hj => h j (by omega)
    have hl := h l (by omega)
    have hn := h (l + 1) (Nat.le_refl _)
    rw [up] at hn ⊢
    rw [up, ih]
    by_cases e : up cs l x = -1
    · rw [if_pos e, if_pos e]
    · rw [if_neg e] at hn
      rw [if_neg e, if_neg e]
      have hp := pref_iff.1 ((up_pref hT hx l).resolve_left e)
      rw [mg_at i k (by omega)]
      unfold mE
      rw [if_neg (by omega)]
      simp only
      rw [if_neg hn]
theorem mg_ok (hz : catOk cs = true) (hi : pref cs i = true) (hk : pref cs k = true) (hno : leads cs k i = false) : catOk (mgL cs i k) = true := by
  obtain ⟨hn, hT, hE⟩ := cat_parts hz
  have h1 := pref_iff.1 hi
  have h2 := pref_iff.1 hk
  have end0 : ∀ x, pref cs x = true → up cs cs.length x = -1 := fun x hx => by
    have hb := pref_iff.1 hx
    have := hE x.toNat (by omega)
    unfold firstE at this
    rw [if_pos hb.2] at this
    rwa [show ((x.toNat : Nat) : Int) = x by omega] at this
  have hek := end0 k hk
  have kno : ∀ j, up cs j k ≠ i := fun j e => by
    have hj : up cs j k ≠ -1 := by omega
    rw [leads_yes (plen_lt hek hj) e] at hno
    cases hno
  have hne : k ≠ i := kno 0
  have hTd := mg_eTo hi hk hne hT cs.length (Nat.le_refl _)
  have hTd2 : eTo (mgL cs i k) (mgL cs i k).length = true := by rw [mg_len]; exact hTd
  have kd : up (mgL cs i k) cs.length k = -1 := by rw [mg_up hi hT hk cs.length fun j _ => kno j]; exact hek
  refine cat_yesI (by rw [mg_len]; exact hn) hTd2 fun j hj => ?_
  have hp := firstE_pref hTd2 hj
  obtain ⟨px, xi⟩ := (mg_pref hi hk).1 hp
  generalize firstE (mgL cs i k) j = x at *
  have some : ∃ m, up (mgL cs i k) m x = -1 := by
    by_cases hh : ∃ m, up cs m x = i
    · obtain ⟨hm, hleast⟩ := leastOf_spec hh
      generalize leastOf (fun m => up cs m x = i) = m at *
      cases m with
      | zero => exact absurd hm xi
      | succ m =>
        have hbefore : ∀ j, j ≤ m → up cs j x ≠ i := fun j hj e => by have := hleast j e; omega
        have e1 := mg_up (k := k) hi hT px m hbefore
        have hy : up cs m x ≠ -1 := fun e => by rw [up, if_pos e] at hm; omega
        have hpy := pref_iff.1 ((up_pref hT px m).resolve_left hy)
        rw [up, if_neg hy] at hm
        have hym := hbefore m (Nat.le_refl _)
        have e2 : up (mgL cs i k) (m + 1) x = k := by
          rw [up, e1, if_neg hy, mg_at i k (by omega)]
          unfold mE
          rw [if_neg (by omega)]
          simp only
          rw [if_pos hm]
        exact ⟨m + 1 + cs.length, by rw [up_add, e2]; exact kd⟩
    · exact ⟨cs.length, by rw [mg_up hi hT px cs.length fun j _ e => hh ⟨j, e⟩]; exact end0 x px⟩
  refine Classical.byContradiction fun hn => ?_
  obtain ⟨m, hm⟩ := some
  exact up_ring hTd2 hp hn m hm
end
end Go.Proofs.YtcbcggnpbjcdfabDoor
