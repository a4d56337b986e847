/- Contracts: the holes whose passes sort by a field, the model's loop; a row turned round. -/
import Derived.Test.YtaiedpblfnaooabHoles
import Derived.Test.YtaiedpblfnaooabVFs
import Derived.BigRegion
namespace Go.Proofs.Ytaiedpblfnaooab
open Go.ChangeShapes Go.WideShapes Go.ChangeAt Go.RowKit

/-- Rising numbers from st on; falling ones down to it. -/
def desc (st : Int) (n : Nat) : List Int := (List.range n).map fun i : Nat => st + (n : Int) - 1 - (i : Int)
def dsc (st : Int) (n k : Nat) : List Int := (List.range k).map fun i : Nat => st + (n : Int) - 1 - (i : Int)
theorem dsc_succ (st : Int) (n k : Nat) : dsc st n (k + 1) = dsc st n k ++ [st + (n : Int) - 1 - (k : Int)] := by unfold dsc; rw [List.range_succ, List.map_append]; rfl
theorem dsc_len (st : Int) (n k : Nat) : (dsc st n k).length = k := by unfold dsc; simp
theorem marks_succ (st : Int) (k : Nat) : marks st (k + 1) = marks st k ++ [st + (k : Int)] := by unfold marks; rw [List.range_succ, List.map_append]; rfl

/-- m from both ends turned round. -/
def swp (zs : List Int) (m : Nat) : List Int := (List.range zs.length).map fun i : Nat => if i < m ∨ zs.length - 1 - m < i then zs.getD (zs.length - 1 - i) 0 else zs.getD i 0
theorem swp_len (zs : List Int) (m : Nat) : (swp zs m).length = zs.length := by unfold swp; simp
theorem swp_zero (zs : List Int) : swp zs 0 = zs := by
  apply List.ext_getElem?
  intro i
  unfold swp
  by_cases h : i < zs.length
  · simp [h, List.getD, show ¬ zs.length - 1 < i by omega]
  · simp [h]
theorem swp_all (zs : List Int) (m q : Nat) (h : m + q + 1 = zs.length) (hm : q ≤ m) : swp zs m = zs.reverse := by
  apply List.ext_getElem?
  intro i
  unfold swp
  by_cases hi : i < zs.length
  · rw [List.getElem?_map, List.getElem?_range hi, List.getElem?_reverse hi]
    simp only [Option.map_some, List.getD]
    by_cases c : i < m ∨ zs.length - 1 - m < i
    · rw [if_pos c, List.getElem?_eq_getElem (by omega)]; rfl
    · have e : zs.length - 1 - i = i := by omega
      rw [if_neg c, e, List.getElem?_eq_getElem hi]; rfl
  · simp [hi]
theorem swp_at (zs : List Int) (m i : Nat) (h : m ≤ i) (h2 : i ≤ zs.length - 1 - m) (h3 : i < zs.length) : (swp zs m)[i]? = some (zs.getD i 0) := by
  unfold swp
  rw [List.getElem?_map, List.getElem?_range h3]
  simp only [Option.map_some]
  rw [if_neg (by omega)]
theorem swp_next (zs : List Int) (m q : Nat) (h : m + q + 1 = zs.length) (hm : m < q) :
    (((swp zs m).map (Value.int .i64)).set m (.int .i64 (zs.getD q 0))).set q (.int .i64 (zs.getD m 0)) = (swp zs (m + 1)).map (Value.int .i64) := by
  apply List.ext_getElem?
  intro i
  rw [List.getElem?_set, List.getElem?_set]
  unfold swp
  by_cases e : q = i
  · subst e
    simp [show q < zs.length by omega, show zs.length - 1 - (m + 1) < q by omega, show zs.length - 1 - q = m by omega]
  · rw [if_neg e]
    by_cases e2 : m = i
    · subst e2
      simp [show m < zs.length by omega, show zs.length - 1 - m = q by omega]
    · rw [if_neg e2]
      by_cases hi : i < zs.length
      · rw [List.getElem?_map, List.getElem?_map, List.getElem?_map, List.getElem?_map, List.getElem?_range hi]
        simp only [Option.map_some]
        by_cases c : i < m ∨ zs.length - 1 - m < i
        · rw [if_pos c, if_pos (by omega)]
        · rw [if_neg c, if_neg (by omega)]
      · simp [hi]
theorem dsc_rev (st : Int) (n : Nat) : (marks st n).reverse = dsc st n n := by
  apply List.ext_getElem?
  intro i
  by_cases hi : i < n
  · rw [List.getElem?_reverse (by rw [marks_len]; exact hi), marks_len]
    unfold marks dsc
    simp [hi, show n - 1 - i < n by omega]
    omega
  · rw [List.getElem?_eq_none (by simp [marks]; omega), List.getElem?_eq_none (by rw [dsc_len]; omega)]

set_option maxHeartbeats 1600000 in
theorem reverse_any (B : Nat) (zs : List Int) (v : Value) (w : World) (h : OwnInts B zs v w) (hn : zs.length ≤ 100) (hp : 0 < zs.length) :
    Calls Try.prog 134 #[v] w fun e w' => e = .returned (.tuple #[]) ∧ OwnInts B zs.reverse v w' ∧ Below B w w' := by
  obtain ⟨h1, h2⟩ := h
  rcases h2 with ⟨rfl, hz⟩ | ⟨g, cap, cur, rfl, hb, hg, hcap, hmax, hsz, htk⟩
  · omega
  · have O : w.ownsRow B 2 1 (.slice (some ⟨g, 0, none⟩) zs.length cap) zs.length ((swp zs 0).map (Value.int .i64)) := by
      rw [swp_zero]; exact ⟨h1, .inr ⟨g, cap, cur, rfl, hb, hg, hcap, hmax, hsz, htk⟩⟩
    have hgB := Lib.hid hb
    have v1 : IntKind.i64.wrap ((zs.length : Int) - 1) = ((zs.length - 1 : Nat) : Int) := by rw [IntWalk.i64_in _ (by omega)]; omega
    have V1 := Lib.hid v1
    clear h1 hg hcap hsz htk hmax cur v1
    go_enter Try.func134, Try.ntmps134
    go_wp2
    go_loopw [2, 3] (fun i j wr => ∃ m q : Nat, m + q + 1 = zs.length ∧ i = .int .i64 m ∧ j = .int .i64 q ∧ wr.ownsRow B 2 1 (.slice (some ⟨g, 0, none⟩) zs.length cap) zs.length ((swp zs m).map (Value.int .i64)) ∧ Below B w wr) (fun _ j _ => (intOf j).toNat)
    case atStart => exact ⟨0, zs.length - 1, by omega, rfl, by first | rfl | (congr 1; omega) | (have := V1.out; simp; omega), O, Below.refl _ _⟩
    case round =>
      obtain ⟨m, q, hmq, rfl, rfl, O2, hB2⟩ := hrel
      clear O
      have O3 := Lib.hid O2
      have B3 := Lib.hid hB2
      by_cases hlt : m < q
      · have hm0 : m < zs.length := by omega
        have hq0 : q < zs.length := by omega
        have cm := O2.cellAt m (by omega)
        have cq := O2.cellAt q (by omega)
        rw [List.getElem?_map, swp_at zs m m (Nat.le_refl _) (by omega) hm0] at cm
        rw [List.getElem?_map, swp_at zs m q (by omega) (by omega) hq0] at cq
        simp only [Option.map_some] at cm cq
        have fm := O2.frozenAt m
        have fq := O2.frozenAt q
        have hn := Lib.hid (swp_next zs m q hmq hlt)
        generalize zs.getD m 0 = zm at *
        generalize zs.getD q 0 = zq at *
        have hne : m ≠ q := by omega
        have hne2 : ¬ (q = m) := by omega
        have hmi : (m : Int) < (zs.length : Int) := by omega
        have hqi : (q : Int) < (zs.length : Int) := by omega
        have hm1 : (0 : Int) ≤ (m : Int) := by omega
        have hq1 : (0 : Int) ≤ (q : Int) := by omega
        clear O2 hB2
        go_wp2
        obtain ⟨wo, rfl⟩ : ∃ wo : World, wo = wr := ⟨_, rfl⟩
        go_region
        go_wp2
        have s1 := O3.out.stored m (.int .i64 zq)
        have s2 := s1.1.stored q (.int .i64 zm)
        have o := s2.1
        rw [hn.out] at o
        exact ⟨⟨m + 1, q - 1, by omega, by rw [Int.natCast_succ], by rw [show ((q - 1 : Nat) : Int) = (q : Int) - 1 by omega], o, ((B3.out.setCell hb _).setCell hb _).drew⟩, by simp [intOf]; omega⟩
      · have hr := Lib.hid (swp_all zs m q hmq (by omega))
        clear O2 hB2
        go_wp2
        go_end0
        refine ⟨rfl, ?_, B3.out⟩
        have o := O3.out
        rw [hr.out] at o
        unfold OwnInts
        rw [List.length_reverse]
        exact o
end Go.Proofs.Ytaiedpblfnaooab
