/- Contracts: a mask with a hole or without it, and which answer is due. -/
import Derived.Test.YtpkpjkceiikakaaGreatDoorHole
namespace Go.Proofs.YtpkpjkceiikakaaGreatDoor
open Go.ChangeShapes Go.WideShapes Go.ChangeAt Go.RowKit

theorem isSome_setCell (w : World) (p a : Addr) (v : Value) : ((w.setCell p v).cell? a).isSome = (w.cell? a).isSome := by
  by_cases e : p = a
  · subst e
    cases h : w.cell? p with
    | none =>
      have hn : (w.setCell p v).cell? p = none := by
        simp only [World.setCell, World.cell?, Array.getElem?_modify, if_true] at h ⊢
        cases hb : w.heap[p.block]? with
        | none => simp
        | some o =>
          rw [hb] at h
          cases o with
          | cells c t fr =>
            simp only [Option.map_some] at h ⊢
            split
            · rfl
            · rw [if_neg (by assumption)] at h
              simp only [Array.getElem?_eq_none_iff] at h ⊢
              simpa using h
          | map es c => simp
          | _ => simp
      rw [hn]
    | some u => rw [World.cell?_setCell_same (h := h)]; rfl
  · rw [World.cell?_setCell_other (h := e)]

def wR (a x b n : Int) (o : Bool) : Int := if b / 4294967296 = 0 ∧ 0 ≤ n ∧ n ≤ 95 then (if o then bits .or .u64 a x else bits .andNot .u64 a x) else 0
theorem wR_no (a x : Int) {b n : Int} (o : Bool) (h : ¬ (b / 4294967296 = 0 ∧ 0 ≤ n ∧ n ≤ 95)) : wR a x b n o = 0 := by unfold wR; rw [if_neg h]
theorem wR_on (a x : Int) {b n : Int} (h : b / 4294967296 = 0 ∧ 0 ≤ n ∧ n ≤ 95) : wR a x b n true = bits .or .u64 a x := by unfold wR; rw [if_pos h]; rfl
theorem wR_off (a x : Int) {b n : Int} (h : b / 4294967296 = 0 ∧ 0 ≤ n ∧ n ≤ 95) : wR a x b n false = bits .andNot .u64 a x := by unfold wR; rw [if_pos h]; rfl
theorem ret_with (a b n : Int) (o : Bool) (x y c : Int) (hx : wR a (b0 n) b n o = x) (hy : wR b (b1 n) b n o = y) (hc : hasC b n = c) :
    Ending.returned (.tuple #[.agg #[.int .u64 x, .int .u64 y], .int .i64 c]) = Ending.returned (.tuple #[.agg #[.int .u64 (wR a (b0 n) b n o), .int .u64 (wR b (b1 n) b n o)], .int .i64 (hasC b n)]) := by rw [hx, hy, hc]

theorem iJoin_below (a b c d : Int) (w : World) : Calls Tryz.prog 44 #[.agg #[.int .u64 a, .int .u64 b], .agg #[.int .u64 c, .int .u64 d]] w fun e w' => e = .returned (.agg #[.int .u64 (bits .or .u64 a c), .int .u64 (bits .or .u64 b d)]) ∧ Below w.heap.size w w' :=
  (iJoin_any a b c d w).mono fun e w' ⟨he, hw⟩ => ⟨he, by subst hw; exact (by repeat' (first | (with_reducible exact Below.refl _ _) | (with_reducible assumption) | (with_reducible refine below_drewN ?_ _) | (with_reducible refine Below.drew ?_) | (with_reducible refine below_new ?_ _) | (with_reducible refine below_next ?_ (by with_reducible assumption)) | (with_reducible refine Below.setCell ?_ ?_ _) | go_size))⟩

theorem sJoin_below (a b c d : Int) (w : World) : Calls Tryz.prog 34 #[.agg #[.int .u64 a, .int .u64 b], .agg #[.int .u64 c, .int .u64 d]] w fun e w' => e = .returned (.agg #[.int .u64 (bits .or .u64 a c), .int .u64 (bits .or .u64 b d)]) ∧ Below w.heap.size w w' :=
  (sJoin_any a b c d w).mono fun e w' ⟨he, hw⟩ => ⟨he, by subst hw; exact (by repeat' (first | (with_reducible exact Below.refl _ _) | (with_reducible assumption) | (with_reducible refine below_drewN ?_ _) | (with_reducible refine Below.drew ?_) | (with_reducible refine below_new ?_ _) | (with_reducible refine below_next ?_ (by with_reducible assumption)) | (with_reducible refine Below.setCell ?_ ?_ _) | go_size))⟩





end Go.Proofs.YtpkpjkceiikakaaGreatDoor