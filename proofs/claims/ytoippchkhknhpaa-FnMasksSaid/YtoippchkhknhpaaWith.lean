/- Contracts: a mask with a hole or without it, and which answer is due. -/
import Derived.Test.YtoippchkhknhpaaHole
namespace Go.Proofs.Ytoippchkhknhpaa
open Go.ChangeShapes Go.WideShapes Go.ChangeAt Go.RowKit

theorem isSome_setCell (w : World) (p a : Addr) (v : Value) : ((w.setCell p v).cell? a).isSome = (w.cell? a).isSome := by
  by_cases e : p = a
  · subst e
    cases h : w.cell? p with
    | none =>
      have hn : (w.setCell p v).cell? p = none := by
        simp only [World.setCell, World.cell?, Array.getElem?_modify, if_true] at h ⊢
        cases hb : w.heap[p.block]? with
        | none => simp
        | some o =>
          rw [hb] at h
          cases o with
          | cells c t fr =>
            simp only [Option.map_some] at h ⊢
            split
            · rfl
            · rw [if_neg (by assumption)] at h
              simp only [Array.getElem?_eq_none_iff] at h ⊢
              simpa using h
          | map es c => simp
          | _ => simp
      rw [hn]
    | some u => rw [World.cell?_setCell_same (h := h)]; rfl
  · rw [World.cell?_setCell_other (h := e)]

def wR (a x b n : Int) (o : Bool) : Int := if b / 4294967296 = 0 ∧ 0 ≤ n ∧ n ≤ 95 then (if o then bits .or .u64 a x else bits .andNot .u64 a x) else 0
theorem wR_no (a x : Int) {b n : Int} (o : Bool) (h : ¬ (b / 4294967296 = 0 ∧ 0 ≤ n ∧ n ≤ 95)) : wR a x b n o = 0 := by unfold wR; rw [if_neg h]
theorem wR_on (a x : Int) {b n : Int} (h : b / 4294967296 = 0 ∧ 0 ≤ n ∧ n ≤ 95) : wR a x b n true = bits .or .u64 a x := by unfold wR; rw [if_pos h]; rfl
theorem wR_off (a x : Int) {b n : Int} (h : b / 4294967296 = 0 ∧ 0 ≤ n ∧ n ≤ 95) : wR a x b n false = bits .andNot .u64 a x := by unfold wR; rw [if_pos h]; rfl
theorem ret_with (a b n : Int) (o : Bool) (x y c : Int) (hx : wR a (b0 n) b n o = x) (hy : wR b (b1 n) b n o = y) (hc : hasC b n = c) :
    Ending.returned (.tuple #[.agg #[.int .u64 x, .int .u64 y], .int .i64 c]) = Ending.returned (.tuple #[.agg #[.int .u64 (wR a (b0 n) b n o), .int .u64 (wR b (b1 n) b n o)], .int .i64 (hasC b n)]) := by rw [hx, hy, hc]

theorem iJoin_below (a b c d : Int) (w : World) : Calls Try.prog 55 #[.agg #[.int .u64 a, .int .u64 b], .agg #[.int .u64 c, .int .u64 d]] w fun e w' => e = .returned (.agg #[.int .u64 (bits .or .u64 a c), .int .u64 (bits .or .u64 b d)]) ∧ Below w.heap.size w w' :=
  (iJoin_any a b c d w).mono fun e w' ⟨he, hw⟩ => ⟨he, by subst hw; exact (by repeat' (first | (with_reducible exact Below.refl _ _) | (with_reducible assumption) | (with_reducible refine below_drewN ?_ _) | (with_reducible refine Below.drew ?_) | (with_reducible refine below_new ?_ _) | (with_reducible refine below_next ?_ (by with_reducible assumption)) | (with_reducible refine Below.setCell ?_ ?_ _) | go_size))⟩

theorem sJoin_below (a b c d : Int) (w : World) : Calls Try.prog 103 #[.agg #[.int .u64 a, .int .u64 b], .agg #[.int .u64 c, .int .u64 d]] w fun e w' => e = .returned (.agg #[.int .u64 (bits .or .u64 a c), .int .u64 (bits .or .u64 b d)]) ∧ Below w.heap.size w w' :=
  (sJoin_any a b c d w).mono fun e w' ⟨he, hw⟩ => ⟨he, by subst hw; exact (by repeat' (first | (with_reducible exact Below.refl _ _) | (with_reducible assumption) | (with_reducible refine below_drewN ?_ _) | (with_reducible refine Below.drew ?_) | (with_reducible refine below_new ?_ _) | (with_reducible refine below_next ?_ (by with_reducible assumption)) | (with_reducible refine Below.setCell ?_ ?_ _) | go_size))⟩

theorem iLess_below (a b c d : Int) (w : World) : Calls Try.prog 56 #[.agg #[.int .u64 a, .int .u64 b], .agg #[.int .u64 c, .int .u64 d]] w fun e w' => e = .returned (.agg #[.int .u64 (bits .andNot .u64 a c), .int .u64 (bits .andNot .u64 b d)]) ∧ Below w.heap.size w w' :=
  (iLess_any a b c d w).mono fun e w' ⟨he, hw⟩ => ⟨he, by subst hw; exact (by repeat' (first | (with_reducible exact Below.refl _ _) | (with_reducible assumption) | (with_reducible refine below_drewN ?_ _) | (with_reducible refine Below.drew ?_) | (with_reducible refine below_new ?_ _) | (with_reducible refine below_next ?_ (by with_reducible assumption)) | (with_reducible refine Below.setCell ?_ ?_ _) | go_size))⟩

theorem sLess_below (a b c d : Int) (w : World) : Calls Try.prog 116 #[.agg #[.int .u64 a, .int .u64 b], .agg #[.int .u64 c, .int .u64 d]] w fun e w' => e = .returned (.agg #[.int .u64 (bits .andNot .u64 a c), .int .u64 (bits .andNot .u64 b d)]) ∧ Below w.heap.size w w' :=
  (sLess_any a b c d w).mono fun e w' ⟨he, hw⟩ => ⟨he, by subst hw; exact (by repeat' (first | (with_reducible exact Below.refl _ _) | (with_reducible assumption) | (with_reducible refine below_drewN ?_ _) | (with_reducible refine Below.drew ?_) | (with_reducible refine below_new ?_ _) | (with_reducible refine below_next ?_ (by with_reducible assumption)) | (with_reducible refine Below.setCell ?_ ?_ _) | go_size))⟩

set_option maxHeartbeats 3200000 in
theorem iWith_any (a b n : Int) (o : Bool) (w : World) :
    Calls Try.prog 66 #[.agg #[.int .u64 a, .int .u64 b], .int .i64 n, .bool o] w fun e w' => e = .returned (.tuple #[.agg #[.int .u64 (wR a (b0 n) b n o), .int .u64 (wR b (b1 n) b n o)], .int .i64 (hasC b n)]) ∧ Below w.heap.size w w' := by
  by_cases hv : b / 4294967296 = 0
  · have hvb : (b / 4294967296 == 0) = true := by simp [hv]
    by_cases hn : 0 ≤ n ∧ n ≤ 95
    · have k1 : decide (0 ≤ n) = true := by simp; omega
      have k2 : decide (n < 96) = true := by simp; omega
      obtain ⟨n0, n1⟩ := hn
      cases o
      · have e1 := wR_off a (b0 n) ⟨hv, n0, n1⟩
        have e2 := wR_off b (b1 n) ⟨hv, n0, n1⟩
        have e3 := hasC_ok hv ⟨n0, n1⟩
        have H1 := Lib.hid e1
        have H2 := Lib.hid e2
        have H3 := Lib.hid e3
        clear e1 e2 e3 hv
        go_enter Try.func66, Try.ntmps66
        go_wp2
        go_region_held3 (fun w' => w'.cell? ⟨w.heap.size, 0, none⟩ = some (.int .u64 a) ∧ w'.cell? ⟨w.heap.size, 1, none⟩ = some (.int .u64 b) ∧ (w'.cell? ⟨w.heap.size + 1, 0, none⟩).isSome = true ∧ (w'.cell? ⟨w.heap.size + 1, 1, none⟩).isSome = true ∧ w.heap.size + 2 ≤ w'.heap.size ∧ Below w.heap.size w w')
          (first | (go_split_ands; refine ⟨?_, ?_, ?_, ?_, ?_, ?_⟩ <;> first | with_reducible assumption | (rw [isSome_setCell, isSome_setCell]; with_reducible assumption) | (rw [hB.cell (by first | omega | (simp; done) | (simp; omega))]; with_reducible assumption) | exact (hB.cell (by first | omega | (simp; done) | (simp; omega))).trans (by with_reducible assumption) | (rw [hB.cell (by first | omega | (simp; done) | (simp; omega))]; ((try simp only [World.cell?_drew]); (repeat (first | rw [World.cell?_alloc_past (hn := (by first | omega | (simp; done) | (simp; omega)))] | rw [World.cell?_setCell_far _ _ _ _ (by first | omega | (simp; done) | (simp; omega))])); first | with_reducible assumption | (simp; done) | (simp [go_sem]; done))) | ((try simp only [World.cell?_drew]); (repeat (first | rw [World.cell?_alloc_past (hn := (by first | omega | (simp; done) | (simp; omega)))] | rw [World.cell?_setCell_far _ _ _ _ (by first | omega | (simp; done) | (simp; omega))])); first | with_reducible assumption | (simp; done) | (simp [go_sem]; done)) | (have := hB.size; omega) | (have := hB.size; simp at this; omega) | (simp; omega) | ((repeat' (first | (with_reducible exact Below.refl _ _) | (with_reducible assumption) | (with_reducible refine below_drewN ?_ _) | (with_reducible refine Below.drew ?_) | (with_reducible refine below_new ?_ _) | (with_reducible refine below_next ?_ (by with_reducible assumption)) | (with_reducible refine Below.setCell ?_ ?_ _) | go_size)); done)))
          (first
            | (go_at_call 107; refine (iOne_any _ n0 n1 _).mono ?_; rintro e w1 ⟨rfl, hB⟩; obtain ⟨hc, hf, hz⟩ := bcell hB)
            | (go_at_call 56; refine (iLess_below _ _ _ _ _).mono ?_; rintro e w1 ⟨rfl, hB⟩; obtain ⟨hc, hf, hz⟩ := bcell hB))
        all_goals go_wp2
        all_goals go_split_ands
        all_goals have i0 : (w1.cell? ⟨w.heap.size + 1, 0, none⟩).isSome = true := (by have h := ‹(World.cell? _ ⟨w.heap.size + 1, 0, none⟩).isSome = true›; simpa only [isSome_setCell] using h)
        all_goals have i1 : (w1.cell? ⟨w.heap.size + 1, 1, none⟩).isSome = true := (by have h := ‹(World.cell? _ ⟨w.heap.size + 1, 1, none⟩).isSome = true›; simpa only [isSome_setCell] using h)
        all_goals refine bodyPost_ret (by simp [results, Try.results66, go_sem, i0, i1]; try rfl) rfl ?_
        all_goals (refine ⟨ret_with a b n false _ _ _ H1.out H2.out H3.out, ?_⟩)
        all_goals ((repeat' (first | (with_reducible exact Below.refl _ _) | (with_reducible assumption) | (with_reducible refine below_drewN ?_ _) | (with_reducible refine Below.drew ?_) | (with_reducible refine below_new ?_ _) | (with_reducible refine below_next ?_ (by with_reducible assumption)) | (with_reducible refine Below.setCell ?_ ?_ _) | go_size)); done)
      · have e1 := wR_on a (b0 n) ⟨hv, n0, n1⟩
        have e2 := wR_on b (b1 n) ⟨hv, n0, n1⟩
        have e3 := hasC_ok hv ⟨n0, n1⟩
        have H1 := Lib.hid e1
        have H2 := Lib.hid e2
        have H3 := Lib.hid e3
        clear e1 e2 e3 hv
        go_enter Try.func66, Try.ntmps66
        go_wp2
        go_region_held3 (fun w' => w'.cell? ⟨w.heap.size, 0, none⟩ = some (.int .u64 a) ∧ w'.cell? ⟨w.heap.size, 1, none⟩ = some (.int .u64 b) ∧ (w'.cell? ⟨w.heap.size + 1, 0, none⟩).isSome = true ∧ (w'.cell? ⟨w.heap.size + 1, 1, none⟩).isSome = true ∧ w.heap.size + 2 ≤ w'.heap.size ∧ Below w.heap.size w w')
          (first | (go_split_ands; refine ⟨?_, ?_, ?_, ?_, ?_, ?_⟩ <;> first | with_reducible assumption | (rw [isSome_setCell, isSome_setCell]; with_reducible assumption) | (rw [hB.cell (by first | omega | (simp; done) | (simp; omega))]; with_reducible assumption) | exact (hB.cell (by first | omega | (simp; done) | (simp; omega))).trans (by with_reducible assumption) | (rw [hB.cell (by first | omega | (simp; done) | (simp; omega))]; ((try simp only [World.cell?_drew]); (repeat (first | rw [World.cell?_alloc_past (hn := (by first | omega | (simp; done) | (simp; omega)))] | rw [World.cell?_setCell_far _ _ _ _ (by first | omega | (simp; done) | (simp; omega))])); first | with_reducible assumption | (simp; done) | (simp [go_sem]; done))) | ((try simp only [World.cell?_drew]); (repeat (first | rw [World.cell?_alloc_past (hn := (by first | omega | (simp; done) | (simp; omega)))] | rw [World.cell?_setCell_far _ _ _ _ (by first | omega | (simp; done) | (simp; omega))])); first | with_reducible assumption | (simp; done) | (simp [go_sem]; done)) | (have := hB.size; omega) | (have := hB.size; simp at this; omega) | (simp; omega) | ((repeat' (first | (with_reducible exact Below.refl _ _) | (with_reducible assumption) | (with_reducible refine below_drewN ?_ _) | (with_reducible refine Below.drew ?_) | (with_reducible refine below_new ?_ _) | (with_reducible refine below_next ?_ (by with_reducible assumption)) | (with_reducible refine Below.setCell ?_ ?_ _) | go_size)); done)))
          (first
            | (go_at_call 107; refine (iOne_any _ n0 n1 _).mono ?_; rintro e w1 ⟨rfl, hB⟩; obtain ⟨hc, hf, hz⟩ := bcell hB)
            | (go_at_call 55; refine (iJoin_below _ _ _ _ _).mono ?_; rintro e w1 ⟨rfl, hB⟩; obtain ⟨hc, hf, hz⟩ := bcell hB))
        all_goals go_wp2
        all_goals go_split_ands
        all_goals have i0 : (w1.cell? ⟨w.heap.size + 1, 0, none⟩).isSome = true := (by have h := ‹(World.cell? _ ⟨w.heap.size + 1, 0, none⟩).isSome = true›; simpa only [isSome_setCell] using h)
        all_goals have i1 : (w1.cell? ⟨w.heap.size + 1, 1, none⟩).isSome = true := (by have h := ‹(World.cell? _ ⟨w.heap.size + 1, 1, none⟩).isSome = true›; simpa only [isSome_setCell] using h)
        all_goals refine bodyPost_ret (by simp [results, Try.results66, go_sem, i0, i1]; try rfl) rfl ?_
        all_goals (refine ⟨ret_with a b n true _ _ _ H1.out H2.out H3.out, ?_⟩)
        all_goals ((repeat' (first | (with_reducible exact Below.refl _ _) | (with_reducible assumption) | (with_reducible refine below_drewN ?_ _) | (with_reducible refine Below.drew ?_) | (with_reducible refine below_new ?_ _) | (with_reducible refine below_next ?_ (by with_reducible assumption)) | (with_reducible refine Below.setCell ?_ ?_ _) | go_size)); done)
    · have hno : ¬ (b / 4294967296 = 0 ∧ 0 ≤ n ∧ n ≤ 95) := fun x => hn x.2
      have hk : n < 0 ∨ 95 < n := by omega
      rcases hk with hk | hk
      · have k1 : decide (0 ≤ n) = false := by simp; omega
        go_enter Try.func66, Try.ntmps66
        go_wp2
        refine bodyPost_ret (by simp [results, Try.results66, go_sem]; try rfl) rfl ?_
        exact ⟨ret_with a b n o _ _ _ (wR_no _ _ _ hno) (wR_no _ _ _ hno) (hasC_out hv hn), (by repeat' (first | (with_reducible exact Below.refl _ _) | (with_reducible assumption) | (with_reducible refine below_drewN ?_ _) | (with_reducible refine Below.drew ?_) | (with_reducible refine below_new ?_ _) | (with_reducible refine below_next ?_ (by with_reducible assumption)) | (with_reducible refine Below.setCell ?_ ?_ _) | go_size))⟩
      · have k1 : decide (0 ≤ n) = true := by simp; omega
        have k2 : decide (n < 96) = false := by simp; omega
        go_enter Try.func66, Try.ntmps66
        go_wp2
        refine bodyPost_ret (by simp [results, Try.results66, go_sem]; try rfl) rfl ?_
        exact ⟨ret_with a b n o _ _ _ (wR_no _ _ _ hno) (wR_no _ _ _ hno) (hasC_out hv hn), (by repeat' (first | (with_reducible exact Below.refl _ _) | (with_reducible assumption) | (with_reducible refine below_drewN ?_ _) | (with_reducible refine Below.drew ?_) | (with_reducible refine below_new ?_ _) | (with_reducible refine below_next ?_ (by with_reducible assumption)) | (with_reducible refine Below.setCell ?_ ?_ _) | go_size))⟩
  · have hvb : (b / 4294967296 == 0) = false := by simp [hv]
    have hno : ¬ (b / 4294967296 = 0 ∧ 0 ≤ n ∧ n ≤ 95) := fun x => hv x.1
    go_enter Try.func66, Try.ntmps66
    go_wp2
    refine bodyPost_ret (by simp [results, Try.results66, go_sem]; try rfl) rfl ?_
    exact ⟨ret_with a b n o _ _ _ (wR_no _ _ _ hno) (wR_no _ _ _ hno) (hasC_inv n hv), (by repeat' (first | (with_reducible exact Below.refl _ _) | (with_reducible assumption) | (with_reducible refine below_drewN ?_ _) | (with_reducible refine Below.drew ?_) | (with_reducible refine below_new ?_ _) | (with_reducible refine below_next ?_ (by with_reducible assumption)) | (with_reducible refine Below.setCell ?_ ?_ _) | go_size))⟩


end Go.Proofs.Ytoippchkhknhpaa