/- Contracts: DropsCard, the program's and the model's. -/
import Derived.Test.YtljabggcdomfgaaDrops
import Derived.Test.YtljabggcdomfgaaQLaw
import Derived.Deep.RegionHeld3
namespace Go.Proofs.Ytljabggcdomfgaa
open Go.ChangeShapes Go.WideShapes Go.ChangeAt Go.RowKit

def dropOk (a b c d n : Int) : Bool := qOk a b c d && maskOk n
def dropV (a b c d m n : Int) : Bool := dropOk a b c d n && qdrop a b c d m n
def dropC (a b c d n : Int) : Int := if dropOk a b c d n then 0 else 1
theorem drop_1 {a b c d : Int} (m n : Int) (h : qOk a b c d = false) : dropV a b c d m n = false ∧ dropC a b c d n = 1 := by unfold dropV dropC dropOk; rw [h]; exact ⟨rfl, rfl⟩
theorem drop_2 (a b c d m : Int) {n : Int} (h : (n / 4294967296 == 0) = false) : dropV a b c d m n = false ∧ dropC a b c d n = 1 := by unfold dropV dropC dropOk maskOk; rw [h]; simp
theorem drop_3 {a b c d n : Int} (m : Int) (h : qOk a b c d = true) (h2 : (n / 4294967296 == 0) = true) : dropV a b c d m n = qdrop a b c d m n ∧ dropC a b c d n = 0 := by unfold dropV dropC dropOk maskOk; rw [h, h2]; exact ⟨rfl, rfl⟩
theorem ret_drop {x y : Bool} {c d : Int} (h : y = x ∧ d = c) : Ending.returned (.tuple #[.bool x, .int .i64 c]) = Ending.returned (.tuple #[.bool y, .int .i64 d]) := by rw [h.1, h.2]

theorem iDropsFor_any (a b c d : Int) (w : World) :
    Calls Try.prog 78 #[.agg #[.int .u64 a, .int .u64 b, .int .u64 c, .int .u64 d]] w fun e w' => e = .returned (.func (.func 108) #[] #[.pointer (some ⟨w.heap.size, 0, none⟩)]) ∧ w.alloc (.cells #[.int .u64 a, .int .u64 b, .int .u64 c, .int .u64 d] 57) = w' := by
  have hmf : ∀ (fn : Fn) (first cap : Array Value) (w : World), (Instr.makeFunc fn first cap).run Try.prog w = .ok (.func fn first cap) w := fun _ _ _ _ => rfl
  go_enter Try.func78, Try.ntmps78
  go_wp2
  go_returns
  exact ⟨rfl, rfl⟩

set_option maxHeartbeats 3200000 in
theorem iDropsCard_any (a b c d m n : Int) (w : World) :
    Calls Try.prog 35 #[.agg #[.int .u64 a, .int .u64 b, .int .u64 c, .int .u64 d], .agg #[.int .u64 m, .int .u64 n]] w fun e w' => e = .returned (.tuple #[.bool (dropV a b c d m n), .int .i64 (dropC a b c d n)]) ∧ Below w.heap.size w w' := by
  have V := Lib.hid fun W => iQOk_any a b c d W
  cases q : qOk a b c d
  · have f := Lib.hid (drop_1 m n q)
    rw [q] at V
    clear q
    go_enter Try.func35, Try.ntmps35
    go_wp2_with (go_at_call 33; refine (V.out _).mono ?_; rintro e w1 ⟨rfl, hB⟩; obtain ⟨hc, hf, hz⟩ := bcell hB)
    go_ret2
    exact ⟨ret_drop f.out, (by repeat' (first | (with_reducible exact Below.refl _ _) | (with_reducible assumption) | (with_reducible refine below_drewN ?_ _) | (with_reducible refine Below.drew ?_) | (with_reducible refine below_new ?_ _) | (with_reducible refine below_next ?_ (by with_reducible assumption)) | (with_reducible refine Below.setCell ?_ ?_ _) | go_size))⟩
  · cases r : (n / 4294967296 == 0)
    · have f := Lib.hid (drop_2 a b c d m r)
      rw [q] at V
      clear q
      go_enter Try.func35, Try.ntmps35
      go_wp2_with (first | (go_at_call 33; refine (V.out _).mono ?_; rintro e w1 ⟨rfl, hB⟩; obtain ⟨hc, hf, hz⟩ := bcell hB; have z0 : w.heap.size + 1 < w1.heap.size := hz _ (by first | omega | (simp; done) | (simp; omega))) | go_in)
      go_ret2
      exact ⟨ret_drop f.out, (by repeat' (first | (with_reducible exact Below.refl _ _) | (with_reducible assumption) | (with_reducible refine below_drewN ?_ _) | (with_reducible refine Below.drew ?_) | (with_reducible refine below_new ?_ _) | (with_reducible refine below_next ?_ (by with_reducible assumption)) | (with_reducible refine Below.setCell ?_ ?_ _) | go_size))⟩
    · have f := Lib.hid (drop_3 m q r)
      rw [q] at V
      have rr := r
      clear q r
      go_enter Try.func35, Try.ntmps35
      go_upto_region 3 with (first | (go_at_call 33; refine (V.out _).mono ?_; rintro e w1 ⟨rfl, hB⟩; obtain ⟨hc, hf, hz⟩ := bcell hB; have z0 : w.heap.size < w1.heap.size := hz _ (by first | omega | (simp; done) | (simp; omega)); have z1 : w.heap.size + 1 < w1.heap.size := hz _ (by first | omega | (simp; done) | (simp; omega)); have bb : Below w.heap.size w w1 := (by repeat' (first | (with_reducible exact Below.refl _ _) | (with_reducible assumption) | (with_reducible refine below_drewN ?_ _) | (with_reducible refine Below.drew ?_) | (with_reducible refine below_new ?_ _) | (with_reducible refine below_next ?_ (by with_reducible assumption)) | (with_reducible refine Below.setCell ?_ ?_ _) | go_size))) | go_in)
      go_region_held3 (fun w' => w'.cell? ⟨w.heap.size, 0, none⟩ = some (.int .u64 a) ∧ w'.cell? ⟨w.heap.size, 1, none⟩ = some (.int .u64 b) ∧ w'.cell? ⟨w.heap.size, 2, none⟩ = some (.int .u64 c) ∧ w'.cell? ⟨w.heap.size, 3, none⟩ = some (.int .u64 d) ∧ w'.cell? ⟨w.heap.size + 1, 0, none⟩ = some (.int .u64 m) ∧ w'.cell? ⟨w.heap.size + 1, 1, none⟩ = some (.int .u64 n) ∧ w.heap.size + 2 ≤ w'.heap.size ∧ Below w.heap.size w w')
        (first | (go_split_ands; refine ⟨?_, ?_, ?_, ?_, ?_, ?_, ?_, ?_⟩ <;> first | with_reducible assumption | exact (hB.cell (by first | omega | (simp; done) | (simp; omega))).trans (by with_reducible assumption) | (rw [hB.cell (by first | omega | (simp; done) | (simp; omega))]; ((try simp only [World.cell?_drew, World.cell?_drewN]); (repeat (first | rw [World.cell?_alloc_past (hn := (by first | omega | (simp; done) | (simp; omega)))] | rw [World.cell?_setCell_far _ _ _ _ (by first | omega | (simp; done) | (simp; omega))])); first | with_reducible assumption | exact (hB.cell (by first | omega | (simp; done) | (simp; omega))).trans (by first | with_reducible assumption | (simp; done) | (simp [go_sem]; done)) | (simp; done) | (simp [go_sem]; done))) | ((try simp only [World.cell?_drew, World.cell?_drewN]); (repeat (first | rw [World.cell?_alloc_past (hn := (by first | omega | (simp; done) | (simp; omega)))] | rw [World.cell?_setCell_far _ _ _ _ (by first | omega | (simp; done) | (simp; omega))])); first | with_reducible assumption | exact (hB.cell (by first | omega | (simp; done) | (simp; omega))).trans (by first | with_reducible assumption | (simp; done) | (simp [go_sem]; done)) | (simp; done) | (simp [go_sem]; done)) | (have := hB.size; omega) | (have := hB.size; simp at this; omega) | (simp; omega) | ((repeat' (first | (with_reducible exact Below.refl _ _) | (with_reducible assumption) | (with_reducible refine below_drewN ?_ _) | (with_reducible refine Below.drew ?_) | (with_reducible refine below_new ?_ _) | (with_reducible refine below_next ?_ (by with_reducible assumption)) | (with_reducible refine Below.setCell ?_ ?_ _) | go_size)); done)))
        (first
          | (go_at_call 78; refine (iDropsFor_any _ _ _ _ _).mono ?_; rintro e w2 ⟨rfl, rfl⟩)
          | (go_at_call 108; refine (iDrop_any a b c d m n _ 0 _ (by simp) (by simp) (by simp) (by simp)).mono ?_; rintro e w3 ⟨rfl, hB⟩))
      all_goals go_wp2
      all_goals go_ret2
      all_goals (go_split_ands; exact ⟨ret_drop f.out, (by repeat' (first | (with_reducible exact Below.refl _ _) | (with_reducible assumption) | (with_reducible refine below_drewN ?_ _) | (with_reducible refine Below.drew ?_) | (with_reducible refine below_new ?_ _) | (with_reducible refine below_next ?_ (by with_reducible assumption)) | (with_reducible refine Below.setCell ?_ ?_ _) | go_size))⟩)

set_option maxHeartbeats 1600000 in
theorem sDropsCard_any (a b c d m n : Int) (ha : U64 a) (hb : U64 b) (hm : U64 m) (hn : U64 n) (w : World) :
    Calls Try.prog 34 #[.agg #[.int .u64 a, .int .u64 b, .int .u64 c, .int .u64 d], .agg #[.int .u64 m, .int .u64 n]] w fun e w' => e = .returned (.tuple #[.bool (dropV a b c d m n), .int .i64 (dropC a b c d n)]) ∧ Below w.heap.size w w' := by
  have V := Lib.hid fun W h0 h1 h2 h3 => sQOk_any a b c d w.heap.size 0 W h0 h1 h2 h3
  cases q : qOk a b c d
  · have f := Lib.hid (drop_1 m n q)
    rw [q] at V
    clear q ha hb hm hn
    go_enter Try.func34, Try.ntmps34
    go_wp2_with (go_at_call 76; refine (V.out _ (by simp) (by simp) (by simp) (by simp)).mono ?_; rintro e w1 ⟨rfl, hB⟩; obtain ⟨hc, hf, hz⟩ := bcell hB)
    go_ret2
    exact ⟨ret_drop f.out, (by repeat' (first | (with_reducible exact Below.refl _ _) | (with_reducible assumption) | (with_reducible refine below_drewN ?_ _) | (with_reducible refine Below.drew ?_) | (with_reducible refine below_new ?_ _) | (with_reducible refine below_next ?_ (by with_reducible assumption)) | (with_reducible refine Below.setCell ?_ ?_ _) | go_size))⟩
  · cases r : (n / 4294967296 == 0)
    · have f := Lib.hid (drop_2 a b c d m r)
      have M := sMask_is m r
      rw [q] at V
      clear q r ha hb hm hn
      go_enter Try.func34, Try.ntmps34
      go_wp2_with (first | (go_at_call 76; refine (V.out _ (by simp) (by simp) (by simp) (by simp)).mono ?_; rintro e w1 ⟨rfl, hB⟩; obtain ⟨hc, hf, hz⟩ := bcell hB; have z0 : w.heap.size + 1 < w1.heap.size := hz _ (by first | omega | (simp; done) | (simp; omega))) | (go_at_call 74; refine (M.out _).mono ?_; rintro e w2 ⟨rfl, hB⟩))
      go_ret2
      exact ⟨ret_drop f.out, (by repeat' (first | (with_reducible exact Below.refl _ _) | (with_reducible assumption) | (with_reducible refine below_drewN ?_ _) | (with_reducible refine Below.drew ?_) | (with_reducible refine below_new ?_ _) | (with_reducible refine below_next ?_ (by with_reducible assumption)) | (with_reducible refine Below.setCell ?_ ?_ _) | go_size))⟩
    · have f := Lib.hid (drop_3 m q r)
      have M := sMask_is m r
      have D := Lib.hid fun W h0 h1 h2 h3 => sDrops_any a b c d m n ha hb hm hn w.heap.size 0 W h0 h1 h2 h3
      rw [q] at V
      clear q r ha hb hm hn
      go_enter Try.func34, Try.ntmps34
      go_wp2_with (first | (go_at_call 76; refine (V.out _ (by simp) (by simp) (by simp) (by simp)).mono ?_; rintro e w1 ⟨rfl, hB⟩; obtain ⟨hc, hf, hz⟩ := bcell hB; have z0 : w.heap.size + 1 < w1.heap.size := hz _ (by first | omega | (simp; done) | (simp; omega)); have z1 : w.heap.size < w1.heap.size := hz _ (by first | omega | (simp; done) | (simp; omega)); have c0 : w1.cell? ⟨w.heap.size, 0, none⟩ = some (.int .u64 a) := (hB.cell (by first | omega | (simp; done) | (simp; omega))).trans (by simp); have c1 : w1.cell? ⟨w.heap.size, 1, none⟩ = some (.int .u64 b) := (hB.cell (by first | omega | (simp; done) | (simp; omega))).trans (by simp); have c2 : w1.cell? ⟨w.heap.size, 2, none⟩ = some (.int .u64 c) := (hB.cell (by first | omega | (simp; done) | (simp; omega))).trans (by simp); have c3 : w1.cell? ⟨w.heap.size, 3, none⟩ = some (.int .u64 d) := (hB.cell (by first | omega | (simp; done) | (simp; omega))).trans (by simp)) | (go_at_call 74; refine (M.out _).mono ?_; rintro e w2 ⟨rfl, hB2⟩; obtain ⟨hc2, hf2, hz2⟩ := bcell hB2; have z2 : w.heap.size < w2.heap.size := hz2 _ (by first | omega | (simp; done) | (simp; omega)); have z3 : w.heap.size + 1 < w2.heap.size := hz2 _ (by first | omega | (simp; done) | (simp; omega))) | (go_at_call 77; refine (D.out _ (by first | exact (hB2.cell (by first | omega | (simp; done) | (simp; omega))).trans c0 | (simp [hc2, z1, c0]; done)) (by first | exact (hB2.cell (by first | omega | (simp; done) | (simp; omega))).trans c1 | (simp [hc2, z1, c1]; done)) (by first | exact (hB2.cell (by first | omega | (simp; done) | (simp; omega))).trans c2 | (simp [hc2, z1, c2]; done)) (by first | exact (hB2.cell (by first | omega | (simp; done) | (simp; omega))).trans c3 | (simp [hc2, z1, c3]; done))).mono ?_; rintro e w3 ⟨rfl, hB3⟩))
      go_ret2
      exact ⟨ret_drop f.out, (by repeat' (first | (with_reducible exact Below.refl _ _) | (with_reducible assumption) | (with_reducible refine below_drewN ?_ _) | (with_reducible refine Below.drew ?_) | (with_reducible refine below_new ?_ _) | (with_reducible refine below_next ?_ (by with_reducible assumption)) | (with_reducible refine Below.setCell ?_ ?_ _) | go_size))⟩

theorem toMask_below (a b : Int) (w : World) : Calls Try.prog 26 #[.agg #[.int .u64 a, .int .u64 b]] w fun e w' => e = .returned (.agg #[.int .u64 a, .int .u64 b]) ∧ Below w.heap.size w w' :=
  (toMask_any a b w).mono fun e w' ⟨he, hw⟩ => ⟨he, by subst hw; exact (by repeat' (first | (with_reducible exact Below.refl _ _) | (with_reducible assumption) | (with_reducible refine below_drewN ?_ _) | (with_reducible refine Below.drew ?_) | (with_reducible refine below_new ?_ _) | (with_reducible refine below_next ?_ (by with_reducible assumption)) | (with_reducible refine Below.setCell ?_ ?_ _) | go_size))⟩
end Go.Proofs.Ytljabggcdomfgaa
