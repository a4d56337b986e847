/- Contracts: does a query drop a card with some notches. -/
import Derived.Test.YtbmjghkdhhcffaaQuery
import Derived.Test.YtbmjghkdhhcffaaWithin
namespace Go.Proofs.Ytbmjghkdhhcffaa
open Go.ChangeShapes Go.WideShapes Go.ChangeAt Go.RowKit

/-- All of one mask in another one. -/
def allIn (a b m n : Int) : Bool := bits .and .u64 a m == a && bits .and .u64 b n == b
def qdrop (a b c d m n : Int) : Bool := allIn a b m n && meetZ c d m n
theorem qdrop_no {a b m n : Int} (c d : Int) (h : allIn a b m n = false) : qdrop a b c d m n = false := by unfold qdrop; simp [h]
theorem qdrop_yes {a b m n : Int} (c d : Int) (h : allIn a b m n = true) : qdrop a b c d m n = meetZ c d m n := by unfold qdrop; simp [h]

theorem iWithin_is {a b c d : Int} {x : Bool} (h : allIn a b c d = x) : Hid (∀ w : World, Calls Try.prog 104 #[.agg #[.int .u64 a, .int .u64 b], .agg #[.int .u64 c, .int .u64 d]] w fun e w' => e = .returned (.bool x) ∧ Below w.heap.size w w') := Lib.hid fun w => by rw [← h]; exact iWithin_any a b c d w

set_option maxHeartbeats 1600000 in
theorem iDrop_any (a b c d m n : Int) (g o : Nat) (w : World) (h0 : w.cell? ⟨g, o, none⟩ = some (.int .u64 a)) (h1 : w.cell? ⟨g, o + 1, none⟩ = some (.int .u64 b)) (h2 : w.cell? ⟨g, o + 2, none⟩ = some (.int .u64 c)) (h3 : w.cell? ⟨g, o + 3, none⟩ = some (.int .u64 d)) :
    Calls Try.prog 103 #[.agg #[.int .u64 m, .int .u64 n], .pointer (some ⟨g, o, none⟩)] w fun e w' => e = .returned (.bool (qdrop a b c d m n)) ∧ Below w.heap.size w w' := by
  have hg := World.block_lt_of_cell? _ _ h0
  cases q : allIn a b m n
  · have W := iWithin_is q
    have f := Lib.hid (qdrop_no c d q)
    clear q
    go_enter Try.func103, Try.ntmps103
    go_wp2_with (go_at_call 104; refine (W.out _).mono ?_; rintro e w1 ⟨rfl, hB⟩; obtain ⟨hc, hf, hz⟩ := bcell hB)
    go_returns
    exact ⟨ret_bool f.out.symm, (by repeat' (first | (with_reducible exact Below.refl _ _) | (with_reducible assumption) | (with_reducible refine below_drewN ?_ _) | (with_reducible refine Below.drew ?_) | (with_reducible refine below_new ?_ _) | (with_reducible refine below_next ?_ (by with_reducible assumption)) | (with_reducible refine Below.setCell ?_ ?_ _) | go_size))⟩
  · have W := iWithin_is q
    have f := Lib.hid (qdrop_yes c d q)
    have he := eq_mask
    clear q
    go_enter Try.func103, Try.ntmps103
    go_wp2_with (first | (go_at_call 104; refine (W.out _).mono ?_; rintro e w1 ⟨rfl, hB⟩; obtain ⟨hc, hf, hz⟩ := bcell hB; have z0 : g < w1.heap.size := hz _ (by first | omega | (simp; done) | (simp; omega)); have z1 : w.heap.size < w1.heap.size := hz _ (by first | omega | (simp; done) | (simp; omega))) | (go_at_call 57; refine (iMeet_any _ _ _ _ _).mono ?_; rintro e w2 ⟨rfl, rfl⟩))
    go_returns
    exact ⟨ret_bool f.out.symm, (by repeat' (first | (with_reducible exact Below.refl _ _) | (with_reducible assumption) | (with_reducible refine below_drewN ?_ _) | (with_reducible refine Below.drew ?_) | (with_reducible refine below_new ?_ _) | (with_reducible refine below_next ?_ (by with_reducible assumption)) | (with_reducible refine Below.setCell ?_ ?_ _) | go_size))⟩

theorem sIsWithin_is {a b c d : Int} (ha : U64 a) (hb : U64 b) (hc : U64 c) (hd : U64 d) {x : Bool} (h : allIn a b c d = x) : Hid (∀ w : World, Calls Try.prog 108 #[.agg #[.int .u64 a, .int .u64 b], .agg #[.int .u64 c, .int .u64 d]] w fun e w' => e = .returned (.bool x) ∧ Below w.heap.size w w') := Lib.hid fun w => by rw [← h]; exact sIsWithin_any a b c d ha hb hc hd w

set_option maxHeartbeats 1600000 in
theorem sDrops_any (a b c d m n : Int) (ha : U64 a) (hb : U64 b) (hm : U64 m) (hn : U64 n) (g o : Nat) (w : World) (h0 : w.cell? ⟨g, o, none⟩ = some (.int .u64 a)) (h1 : w.cell? ⟨g, o + 1, none⟩ = some (.int .u64 b)) (h2 : w.cell? ⟨g, o + 2, none⟩ = some (.int .u64 c)) (h3 : w.cell? ⟨g, o + 3, none⟩ = some (.int .u64 d)) :
    Calls Try.prog 150 #[.pointer (some ⟨g, o, none⟩), .agg #[.int .u64 m, .int .u64 n]] w fun e w' => e = .returned (.bool (qdrop a b c d m n)) ∧ Below w.heap.size w w' := by
  have hg := World.block_lt_of_cell? _ _ h0
  have hbw := cell_bw
  cases q : allIn a b m n
  · have W := sIsWithin_is ha hb hm hn q
    have f := Lib.hid (qdrop_no c d q)
    clear q ha hb hm hn
    go_enter Try.func150, Try.ntmps150
    go_wp2_with fail
    refine region_bw (by kernel_rfl) (by kernel_rfl) ?_
    repeat (go_big_quiet_step (first | (go_at_call 108; exact calls_bw (W.out _))))
    refine wpQuiet_nil ?_; intro wq hq; replace hq := below_of_bw hq; obtain ⟨qc, qf, qz⟩ := bcell hq
    go_wp2
    go_returns
    exact ⟨ret_bool f.out.symm, (by repeat' (first | (with_reducible exact Below.refl _ _) | (with_reducible assumption) | (with_reducible refine below_drewN ?_ _) | (with_reducible refine Below.drew ?_) | (with_reducible refine below_new ?_ _) | (with_reducible refine below_next ?_ (by with_reducible assumption)) | (with_reducible refine Below.setCell ?_ ?_ _) | go_size))⟩
  · have W := sIsWithin_is ha hb hm hn q
    have f := Lib.hid (qdrop_yes c d q)
    have he := eq_mask
    clear q ha hb hm hn
    go_enter Try.func150, Try.ntmps150
    go_wp2_with fail
    refine region_bw (by kernel_rfl) (by kernel_rfl) ?_
    repeat (go_big_quiet_step (first | (go_at_call 108; exact calls_bw (W.out _)) | (go_at_call 50; exact calls_bw (sMeet_below _ _ _ _ _))))
    refine wpQuiet_nil ?_; intro wq hq; replace hq := below_of_bw hq; obtain ⟨qc, qf, qz⟩ := bcell hq
    go_wp2
    go_returns
    exact ⟨ret_bool f.out.symm, (by repeat' (first | (with_reducible exact Below.refl _ _) | (with_reducible assumption) | (with_reducible refine below_drewN ?_ _) | (with_reducible refine Below.drew ?_) | (with_reducible refine below_new ?_ _) | (with_reducible refine below_next ?_ (by with_reducible assumption)) | (with_reducible refine Below.setCell ?_ ?_ _) | go_size))⟩
end Go.Proofs.Ytbmjghkdhhcffaa
