/- Contracts: does a query drop a card with some notches. -/
import Derived.Test.YtdbkplfkilaoeaaQuery
import Derived.Test.YtdbkplfkilaoeaaWithin
namespace Go.Proofs.Ytdbkplfkilaoeaa
open Go.ChangeShapes Go.WideShapes Go.ChangeAt Go.RowKit

/-- All of one mask in another one. -/
def allIn (a b m n : Int) : Bool := bits .and .u64 a m == a && bits .and .u64 b n == b
def qdrop (a b c d m n : Int) : Bool := allIn a b m n && meetZ c d m n
theorem qdrop_no {a b m n : Int} (c d : Int) (h : allIn a b m n = false) : qdrop a b c d m n = false := by unfold qdrop; simp [h]
theorem qdrop_yes {a b m n : Int} (c d : Int) (h : allIn a b m n = true) : qdrop a b c d m n = meetZ c d m n := by unfold qdrop; simp [h]

theorem iWithin_is {a b c d : Int} {x : Bool} (h : allIn a b c d = x) : Hid (∀ w : World, Calls Try.prog 64 #[.agg #[.int .u64 a, .int .u64 b], .agg #[.int .u64 c, .int .u64 d]] w fun e w' => e = .returned (.bool x) ∧ Below w.heap.size w w') := Lib.hid fun w => by rw [← h]; exact iWithin_any a b c d w

set_option maxHeartbeats 1600000 in
theorem iDrop_any (a b c d m n : Int) (g o : Nat) (w : World) (h0 : w.cell? ⟨g, o, none⟩ = some (.int .u64 a)) (h1 : w.cell? ⟨g, o + 1, none⟩ = some (.int .u64 b)) (h2 : w.cell? ⟨g, o + 2, none⟩ = some (.int .u64 c)) (h3 : w.cell? ⟨g, o + 3, none⟩ = some (.int .u64 d)) :
    Calls Try.prog 70 #[.agg #[.int .u64 m, .int .u64 n], .pointer (some ⟨g, o, none⟩)] w fun e w' => e = .returned (.bool (qdrop a b c d m n)) ∧ Below w.heap.size w w' := by
  have hg := World.block_lt_of_cell? _ _ h0
  cases q : allIn a b m n
  · have W := iWithin_is q
    have f := Lib.hid (qdrop_no c d q)
    clear q
    go_enter Try.func70, Try.ntmps70
    go_wp2_with (go_at_call 64; refine (W.out _).mono ?_; rintro e w1 ⟨rfl, hB⟩; obtain ⟨hc, hf, hz⟩ := bcell hB)
    go_returns
    exact ⟨ret_bool f.out.symm, (by repeat' (first | (with_reducible exact Below.refl _ _) | (with_reducible assumption) | (with_reducible refine below_drewN ?_ _) | (with_reducible refine Below.drew ?_) | (with_reducible refine below_new ?_ _) | (with_reducible refine below_next ?_ (by with_reducible assumption)) | (with_reducible refine Below.setCell ?_ ?_ _) | go_size))⟩
  · have W := iWithin_is q
    have f := Lib.hid (qdrop_yes c d q)
    have he := eq_mask
    clear q
    go_enter Try.func70, Try.ntmps70
    go_wp2_with (first | (go_at_call 64; refine (W.out _).mono ?_; rintro e w1 ⟨rfl, hB⟩; obtain ⟨hc, hf, hz⟩ := bcell hB; have z0 : g < w1.heap.size := hz _ (by first | omega | (simp; done) | (simp; omega)); have z1 : w.heap.size < w1.heap.size := hz _ (by first | omega | (simp; done) | (simp; omega))) | (go_at_call 71; refine (iMeet_any _ _ _ _ _).mono ?_; rintro e w2 ⟨rfl, rfl⟩))
    go_returns
    exact ⟨ret_bool f.out.symm, (by repeat' (first | (with_reducible exact Below.refl _ _) | (with_reducible assumption) | (with_reducible refine below_drewN ?_ _) | (with_reducible refine Below.drew ?_) | (with_reducible refine below_new ?_ _) | (with_reducible refine below_next ?_ (by with_reducible assumption)) | (with_reducible refine Below.setCell ?_ ?_ _) | go_size))⟩


end Go.Proofs.Ytdbkplfkilaoeaa
