/- Contracts: the mask of some holes, as the program says and as the model does; slices of int64 compared. -/
import Derived.Test.YtanocllpmjhblaaDoorOwns
import Derived.Test.YtanocllpmjhblaaDoorWith
namespace Go.Proofs.YtanocllpmjhblaaDoor
open Go.ChangeShapes Go.WideShapes Go.ChangeAt Go.RowKit

def mo (f : Int → Int) (zs : List Int) : Nat → Int
  | 0 => 0
  | k + 1 => bits .or .u64 (mo f zs k) (f (zs.getD k 0))
def inR (zs : List Int) (k : Nat) : Prop := ∀ i, i < k → 0 ≤ zs.getD i 0 ∧ zs.getD i 0 ≤ 95

/-- The two boxes of a mask that is gathered: the answer's, still empty, and the mask's. -/
def MoR (w wr : World) (x y : Int) : Prop := wr.cell? ⟨w.heap.size, 0, none⟩ = some (.int .u64 0) ∧ wr.cell? ⟨w.heap.size, 1, none⟩ = some (.int .u64 0) ∧ wr.cell? ⟨w.heap.size + 1, 0, none⟩ = some (.int .u64 x) ∧ wr.cell? ⟨w.heap.size + 1, 1, none⟩ = some (.int .u64 y) ∧ w.heap.size < wr.heap.size ∧ w.heap.size + 1 < wr.heap.size ∧ Below w.heap.size w wr ∧ (∀ j, wr.frozen? ⟨w.heap.size, j, none⟩ = false) ∧ ∀ j, wr.frozen? ⟨w.heap.size + 1, j, none⟩ = false
theorem moR_next {w wr w2 : World} {x y : Int} (h : MoR w wr x y) (hB : Below wr.heap.size wr w2) (p q : Int) : MoR w ((w2.setCell ⟨w.heap.size + 1, 0, none⟩ (.int .u64 p)).setCell ⟨w.heap.size + 1, 1, none⟩ (.int .u64 q)) p q := by
  obtain ⟨h0, h1, h2, h3, h4, h5, h6, h7, h8⟩ := h
  have g0 := (hB.cell (p := ⟨w.heap.size, 0, none⟩) h4).trans h0
  have g1 := (hB.cell (p := ⟨w.heap.size, 1, none⟩) h4).trans h1
  have g2 := (hB.cell (p := ⟨w.heap.size + 1, 0, none⟩) h5).trans h2
  have g3 := (hB.cell (p := ⟨w.heap.size + 1, 1, none⟩) h5).trans h3
  have hz := hB.size
  refine ⟨?_, ?_, ?_, ?_, ?_, ?_, ?_, fun j => ?_, fun j => ?_⟩
  · rw [World.cell?_setCell_other (h := by simp), World.cell?_setCell_other (h := by simp)]; exact g0
  · rw [World.cell?_setCell_other (h := by simp), World.cell?_setCell_other (h := by simp)]; exact g1
  · rw [World.cell?_setCell_other (h := by simp), World.cell?_setCell_same (h := g2)]
  · rw [World.cell?_setCell_same (h := by rw [World.cell?_setCell_other (h := by simp)]; exact g3)]
  · simp; omega
  · simp; omega
  · exact ((h6.trans (hB.mono (by omega))).setCell (by simp) _).setCell (by simp) _
  · rw [World.frozen?_setCell, World.frozen?_setCell]; exact (hB.frozen (p := ⟨w.heap.size, j, none⟩) h4).trans (h7 j)
  · rw [World.frozen?_setCell, World.frozen?_setCell]; exact (hB.frozen (p := ⟨w.heap.size + 1, j, none⟩) h5).trans (h8 j)

def moR (f : Int → Int) (zs : List Int) : Int := if ∀ z ∈ zs, 0 ≤ z ∧ z ≤ 95 then mo f zs zs.length else 0
def moC (zs : List Int) : Int := if ∀ z ∈ zs, 0 ≤ z ∧ z ≤ 95 then 0 else 2
def moV (zs : List Int) : Value := .tuple #[.agg #[.int .u64 (moR b0 zs), .int .u64 (moR b1 zs)], .int .i64 (moC zs)]
theorem moV_in {zs : List Int} (h : inR zs zs.length) : moV zs = .tuple #[.agg #[.int .u64 (mo b0 zs zs.length), .int .u64 (mo b1 zs zs.length)], .int .i64 0] := by
  have h' : ∀ z ∈ zs, 0 ≤ z ∧ z ≤ 95 := by
    intro z hz
    obtain ⟨i, hi, rfl⟩ := List.getElem_of_mem hz
    have := h i hi
    simpa [List.getD, hi] using this
  unfold moV moR moC
  rw [if_pos h', if_pos h', if_pos h']
theorem moV_out {zs : List Int} {k : Nat} (hk : k < zs.length) (h : ¬ (0 ≤ zs.getD k 0 ∧ zs.getD k 0 ≤ 95)) : moV zs = .tuple #[.agg #[.int .u64 0, .int .u64 0], .int .i64 2] := by
  have h' : ¬ ∀ z ∈ zs, 0 ≤ z ∧ z ≤ 95 := fun x => h (x _ (by simp [List.getD, hk]))
  unfold moV moR moC
  rw [if_neg h', if_neg h', if_neg h']
theorem moR_inext {zs : List Int} {k : Nat} (h : inR zs k) (h2 : 0 ≤ zs.getD k 0 ∧ zs.getD k 0 ≤ 95) : inR zs (k + 1) := by
  intro i hi
  by_cases e : i < k
  · exact h i e
  · obtain rfl : i = k := by omega
    exact h2


set_option maxHeartbeats 3200000 in
theorem iMaskOf_any (a : Option Addr) (zs : List Int) (c : Nat) (w : World) (ha : IntsIn w a zs) (hl : zs.length ≤ 17592186044404) :
    Calls Tryd.prog 45 #[.slice a zs.length c] w fun e w' => e = .returned (moV zs) ∧ Below w.heap.size w w' := by
  have A := Lib.hid ha
  clear ha
  go_enter Tryd.func45, Tryd.ntmps45
  go_wp2
  go_loopw [9] (fun i wr => ∃ k : Nat, k ≤ zs.length ∧ i = .int .i64 k ∧ inR zs k ∧ MoR w wr (mo b0 zs k) (mo b1 zs k)) (fun i _ => zs.length - (intOf i).toNat)
  case atStart => exact ⟨0, Nat.zero_le _, rfl, fun i h => by omega, by simp, by simp, by simp [mo], by simp [mo], by simp; omega, by simp, (by repeat' (first | (with_reducible exact Below.refl _ _) | (with_reducible assumption) | (with_reducible refine below_drewN ?_ _) | (with_reducible refine Below.drew ?_) | (with_reducible refine below_new ?_ _) | (with_reducible refine below_next ?_ (by with_reducible assumption)) | (with_reducible refine Below.setCell ?_ ?_ _) | go_size)), by simp, by simp⟩
  case round =>
    obtain ⟨k, hk, rfl, hR, hM⟩ := hrel
    have M := Lib.hid hM
    have R := Lib.hid hR
    obtain ⟨m0, m1, m2, m3, m4, m5, m6, f0, f1⟩ := hM
    by_cases hkl : k < zs.length
    · obtain ⟨b, off, rfl, hb, hc0⟩ := A.out k hkl
      have hc := (m6.cell hb).trans hc0
      have hb2 : b < wr.heap.size := Nat.lt_of_lt_of_le hb m6.size
      have hd : decide ((k : Int) < (zs.length : Int)) = true := by simpa using hkl
      have hmo0 := Lib.hid (show mo b0 zs (k + 1) = bits .or .u64 (mo b0 zs k) (b0 (zs.getD k 0)) from rfl)
      have hmo1 := Lib.hid (show mo b1 zs (k + 1) = bits .or .u64 (mo b1 zs k) (b1 (zs.getD k 0)) from rfl)
      have hgk := Lib.hid (rfl : zs.getD k 0 = zs.getD k 0)
      generalize mo b0 zs k = x at *
      generalize mo b1 zs k = y at *
      clear hR hc0 m6
      by_cases hn : 0 ≤ zs.getD k 0 ∧ zs.getD k 0 ≤ 95
      · have hR2 := Lib.hid (moR_inext R.out hn)
        generalize zs.getD k 0 = z at *
        obtain ⟨n0, n1⟩ := hn
        have k1 : decide (0 ≤ z) = true := by simp; omega
        have k2 : decide (z < 96) = true := by simp; omega
        have k3 : decide (z ≤ 95) = true := by simp; omega
        go_wp2
        go_region_with (first
          | (go_at_call 70; refine (iOne_any _ n0 n1 _).mono ?_; rintro e w1 ⟨rfl, hB⟩; obtain ⟨hc1, hf1, hz1⟩ := bcell hB; have y0 : w.heap.size < w1.heap.size := hz1 _ (by first | omega | (simp; done) | (simp; omega)); have y1 : w.heap.size + 1 < w1.heap.size := hz1 _ (by first | omega | (simp; done) | (simp; omega)); have y2 : b < w1.heap.size := hz1 _ (by first | omega | (simp; done) | (simp; omega)); have c0 : w1.cell? ⟨w.heap.size + 1, 0, none⟩ = some (.int .u64 x) := (hB.cell (by first | omega | (simp; done) | (simp; omega))).trans (by simpa using m2); have c1 : w1.cell? ⟨w.heap.size + 1, 1, none⟩ = some (.int .u64 y) := (hB.cell (by first | omega | (simp; done) | (simp; omega))).trans (by simpa using m3); have d1 : ∀ j, w1.frozen? ⟨w.heap.size + 1, j, none⟩ = false := fun j => (hB.frozen (by first | omega | (simp; done) | (simp; omega))).trans (by simpa using f1 j))
          | (go_at_call 66; refine (iJoin_below _ _ _ _ _).mono ?_; rintro e w2 ⟨rfl, hB2⟩; obtain ⟨hc2, hf2, hz2⟩ := bcell hB2; have z0 : w.heap.size < w2.heap.size := hz2 _ (by first | omega | (simp; done) | (simp; omega)); have z1 : w.heap.size + 1 < w2.heap.size := hz2 _ (by first | omega | (simp; done) | (simp; omega)); have c2 : w2.cell? ⟨w.heap.size + 1, 0, none⟩ = some (.int .u64 x) := (hB2.cell (by first | omega | (simp; done) | (simp; omega))).trans (by with_reducible assumption); have c3 : w2.cell? ⟨w.heap.size + 1, 1, none⟩ = some (.int .u64 y) := (hB2.cell (by first | omega | (simp; done) | (simp; omega))).trans (by with_reducible assumption); have d2 : ∀ j, w2.frozen? ⟨w.heap.size + 1, j, none⟩ = false := fun j => (hB2.frozen (by first | omega | (simp; done) | (simp; omega))).trans (d1 j)))
        all_goals go_wp2
        all_goals refine ⟨⟨k + 1, hkl, by rw [Int.natCast_succ], hR2.out, ?_⟩, by simp [intOf]; omega⟩
        all_goals rw [hmo0.out, hmo1.out]
        all_goals exact moR_next M.out (by repeat' (first | (with_reducible exact Below.refl _ _) | (with_reducible assumption) | (with_reducible refine below_drewN ?_ _) | (with_reducible refine Below.drew ?_) | (with_reducible refine below_new ?_ _) | (with_reducible refine below_next ?_ (by with_reducible assumption)) | (with_reducible refine Below.setCell ?_ ?_ _) | go_size)) _ _
      · have ho := Lib.hid (moV_out hkl hn)
        generalize zs.getD k 0 = z at *
        have hk2 : z < 0 ∨ 95 < z := by omega
        rcases hk2 with hk2 | hk2
        · have k1 : decide (0 ≤ z) = false := by simp; omega
          go_wp2
          refine bodyPost_ret (by simp [results, Tryd.results45, go_sem, m0, m1]; try rfl) rfl ?_
          exact ⟨by rw [ho.out], (M.out.2.2.2.2.2.2.1.setCell (by simp) _).setCell (by simp) _⟩
        · have k1 : decide (0 ≤ z) = true := by simp; omega
          have k2 : decide (z < 96) = false := by simp; omega
          have k3 : decide (z ≤ 95) = false := by simp; omega
          go_wp2
          refine bodyPost_ret (by simp [results, Tryd.results45, go_sem, m0, m1]; try rfl) rfl ?_
          exact ⟨by rw [ho.out], (M.out.2.2.2.2.2.2.1.setCell (by simp) _).setCell (by simp) _⟩
    · have e : k = zs.length := by omega
      subst e
      clear m6 hR
      have hd : decide ((zs.length : Int) < (zs.length : Int)) = false := by simp
      have ho := Lib.hid (moV_in R.out)
      go_wp2
      refine bodyPost_ret (by simp [results, Tryd.results45, go_sem, m0, m1]; try rfl) rfl ?_
      exact ⟨by rw [ho.out], (M.out.2.2.2.2.2.2.1.setCell (by simp) _).setCell (by simp) _⟩

end Go.Proofs.YtanocllpmjhblaaDoor
