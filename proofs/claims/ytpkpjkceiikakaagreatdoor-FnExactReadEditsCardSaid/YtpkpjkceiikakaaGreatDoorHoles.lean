/- Contracts: the holes of a mask as a list, the model's loop. -/
import Derived.Test.YtpkpjkceiikakaaGreatDoorOwns
import Derived.Test.YtpkpjkceiikakaaGreatDoorBit
import Derived.Laws.MakeOwn
namespace Go.Proofs.YtpkpjkceiikakaaGreatDoor
open Go.ChangeShapes Go.WideShapes Go.ChangeAt Go.RowKit

/-- The numbers below k of which a test says yes. -/
def hol (f : Int → Bool) (k : Nat) : List Int := ((List.range k).map fun i : Nat => (i : Int)).filter f
theorem hol_zero (f : Int → Bool) : hol f 0 = [] := rfl
theorem hol_yes {f : Int → Bool} {k : Nat} (h : f (k : Int) = true) : hol f (k + 1) = hol f k ++ [(k : Int)] := by
  unfold hol; rw [List.range_succ, List.map_append, List.filter_append]; simp [h]
theorem hol_no {f : Int → Bool} {k : Nat} (h : f (k : Int) = false) : hol f (k + 1) = hol f k := by
  unfold hol; rw [List.range_succ, List.map_append, List.filter_append]; simp [h]
theorem hol_len (f : Int → Bool) (k : Nat) : (hol f k).length ≤ k := by
  unfold hol
  have := List.length_filter_le f ((List.range k).map fun i : Nat => (i : Int))
  simpa using this
theorem one_new (w : World) (x : Value) (t : TypeId) : ∀ j u, [x][j]? = some u → (w.alloc (.cells #[x] t)).cell? ((⟨w.heap.size, 0, none⟩ : Addr).add j) = some u := by
  intro j u h
  cases j with
  | zero => simp at h; subst h; simp [Addr.add]
  | succ => simp at h
theorem own_push {B : Nat} {zs : List Int} {x : Int} {v : Value} {w : World} (h : w.ownsRow B 2 1 v (zs.length + 1) (zs.map (Value.int .i64) ++ [.int .i64 x])) : OwnInts B (zs ++ [x]) v w := by unfold OwnInts; simpa using h
theorem own_lt {B : Nat} {zs : List Int} {v : Value} {w : World} (h : OwnInts B zs v w) : ∀ j, v.ownBlock = some j → B ≤ j := fun j hj => (World.ownsRow.lt h j hj).1

theorem own_none {w : World} {n B : Nat} (hn : n = w.heap.size) (hB : B ≤ w.heap.size) : OwnInts B [] (.slice (some ⟨n, 0, none⟩) 0 0) (w.alloc (.cells #[] 2)) := by
  subst hn; exact World.ownsRow_made w #[] 0 hB (Nat.zero_le _) rfl

set_option maxHeartbeats 1600000 in
theorem sHoles_any (a b : Int) (ha : U64 a) (hb : U64 b) (w : World) :
    Calls Tryz.prog 105 #[.agg #[.int .u64 a, .int .u64 b]] w fun e w' => ∃ v, e = .returned v ∧ OwnInts w.heap.size (hol (hasB a b) 96) v w' ∧ Below w.heap.size w w' := by
  obtain ⟨i0, hi, hz0, hz1, hz2⟩ := info_parts info_i64
  have H := Lib.hid fun (k : Nat) (h : k ≤ 95) W => sHas_any a b (k : Int) ha hb (by omega) (by omega) W
  clear ha hb
  go_enter Tryz.func105, Tryz.ntmps105
  go_wp2
  go_loopw [3, 4] (fun v i wr => ∃ k : Nat, k ≤ 96 ∧ i = .int .i64 k ∧ OwnInts (w.heap.size + 1) (hol (hasB a b) k) v wr ∧ wr.cell? ⟨w.heap.size, 0, none⟩ = some (.int .u64 a) ∧ wr.cell? ⟨w.heap.size, 1, none⟩ = some (.int .u64 b) ∧ w.heap.size + 1 ≤ wr.heap.size ∧ Below w.heap.size w wr)
    (fun _ i _ => 96 - (intOf i).toNat)
  case atStart => exact ⟨0, Nat.zero_le _, rfl, own_none (by simp) (by simp), by simp, by simp, by simp, (by repeat' (first | (with_reducible exact Below.refl _ _) | (with_reducible assumption) | (with_reducible refine below_drewN ?_ _) | (with_reducible refine Below.drew ?_) | (with_reducible refine below_new ?_ _) | (with_reducible refine below_next ?_ (by with_reducible assumption)) | (with_reducible refine Below.setCell ?_ ?_ _) | go_size))⟩
  case round =>
    obtain ⟨k, hk, rfl, O, c0, c1, hsz, hB⟩ := hrel
    by_cases hkl : k < 96
    · have hd : decide ((k : Int) < 96) = true := by simp; omega
      have hl := hol_len (hasB a b) k
      have K := Lib.hid (H.out k (by omega))
      have BB := Lib.hid hB
      have OO := Lib.hid O
      clear O
      cases q : hasB a b (k : Int)
      · rw [q] at K
        have hn := Lib.hid (hol_no (f := hasB a b) (k := k) q)
        clear q
        go_wp2_with (go_at_call 122; refine (K.out _).mono ?_; rintro e w1 ⟨rfl, hB1⟩; have B1 := Lib.hid hB1; have k0 := (hB1.cell (by first | omega | (simp; omega))).trans c0; have k1 := (hB1.cell (by first | omega | (simp; omega))).trans c1; have s1 := hB1.size; clear hB1)
        exact ⟨⟨k + 1, hkl, by rw [Int.natCast_succ], by rw [hn.out]; exact ownInts_kept OO.out B1.out, k0, k1, by omega, below_next BB.out B1.out⟩, by simp [intOf]; omega⟩
      · rw [q] at K
        have hn := Lib.hid (hol_yes (f := hasB a b) (k := k) q)
        clear q
        go_wp2_with (first
          | (go_at_call 122; refine (K.out _).mono ?_; rintro e w1 ⟨rfl, hB1⟩; have B1 := Lib.hid hB1; have k0 := (hB1.cell (by first | omega | (simp; omega))).trans c0; have k1 := (hB1.cell (by first | omega | (simp; omega))).trans c1; have s1 := hB1.size; have O1 := Lib.hid (ownInts_kept OO.out hB1); clear hB1)
          | (at_builtin; refine wpList_append_own _ rfl _ _ 92 rfl (w.heap.size + 1) 2 i0 (.int .i64 0) 1 8 Tryz.underlying92 hi hz0 hz1 hz2 rfl (by decide) _ _ _ rfl (O1.out.alloc _) ⟨w1.heap.size, 0, none⟩ 1 1 [.int .i64 (k : Int)] rfl rfl (one_new _ _ _) (fun x hx => by simp at hx; subst hx; rfl) (by unfold maxLen; omega) (by omega) (by simp; omega) ?_; intro v' w2 hown hgrow _; have P := Lib.hid (own_push hown); have G := Lib.hid hgrow; clear hown hgrow))
        have hb2 : Below (w.heap.size + 1) (w1.alloc (.cells #[.int .i64 (k : Int)] 2)) w2 := Below.grown (Below.refl _ _) G.out (by simp; omega) (own_lt O1.out)
        have e0 : w2.cell? ⟨w.heap.size, 0, none⟩ = some (.int .u64 a) := (hb2.cell (Nat.lt_succ_self _)).trans (by rw [World.cell?_alloc_past (hn := by omega)]; exact k0)
        have e1 : w2.cell? ⟨w.heap.size, 1, none⟩ = some (.int .u64 b) := (hb2.cell (Nat.lt_succ_self _)).trans (by rw [World.cell?_alloc_past (hn := by omega)]; exact k1)
        have s2 := hb2.size
        simp at s2
        refine ⟨⟨k + 1, hkl, by rw [Int.natCast_succ], by rw [hn.out]; exact P.out, e0, e1, by omega, ?_⟩, by simp [intOf]; omega⟩
        exact ((below_next BB.out B1.out).alloc (by omega) _).trans (hb2.mono (by omega))
    · have e : k = 96 := by omega
      subst e
      have OO := Lib.hid O
      clear O
      go_wp2
      go_ret
      exact ⟨_, rfl, ⟨OO.out.1, OO.out.2.imp id fun ⟨g, cap, cur, h1, h2, h3⟩ => ⟨g, cap, cur, h1, by omega, h3⟩⟩, hB⟩
end Go.Proofs.YtpkpjkceiikakaaGreatDoor
