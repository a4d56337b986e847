/- Contract: the model's CardText. -/
import Derived.Test.YtpkpjkceiikakaaDoorCtC
namespace Go.Proofs.YtpkpjkceiikakaaDoor
open Go.ChangeShapes Go.WideShapes Go.ChangeAt Go.RowKit

set_option maxRecDepth 100000 in
set_option maxHeartbeats 3200000 in
theorem sCt_any (s : ByteArray) (a b : Int) (hs : s.size ≤ 16) (ha : U64 a) (hb : U64 b) (g o : Nat) (w : World) (h0 : w.cell? ⟨g, o, none⟩ = some (.string s)) (h1 : w.cell? ⟨g, o + 1, none⟩ = some (.int .u64 a)) (h2 : w.cell? ⟨g, o + 2, none⟩ = some (.int .u64 b)) :
    Calls Tryd.prog 52 #[.pointer (some ⟨g, o, none⟩)] w fun e w' => e = .returned (.string (cdN s (hol (hasB a b) 96) (hol (hasB a b) 96).length)) ∧ Below w.heap.size w w' := by
  have hg := World.block_lt_of_cell? _ _ h0
  have HI := fun W => sHoles_any a b ha hb W
  have hl := hol_len (hasB a b) 96
  have HM := fun j hj => hol_atX (f := hasB a b) (n := 96) (j := j) hj
  generalize hol (hasB a b) 96 = zs at *
  have CS := Lib.hid (cdN_size s (zs := zs) HM)
  have CN := Lib.hid (cdN_next s zs)
  replace HM := Lib.hid HM
  replace HI := Lib.hid HI
  clear ha hb
  have z32 : (ByteArray.mk #[32]).size = 1 := rfl
  go_enter Tryd.func52, Tryd.ntmps52
  go_wp2_with (go_at_call 82; refine (HI.out _).mono ?_; rintro e w1 ⟨v1, rfl, hO, hB⟩; obtain ⟨a1, c1, hv, hi⟩ := ownInts_in hO; subst hv; have I1 := Lib.hid hi; have B1 := Lib.hid hB; clear hO hi hB)
  go_loopw [3, 5] (fun v i wr => ∃ j : Nat, j ≤ zs.length ∧ i = .int .i64 (j : Int) ∧ v = .string (cdN s zs j) ∧ Below w1.heap.size w1 wr) (fun _ i _ => zs.length - (intOf i).toNat)
  case atStart => exact ⟨0, Nat.zero_le _, rfl, rfl, Below.refl _ _⟩
  case round =>
    obtain ⟨j, hj, rfl, rfl, hB⟩ := hrel
    have B5 := Lib.hid hB
    by_cases hjl : j < zs.length
    · have hd : decide ((j : Int) < (zs.length : Int)) = true := by simpa using hjl
      obtain ⟨b1, o1, rfl, y1, p0⟩ := I1.out j hjl
      have d0 := (hB.cell (p := ⟨b1, o1 + j, none⟩) y1).trans p0
      have y2 : b1 < wr.heap.size := Nat.lt_of_lt_of_le y1 hB.size
      have i1 : (0 : Int) ≤ (j : Int) := by omega
      have i2 : (j : Int) < (zs.length : Int) := by omega
      obtain ⟨h3, h4⟩ := HM.out j hjl
      have cs := CS.out j hj
      have cn := CN.out j
      obtain ⟨m, hm⟩ := Int.eq_ofNat_of_zero_le h3
      rw [hm] at d0 h4 cn
      rw [Int.toNat_natCast] at cn
      replace cn := Lib.hid cn
      have hm1 : m < 96 := by omega
      have ys := dec2_le (n := m) (by omega)
      have D := Lib.hid fun W => sDec_any m (by omega) W
      generalize cdN s zs j = t at *
      generalize dec2 m = y at *
      have sl1 : ¬ 9223372036854775807 < 1 + y.size := by omega
      have sl4 : ¬ 9223372036854775807 < t.size + (1 + y.size) := by omega
      clear hB p0 y1 h3 h4 hm cs ys hm1
      go_wp2_with (go_at_call 83; refine (D.out _).mono ?_; rintro e w3 ⟨rfl, hB⟩; have B3 := Lib.hid (B5.out.trans (Below.mono hB B5.out.size)); clear hB)
      exact ⟨⟨j + 1, hjl, by rw [Int.natCast_succ], by rw [cn.out], B3.out⟩, by (simp [intOf]) <;> omega⟩
    · have e : j = zs.length := by omega
      subst e
      have hd : decide ((zs.length : Int) < (zs.length : Int)) = false := by simp
      clear hB
      go_wp2
      go_ret
      exact ⟨rfl, B1.out.trans (Below.mono B5.out B1.out.size)⟩

end Go.Proofs.YtpkpjkceiikakaaDoor
