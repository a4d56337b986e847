/- Contract: the model's Decimal, for numbers of at most two digits. -/
import Derived.Test.YtpkpjkceiikakaaDoorBase
import Derived.Test.YtpkpjkceiikakaaDoorQuiet
import Derived.Test.YtpkpjkceiikakaaDoorFloat
import Derived.Deep.DeepCutAuto
namespace Go.Proofs.YtpkpjkceiikakaaDoor
open Go.ChangeShapes Go.WideShapes Go.ChangeAt Go.RowKit

/-- A digit. -/
def dig (k : Nat) : ByteArray := ⟨#[UInt8.ofNat (48 + k)]⟩
/-- A number of at most two digits. -/
def dec2 (n : Nat) : ByteArray := if n < 10 then dig n else dig (n / 10) ++ dig (n % 10)
theorem conv_oneD (W : World) (u : UInt8) : (convert 81 9 (.slice (some ⟨W.heap.size, 0, none⟩) 1 1)).run Tryd.prog (W.alloc (.cells #[.int .u8 (u.toNat : Int)] 5)) = .ok (.string ⟨#[u]⟩) (W.alloc (.cells #[.int .u8 (u.toNat : Int)] 5)) := by
  have h := run_convert_bytes_back (P := Tryd.prog) (W.alloc (.cells #[.int .u8 (u.toNat : Int)] 5)) 81 9 5 ⟨W.heap.size, 0, none⟩ 1 [u] Tryd.underlying81 Tryd.underlying5 Tryd.underlying9 (fun j hj => by
    have hj0 : j = 0 := by simp at hj; omega
    subst hj0
    simp [Addr.add])
  simpa using h
theorem conv_at (W : World) (b : Nat) (u : UInt8) (hb : W.cell? ⟨b, 0, none⟩ = some (.int .u8 (u.toNat : Int))) : (convert 81 9 (.slice (some ⟨b, 0, none⟩) 1 1)).run Tryd.prog W = .ok (.string ⟨#[u]⟩) W := by
  have h := run_convert_bytes_back (P := Tryd.prog) W 81 9 5 ⟨b, 0, none⟩ 1 [u] Tryd.underlying81 Tryd.underlying5 Tryd.underlying9 (fun j hj => by
    have hj0 : j = 0 := by simp at hj; omega
    subst hj0
    simp [Addr.add, hb])
  simpa using h
theorem dig_byte {k : Nat} (h : k < 10) : ((UInt8.ofNat (48 + k)).toNat : Int) = 48 + (k : Int) := by rw [UInt8.toNat_ofNat']; omega

set_option maxRecDepth 100000 in
set_option maxHeartbeats 1600000 in
theorem sDec1_any (n : Nat) (hn : n < 10) (w : World) :
    Calls Tryd.prog 83 #[.int .i64 (n : Int)] w fun e w' => e = .returned (.string (dec2 n)) ∧ Below w.heap.size w w' := by
  have d1 : decide ((n : Int) < 10) = true := decide_eq_true (by omega)
  have v1 : (n : Int).tmod 10 = (n : Int) := by rw [Int.tmod_eq_emod_of_nonneg (by omega)]; omega
  have v2 : IntKind.i64.wrap (n : Int) = (n : Int) := IntWalk.i64_in _ (by omega)
  have v3 : IntKind.i64.wrap (48 + (n : Int)) = 48 + (n : Int) := IntWalk.i64_in _ (by omega)
  have e : dec2 n = ⟨#[UInt8.ofNat (48 + n)]⟩ := if_pos hn
  rw [e]
  have hu := dig_byte hn
  generalize UInt8.ofNat (48 + n) = u at *
  have v4 : IntKind.u8.wrap (48 + (n : Int)) = (u.toNat : Int) := by rw [hu]; exact IntWalk.u8_in _ ⟨by omega, by omega⟩
  have cv := conv_oneD w u
  clear hu e
  go_enter Tryd.func83, Tryd.ntmps83
  go_wp2
  go_ret
  exact ⟨rfl, (by repeat' (first | (with_reducible exact Below.refl _ _) | (with_reducible assumption) | (with_reducible refine below_drewN ?_ _) | (with_reducible refine Below.drew ?_) | (with_reducible refine below_new ?_ _) | (with_reducible refine below_next ?_ (by with_reducible assumption)) | (with_reducible refine Below.setCell ?_ ?_ _) | go_size))⟩

set_option maxRecDepth 100000 in
set_option maxHeartbeats 3200000 in
theorem sDec_any (n : Nat) (hn : n < 100) (w : World) :
    Calls Tryd.prog 83 #[.int .i64 (n : Int)] w fun e w' => e = .returned (.string (dec2 n)) ∧ Below w.heap.size w w' := by
  by_cases h : n < 10
  · exact sDec1_any n h w
  · have d1 : decide ((n : Int) < 10) = false := decide_eq_false (by omega)
    obtain ⟨m, hm⟩ : ∃ m, m = n / 10 := ⟨_, rfl⟩
    obtain ⟨r, hr⟩ : ∃ r, r = n % 10 := ⟨_, rfl⟩
    have v0 : (n : Int).tdiv 10 = (m : Int) := by rw [Int.tdiv_eq_ediv_of_nonneg (by omega)]; omega
    have v1 : (n : Int).tmod 10 = (r : Int) := by rw [Int.tmod_eq_emod_of_nonneg (by omega)]; omega
    have v5 : IntKind.i64.wrap (m : Int) = (m : Int) := IntWalk.i64_in _ (by omega)
    have v2 : IntKind.i64.wrap (r : Int) = (r : Int) := IntWalk.i64_in _ (by omega)
    have v3 : IntKind.i64.wrap (48 + (r : Int)) = 48 + (r : Int) := IntWalk.i64_in _ (by omega)
    have e : dec2 n = dig m ++ ⟨#[UInt8.ofNat (48 + r)]⟩ := by unfold dec2; rw [if_neg h, hm, hr]; rfl
    have em : dec2 m = dig m := if_pos (by omega)
    have D := fun W => sDec1_any m (by omega) W
    rw [em] at D
    rw [e]
    have hu := dig_byte (k := r) (by omega)
    have sd : (dig m).size = 1 := rfl
    generalize UInt8.ofNat (48 + r) = u at *
    generalize dig m = s at *
    have v4 : IntKind.u8.wrap (48 + (r : Int)) = (u.toNat : Int) := by rw [hu]; exact IntWalk.u8_in _ ⟨by omega, by omega⟩
    have cv := fun W b hb => conv_at W b u hb
    have sz : (ByteArray.mk #[u]).size = 1 := rfl
    have sl : ¬ 9223372036854775807 < s.size + 1 := by omega
    have D := Lib.hid D
    clear hu e em hm hr
    go_enter Tryd.func83, Tryd.ntmps83
    go_upto_region 3 with fail
    go_region_with (go_at_call 83; refine (D.out _).mono ?_; rintro e w2 ⟨rfl, hB⟩; obtain ⟨qc, qf, qz⟩ := bcell hB)
    all_goals go_wp2
    all_goals go_ret
    all_goals exact ⟨rfl, (by repeat' (first | (with_reducible exact Below.refl _ _) | (with_reducible assumption) | (with_reducible refine below_drewN ?_ _) | (with_reducible refine Below.drew ?_) | (with_reducible refine below_new ?_ _) | (with_reducible refine below_next ?_ (by with_reducible assumption)) | (with_reducible refine Below.setCell ?_ ?_ _) | go_size))⟩
end Go.Proofs.YtpkpjkceiikakaaDoor
