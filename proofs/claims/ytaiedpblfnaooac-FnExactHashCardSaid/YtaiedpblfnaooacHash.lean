/- Contracts: the hash of a card and the sum of hashes, the program's and the model's. -/
import Derived.Test.YtaiedpblfnaooacChk
import Derived.Test.YtaiedpblfnaooacCard
import Derived.Test.YtaiedpblfnaooacBoxes
import Derived.Test.YtaiedpblfnaooacWear2
namespace Go.Proofs.Ytaiedpblfnaooac
open Go.ChangeShapes Go.WideShapes Go.ChangeAt Go.RowKit

def hxS (h v : Int) : Int := IntKind.u64.wrap (bits .xor .u64 h v * 1099511628211)
def hx0 : Int := 14695981039346656037
def hxN (s : ByteArray) : Nat → Int
  | 0 => hx0
  | k + 1 => hxS (hxN s k) (ckB s k)
/-- The hash of a card. -/
def hxC (s : ByteArray) (a b : Int) : Int := hxS (hxS (hxN s s.size) a) b
theorem hx_next {s : ByteArray} {k : Nat} (h : k < s.size) : hxN s (k + 1) = IntKind.u64.wrap (bits .xor .u64 (hxN s k) (s[k].toNat : Int) * 1099511628211) := by rw [hxN, ckB_lt h]; rfl
theorem hx_done (s : ByteArray) (a b : Int) : IntKind.u64.wrap (bits .xor .u64 (IntKind.u64.wrap (bits .xor .u64 (hxN s s.size) a * 1099511628211)) b * 1099511628211) = hxC s a b := rfl
theorem ret_u64 {x y : Int} (h : x = y) : Ending.returned (.int .u64 x) = .returned (.int .u64 y) := by rw [h]

set_option maxHeartbeats 1600000 in
theorem iHash_any (s : ByteArray) (a b : Int) (hs : s.size ≤ maxLen) (w : World) :
    Calls Try.prog 68 #[.agg #[.string s, .int .u64 a, .int .u64 b]] w fun e w' => e = .returned (.int .u64 (hxC s a b)) ∧ Below w.heap.size w w' := by
  unfold maxLen at hs
  have D := Lib.hid (hx_done s a b)
  go_enter Try.func68, Try.ntmps68
  go_wp2
  go_loop [3, 10] (fun h i => ∃ k : Nat, k ≤ s.size ∧ i = .int .i64 (k : Int) ∧ h = .int .u64 (hxN s k)) (fun _ i => s.size - (intOf i).toNat)
  case atStart => exact ⟨0, Nat.zero_le _, rfl, rfl⟩
  case round =>
    obtain ⟨k, hk, rfl, rfl⟩ := hrel
    by_cases hlt : k < s.size
    · have H := Lib.hid (hx_next hlt)
      have hw : IntKind.u64.wrap (s[k].toNat : Int) = (s[k].toNat : Int) := IntWalk.u64_in _ (by have := s[k].toNat_lt; omega)
      generalize hxN s k = c at *
      go_wp2
      go_round
      case rel => exact ⟨k + 1, by omega, by go_num, by rw [H.out]; try rfl⟩
      case measure => simp [intOf]; omega
    · obtain rfl : k = s.size := by omega
      have x0 : ∀ w : World, (Instr.index 37 (.agg #[.int .u64 a, .int .u64 b]) (.int .i64 0)).run Try.prog w = .ok (.int .u64 a) w := fun _ => by kernel_rfl
      have x1 : ∀ w : World, (Instr.index 37 (.agg #[.int .u64 a, .int .u64 b]) (.int .i64 1)).run Try.prog w = .ok (.int .u64 b) w := fun _ => by kernel_rfl
      generalize hxN s s.size = c at *
      go_wp2
      refine wp_loop_rounds 3 ?_
      rw [rounds_succ]; go_wp2
      rw [rounds_succ]; go_wp2
      rw [rounds_succ]; go_wp2
      go_returns
      exact ⟨ret_u64 D.out, (by repeat' (first | (with_reducible exact Below.refl _ _) | (with_reducible assumption) | (with_reducible refine below_drewN ?_ _) | (with_reducible refine Below.drew ?_) | (with_reducible refine below_new ?_ _) | (with_reducible refine below_next ?_ (by with_reducible assumption)) | (with_reducible refine Below.setCell ?_ ?_ _) | go_size))⟩

set_option maxHeartbeats 1600000 in
theorem sHash_any (s : ByteArray) (a b : Int) (hs : s.size ≤ maxLen) (g o : Nat) (w : World) (h0 : w.cell? ⟨g, o, none⟩ = some (.string s)) (h1 : w.cell? ⟨g, o + 1, none⟩ = some (.int .u64 a)) (h2 : w.cell? ⟨g, o + 2, none⟩ = some (.int .u64 b)) :
    Calls Try.prog 66 #[.pointer (some ⟨g, o, none⟩)] w fun e w' => e = .returned (.int .u64 (hxC s a b)) ∧ Below w.heap.size w w' := by
  unfold maxLen at hs
  have D := Lib.hid (hx_done s a b)
  go_enter Try.func66, Try.ntmps66
  go_wp2
  go_loop [3, 4] (fun h i => ∃ k : Nat, k ≤ s.size ∧ i = .int .i64 (k : Int) ∧ h = .int .u64 (hxN s k)) (fun _ i => s.size - (intOf i).toNat)
  case atStart => exact ⟨0, Nat.zero_le _, rfl, rfl⟩
  case round =>
    obtain ⟨k, hk, rfl, rfl⟩ := hrel
    by_cases hlt : k < s.size
    · have H := Lib.hid (hx_next hlt)
      have hw : IntKind.u64.wrap (s[k].toNat : Int) = (s[k].toNat : Int) := IntWalk.u64_in _ (by have := s[k].toNat_lt; omega)
      generalize hxN s k = c at *
      go_wp2
      go_round
      case rel => exact ⟨k + 1, by omega, by go_num, by rw [H.out]; try rfl⟩
      case measure => simp [intOf]; omega
    · obtain rfl : k = s.size := by omega
      generalize hxN s s.size = c at *
      go_wp2
      refine wp_loop_rounds 3 ?_
      rw [rounds_succ]; go_wp2
      rw [rounds_succ]; go_wp2
      rw [rounds_succ]; go_wp2
      go_returns
      exact ⟨ret_u64 D.out, (by repeat' (first | (with_reducible exact Below.refl _ _) | (with_reducible assumption) | (with_reducible refine below_drewN ?_ _) | (with_reducible refine Below.drew ?_) | (with_reducible refine below_new ?_ _) | (with_reducible refine below_next ?_ (by with_reducible assumption)) | (with_reducible refine Below.setCell ?_ ?_ _) | go_size))⟩
/-- A hash and OK, or nothing and ErrInvalid. -/
def hcV (ok : Bool) (h : Int) : Value := .tuple #[.int .u64 (if ok then h else 0), .int .i64 (if ok then 0 else 1)]
theorem hcV_no (h : Int) : .tuple #[.int .u64 0, .int .i64 1] = hcV false h := rfl
theorem hcV_yes (h : Int) : .tuple #[.int .u64 h, .int .i64 0] = hcV true h := rfl
theorem hcV_parts (ok : Bool) (h : Int) : ∃ x c : Int, hcV ok h = .tuple #[.int .u64 x, .int .i64 c] := ⟨_, _, rfl⟩

set_option maxHeartbeats 1600000 in
theorem iHashCard_any (s : ByteArray) (a b : Int) (hs : s.size ≤ maxLen) (w : World) :
    Calls Try.prog 23 #[.agg #[.string s, .int .u64 a, .int .u64 b]] w fun e w' => e = .returned (hcV (cardOk s b) (hxC s a b)) ∧ Below w.heap.size w w' := by
  have V := Lib.hid fun W => iValidCard_any s a b hs W
  have H := Lib.hid fun W => iHash_any s a b hs W
  clear hs
  cases hk : cardOk s b
  · rw [hk] at V
    clear hk
    go_enter Try.func23, Try.ntmps23
    go_wp2_with (go_at_call 67; refine (V.out _).mono ?_; rintro e w1 ⟨rfl, hB⟩; obtain ⟨hc, hf, hz⟩ := bcell hB)
    go_ret2
    exact ⟨eRet (hcV_no _), (by repeat' (first | (with_reducible exact Below.refl _ _) | (with_reducible assumption) | (with_reducible refine below_drewN ?_ _) | (with_reducible refine Below.drew ?_) | (with_reducible refine below_new ?_ _) | (with_reducible refine below_next ?_ (by with_reducible assumption)) | (with_reducible refine Below.setCell ?_ ?_ _) | go_size))⟩
  · rw [hk] at V
    clear hk
    generalize hxC s a b = x at *
    go_enter Try.func23, Try.ntmps23
    go_wp2_with (first
      | (go_at_call 67; refine (V.out _).mono ?_; rintro e w1 ⟨rfl, hB⟩; obtain ⟨hc, hf, hz⟩ := bcell hB; have z0 : w.heap.size < w1.heap.size := hz _ (by first | omega | (simp; done) | (simp; omega)))
      | (go_at_call 68; refine (H.out _).mono ?_; rintro e w2 ⟨rfl, hB2⟩))
    go_ret2
    exact ⟨eRet (hcV_yes _), (by repeat' (first | (with_reducible exact Below.refl _ _) | (with_reducible assumption) | (with_reducible refine below_drewN ?_ _) | (with_reducible refine Below.drew ?_) | (with_reducible refine below_new ?_ _) | (with_reducible refine below_next ?_ (by with_reducible assumption)) | (with_reducible refine Below.setCell ?_ ?_ _) | go_size))⟩
set_option maxHeartbeats 1600000 in
theorem sHashCard_any (s : ByteArray) (a b : Int) (hs : s.size ≤ maxLen) (w : World) :
    Calls Try.prog 21 #[.agg #[.string s, .int .u64 a, .int .u64 b]] w fun e w' => e = .returned (hcV (cardOk s b) (hxC s a b)) ∧ Below w.heap.size w w' := by
  have V := Lib.hid fun W h0 h1 h2 => sOk_any s b hs w.heap.size 0 W a h0 h1 h2
  have H := Lib.hid fun W h0 h1 h2 => sHash_any s a b hs w.heap.size 0 W h0 h1 h2
  clear hs
  cases hk : cardOk s b
  · rw [hk] at V
    clear hk
    go_enter Try.func21, Try.ntmps21
    go_wp2_with (go_at_call 65; refine (V.out _ (by simp) (by simp) (by simp)).mono ?_; rintro e w1 ⟨rfl, hB⟩; obtain ⟨hc, hf, hz⟩ := bcell hB)
    go_ret2
    exact ⟨eRet (hcV_no _), (by repeat' (first | (with_reducible exact Below.refl _ _) | (with_reducible assumption) | (with_reducible refine below_drewN ?_ _) | (with_reducible refine Below.drew ?_) | (with_reducible refine below_new ?_ _) | (with_reducible refine below_next ?_ (by with_reducible assumption)) | (with_reducible refine Below.setCell ?_ ?_ _) | go_size))⟩
  · rw [hk] at V
    clear hk
    generalize hxC s a b = x at *
    go_enter Try.func21, Try.ntmps21
    go_wp2_with (first
      | (go_at_call 65; refine (V.out _ (by simp) (by simp) (by simp)).mono ?_; rintro e w1 ⟨rfl, hB⟩; obtain ⟨hc, hf, hz⟩ := bcell hB; have z0 : w.heap.size < w1.heap.size := hz _ (by first | omega | (simp; done) | (simp; omega)))
      | (go_at_call 66; refine (H.out _ (by simp [hc]) (by simp [hc]) (by simp [hc])).mono ?_; rintro e w2 ⟨rfl, hB2⟩))
    go_ret2
    exact ⟨eRet (hcV_yes _), (by repeat' (first | (with_reducible exact Below.refl _ _) | (with_reducible assumption) | (with_reducible refine below_drewN ?_ _) | (with_reducible refine Below.drew ?_) | (with_reducible refine below_new ?_ _) | (with_reducible refine below_next ?_ (by with_reducible assumption)) | (with_reducible refine Below.setCell ?_ ?_ _) | go_size))⟩
end Go.Proofs.Ytaiedpblfnaooac
