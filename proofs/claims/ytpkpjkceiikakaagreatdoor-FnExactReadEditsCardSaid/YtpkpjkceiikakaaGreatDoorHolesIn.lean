/- Contracts: HolesIn, the program's and the model's. -/
import Derived.Test.YtpkpjkceiikakaaGreatDoorIHoles
namespace Go.Proofs.YtpkpjkceiikakaaGreatDoor
open Go.ChangeShapes Go.WideShapes Go.ChangeAt Go.RowKit

def HolR (zs : List Int) (c : Int) (w : World) (e : Ending) (w' : World) : Prop := ∃ v, e = .returned (.tuple #[v, .int .i64 c]) ∧ OwnInts w.heap.size zs v w' ∧ Below w.heap.size w w'
theorem HolR.mk {zs : List Int} {c d : Int} {w w' : World} {v : Value} (hc : c = d) (ho : OwnInts w.heap.size zs v w') (hb : Below w.heap.size w w') : HolR zs c w (.returned (.tuple #[v, .int .i64 d])) w' := ⟨v, by rw [hc], ho, hb⟩
def maskOkB (b : Int) : Bool := b / 4294967296 == 0
/-- The answer's numbers, and its code. -/
def hzL (a b : Int) : List Int := if maskOkB b then hol (hasB a b) 96 else []
theorem hz_len (a b : Int) : (hzL a b).length ≤ 96 := by unfold hzL; split; exact hol_len _ _; simp
theorem hz_yes (a : Int) {b : Int} (h : (b / 4294967296 == 0) = true) : hzL a b = hol (hasB a b) 96 := by unfold hzL maskOkB; rw [if_pos h]
theorem hz_no (a : Int) {b : Int} (h : (b / 4294967296 == 0) = false) : hzL a b = [] := by unfold hzL maskOkB; rw [h]; rfl
def hzC (b : Int) : Int := if maskOkB b then 0 else 1
theorem hzC_yes {b : Int} (h : (b / 4294967296 == 0) = true) : hzC b = 0 := by unfold hzC maskOkB; rw [if_pos h]
theorem hzC_no {b : Int} (h : (b / 4294967296 == 0) = false) : hzC b = 1 := by unfold hzC maskOkB; rw [h]; rfl
theorem own_nil (B : Nat) (w : World) : OwnInts B [] (.slice none 0 0) w := World.ownsRow_nil w B _ _

set_option maxHeartbeats 1600000 in
theorem iHolesIn_any (a b : Int) (ha : U64 a) (hb : U64 b) (w : World) :
    Calls Tryz.prog 54 #[.agg #[.int .u64 a, .int .u64 b]] w (HolR (hzL a b) (hzC b) w) := by
  cases q : (b / 4294967296 == 0)
  · have hn := Lib.hid (hz_no a q)
    have hc := Lib.hid (hzC_no q)
    clear ha hb
    go_enter Tryz.func54, Tryz.ntmps54
    go_wp2_with fail
    go_step3
    go_wp2
    (try rw [Exit.noGoto_ret])
    go_ret2
    exact HolR.mk hc.out (by rw [hn.out]; exact own_nil _ _) (by repeat' (first | (with_reducible exact Below.refl _ _) | (with_reducible assumption) | (with_reducible refine below_drewN ?_ _) | (with_reducible refine Below.drew ?_) | (with_reducible refine below_new ?_ _) | (with_reducible refine below_next ?_ (by with_reducible assumption)) | (with_reducible refine Below.setCell ?_ ?_ _) | go_size))
  · rw [hz_yes a q, hzC_yes q]
    obtain ⟨x, rfl⟩ := Int.eq_ofNat_of_zero_le ha.1
    obtain ⟨y, rfl⟩ := Int.eq_ofNat_of_zero_le hb.1
    exact (iHoles_ok x y (by have := ha.2; omega) (by simp at q; omega) w).mono fun _ _ h => h

end Go.Proofs.YtpkpjkceiikakaaGreatDoor
