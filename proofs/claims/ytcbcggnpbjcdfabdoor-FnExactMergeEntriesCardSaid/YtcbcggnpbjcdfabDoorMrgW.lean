/- Contract: MergeEntries, the program's. -/
import Derived.Test.YtcbcggnpbjcdfabDoorMrgM
import Derived.Test.YtcbcggnpbjcdfabDoorMrgT
namespace Go.Proofs.YtcbcggnpbjcdfabDoor
open Go.ChangeShapes Go.WideShapes Go.ChangeAt Go.RowKit

set_option maxRecDepth 100000 in
set_option maxHeartbeats 1600000 in
theorem iMergeEntries_any (ad : Option Addr) (cs : List Et) (c : Nat) (x br : Int) (w : World) (hc : EntsIn w ad cs) :
    Calls Tryd.prog 21 #[.slice ad cs.length c, .int .i64 x, .int .i64 br] w (meER cs x br w) := by
  have hmf : ∀ (fn : Fn) (first cap : Array Value) (w : World), (Instr.makeFunc fn first cap).run Tryd.prog w = .ok (.func fn first cap) w := fun _ _ _ _ => rfl
  have b0 : Hid (Below w.heap.size w ((w.alloc (.cells #[.int .i64 x] 2)).alloc (.cells #[.int .i64 br] 2))) := Lib.hid (below_new (below_new (Below.refl w.heap.size w) _) _)
  have k0 : ((w.alloc (.cells #[.int .i64 x] 2)).alloc (.cells #[.int .i64 br] 2)).cell? ⟨w.heap.size, 0, none⟩ = some (.int .i64 x) := (box2_0 ..).trans rfl
  have k1 : ((w.alloc (.cells #[.int .i64 x] 2)).alloc (.cells #[.int .i64 br] 2)).cell? ⟨w.heap.size + 1, 0, none⟩ = some (.int .i64 br) := (box2_1 ..).trans rfl
  have H0 := entsIn_below hc b0.out
  clear hc
  cases hz : catOk cs
  · have V := Lib.hid fun fv => search_bad_e ad cs c fv _ H0 hz
    rw [meER_bad x br hz]
    clear hz H0 k0 k1
    go_enter Tryd.func21, Tryd.ntmps21
    go_wp2_with (go_at_call 62; refine (V.out _).mono ?_; rintro e w1 ⟨rfl, hB⟩; have b1 := Lib.hid (b0.out.trans (Below.mono hB b0.out.size)); clear hB)
    go_returns
    exact ⟨_, rfl, ownE_nil _ _, b1.out⟩
  cases hx : hasX cs.length x
  · have V := Lib.hid (search_missing_e ad cs c 71 #[.pointer (some ⟨w.heap.size, 0, none⟩), .pointer (some ⟨w.heap.size + 1, 0, none⟩)] x _ H0 hz (enters_of Tryd.func71 (by kernel_rfl) rfl) (fun W hB hE => merge1_missI ad cs c x br hx w.heap.size (w.heap.size + 1) W hE ((hB.cell (p := ⟨w.heap.size, 0, none⟩) (by simp; omega)).trans k0) ((hB.cell (p := ⟨w.heap.size + 1, 0, none⟩) (by simp)).trans k1)))
    rw [meER_none hz (by rw [hx, Bool.false_and])]
    clear hz H0 k0 k1 hx
    go_enter Tryd.func21, Tryd.ntmps21
    go_wp2_with (go_at_call 62; refine V.out.mono ?_; rintro e w1 ⟨rfl, hB⟩; have b1 := Lib.hid (b0.out.trans (Below.mono hB b0.out.size)); clear hB)
    go_returns
    exact ⟨_, rfl, ownE_nil _ _, b1.out⟩
  obtain ⟨q1, q2⟩ := hasX_yes hx
  have ex : ((x.toNat : Nat) : Int) = x := by omega
  have hn := (cat_parts hz).1
  cases hy : hasX cs.length br
  · have V := Lib.hid (search_missing_e ad cs c 71 #[.pointer (some ⟨w.heap.size, 0, none⟩), .pointer (some ⟨w.heap.size + 1, 0, none⟩)] br _ H0 hz (enters_of Tryd.func71 (by kernel_rfl) rfl) (fun W hB hE => merge1_missK ad cs c x.toNat (by omega) br hy hn w.heap.size (w.heap.size + 1) W hE ((hB.cell (p := ⟨w.heap.size, 0, none⟩) (by simp; omega)).trans (by rw [ex]; exact k0)) ((hB.cell (p := ⟨w.heap.size + 1, 0, none⟩) (by simp)).trans k1)))
    rw [meER_none hz (by rw [hy, Bool.and_false])]
    clear hz H0 k0 k1 hx hy ex q1 q2
    go_enter Tryd.func21, Tryd.ntmps21
    go_wp2_with (go_at_call 62; refine V.out.mono ?_; rintro e w1 ⟨rfl, hB⟩; have b1 := Lib.hid (b0.out.trans (Below.mono hB b0.out.size)); clear hB)
    go_returns
    exact ⟨_, rfl, ownE_nil _ _, b1.out⟩
  obtain ⟨p1, p2⟩ := hasX_yes hy
  have ey : ((br.toNat : Nat) : Int) = br := by omega
  have V := Lib.hid (search_ok_e ad cs c 71 #[.pointer (some ⟨w.heap.size, 0, none⟩), .pointer (some ⟨w.heap.size + 1, 0, none⟩)] _ H0 hz (enters_of Tryd.func71 (by kernel_rfl) rfl) (fun v n W => OwnEnts (((w.alloc (.cells #[.int .i64 x] 2)).alloc (.cells #[.int .i64 br] 2)).heap.size + 1) (meL cs x.toNat br.toNat) v W ∧ n = meC cs x.toNat br.toNat) (fun v n W u h => ⟨ownsRow_setCell_below h.1 (by simp) u, h.2⟩)
    (fun W hB hl hE => (merge1_ok ad cs c x.toNat br.toNat (by omega) (by omega) hz w.heap.size (w.heap.size + 1) _ _ me_no me_yes W hE ((hB.cell (p := ⟨w.heap.size, 0, none⟩) (by simp; omega)).trans (by rw [ex]; exact k0)) ((hB.cell (p := ⟨w.heap.size + 1, 0, none⟩) (by simp)).trans (by rw [ey]; exact k1))).mono fun e w' ⟨v, he, ho, hb⟩ => ⟨v, _, he, ⟨ownEnts_weaken ho (by omega), rfl⟩, hb⟩))
  rw [meER_ok hz (by rw [hx, hy]; rfl)]
  clear hz H0 k0 k1 hx hy ex ey q1 q2 p1 p2 hn
  generalize meL cs x.toNat br.toNat = zs at *
  generalize meC cs x.toNat br.toNat = cd at *
  go_enter Tryd.func21, Tryd.ntmps21
  go_wp2_with (go_at_call 62; refine V.out.mono ?_; rintro e w1 ⟨v, _, rfl, ⟨ho, rfl⟩, hB⟩; have b1 := Lib.hid (b0.out.trans (Below.mono hB b0.out.size)); have O1 := Lib.hid (ownEnts_weaken ho (show w.heap.size ≤ _ by simp <;> omega)); clear hB ho)
  go_returns
  exact ⟨_, rfl, O1.out, b1.out⟩
end Go.Proofs.YtcbcggnpbjcdfabDoor
