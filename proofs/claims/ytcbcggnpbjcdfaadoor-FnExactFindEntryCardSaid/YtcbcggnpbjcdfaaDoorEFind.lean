/- Contracts: FindEntry, the program's and the model's. -/
import Derived.Test.YtcbcggnpbjcdfaaDoorSrch
import Derived.Test.YtcbcggnpbjcdfaaDoorCatS
import Derived.Deep.DeepCutAuto
namespace Go.Proofs.YtcbcggnpbjcdfaaDoor
open Go.ChangeShapes Go.WideShapes Go.ChangeAt Go.RowKit

def efindFrom (cs : List Et) (s : ByteArray) : Nat → Nat → Int
  | 0, _ => -1
  | f + 1, j => if ((etAt cs j).s == s) = true then (j : Int) else efindFrom cs s f (j + 1)
def efindC (cs : List Et) (s : ByteArray) : Int := efindFrom cs s cs.length 0
theorem efind_hit {cs : List Et} {s : ByteArray} {j : Nat} (hj : j < cs.length) (h : efindFrom cs s (cs.length - j) j = efindC cs s) (he : ((etAt cs j).s == s) = true) : efindC cs s = j := by
  rw [← h, show cs.length - j = (cs.length - (j + 1)) + 1 by omega, efindFrom, if_pos he]
theorem efind_miss {cs : List Et} {s : ByteArray} {j : Nat} (hj : j < cs.length) (h : efindFrom cs s (cs.length - j) j = efindC cs s) (he : ((etAt cs j).s == s) = false) : efindFrom cs s (cs.length - (j + 1)) (j + 1) = efindC cs s := by
  rw [← h, show cs.length - j = (cs.length - (j + 1)) + 1 by omega, efindFrom, if_neg (by simp [he])]
theorem efind_end {cs : List Et} {s : ByteArray} (h : efindFrom cs s (cs.length - cs.length) cs.length = efindC cs s) : efindC cs s = -1 := by
  rw [← h, Nat.sub_self]; rfl
theorem eretI {x y : Int} (h : y = x) : Ending.returned (.int .i64 x) = Ending.returned (.int .i64 y) := by rw [h]
/-- What a search for a number answers: it is there, is none, the catalogue is not valid. -/
def efdR (ok : Bool) (x : Int) : Value := .tuple #[.int .i64 (if ok then (if x < 0 then 0 else x) else 0), .int .i64 (if ok then (if x < 0 then 6 else 0) else 1)]
theorem efdR_no (x : Int) : .tuple #[.int .i64 0, .int .i64 1] = efdR false x := rfl
theorem efdR_none {x : Int} (h : x < 0) : .tuple #[.int .i64 0, .int .i64 6] = efdR true x := by unfold efdR; simp [h]
theorem efdR_at {x : Int} (h : ¬ x < 0) : .tuple #[.int .i64 x, .int .i64 0] = efdR true x := by unfold efdR; simp [h]
theorem eretV {x y : Value} (h : x = y) : Ending.returned x = Ending.returned y := by rw [h]

theorem ecFind_any (s : ByteArray) (a b : Int) (t : ByteArray) (g : Nat) (w : World) (h : w.cell? ⟨g, 0, none⟩ = some (.string t)) :
    Calls Tryd.prog 56 #[.agg #[.string s, .int .i64 a, .int .i64 b], .pointer (some ⟨g, 0, none⟩)] w fun e w' => e = .returned (.bool (s == t)) ∧ Below w.heap.size w w' := by
  have hg := World.block_lt_of_cell? _ _ h
  go_enter Tryd.func56, Tryd.ntmps56
  go_wp2
  go_returns
  exact ⟨retB9 (beq_toListBytes s t), (by repeat' (first | (with_reducible exact Below.refl _ _) | (with_reducible assumption) | (with_reducible refine below_drewN ?_ _) | (with_reducible refine Below.drew ?_) | (with_reducible refine below_new ?_ _) | (with_reducible refine below_next ?_ (by with_reducible assumption)) | (with_reducible refine Below.setCell ?_ ?_ _) | go_size))⟩

set_option maxHeartbeats 1600000 in
theorem eIndex_any (ad : Option Addr) (cs : List Et) (c : Nat) (t : ByteArray) (w : World) (hc : EntsIn w ad cs) (hn : cs.length ≤ 40) (g : Nat) (hg : g < w.heap.size) (hc9 : w.cell? ⟨g, 0, none⟩ = some (.string t)) :
    Calls Tryd.prog 55 #[.slice ad cs.length c, .func (.func 56) #[] #[.pointer (some ⟨g, 0, none⟩)]] w fun e w' => e = .returned (.int .i64 (efindC cs t)) ∧ Below w.heap.size w w' := by
  have C := Lib.hid hc
  clear hc
  have G := Lib.hid hc9
  go_enter Tryd.func55, Tryd.ntmps55
  go_wp2
  go_loopw [8] (fun i wr => ∃ j : Nat, j ≤ cs.length ∧ i = .int .i64 j ∧ efindFrom cs t (cs.length - j) j = efindC cs t ∧ Below w.heap.size w wr) (fun i _ => cs.length - (intOf i).toNat)
  case atStart => exact ⟨0, Nat.zero_le _, rfl, rfl, Below.refl _ _⟩
  case round =>
    obtain ⟨j, hj, rfl, hs, hB⟩ := hrel
    have BB := Lib.hid hB
    have S := Lib.hid hs
    clear hs
    by_cases hjl : j < cs.length
    · have hd : decide ((j : Int) < (cs.length : Int)) = true := by simpa using hjl
      obtain ⟨_, b1, o1, rfl, hb1, p0, p1, p2⟩ := C.out j hjl
      have d0 := (hB.cell (p := ⟨b1, o1 + j * 3, none⟩) hb1).trans p0
      have d1 := (hB.cell (p := ⟨b1, o1 + j * 3 + 1, none⟩) hb1).trans p1
      have d2 := (hB.cell (p := ⟨b1, o1 + j * 3 + 2, none⟩) hb1).trans p2
      have y1 : b1 < wr.heap.size := Nat.lt_of_lt_of_le hb1 hB.size
      have i1 : (0 : Int) ≤ (j : Int) := by omega
      have i2 : (j : Int) < (cs.length : Int) := by omega
      have V := Lib.hid (ecFind_any (etAt cs j).s (etAt cs j).a (etAt cs j).b t g wr ((hB.cell hg).trans G.out))
      have HT := Lib.hid (fun h => efind_hit hjl S.out h)
      have MS := Lib.hid (fun h => efind_miss hjl S.out h)
      clear hB p0 p1 p2 S
      cases hx : ((etAt cs j).s == t)
      · rw [hx] at V
        go_wp2_with (go_at_call 56; refine V.out.mono ?_; rintro e w1 ⟨rfl, hB9⟩; have B1 := Lib.hid (BB.out.trans (Below.mono hB9 BB.out.size)); clear hB9)
        exact ⟨⟨j + 1, hjl, by rw [Int.natCast_succ], MS.out hx, B1.out⟩, by (simp [intOf]) <;> omega⟩
      · rw [hx] at V
        go_wp2_with (go_at_call 56; refine V.out.mono ?_; rintro e w1 ⟨rfl, hB9⟩; have B1 := Lib.hid (BB.out.trans (Below.mono hB9 BB.out.size)); clear hB9)
        go_ret
        exact ⟨eretI (HT.out hx), B1.out⟩
    · have e : j = cs.length := by omega
      subst e
      have hd : decide ((cs.length : Int) < (cs.length : Int)) = false := by simp
      clear hB
      go_wp2
      go_ret
      exact ⟨eretI (efind_end S.out), BB.out⟩

theorem eFind1_any (ad : Option Addr) (cs : List Et) (c : Nat) (t : ByteArray) (w : World) (hc : EntsIn w ad cs) (hn : cs.length ≤ 40) (g : Nat) (hg : g < w.heap.size) (hc9 : w.cell? ⟨g, 0, none⟩ = some (.string t)) :
    Calls Tryd.prog 54 #[.slice ad cs.length c, .pointer (some ⟨g, 0, none⟩)] w fun e w' => e = .returned (efdR true (efindC cs t)) ∧ Below w.heap.size w w' := by
  have hmf : ∀ (fn : Fn) (first cap : Array Value) (w : World), (Instr.makeFunc fn first cap).run Tryd.prog w = .ok (.func fn first cap) w := fun _ _ _ _ => rfl
  have F := Lib.hid (eIndex_any ad cs c t w hc hn g hg hc9)
  clear hc hc9
  generalize efindC cs t = x at *
  by_cases hx : x < 0
  · have hd : decide (x < 0) = true := decide_eq_true hx
    go_enter Tryd.func54, Tryd.ntmps54
    go_wp2_with (go_at_call 55; refine F.out.mono ?_; rintro e w1 ⟨rfl, hB⟩; have B1 := Lib.hid hB; clear hB)
    go_returns
    exact ⟨eretV (efdR_none (by omega)), B1.out⟩
  · have hd : decide (x < 0) = false := decide_eq_false hx
    go_enter Tryd.func54, Tryd.ntmps54
    go_wp2_with (go_at_call 55; refine F.out.mono ?_; rintro e w1 ⟨rfl, hB⟩; have B1 := Lib.hid hB; clear hB)
    go_returns
    exact ⟨eretV (efdR_at (by omega)), B1.out⟩

set_option maxHeartbeats 1600000 in
theorem iFindEntry_any (ad : Option Addr) (cs : List Et) (c : Nat) (t : ByteArray) (w : World) (hc : EntsIn w ad cs) :
    Calls Tryd.prog 22 #[.slice ad cs.length c, .string t] w fun e w' => e = .returned (efdR (catOk cs) (efindC cs t)) ∧ Below w.heap.size w w' := by
  have hmf : ∀ (fn : Fn) (first cap : Array Value) (w : World), (Instr.makeFunc fn first cap).run Tryd.prog w = .ok (.func fn first cap) w := fun _ _ _ _ => rfl
  have b0 := Lib.hid (below_new (Below.refl w.heap.size w) (.cells #[.string t] 9))
  have k0 : (w.alloc (.cells #[.string t] 9)).cell? ⟨w.heap.size, 0, none⟩ = some (.string t) := by simp
  have H0 := entsIn_below hc b0.out
  clear hc
  cases hz : catOk cs
  · have V := Lib.hid fun fv => search_bad_i ad cs c fv _ H0 hz
    clear hz H0
    go_enter Tryd.func22, Tryd.ntmps22
    go_wp2_with (go_at_call 53; refine (V.out _).mono ?_; rintro e w1 ⟨rfl, hB⟩; have b1 := Lib.hid (b0.out.trans (Below.mono hB b0.out.size)); clear hB)
    go_returns
    exact ⟨eretV (efdR_no _), b1.out⟩
  · obtain ⟨y, z, hR⟩ : ∃ y z : Int, efdR true (efindC cs t) = .tuple #[.int .i64 y, .int .i64 z] := ⟨_, _, rfl⟩
    have F := fun W h h1 h2 => eFind1_any ad cs c t W h (cat_parts hz).1 w.heap.size h1 h2
    rw [hR] at F ⊢
    have V := Lib.hid (search_ok_i ad cs c 54 #[.pointer (some ⟨w.heap.size, 0, none⟩)] _ H0 hz (enters_of Tryd.func54 (by kernel_rfl) rfl) (fun v n _ => v = .int .i64 y ∧ n = z) (fun _ _ _ _ h => h) (fun W hB hl hE => (F W hE (by simp at hl; omega) ((hB.cell (p := ⟨w.heap.size, 0, none⟩) (by simp)).trans k0)).mono fun e w' ⟨he, hb⟩ => ⟨_, _, he, ⟨rfl, rfl⟩, hb⟩))
    clear hz H0 F hR k0
    go_enter Tryd.func22, Tryd.ntmps22
    go_wp2_with (go_at_call 53; refine V.out.mono ?_; rintro e w1 ⟨_, _, rfl, ⟨rfl, rfl⟩, hB⟩; have b1 := Lib.hid (b0.out.trans (Below.mono hB b0.out.size)); clear hB)
    go_returns
    exact ⟨rfl, b1.out⟩

set_option maxHeartbeats 1600000 in
theorem sFindEntry_any (ad : Option Addr) (cs : List Et) (c : Nat) (t : ByteArray) (w : World) (hc : EntsIn w ad cs) :
    Calls Tryd.prog 21 #[.slice ad cs.length c, .string t] w fun e w' => e = .returned (efdR (catOk cs) (efindC cs t)) ∧ Below w.heap.size w w' := by
  have C := Lib.hid hc
  have V := sCat_any ad cs c w hc
  clear hc
  cases hz : catOk cs
  · rw [hz] at V
    have V := Lib.hid V
    clear hz
    go_enter Tryd.func21, Tryd.ntmps21
    go_wp2_with (go_at_call 49; refine V.out.mono ?_; rintro e w1 ⟨rfl, hB⟩; have b1 := Lib.hid hB; clear hB)
    go_ret2
    exact ⟨eretV (efdR_no _), b1.out⟩
  · rw [hz] at V
    have V := Lib.hid V
    have hn := (cat_parts hz).1
    clear hz
    go_enter Tryd.func21, Tryd.ntmps21
    go_wp2_with (go_at_call 49; refine V.out.mono ?_; rintro e w1 ⟨rfl, hB⟩; have b1 := Lib.hid hB; clear hB)
    go_loopw [6] (fun i wr => ∃ j : Nat, j ≤ cs.length ∧ i = .int .i64 j ∧ efindFrom cs t (cs.length - j) j = efindC cs t ∧ Below w.heap.size w wr) (fun i _ => cs.length - (intOf i).toNat)
    case atStart => exact ⟨0, Nat.zero_le _, rfl, rfl, b1.out⟩
    case round =>
      obtain ⟨j, hj, rfl, hs, hB⟩ := hrel
      have BB := Lib.hid hB
      have S := Lib.hid hs
      clear hs
      by_cases hjl : j < cs.length
      · have hd : decide ((j : Int) < (cs.length : Int)) = true := by simpa using hjl
        obtain ⟨_, b1, o1, rfl, hb1, p0, p1, p2⟩ := C.out j hjl
        have d0 := (hB.cell (p := ⟨b1, o1 + j * 3, none⟩) hb1).trans p0
        have i1 : (0 : Int) ≤ (j : Int) := by omega
        have i2 : (j : Int) < (cs.length : Int) := by omega
        have HT := Lib.hid (fun h => efind_hit hjl S.out h)
        have MS := Lib.hid (fun h => efind_miss hjl S.out h)
        clear hB p0 p1 p2 S
        cases hx : ((etAt cs j).s == t)
        · have ht : ((etAt cs j).s.toList == t.toList) = false := by rw [← beq_toListBytes]; exact hx
          go_wp2
          exact ⟨⟨j + 1, hjl, by rw [Int.natCast_succ], MS.out hx, BB.out⟩, by (simp [intOf]) <;> omega⟩
        · have ht : ((etAt cs j).s.toList == t.toList) = true := by rw [← beq_toListBytes]; exact hx
          go_wp2
          go_ret2
          exact ⟨by rw [HT.out hx]; exact eretV (efdR_at (by omega)), BB.out⟩
      · have e : j = cs.length := by omega
        subst e
        have hd : decide ((cs.length : Int) < (cs.length : Int)) = false := by simp
        clear hB
        go_wp2
        go_ret2
        exact ⟨by rw [efind_end S.out]; exact eretV (efdR_none (by omega)), BB.out⟩
end Go.Proofs.YtcbcggnpbjcdfaaDoor
