/- Contracts: CommonBroader, the program's and the model's. -/
import Derived.Test.YtcbcggnpbjcdfaaDoorCB3
namespace Go.Proofs.YtcbcggnpbjcdfaaDoor
open Go.ChangeShapes Go.WideShapes Go.ChangeAt Go.RowKit

theorem cbv_bad {cs : List Et} {x y v cd : Int} (h : CbV cs x y v cd) (hz : catOk cs = false) : v = 0 ∧ cd = 1 := by
  rcases h with ⟨h, _⟩ | ⟨_, h1, h2⟩ | ⟨h, _⟩
  · rw [hz] at h; cases h
  · exact ⟨h1, h2⟩
  · rw [hz] at h; cases h
theorem cbv_none {cs : List Et} {x y v cd : Int} (h : CbV cs x y v cd) (hz : catOk cs = true) (hx : (hasX cs.length x && hasX cs.length y) = false) : v = 0 ∧ cd = 2 := by
  rcases h with ⟨h, _⟩ | ⟨h, _⟩ | ⟨_, _, h1, h2⟩
  · rw [hz, Bool.true_and, hx] at h; cases h
  · rw [hz] at h; cases h
  · exact ⟨h1, h2⟩
theorem cbv_ok {cs : List Et} {x y v cd : Int} (h : CbV cs x y v cd) (hz : catOk cs = true) (hx : hasX cs.length x = true) (hy : hasX cs.length y = true) : CBR cs (firstE cs x.toNat) (firstE cs y.toNat) v cd := by
  rcases h with ⟨_, h⟩ | ⟨h, _⟩ | ⟨_, h, _⟩
  · exact h
  · rw [hz] at h; cases h
  · rw [hx, hy] at h; cases h

/-- The same of lists. -/
def CBL (A B : List Int) (v c : Int) : Prop :=
  (∃ m, m < A.length ∧ A.getD m 0 ∈ B ∧ (∀ j, j < m → ¬ A.getD j 0 ∈ B) ∧ v = A.getD m 0 ∧ c = 0) ∨ ((∀ m, m < A.length → ¬ A.getD m 0 ∈ B) ∧ v = 0 ∧ c = 6)
theorem segI_get {cs : List Et} {p : Int} {m j : Nat} (h : j < m) : (segI cs p m).getD j 0 = up cs j p := by unfold segI; simp [List.getD, h]
theorem cbl_of {cs : List Et} {pi pk v c : Int} (h : CBR cs pi pk v c) : CBL (segI cs pi (plen cs pi)) (segI cs pk (plen cs pk)) v c := by
  rcases h with ⟨m, h1, h2, h3, rfl, rfl⟩ | ⟨h1, rfl, rfl⟩
  · exact .inl ⟨m, by rw [segI_len]; exact h1, by rw [segI_get h1]; exact h2, fun j hj => by rw [segI_get (Nat.lt_trans hj h1)]; exact h3 j hj, (segI_get h1).symm, rfl⟩
  · exact .inr ⟨fun m hm => by rw [segI_len] at hm; rw [segI_get hm]; exact h1 m hm, rfl, rfl⟩
theorem cbl_hit {A B : List Int} {v c : Int} (h : CBL A B v c) {j : Nat} (hj : j < A.length) (hh : A.getD j 0 ∈ B) (hn : ∀ l, l < j → ¬ A.getD l 0 ∈ B) : v = A.getD j 0 ∧ c = 0 := by
  rcases h with ⟨m, h1, h2, h3, rfl, rfl⟩ | ⟨h1, _, _⟩
  · have e : m = j := by
      rcases Nat.lt_trichotomy m j with q | q | q
      · exact absurd h2 (hn m q)
      · exact q
      · exact absurd hh (h3 j q)
    rw [e]; exact ⟨rfl, rfl⟩
  · exact absurd hh (h1 j hj)
theorem cbl_none {A B : List Int} {v c : Int} (h : CBL A B v c) (hn : ∀ l, l < A.length → ¬ A.getD l 0 ∈ B) : v = 0 ∧ c = 6 := by
  rcases h with ⟨m, h1, h2, _⟩ | ⟨_, h1, h2⟩
  · exact absurd h2 (hn m h1)
  · exact ⟨h1, h2⟩

set_option maxRecDepth 100000 in
set_option maxHeartbeats 1600000 in
theorem iCommonBroader_any (ad : Option Addr) (cs : List Et) (c : Nat) (x y v cd : Int) (hV : CbV cs x y v cd) (w : World) (hc : EntsIn w ad cs) :
    Calls Tryd.prog 38 #[.slice ad cs.length c, .int .i64 x, .int .i64 y] w fun e w' => e = .returned (.tuple #[.int .i64 v, .int .i64 cd]) ∧ Below w.heap.size w w' := by
  have hmf : ∀ (fn : Fn) (first cap : Array Value) (w : World), (Instr.makeFunc fn first cap).run Tryd.prog w = .ok (.func fn first cap) w := fun _ _ _ _ => rfl
  have b0 : Hid (Below w.heap.size w ((w.alloc (.cells #[.int .i64 x] 2)).alloc (.cells #[.int .i64 y] 2))) := Lib.hid (below_new (below_new (Below.refl w.heap.size w) _) _)
  have k0 : ((w.alloc (.cells #[.int .i64 x] 2)).alloc (.cells #[.int .i64 y] 2)).cell? ⟨w.heap.size, 0, none⟩ = some (.int .i64 x) := (box2_0 ..).trans rfl
  have k1 : ((w.alloc (.cells #[.int .i64 x] 2)).alloc (.cells #[.int .i64 y] 2)).cell? ⟨w.heap.size + 1, 0, none⟩ = some (.int .i64 y) := (box2_1 ..).trans rfl
  have H0 := entsIn_below hc b0.out
  clear hc
  cases hz : catOk cs
  · have V := Lib.hid fun fv => search_bad_i ad cs c fv _ H0 hz
    obtain ⟨rfl, rfl⟩ := cbv_bad hV hz
    clear hz H0 k0 k1 hV
    go_enter Tryd.func38, Tryd.ntmps38
    go_wp2_with (go_at_call 53; refine (V.out _).mono ?_; rintro e w1 ⟨rfl, hB⟩; have b1 := Lib.hid (b0.out.trans (Below.mono hB b0.out.size)); clear hB)
    go_returns
    exact ⟨rfl, b1.out⟩
  cases hy : hasX cs.length y
  · have V := Lib.hid (search_missing_i ad cs c 77 #[.pointer (some ⟨w.heap.size + 1, 0, none⟩), .pointer (some ⟨w.heap.size, 0, none⟩)] y _ H0 hz (enters_of Tryd.func77 (by kernel_rfl) rfl) (fun W hB _ => common1_none ad cs.length c y hy (w.heap.size + 1) w.heap.size W ((hB.cell (p := ⟨w.heap.size + 1, 0, none⟩) (by simp)).trans k1)))
    obtain ⟨rfl, rfl⟩ := cbv_none hV hz (by rw [hy, Bool.and_false])
    clear hz H0 k0 k1 hV hy
    go_enter Tryd.func38, Tryd.ntmps38
    go_wp2_with (go_at_call 53; refine V.out.mono ?_; rintro e w1 ⟨rfl, hB⟩; have b1 := Lib.hid (b0.out.trans (Below.mono hB b0.out.size)); clear hB)
    go_returns
    exact ⟨rfl, b1.out⟩
  obtain ⟨p1, p2⟩ := hasX_yes hy
  have ey : ((y.toNat : Nat) : Int) = y := by omega
  cases hx : hasX cs.length x
  · have V := Lib.hid (search_missing_i ad cs c 77 #[.pointer (some ⟨w.heap.size + 1, 0, none⟩), .pointer (some ⟨w.heap.size, 0, none⟩)] x _ H0 hz (enters_of Tryd.func77 (by kernel_rfl) rfl) (fun W hB hE => common1_miss ad cs c y.toNat (by omega) hz (w.heap.size + 1) w.heap.size x hx W hE ((hB.cell (p := ⟨w.heap.size + 1, 0, none⟩) (by simp)).trans (by rw [ey]; exact k1)) ((hB.cell (p := ⟨w.heap.size, 0, none⟩) (by simp; omega)).trans k0)))
    obtain ⟨rfl, rfl⟩ := cbv_none hV hz (by rw [hx, Bool.false_and])
    clear hz H0 k0 k1 hV hy hx ey p1 p2
    go_enter Tryd.func38, Tryd.ntmps38
    go_wp2_with (go_at_call 53; refine V.out.mono ?_; rintro e w1 ⟨rfl, hB⟩; have b1 := Lib.hid (b0.out.trans (Below.mono hB b0.out.size)); clear hB)
    go_returns
    exact ⟨rfl, b1.out⟩
  obtain ⟨q1, q2⟩ := hasX_yes hx
  have ex : ((x.toNat : Nat) : Int) = x := by omega
  have hR := cbv_ok hV hz hx hy
  have V := Lib.hid (search_ok_i ad cs c 77 #[.pointer (some ⟨w.heap.size + 1, 0, none⟩), .pointer (some ⟨w.heap.size, 0, none⟩)] _ H0 hz (enters_of Tryd.func77 (by kernel_rfl) rfl) (fun u n _ => u = .int .i64 v ∧ n = cd) (fun _ _ _ _ h => h)
    (fun W hB _ hE => (common1_ok ad cs c x.toNat y.toNat (by omega) (by omega) hz (w.heap.size + 1) w.heap.size v cd hR W hE ((hB.cell (p := ⟨w.heap.size + 1, 0, none⟩) (by simp)).trans (by rw [ey]; exact k1)) ((hB.cell (p := ⟨w.heap.size, 0, none⟩) (by simp; omega)).trans (by rw [ex]; exact k0))).mono fun e w' ⟨he, hb⟩ => ⟨_, _, he, ⟨rfl, rfl⟩, hb⟩))
  clear hz H0 k0 k1 hV hy hx ex ey p1 p2 q1 q2 hR
  go_enter Tryd.func38, Tryd.ntmps38
  go_wp2_with (go_at_call 53; refine V.out.mono ?_; rintro e w1 ⟨_, _, rfl, ⟨rfl, rfl⟩, hB⟩; have b1 := Lib.hid (b0.out.trans (Below.mono hB b0.out.size)); clear hB)
  go_returns
  exact ⟨rfl, b1.out⟩

set_option maxRecDepth 100000 in
set_option maxHeartbeats 1600000 in
theorem sCommonBroader_any (ad : Option Addr) (cs : List Et) (c : Nat) (x y v cd : Int) (hV : CbV cs x y v cd) (w : World) (hc : EntsIn w ad cs) :
    Calls Tryd.prog 37 #[.slice ad cs.length c, .int .i64 x, .int .i64 y] w fun e w' => e = .returned (.tuple #[.int .i64 v, .int .i64 cd]) ∧ Below w.heap.size w w' := by
  have C := Lib.hid hc
  have A := fun W h => sAt_any ad cs c x W h
  have A2 := fun W h => sAt_any ad cs c y W h
  clear hc
  have tk : True := trivial
  cases hz : catOk cs
  · simp only [atC_bad x hz] at A
    obtain ⟨rfl, rfl⟩ := cbv_bad hV hz
    have A := Lib.hid A
    clear hz hV A2
    go_enter Tryd.func37, Tryd.ntmps37
    go_wp2_with (go_at_call 57; have _t := tk; clear _t tk; refine (A.out _ C.out).mono ?_; rintro e w1 ⟨rfl, hB⟩; have b1 := Lib.hid hB; clear hB)
    go_ret2
    exact ⟨rfl, b1.out⟩
  cases hx : hasX cs.length x
  · simp only [atC_none hz hx] at A
    obtain ⟨rfl, rfl⟩ := cbv_none hV hz (by rw [hx, Bool.false_and])
    have A := Lib.hid A
    clear hz hV hx A2
    go_enter Tryd.func37, Tryd.ntmps37
    go_wp2_with (go_at_call 57; have _t := tk; clear _t tk; refine (A.out _ C.out).mono ?_; rintro e w1 ⟨rfl, hB⟩; have b1 := Lib.hid hB; clear hB)
    go_ret2
    exact ⟨rfl, b1.out⟩
  simp only [atC_ok hz hx] at A
  cases hy : hasX cs.length y
  · simp only [atC_none hz hy] at A2
    obtain ⟨rfl, rfl⟩ := cbv_none hV hz (by rw [hy, Bool.and_false])
    have A := Lib.hid A
    have A2 := Lib.hid A2
    clear hz hV hx hy
    go_enter Tryd.func37, Tryd.ntmps37
    go_wp2_with (first
      | (go_at_call 57; have _t := tk; clear _t tk; refine (A.out _ C.out).mono ?_; rintro e w1 ⟨rfl, hB⟩; have b1 := Lib.hid hB; clear hB)
      | (go_at_call 57; refine (A2.out _ (entsIn_below C.out b1.out)).mono ?_; rintro e w2 ⟨rfl, hB⟩; have b2 := Lib.hid (b1.out.trans (hB.mono b1.out.size)); clear hB))
    go_ret2
    exact ⟨rfl, b2.out⟩
  simp only [atC_ok hz hy] at A2
  have hn := (cat_parts hz).1
  have hR := cbl_of (cbv_ok hV hz hx hy)
  obtain ⟨q1, q2⟩ := hasX_yes hx
  obtain ⟨p1, p2⟩ := hasX_yes hy
  have F1 := fun W (h : EntsIn W ad cs) => sPath_any ad cs c x.toNat (by omega) hz W h
  have F2 := fun W (h : EntsIn W ad cs) => sPath_any ad cs c y.toNat (by omega) hz W h
  rw [show ((x.toNat : Nat) : Int) = x by omega] at F1
  rw [show ((y.toNat : Nat) : Int) = y by omega] at F2
  have la : (segI cs (firstE cs x.toNat) (plen cs (firstE cs x.toNat))).length ≤ 40 := by rw [segI_len]; exact Nat.le_trans (plen_le (end_of hz (by omega))) hn
  have lb : (segI cs (firstE cs y.toNat) (plen cs (firstE cs y.toNat))).length ≤ 40 := by rw [segI_len]; exact Nat.le_trans (plen_le (end_of hz (by omega))) hn
  generalize segI cs (firstE cs x.toNat) (plen cs (firstE cs x.toNat)) = LA at *
  generalize segI cs (firstE cs y.toNat) (plen cs (firstE cs y.toNat)) = LB at *
  have A := Lib.hid A
  have A2 := Lib.hid A2
  have F1 := Lib.hid F1
  have F2 := Lib.hid F2
  have RR := Lib.hid hR
  clear hz hV hx hy q1 q2 p1 p2 hn hR
  have tk2 : True := trivial
  go_enter Tryd.func37, Tryd.ntmps37
  go_wp2_with (first
    | (go_at_call 57; have _t := tk; clear _t tk; refine (A.out _ C.out).mono ?_; rintro e w1 ⟨rfl, hB⟩; have b1 := Lib.hid hB; clear hB)
    | (go_at_call 57; refine (A2.out _ (entsIn_below C.out b1.out)).mono ?_; rintro e w2 ⟨rfl, hB⟩; have b2 := Lib.hid (b1.out.trans (hB.mono b1.out.size)); clear hB)
    | (go_at_call 61; have _t := tk2; clear _t tk2; refine (F1.out _ (entsIn_below C.out b2.out)).mono ?_; rintro e w3 ⟨va, rfl, hO, hB⟩; obtain ⟨a3, c3, rfl, hi⟩ := ownInts_in hO; have I3 := Lib.hid hi; have b3 := Lib.hid (b2.out.trans (hB.mono b2.out.size)); clear hB hO hi)
    | (go_at_call 61; refine (F2.out _ (entsIn_below C.out b3.out)).mono ?_; rintro e w4 ⟨vb, rfl, hO, hB⟩; obtain ⟨a4, c4, rfl, hi⟩ := ownInts_in hO; have I4 := Lib.hid hi; have J4 := Lib.hid (intsIn_below I3.out hB); have b4 := Lib.hid (b3.out.trans (hB.mono b3.out.size)); clear hB hO hi))
  go_loopw [11] (fun i wr => ∃ j : Nat, j ≤ LA.length ∧ i = .int .i64 j ∧ (∀ l, l < j → ¬ LA.getD l 0 ∈ LB) ∧ Below w4.heap.size w4 wr) (fun i _ => LA.length - (intOf i).toNat)
  case atStart => exact ⟨0, Nat.zero_le _, rfl, fun l hl => absurd hl (Nat.not_lt_zero _), Below.refl _ _⟩
  case round =>
    obtain ⟨j, hj, rfl, hno, hB⟩ := hrel
    have NO := Lib.hid hno
    have BB := Lib.hid hB
    by_cases hjl : j < LA.length
    · have hd : decide ((j : Int) < (LA.length : Int)) = true := by simpa using hjl
      have i1 : (0 : Int) ≤ (j : Int) := by omega
      have i2 : (j : Int) < (LA.length : Int) := by omega
      have hw : IntKind.i64.wrap ((j : Int) + 1) = (j : Int) + 1 := IntWalk.i64_in _ (by omega)
      obtain ⟨b, off, rfl, hb, hcl⟩ := J4.out j hjl
      have hcl2 := (hB.cell (p := ⟨b, off + j, none⟩) hb).trans hcl
      have SI := fun z => sIn_any a4 LB c4 z wr (intsIn_below I4.out hB) (by omega)
      obtain ⟨z, hzz⟩ : ∃ z, LA.getD j 0 = z := ⟨_, rfl⟩
      rw [hzz] at hcl hcl2
      have SI := SI z
      clear hno hB
      by_cases hit : z ∈ LB
      · rw [decide_eq_true hit] at SI
        have SI := Lib.hid SI
        obtain ⟨e1, e2⟩ := cbl_hit RR.out hjl (by rw [hzz]; exact hit) NO.out
        rw [hzz] at e1
        subst e1 e2
        clear hit hzz
        go_wp2_with (go_at_call 74; refine SI.out.mono ?_; rintro e w5 ⟨rfl, hB5⟩; have b5 := Lib.hid (BB.out.trans (hB5.mono BB.out.size)); have h5 := (hB5.cell (p := ⟨b, off + j, none⟩) (Nat.lt_of_lt_of_le hb BB.out.size)).trans hcl2; clear hB5)
        go_ret2
        exact ⟨rfl, b4.out.trans (b5.out.mono b4.out.size)⟩
      · rw [decide_eq_false hit] at SI
        have SI := Lib.hid SI
        have N2 := Lib.hid (show ∀ l, l < j + 1 → ¬ LA.getD l 0 ∈ LB from fun l hl => by
          by_cases e : l = j
          · subst e; rw [hzz]; exact hit
          · exact NO.out l (by omega))
        clear hit hzz
        go_wp2_with (go_at_call 74; refine SI.out.mono ?_; rintro e w5 ⟨rfl, hB5⟩; have b5 := Lib.hid (BB.out.trans (hB5.mono BB.out.size)); clear hB5)
        exact ⟨⟨j + 1, hjl, by rw [Int.natCast_succ], N2.out, b5.out⟩, by (simp [intOf]) <;> omega⟩
    · have e : j = LA.length := by omega
      subst e
      have hd : decide ((LA.length : Int) < (LA.length : Int)) = false := by simp
      obtain ⟨e1, e2⟩ := cbl_none RR.out NO.out
      subst e1 e2
      clear hno hB
      go_wp2
      go_ret2
      exact ⟨rfl, b4.out.trans (BB.out.mono b4.out.size)⟩
end Go.Proofs.YtcbcggnpbjcdfaaDoor
