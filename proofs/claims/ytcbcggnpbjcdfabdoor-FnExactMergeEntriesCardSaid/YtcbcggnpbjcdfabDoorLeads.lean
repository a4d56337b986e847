/- Contracts: an entry's path as a list (the model's); has a list a number; does the path of an entry lead to one (the program's). -/
import Derived.Test.YtcbcggnpbjcdfabDoorAtE
import Derived.Test.YtcbcggnpbjcdfabDoorPick
import Derived.Test.YtcbcggnpbjcdfabDoorEndl
namespace Go.Proofs.YtcbcggnpbjcdfabDoor
open Go.ChangeShapes Go.WideShapes Go.ChangeAt Go.RowKit
attribute [local go_sem] Oper.semAt_some

/-! ### The path's length -/
def segI (cs : List Et) (p : Int) (m : Nat) : List Int := (List.range m).map fun k => up cs k p
theorem segI_len (cs : List Et) (p : Int) (m : Nat) : (segI cs p m).length = m := by unfold segI; simp
theorem segI_next (cs : List Et) (p : Int) (m : Nat) : segI cs p (m + 1) = segI cs p m ++ [up cs m p] := by unfold segI; rw [List.range_succ, List.map_append]; rfl
noncomputable def plen (cs : List Et) (p : Int) : Nat := leastOf fun m => up cs m p = -1
theorem plen_end {cs : List Et} {p : Int} (h : up cs cs.length p = -1) : up cs (plen cs p) p = -1 := (leastOf_spec (⟨_, h⟩ : ∃ m, up cs m p = -1)).1
theorem plen_le {cs : List Et} {p : Int} {m : Nat} (h : up cs m p = -1) : plen cs p ≤ m := (leastOf_spec (⟨_, h⟩ : ∃ m, up cs m p = -1)).2 m h
theorem plen_lt {cs : List Et} {p : Int} {m : Nat} (he : up cs cs.length p = -1) (h : up cs m p ≠ -1) : m < plen cs p := by
  rcases Nat.lt_or_ge m (plen cs p) with q | q
  · exact q
  · exact absurd (by have := up_stay (plen_end he) (m - plen cs p); rwa [show plen cs p + (m - plen cs p) = m by omega] at this) h
theorem plen_there {cs : List Et} {p : Int} {m : Nat} (hT : There cs p m) (h : up cs m p = -1) : m = plen cs p := by
  have h1 := plen_le h
  rcases Nat.lt_or_ge (plen cs p) m with q | q
  · exact absurd ((leastOf_spec (⟨_, h⟩ : ∃ m, up cs m p = -1)).1) (hT _ q)
  · omega
theorem end_of {cs : List Et} (hz : catOk cs = true) {j : Nat} (hj : j < cs.length) : up cs cs.length (firstE cs j) = -1 := (cat_parts hz).2.2 j hj
noncomputable def leads (cs : List Et) (p q : Int) : Bool := decide (q ∈ segI cs p (plen cs p))
theorem leads_yes {cs : List Et} {p q : Int} {m : Nat} (hm : m < plen cs p) (h : up cs m p = q) : leads cs p q = true := by
  unfold leads segI; exact decide_eq_true (List.mem_map.2 ⟨m, List.mem_range.2 hm, h⟩)
theorem leads_no {cs : List Et} {p q : Int} (h : ∀ m, m < plen cs p → up cs m p ≠ q) : leads cs p q = false := by
  unfold leads segI
  refine decide_eq_false fun hc => ?_
  obtain ⟨m, hm, e⟩ := List.mem_map.1 hc
  exact h m (List.mem_range.1 hm) e

/-! ### Has a list a number -/
theorem getD_mem {zs : List Int} {j : Nat} (h : j < zs.length) : zs.getD j 0 ∈ zs := by
  rw [List.getD_eq_getElem?_getD, List.getElem?_eq_getElem h]; exact List.getElem_mem h
theorem mem_getD {zs : List Int} {x : Int} (h : x ∈ zs) : ∃ j, j < zs.length ∧ zs.getD j 0 = x := by
  obtain ⟨j, hj, e⟩ := List.mem_iff_getElem.1 h
  exact ⟨j, hj, by rw [List.getD_eq_getElem?_getD, List.getElem?_eq_getElem hj]; exact e⟩
set_option maxHeartbeats 1600000 in
theorem sIn_any (a : Option Addr) (zs : List Int) (c : Nat) (x : Int) (w : World) (h : IntsIn w a zs) (hl : zs.length ≤ 17592186044404) :
    Calls Tryd.prog 69 #[.slice a zs.length c, .int .i64 x] w fun e w' => e = .returned (.bool (decide (x ∈ zs))) ∧ Below w.heap.size w w' := by
  have H := Lib.hid h
  clear h
  go_enter Tryd.func69, Tryd.ntmps69
  go_wp2
  go_loopw [5] (fun i wr => wr = w ∧ ∃ j : Nat, j ≤ zs.length ∧ i = .int .i64 j ∧ ∀ k, k < j → zs.getD k 0 ≠ x) (fun i _ => zs.length - (intOf i).toNat)
  case atStart => exact ⟨rfl, 0, Nat.zero_le _, rfl, fun k hk => absurd hk (Nat.not_lt_zero _)⟩
  case round =>
    obtain ⟨rfl, j, hj, rfl, hno⟩ := hrel
    have NO := Lib.hid hno
    clear hno
    by_cases hjl : j < zs.length
    · have hd : decide ((j : Int) < (zs.length : Int)) = true := by simpa using hjl
      obtain ⟨b, off, rfl, hb, hc⟩ := H.out j hjl
      have i1 : (0 : Int) ≤ (j : Int) := by omega
      have i2 : (j : Int) < (zs.length : Int) := by omega
      have hw : IntKind.i64.wrap ((j : Int) + 1) = (j : Int) + 1 := IntWalk.i64_in _ (by omega)
      obtain ⟨y, hy⟩ : ∃ y, zs.getD j 0 = y := ⟨_, rfl⟩
      rw [hy] at hc
      by_cases e : y = x
      · have d1 : (y == x) = true := by simpa using e
        have M := Lib.hid (show x ∈ zs by rw [← e, ← hy]; exact getD_mem hjl)
        clear e hy
        go_wp2
        go_ret
        exact ⟨by rw [decide_eq_true M.out]; rfl, Below.refl _ _⟩
      · have d1 : (y == x) = false := by simpa using e
        have E := Lib.hid (show zs.getD j 0 ≠ x by rw [hy]; exact e)
        clear e hy
        go_wp2
        exact ⟨⟨trivial, j + 1, hjl, by rw [Int.natCast_succ], fun k hk => by
          by_cases ek : k = j
          · subst ek; exact E.out
          · exact NO.out k (by omega)⟩, by (simp [intOf]) <;> omega⟩
    · have e : j = zs.length := by omega
      subst e
      have hd : decide ((zs.length : Int) < (zs.length : Int)) = false := by simp
      have M : ¬ x ∈ zs := fun hm => by obtain ⟨k, hk, e⟩ := mem_getD hm; exact NO.out k hk e
      have M := Lib.hid M
      go_wp2
      go_ret
      exact ⟨by rw [decide_eq_false M.out]; rfl, Below.refl _ _⟩

/-! ### The model's path -/
def SPathAt (cs : List Et) (p : Int) (w : World) (N : Nat) (v x : Value) (wr : World) (n : Nat) : Prop :=
  ∃ m : Nat, m + n = N ∧ x = .int .i64 (up cs m p) ∧ OwnInts w.heap.size (segI cs p m) v wr ∧ Below w.heap.size w wr
set_option maxRecDepth 100000 in
set_option maxHeartbeats 1600000 in
theorem sPath_any (ad : Option Addr) (cs : List Et) (c : Nat) (j : Nat) (hj : j < cs.length) (hz : catOk cs = true) (w : World) (hc : EntsIn w ad cs) :
    Calls Tryd.prog 70 #[.slice ad cs.length c, .int .i64 j] w (ListR (segI cs (firstE cs j) (plen cs (firstE cs j))) w) := by
  obtain ⟨i0, hi, hz0, hz1, hz2⟩ := info_parts info_i64
  have hn := (cat_parts hz).1
  have hT := (cat_parts hz).2.1
  have he := end_of hz hj
  have C := Lib.hid hc
  have F := Lib.hid (fun W (h : EntsIn W ad cs) => sFirst_any ad cs c j hj W h)
  have UP := Lib.hid (up_pref hT (firstE_pref hT hj))
  generalize firstE cs j = p at *
  have HE := Lib.hid (plen_end he)
  have HN : plen cs p ≤ 40 := Nat.le_trans (plen_le he) hn
  have LT := Lib.hid fun m (h : up cs m p ≠ -1) => plen_lt he h
  have ST := Lib.hid fun m (h : up cs m p = -1) => plen_le h
  generalize plen cs p = N at *
  clear hc hz hT he hj
  go_enter Tryd.func70, Tryd.ntmps70
  go_wp2_with (go_at_call 101; refine (F.out _ (entsIn_below C.out (below_new (Below.refl w.heap.size w) _))).mono ?_; rintro e w1 ⟨rfl, hB⟩; have b1 := Lib.hid ((below_new (Below.refl w.heap.size w) (.cells #[] 2)).trans (hB.mono (by simp))); have O1 := Lib.hid (ownInts_kept (ownI_none rfl (Nat.le_refl _) : OwnInts w.heap.size [] _ _) hB); clear hB)
  go_loopw [5, 6] (fun v x wr => ∃ n, SPathAt cs p w N v x wr n) (fun v x wr => leastOf (SPathAt cs p w N v x wr))
  case atStart => exact ⟨N, 0, Nat.zero_add _, rfl, O1.out, b1.out⟩
  case round =>
    obtain ⟨⟨m, hm, hu, hO, hB⟩, _⟩ := leastOf_spec hrel
    subst hu
    clear hrel O1 b1
    have OO := Lib.hid hO
    have BB := Lib.hid hB
    have sz := hB.size
    by_cases hq : up cs m p = -1
    · have e : m = N := by have := ST.out m hq; omega
      have d1 : (up cs m p != -1) = false := by simp [hq]
      subst e
      clear hq hO hB
      go_wp2
      go_ret
      exact ⟨_, rfl, OO.out, BB.out⟩
    · have hml := LT.out m hq
      have hp := pref_iff.1 ((UP.out m).resolve_left hq)
      have d1 : (up cs m p != -1) = true := by simpa using hq
      have hs := segI_next cs p m
      have hl := segI_len cs p m
      have hnx : up cs (m + 1) p = (etAt cs (up cs m p).toNat).b := by rw [up, if_neg hq]
      have HNX := Lib.hid hnx
      have HS := Lib.hid hs
      clear hq hs hnx
      obtain ⟨q, hQ⟩ : ∃ q : Nat, up cs m p = (q : Int) := ⟨(up cs m p).toNat, by omega⟩
      rw [hQ] at hp d1 HNX HS hm ⊢
      have hql : q < cs.length := by omega
      have q1 : (0 : Int) ≤ (q : Int) := by omega
      have q2 : (q : Int) < (cs.length : Int) := by omega
      obtain ⟨_, bb, oo, rfl, hb1, p0, p1, p2⟩ := C.out q hql
      clear hQ hp p0 p1 hO
      go_wp2_with (at_builtin; refine wpList_append_own _ rfl _ _ 36 rfl w.heap.size 2 i0 (.int .i64 0) 1 8 Tryd.underlying36 hi hz0 hz1 hz2 rfl (by decide) _ _ _ rfl (World.ownsRow.alloc OO.out _) ⟨wr.heap.size, 0, none⟩ 1 1 [.int .i64 (q : Int)] rfl rfl (one_newS _ _ _) (fun x hx => by simp at hx; subst hx; rfl) (by unfold maxLen; omega) (by omega) (by simp; omega) ?_; intro v' w2 hown hgrow _; have P := Lib.hid (ownI_push hown); have G := Lib.hid (Below.grown (BB.out.alloc sz _) hgrow (by simp; omega) (ownI_lt OO.out)); have p3 := (G.out.cell (p := ⟨bb, oo + q * 3 + 2, none⟩) hb1).trans p2; clear hown hgrow)
      exact leastOf_lt (n := N - (m + 1)) ⟨m + 1, by omega, by rw [HNX.out]; simp, by rw [HS.out]; exact P.out, G.out⟩ (by omega)
end Go.Proofs.YtcbcggnpbjcdfabDoor
