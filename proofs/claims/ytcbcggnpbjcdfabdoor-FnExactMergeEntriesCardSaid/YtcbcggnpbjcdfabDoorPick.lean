/- Contracts: the indices of all entries that fit, the program's. -/
import Derived.Test.YtcbcggnpbjcdfabDoorAtE
import Derived.Test.YtcbcggnpbjcdfabDoorOwns
import Derived.Test.YtcbcggnpbjcdfabDoorSplS
import Derived.Laws.MakeOwn
namespace Go.Proofs.YtcbcggnpbjcdfabDoor
open Go.ChangeShapes Go.WideShapes Go.ChangeAt Go.RowKit

/-- The numbers below k of which a test says yes. -/
def pick (f : Nat → Bool) (k : Nat) : List Int := ((List.range k).filter f).map fun i : Nat => (i : Int)
theorem pick_zero (f : Nat → Bool) : pick f 0 = [] := rfl
theorem pick_yes {f : Nat → Bool} {k : Nat} (h : f k = true) : pick f (k + 1) = pick f k ++ [(k : Int)] := by
  unfold pick; rw [List.range_succ, List.filter_append, List.map_append]; simp [h]
theorem pick_no {f : Nat → Bool} {k : Nat} (h : f k = false) : pick f (k + 1) = pick f k := by
  unfold pick; rw [List.range_succ, List.filter_append, List.map_append]; simp [h]
theorem pick_len (f : Nat → Bool) (k : Nat) : (pick f k).length ≤ k := by
  unfold pick
  have := List.length_filter_le f (List.range k)
  simpa using this
theorem ownI_push {B : Nat} {zs : List Int} {x : Int} {v : Value} {w : World} (h : w.ownsRow B 2 1 v (zs.length + 1) (zs.map (Value.int .i64) ++ [.int .i64 x])) : OwnInts B (zs ++ [x]) v w := by unfold OwnInts; simpa using h
theorem ownI_lt {B : Nat} {zs : List Int} {v : Value} {w : World} (h : OwnInts B zs v w) : ∀ j, v.ownBlock = some j → B ≤ j := fun j hj => (World.ownsRow.lt h j hj).1
theorem ownI_none {w : World} {n B : Nat} (hn : n = w.heap.size) (hB : B ≤ w.heap.size) : OwnInts B [] (.slice (some ⟨n, 0, none⟩) 0 0) (w.alloc (.cells #[] 2)) := by
  subst hn; exact World.ownsRow_made w #[] 0 hB (Nat.zero_le _) rfl
theorem ownI_nil (w : World) (B : Nat) : OwnInts B [] (.slice none 0 0) w := World.ownsRow_nil w B _ 1
theorem ownI_mono {B B' : Nat} {zs : List Int} {v : Value} {w : World} (h : OwnInts B zs v w) (hb : B' ≤ B) : OwnInts B' zs v w := Go.Joins.ownsRow_le h hb

/-- A list of numbers of the call's own. -/
def ListR (zs : List Int) (w : World) (e : Ending) (w' : World) : Prop := ∃ v, e = .returned v ∧ OwnInts w.heap.size zs v w' ∧ Below w.heap.size w w'
/-- .. and a code. -/
def ELR (zs : List Int) (cd : Int) (w : World) (e : Ending) (w' : World) : Prop := ∃ v, e = .returned (.tuple #[v, .int .i64 cd]) ∧ OwnInts w.heap.size zs v w' ∧ Below w.heap.size w w'

set_option maxRecDepth 100000 in
set_option maxHeartbeats 1600000 in
theorem indicesOf_any (ad : Option Addr) (cs : List Et) (c g : Nat) (lb : Array Value) (f : Nat → Bool) (w : World) (hc : EntsIn w ad cs) (hn : cs.length ≤ 40) (eg : ∀ args w, (callFunc g args).run Tryd.prog w = .ok (.enter g args) w)
    (hf : ∀ i, i < cs.length → ∀ W, Below w.heap.size w W → EntsIn W ad cs → Calls Tryd.prog g (#[.int .i64 i, .agg #[.string (etAt cs i).s, .int .i64 (etAt cs i).a, .int .i64 (etAt cs i).b]] ++ lb) W fun e w' => e = .returned (.bool (f i)) ∧ Below W.heap.size W w') :
    Calls Tryd.prog 104 #[.slice ad cs.length c, .func (.func g) #[] lb] w (ListR (pick f cs.length) w) := by
  obtain ⟨i0, hi, hz0, hz1, hz2⟩ := info_parts info_i64
  have C := Lib.hid hc
  have F := Lib.hid hf
  clear hc hf
  go_enter Tryd.func104, Tryd.ntmps104
  go_wp2
  go_loopw [5, 10] (fun v i wr => ∃ j : Nat, j ≤ cs.length ∧ i = .int .i64 j ∧ OwnInts w.heap.size (pick f j) v wr ∧ Below w.heap.size w wr) (fun _ i _ => cs.length - (intOf i).toNat)
  case atStart => exact ⟨0, Nat.zero_le _, rfl, ownI_nil _ _, Below.refl _ _⟩
  case round =>
    obtain ⟨j, hj, rfl, hO, hB⟩ := hrel
    have BB := Lib.hid hB
    have OO := Lib.hid hO
    clear hO
    by_cases hjl : j < cs.length
    · have hd : decide ((j : Int) < (cs.length : Int)) = true := by simpa using hjl
      obtain ⟨_, b1, o1, rfl, hb1, p0, p1, p2⟩ := C.out j hjl
      have d0 := (hB.cell (p := ⟨b1, o1 + j * 3, none⟩) hb1).trans p0
      have d1 := (hB.cell (p := ⟨b1, o1 + j * 3 + 1, none⟩) hb1).trans p1
      have d2 := (hB.cell (p := ⟨b1, o1 + j * 3 + 2, none⟩) hb1).trans p2
      have i1 : (0 : Int) ≤ (j : Int) := by omega
      have i2 : (j : Int) < (cs.length : Int) := by omega
      have hl := pick_len f j
      have hz := hB.size
      have FJ := F.out j hjl
      clear hB p0 p1 p2
      cases q : f j
      · rw [q] at FJ
        have FJ := Lib.hid FJ
        have nx := Lib.hid (pick_no q)
        clear q
        go_wp2_with (go_at_fn g; refine (FJ.out _ (below_new BB.out _) (entsIn_below C.out (below_new BB.out _))).mono ?_; rintro e w1 ⟨rfl, hB1⟩; have B1 := Lib.hid ((below_new BB.out _).trans (hB1.mono (by simp; omega))); have O1 := Lib.hid (ownInts_kept (World.ownsRow.alloc OO.out _) hB1); clear hB1)
        exact ⟨⟨j + 1, hjl, by rw [Int.natCast_succ], by rw [nx.out]; exact O1.out, B1.out⟩, by (simp [intOf]) <;> omega⟩
      · rw [q] at FJ
        have FJ := Lib.hid FJ
        have nx := Lib.hid (pick_yes q)
        clear q
        go_wp2_with (first
          | (go_at_fn g; refine (FJ.out _ (below_new BB.out _) (entsIn_below C.out (below_new BB.out _))).mono ?_; rintro e w1 ⟨rfl, hB1⟩; have B1 := Lib.hid ((below_new BB.out _).trans (hB1.mono (by simp; omega))); have O1 := Lib.hid (ownInts_kept (World.ownsRow.alloc OO.out _) hB1); have s1 := B1.out.size; clear hB1)
          | (at_builtin; refine wpList_append_own _ rfl _ _ 36 rfl w.heap.size 2 i0 (.int .i64 0) 1 8 Tryd.underlying36 hi hz0 hz1 hz2 rfl (by decide) _ _ _ rfl (World.ownsRow.alloc O1.out _) ⟨w1.heap.size, 0, none⟩ 1 1 [.int .i64 (j : Int)] rfl rfl (one_newS _ _ _) (fun x hx => by simp at hx; subst hx; rfl) (by unfold maxLen; omega) (by omega) (by simp; omega) ?_; intro v' w2 hown hgrow _; have P := Lib.hid (ownI_push hown); have G := Lib.hid hgrow; clear hown hgrow))
        exact ⟨⟨j + 1, hjl, by rw [Int.natCast_succ], by rw [nx.out]; exact P.out, Below.grown (B1.out.alloc s1 _) G.out (by simp; omega) (ownI_lt O1.out)⟩, by (simp [intOf]) <;> omega⟩
    · have e : j = cs.length := by omega
      subst e
      have hd : decide ((cs.length : Int) < (cs.length : Int)) = false := by simp
      clear hB
      go_wp2
      go_ret
      exact ⟨_, rfl, OO.out, BB.out⟩
end Go.Proofs.YtcbcggnpbjcdfabDoor
