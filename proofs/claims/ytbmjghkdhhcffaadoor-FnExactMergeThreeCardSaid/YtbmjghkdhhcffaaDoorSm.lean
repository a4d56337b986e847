/- The states of the cards of a deck as the datum of a map: put, asked, counted; the program's statesOf. -/
import Derived.Test.YtbmjghkdhhcffaaDoorStM
import Derived.Maps.RangeWalk
import Derived.Maps.OwnSet
import Derived.Maps.OwnOps
namespace Go.Proofs.YtbmjghkdhhcffaaDoor
open Go.ChangeShapes Go.WideShapes Go.ChangeAt Go.RowKit

def kS (s : ByteArray) : Lit := .string s.data.toList
theorem kS_inj {s t : ByteArray} (h : kS s = kS t) : s = t := by
  unfold kS at h
  injection h with h
  obtain ⟨⟨s⟩⟩ := s
  obtain ⟨⟨t⟩⟩ := t
  simp only at h
  subst h
  rfl
theorem kS_lit (s : ByteArray) : WideAt.IsKeyLit (kS s) := trivial
def dSt (cs : List Cd) : Nat → DataW Unit
  | 0 => .map []
  | n + 1 => (dSt cs n).put (kS (cdAt cs n).s) (stD ⟨true, (cdAt cs n).a, (cdAt cs n).b⟩)
theorem dSt_tidy (cs : List Cd) : ∀ n, Maps.Tidy (dSt cs n)
  | 0 => Maps.tidy_empty
  | n + 1 => (dSt_tidy cs n).put (kS_lit _) _
theorem dSt_at (cs : List Cd) (s : ByteArray) : ∀ n, (dSt cs n).atKey (kS s) (stD st0) = stD (stTo cs s n)
  | 0 => rfl
  | n + 1 => by
    unfold dSt stTo
    cases e : ((cdAt cs n).s == s)
    · rw [Maps.atKey_put_other (fun h => bytes_ne e (kS_inj h).symm), dSt_at cs s n]; rfl
    · rw [bytes_eq e, Maps.atKey_put_same (dSt_tidy cs n).isMap (kS_lit _)]; rfl
theorem dSt_has (cs : List Cd) (s : ByteArray) : ∀ n, Maps.has (dSt cs n) (kS s) = (stTo cs s n).t
  | 0 => rfl
  | n + 1 => by
    unfold dSt stTo
    cases e : ((cdAt cs n).s == s)
    · rw [Maps.has_put_other (fun h => bytes_ne e (kS_inj h).symm), dSt_has cs s n]; rfl
    · rw [bytes_eq e, Maps.has_put_same (dSt_tidy cs n).isMap (kS_lit _)]; rfl
theorem okTo_pred {cs : List Cd} {n : Nat} (h : okTo cs (n + 1) = true) : okTo cs n = true := by
  unfold okTo at h
  rw [Bool.and_eq_true] at h
  exact h.1
theorem dSt_size (cs : List Cd) : ∀ n, okTo cs n = true → Maps.size (dSt cs n) = n
  | 0, _ => rfl
  | n + 1, h => by
    unfold dSt
    rw [Maps.size_put (dSt_tidy cs n), dSt_has, st_none n (fun k hk => okTo_uniq h hk (Nat.lt_succ_self n)), dSt_size cs n (okTo_pred h)]
    rfl
theorem st_at {cs : List Cd} (h : deckOk cs = true) {i : Nat} (hi : i < cs.length) : stOf cs (cdAt cs i).s = ⟨true, (cdAt cs i).a, (cdAt cs i).b⟩ := by
  rcases st_find h (cdAt cs i).s with ⟨_, _, hn⟩ | ⟨k, hk, _, hs, he, _⟩
  · exact absurd rfl (hn i hi)
  · obtain rfl := deckOk_uniq h hk hi hs
    exact he

/-- A map of the call's own with the states of all cards. -/
def StsO (w : World) (b : Nat) (cs : List Cd) : Prop := w.ownsMap Tryd.prog 9 stR b cs.length (dSt cs cs.length)
theorem StsO.below {w w' : World} {b : Nat} {cs : List Cd} (h : StsO w b cs) (hb : Below w.heap.size w w') : StsO w' b cs := by
  have hl := Go.World.ownsMap.lt h
  obtain ⟨es, clock, hc, F, hs, hD⟩ := h
  exact ⟨es, clock, (hb.block b hl).trans hc, F, hs, hD⟩
def StO (cs : List Cd) (w : World) (e : Ending) (w' : World) : Prop := ∃ b, e = .returned (.map (some b)) ∧ StsO w' b cs ∧ Below w.heap.size w w'

theorem zero_state (w : World) : (zeroValue 116).run Tryd.prog w = .ok (stV st0) w := by kernel_rfl

set_option maxRecDepth 100000 in
set_option maxHeartbeats 1600000 in
theorem iStates_any (ad : Option Addr) (cs : List Cd) (c : Nat) (w : World) (hc : CardsIn w ad cs) (hn : cs.length ≤ 1048576) :
    Calls Tryd.prog 72 #[.slice ad cs.length c] w (StO cs w) := by
  have C := Lib.hid hc
  have N := Lib.hid hn
  clear hc
  have hmm := fun n W => run_makeMapN Tryd.underlying122 n W
  go_enter Tryd.func72, Tryd.ntmps72
  go_wp2
  go_loopw [11] (fun i wr => ∃ j : Nat, j ≤ cs.length ∧ i = .int .i64 j ∧ wr.ownsMap Tryd.prog 9 stR w.heap.size j (dSt cs j) ∧ Below w.heap.size w wr) (fun i _ => cs.length - (intOf i).toNat)
  case atStart => exact ⟨0, Nat.zero_le _, rfl, World.ownsMap_made _ _ _ _, below_new (Below.refl _ _) _⟩
  case round =>
    obtain ⟨j, hj, rfl, hM, hB⟩ := hrel
    have BB := Lib.hid hB
    have M := Lib.hid hM
    clear hM hmm
    by_cases hjl : j < cs.length
    · have hd : decide ((j : Int) < (cs.length : Int)) = true := by simpa using hjl
      obtain ⟨⟨hfit, _⟩, b1, o1, rfl, hb1, p0, p1, p2⟩ := C.out j hjl
      have d0 := (hB.cell (p := ⟨b1, o1 + j * 3, none⟩) hb1).trans p0
      have d1 := (hB.cell (p := ⟨b1, o1 + j * 3 + 1, none⟩) hb1).trans p1
      have d2 := (hB.cell (p := ⟨b1, o1 + j * 3 + 2, none⟩) hb1).trans p2
      have y1 : b1 < wr.heap.size := Nat.lt_of_lt_of_le hb1 hB.size
      have i1 : (0 : Int) ≤ (j : Int) := by omega
      have i2 : (j : Int) < (cs.length : Int) := by omega
      have F := Lib.hid hfit
      have J := Lib.hid (show j < maxLen by have := N.out; unfold maxLen; omega)
      clear hB p0 p1 p2 hfit
      obtain ⟨w3, U, M3, G3⟩ := Go.World.ownsMap.update (M.out.alloc (.cells #[.string (cdAt cs j).s, .int .u64 (cdAt cs j).a, .int .u64 (cdAt cs j).b] 69)) (Maps.string_keyed Tryd.underlying9) Tryd.underlying122 J.out (show keyOf Tryd.prog 9 (.string (cdAt cs j).s) = some (kS (cdAt cs j).s) from Go.WideMaps.keyOf_string_mk Tryd.underlying9 F.out) (show stR (.agg #[.bool true, .int .u64 (cdAt cs j).a, .int .u64 (cdAt cs j).b]) = some (stD ⟨true, (cdAt cs j).a, (cdAt cs j).b⟩, []) from rfl)
      have M3 := Lib.hid M3
      have B1 := below_new BB.out (.cells #[.string (cdAt cs j).s, .int .u64 (cdAt cs j).a, .int .u64 (cdAt cs j).b] 69)
      have B3 := Lib.hid (Below.grown B1 G3 B1.size (fun k hk => by cases hk; exact Nat.le_refl _))
      clear G3 B1
      go_wp2
      exact ⟨⟨j + 1, hjl, by rw [Int.natCast_succ], M3.out, B3.out⟩, by (simp [intOf]) <;> omega⟩
    · have e : j = cs.length := by omega
      subst e
      have hd : decide ((cs.length : Int) < (cs.length : Int)) = false := by simp
      clear hB
      go_wp2
      go_ret
      exact ⟨w.heap.size, rfl, M.out, BB.out⟩
end Go.Proofs.YtbmjghkdhhcffaaDoor
