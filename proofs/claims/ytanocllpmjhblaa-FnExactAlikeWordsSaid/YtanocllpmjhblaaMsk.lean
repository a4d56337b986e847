/- Masks of the call's own; contracts: the masks of a lot (MixLot), the program's and the model's. -/
import Derived.Test.YtanocllpmjhblaaLotI
import Derived.Test.YtanocllpmjhblaaMayI
import Derived.Test.YtanocllpmjhblaaTru
import Derived.Laws.MakeOwn
namespace Go.Proofs.Ytanocllpmjhblaa
open Go.ChangeShapes Go.WideShapes Go.ChangeAt Go.RowKit

def flatM : List (Int × Int) → List Value
  | [] => []
  | m :: ms => .int .u64 m.1 :: .int .u64 m.2 :: flatM ms
theorem flatM_app : ∀ (xs ys : List (Int × Int)), flatM (xs ++ ys) = flatM xs ++ flatM ys
  | [], _ => rfl
  | m :: xs, ys => by simp only [List.cons_append, flatM, flatM_app xs ys]
theorem flatM_len : ∀ ms : List (Int × Int), (flatM ms).length = ms.length * 2
  | [] => rfl
  | m :: ms => by simp only [flatM, List.length_cons, flatM_len ms]; omega
theorem flatM_get : ∀ (ms : List (Int × Int)) (i : Nat), i < ms.length → (flatM ms)[i * 2]? = some (.int .u64 (ms.getD i (0, 0)).1) ∧ (flatM ms)[i * 2 + 1]? = some (.int .u64 (ms.getD i (0, 0)).2)
  | [], i, h => absurd h (Nat.not_lt_zero _)
  | m :: ms, 0, _ => ⟨rfl, rfl⟩
  | m :: ms, i + 1, h => by
    have := flatM_get ms i (by simpa using h)
    rw [show (i + 1) * 2 = i * 2 + 1 + 1 by omega]
    exact this
/-- Masks of the call's own. -/
def OwnMs (B : Nat) (ms : List (Int × Int)) (v : Value) (w : World) : Prop := w.ownsRow B 53 2 v ms.length (flatM ms)
theorem ownMs_in {B : Nat} {ms : List (Int × Int)} {v : Value} {w : World} (h : OwnMs B ms v w) : ∃ a c, v = .slice a ms.length c ∧ MasksIn w a ms := by
  have h0 := h
  obtain ⟨_, h2⟩ := h
  rcases h2 with ⟨rfl, hn⟩ | ⟨g, cap, cur, rfl, hb, hg, _⟩
  · exact ⟨none, 0, by rw [hn], fun i hi => by omega⟩
  · refine ⟨_, cap, rfl, fun i hi => ⟨g, 0, rfl, (Array.getElem?_eq_some_iff.1 hg).1, ?_, ?_⟩⟩
    · rw [Nat.zero_add, World.ownsRow.cellAt h0 _ (by omega)]; exact (flatM_get ms i hi).1
    · rw [Nat.zero_add, World.ownsRow.cellAt h0 _ (by omega)]; exact (flatM_get ms i hi).2
theorem ownMs_kept {B : Nat} {ms : List (Int × Int)} {v : Value} {w w' : World} (h : OwnMs B ms v w) (hb : Below w.heap.size w w') : OwnMs B ms v w' := row_kept h hb
theorem ownMs_weaken {B B' : Nat} {ms : List (Int × Int)} {v : Value} {w : World} (h : OwnMs B ms v w) (hb : B' ≤ B) : OwnMs B' ms v w := by
  obtain ⟨h1, h2⟩ := h
  refine ⟨h1, ?_⟩
  rcases h2 with hn | ⟨g, cap, cur, rfl, hB, rest⟩
  · exact .inl hn
  · exact .inr ⟨g, cap, cur, rfl, Nat.le_trans hb hB, rest⟩
theorem ownMs_nil (B : Nat) (w : World) : OwnMs B [] (.slice none 0 0) w := ⟨rfl, .inl ⟨rfl, rfl⟩⟩
theorem ownMs_none {w : World} {n B : Nat} (hn : n = w.heap.size) (hB : B ≤ w.heap.size) : OwnMs B [] (.slice (some ⟨n, 0, none⟩) 0 0) (w.alloc (.cells #[] 53)) := by
  subst hn; exact World.ownsRow_made w #[] 0 hB (Nat.zero_le _) rfl
theorem ownMs_push {B : Nat} {ms : List (Int × Int)} {x y : Int} {v : Value} {w : World} (h : w.ownsRow B 53 2 v (ms.length + 1) (flatM ms ++ [.int .u64 x, .int .u64 y])) : OwnMs B (ms ++ [(x, y)]) v w := by
  unfold OwnMs; rw [flatM_app, List.length_append]; exact h
theorem ownMs_lt {B : Nat} {ms : List (Int × Int)} {v : Value} {w : World} (h : OwnMs B ms v w) : ∀ j, v.ownBlock = some j → B ≤ j := fun j hj => (World.ownsRow.lt h j hj).1

/-- The mask of the list with an index. -/
def mkAt (t z : Int) (F : Int → Nat) (ls : List (List ByteArray)) (i : Nat) : Int × Int := ((A0 t z F (lsAt ls i) (lsAt ls i).length : Int), (A1 t z F (lsAt ls i) (lsAt ls i).length : Int))
/-- The masks of the first k lists. -/
def mkTo (t z : Int) (F : Int → Nat) (ls : List (List ByteArray)) (k : Nat) : List (Int × Int) := (List.range k).map (mkAt t z F ls)
theorem mkTo_len (t z : Int) (F : Int → Nat) (ls : List (List ByteArray)) (k : Nat) : (mkTo t z F ls k).length = k := by unfold mkTo; simp
theorem mkTo_next (t z : Int) (F : Int → Nat) (ls : List (List ByteArray)) (k : Nat) : mkTo t z F ls (k + 1) = mkTo t z F ls k ++ [mkAt t z F ls k] := by unfold mkTo; rw [List.range_succ, List.map_append]; rfl
theorem mkTo_at {t z : Int} {F : Int → Nat} {ls : List (List ByteArray)} {k i : Nat} (h : i < k) : (mkTo t z F ls k).getD i (0, 0) = mkAt t z F ls i := by unfold mkTo; simp [List.getD, h]
theorem mkTo_u64 {t z : Int} (F : Int → Nat) (ls : List (List ByteArray)) (k : Nat) (t0 : 0 ≤ t) (z0 : 4 ≤ z) (tz : t + z ≤ 96) : ∀ i, i < (mkTo t z F ls k).length → U64 ((mkTo t z F ls k).getD i (0, 0)).1 ∧ U64 ((mkTo t z F ls k).getD i (0, 0)).2 := fun i hi => by
  rw [mkTo_len] at hi
  rw [mkTo_at hi]
  obtain ⟨h0, h1⟩ := A_lt F (lsAt ls i) t0 (show 0 < z by omega) tz (lsAt ls i).length
  show U64 ((A0 t z F (lsAt ls i) (lsAt ls i).length : Nat) : Int) ∧ U64 ((A1 t z F (lsAt ls i) (lsAt ls i).length : Nat) : Int)
  exact ⟨⟨by omega, by omega⟩, ⟨by omega, by omega⟩⟩
/-- Masks of the call's own. -/
def MsR (ms : List (Int × Int)) (w : World) (e : Ending) (w' : World) : Prop := ∃ v, e = .returned v ∧ OwnMs w.heap.size ms v w' ∧ Below w.heap.size w w'
/-- .. and a code. -/
def MlR (c : Int) (ms : List (Int × Int)) (w : World) (e : Ending) (w' : World) : Prop := ∃ v, e = .returned (.tuple #[v, .int .i64 c]) ∧ OwnMs w.heap.size ms v w' ∧ Below w.heap.size w w'
theorem lot_fit {w : World} {a : Option Addr} {ls : List (List ByteArray)} (h : LotIn w a ls) {i : Nat} (hi : i < ls.length) : Fit (lsAt ls i) := by
  obtain ⟨_, _, _, _, _, _, _, _, hf, _⟩ := h i hi; exact hf



/-! ### MixLot -/
def mlC (ok : Bool) (ls : List (List ByteArray)) : Int := if ok = true then lotC ls else 1
def mlL (c : Int) (ms : List (Int × Int)) : List (Int × Int) := if c = 0 then ms else []
theorem mlL_no {c : Int} {ms : List (Int × Int)} (h : c ≠ 0) : mlL c ms = [] := if_neg h
theorem mlL_yes (ms : List (Int × Int)) : mlL 0 ms = ms := rfl
theorem mlC_mix (ls : List (List ByteArray)) : mlC false ls = 1 := rfl
theorem mlC_ok (ls : List (List ByteArray)) : mlC true ls = lotC ls := rfl


end Go.Proofs.Ytanocllpmjhblaa
