/- The model's split of a deck by a hole: two decks of the call's own that grow in one loop. -/
import Derived.Test.YtdbkplfkilaoeaaHeldC
import Derived.Test.YtdbkplfkilaoeaaApp2
import Derived.Test.YtdbkplfkilaoeaaBit
import Derived.Test.YtdbkplfkilaoeaaHole
namespace Go.Proofs.Ytdbkplfkilaoeaa
open Go.ChangeShapes Go.WideShapes Go.ChangeAt Go.RowKit

def dropTo (h : Int) (cs : List Cd) (k : Nat) : List Cd := (cs.take k).filter fun c => hasB c.a c.b h
def stayTo (h : Int) (cs : List Cd) (k : Nat) : List Cd := (cs.take k).filter fun c => !hasB c.a c.b h
theorem take_next {cs : List Cd} {k : Nat} (hk : k < cs.length) : cs.take (k + 1) = cs.take k ++ [cdAt cs k] := by
  rw [List.take_add_one, List.getElem?_eq_getElem hk]
  unfold cdAt
  rw [List.getD, List.getElem?_eq_getElem hk]
  rfl
theorem drop_yes {h : Int} {cs : List Cd} {k : Nat} (hk : k < cs.length) (e : hasB (cdAt cs k).a (cdAt cs k).b h = true) : dropTo h cs (k + 1) = dropTo h cs k ++ [cdAt cs k] ∧ stayTo h cs (k + 1) = stayTo h cs k := by
  unfold dropTo stayTo
  rw [take_next hk, List.filter_append, List.filter_append]
  simp [e]
theorem drop_no {h : Int} {cs : List Cd} {k : Nat} (hk : k < cs.length) (e : hasB (cdAt cs k).a (cdAt cs k).b h = false) : dropTo h cs (k + 1) = dropTo h cs k ∧ stayTo h cs (k + 1) = stayTo h cs k ++ [cdAt cs k] := by
  unfold dropTo stayTo
  rw [take_next hk, List.filter_append, List.filter_append]
  simp [e]
theorem dropTo_len (h : Int) (cs : List Cd) (k : Nat) : (dropTo h cs k).length ≤ k := Nat.le_trans (List.length_filter_le _ _) (by rw [List.length_take]; omega)
theorem stayTo_len (h : Int) (cs : List Cd) (k : Nat) : (stayTo h cs k).length ≤ k := Nat.le_trans (List.length_filter_le _ _) (by rw [List.length_take]; omega)

/-- A slice that is not nil, over cards of the call's own. -/
def Deck1 (B : Nat) (cs : List Cd) (v : Value) (w : World) : Prop := OwnCards B cs v w ∧ ∃ g c, v = .slice (some ⟨g, 0, none⟩) cs.length c
theorem deck1_none {w : World} {n B : Nat} {t : TypeId} (ht : t = 50) (hn : n = w.heap.size) (hB : B ≤ w.heap.size) : Deck1 B [] (.slice (some ⟨n, 0, none⟩) 0 0) (w.alloc (.cells #[] t)) := by
  subst hn ht
  exact ⟨World.ownsRow_made w #[] 0 hB (Nat.zero_le _) rfl, _, _, rfl⟩
theorem deck1_push {B : Nat} {cs : List Cd} {x : Cd} {v : Value} {w : World} (h : w.ownsRow B 50 3 v (cs.length + 1) (flatC cs ++ [.string x.s, .int .u64 x.a, .int .u64 x.b])) : Deck1 B (cs ++ [x]) v w := by
  have e : flatC (cs ++ [x]) = flatC cs ++ [.string x.s, .int .u64 x.a, .int .u64 x.b] := by rw [flatC_app]; rfl
  have l : (cs ++ [x]).length = cs.length + 1 := by simp
  have o : OwnCards B (cs ++ [x]) v w := by unfold OwnCards; rw [e, l]; exact h
  refine ⟨o, ?_⟩
  rcases h.2 with ⟨_, hz⟩ | ⟨g, cap, _, hv, _⟩
  · omega
  · exact ⟨g, cap, by rw [l]; exact hv⟩
theorem deck1_kept {B : Nat} {cs : List Cd} {v : Value} {w w' : World} (h : Deck1 B cs v w) (hb : Below w.heap.size w w') : Deck1 B cs v w' := ⟨ownCards_kept h.1 hb, h.2⟩
theorem row_grown {w w' : World} {B e k n : Nat} {v : Value} {r : Option Nat} {xs : List Value} (h : w.ownsRow B e k v n xs) (hg : w.grownBy w' r) (hne : ∀ j, v.ownBlock = some j → r ≠ some j) : w'.ownsRow B e k v n xs := by
  obtain ⟨h1, h2⟩ := h
  refine ⟨h1, ?_⟩
  rcases h2 with hn | ⟨b, cap, cur, rfl, hB, hb, rest⟩
  · exact .inl hn
  · exact .inr ⟨b, cap, cur, rfl, hB, (hg.block b (Array.getElem?_eq_some_iff.1 hb).1 (fun e => hne b rfl e.symm)).trans hb, rest⟩
theorem new3 (w : World) (x y z : Value) (t : TypeId) : ∀ j u, [x, y, z][j]? = some u → (w.alloc (.cells #[x, y, z] t)).cell? ((⟨w.heap.size, 0, none⟩ : Addr).add j) = some u := by
  intro j u h
  match j, h with
  | 0, h => simp at h; subst h; simp [Addr.add]
  | 1, h => simp at h; subst h; simp [Addr.add]
  | 2, h => simp at h; subst h; simp [Addr.add]
/-- Two slices lie in blocks of their own. -/
def Apart (v u : Value) : Prop := ∀ k, v.ownBlock = some k → u.ownBlock ≠ some k
theorem Apart.symm {v u : Value} (h : Apart v u) : Apart u v := fun k hk hv => h k hv hk
/-- Two decks, and a number. -/
def TwoR (xs ys : List Cd) (w : World) (e : Ending) (w' : World) : Prop := ∃ v u, e = .returned (.tuple #[v, u]) ∧ Deck1 w.heap.size xs v w' ∧ Deck1 w.heap.size ys u w' ∧ Apart v u ∧ Below w.heap.size w w'

set_option maxRecDepth 100000 in
set_option maxHeartbeats 3200000 in
theorem sSplit_any (ad : Option Addr) (cs : List Cd) (c : Nat) (h : Int) (h0 : 0 ≤ h) (h1 : h ≤ 95) (w : World) (hc : CardsIn w ad cs) (hn : cs.length ≤ 80) :
    Calls Try.prog 26 #[.slice ad cs.length c, .int .i64 h] w (TwoR (stayTo h cs cs.length) (dropTo h cs cs.length) w) := by
  obtain ⟨i0, hi, hz0, hz1, hz2⟩ := info_parts info_card
  have C := Lib.hid hc
  clear hc
  go_enter Try.func26, Try.ntmps26
  go_wp2
  go_loopw [6, 7, 8] (fun v u i wr => ∃ j : Nat, j ≤ cs.length ∧ i = .int .i64 j ∧ Deck1 w.heap.size (stayTo h cs j) v wr ∧ Deck1 w.heap.size (dropTo h cs j) u wr ∧ Apart v u ∧ Below w.heap.size w wr) (fun _ _ i _ => cs.length - (intOf i).toNat)
  case atStart => exact ⟨0, Nat.zero_le _, rfl, deck1_kept (deck1_none rfl rfl (Nat.le_refl _)) (below_new (Below.refl _ _) _), deck1_none rfl (by simp) (by simp), fun k hk hv => by simp [Value.ownBlock] at hk hv; omega, below_new (below_new (Below.refl _ _) _) _⟩
  case round =>
    obtain ⟨j, hj, rfl, hS, hD, hA, hB⟩ := hrel
    obtain ⟨gs, ks, rfl⟩ := hS.2
    obtain ⟨gd, kd, rfl⟩ := hD.2
    have SS := Lib.hid hS
    have DD := Lib.hid hD
    have AA := Lib.hid hA
    have BB := Lib.hid hB
    clear hS hD hA
    by_cases hjl : j < cs.length
    · have hd : decide ((j : Int) < (cs.length : Int)) = true := by simpa using hjl
      obtain ⟨⟨_, fa, fb⟩, b1, o1, rfl, hb1, p0, p1, p2⟩ := C.out j hjl
      have i1 : (0 : Int) ≤ (j : Int) := by omega
      have i2 : (j : Int) < (cs.length : Int) := by omega
      have K := fun W => sHas_any (cdAt cs j).a (cdAt cs j).b h fa fb h0 h1 W
      have yes := Lib.hid fun e => drop_yes (h := h) hjl e
      have no := Lib.hid fun e => drop_no (h := h) hjl e
      have e0 := (hB.cell (p := ⟨b1, o1 + j * 3, none⟩) hb1).trans p0
      have e1 := (hB.cell (p := ⟨b1, o1 + j * 3 + 1, none⟩) hb1).trans p1
      have e2 := (hB.cell (p := ⟨b1, o1 + j * 3 + 2, none⟩) hb1).trans p2
      have ls := stayTo_len h cs j
      have ld := dropTo_len h cs j
      clear hB p0 p1 p2 fa fb
      have yb : b1 < wr.heap.size := Nat.lt_of_lt_of_le hb1 BB.out.size
      cases hx : hasB (cdAt cs j).a (cdAt cs j).b h
      · rw [hx] at K
        have Y := Lib.hid (no.out hx)
        have K := Lib.hid K
        clear yes no hx
        generalize stayTo h cs j = xs at *
        generalize dropTo h cs j = ys at *
        generalize cdAt cs j = x at *
        obtain ⟨s, xa, xb⟩ := x
        simp only at e0 e1 e2 K Y
        go_wp2_with (first
          | (go_at_call 50; refine (K.out _).mono ?_; rintro e w2 ⟨rfl, hB2⟩; have S2 := Lib.hid (deck1_kept SS.out hB2); have D2 := Lib.hid (deck1_kept DD.out hB2); have B2 := Lib.hid (BB.out.trans (Below.mono hB2 BB.out.size)); have f0 := (hB2.cell (p := ⟨b1, o1 + j * 3, none⟩) yb).trans e0; have f1 := (hB2.cell (p := ⟨b1, o1 + j * 3 + 1, none⟩) yb).trans e1; have f2 := (hB2.cell (p := ⟨b1, o1 + j * 3 + 2, none⟩) yb).trans e2; have s2 := B2.out.size; clear hB2)
          | (at_builtin; refine wpList_append_two rfl _ _ 24 rfl w.heap.size 50 i0 (.agg #[.string ByteArray.empty, .int .u64 0, .int .u64 0]) 3 32 Try.underlying24 hi hz0 hz1 hz2 rfl (by decide) _ _ _ rfl (World.ownsRow.alloc S2.out.1 _) ⟨w2.heap.size, 0, none⟩ 1 1 [.string s, .int .u64 xa, .int .u64 xb] rfl rfl (new3 _ _ _ _ _) (fun x hx => by simp at hx; rcases hx with rfl | rfl | rfl <;> rfl) (by unfold maxLen; omega) (by omega) (by simp; omega) ?_; intro v' w4 hown hgrow hblk; have P := Lib.hid (deck1_push (x := ⟨s, xa, xb⟩) hown); have G := Lib.hid hgrow; have K4 := Lib.hid hblk; clear hown hgrow hblk))
        have T := Lib.hid (⟨row_grown (World.ownsRow.alloc D2.out.1 _) G.out (AA.out.symm), D2.out.2⟩ : Deck1 w.heap.size ys _ w4)
        have N : Apart v' (.slice (some ⟨gd, 0, none⟩) ys.length kd) := fun k hu hk => by
          rcases K4.out k hu with e | e
          · exact AA.out k e hk
          · have := (World.ownsRow.lt D2.out.1 k hk).2; simp at e; omega
        exact ⟨⟨j + 1, hjl, by rw [Int.natCast_succ], by rw [Y.out.2]; exact P.out, by rw [Y.out.1]; exact T.out, N, Below.grown (B2.out.alloc s2 _) G.out (by simp; omega) (fun k hk => (World.ownsRow.lt S2.out.1 k hk).1)⟩, by (simp [intOf]) <;> omega⟩
      · rw [hx] at K
        have Y := Lib.hid (yes.out hx)
        have K := Lib.hid K
        clear yes no hx
        generalize stayTo h cs j = xs at *
        generalize dropTo h cs j = ys at *
        generalize cdAt cs j = x at *
        obtain ⟨s, xa, xb⟩ := x
        simp only at e0 e1 e2 K Y
        go_wp2_with (first
          | (go_at_call 50; refine (K.out _).mono ?_; rintro e w2 ⟨rfl, hB2⟩; have S2 := Lib.hid (deck1_kept SS.out hB2); have D2 := Lib.hid (deck1_kept DD.out hB2); have B2 := Lib.hid (BB.out.trans (Below.mono hB2 BB.out.size)); have f0 := (hB2.cell (p := ⟨b1, o1 + j * 3, none⟩) yb).trans e0; have f1 := (hB2.cell (p := ⟨b1, o1 + j * 3 + 1, none⟩) yb).trans e1; have f2 := (hB2.cell (p := ⟨b1, o1 + j * 3 + 2, none⟩) yb).trans e2; have s2 := B2.out.size; clear hB2)
          | (at_builtin; refine wpList_append_two rfl _ _ 24 rfl w.heap.size 50 i0 (.agg #[.string ByteArray.empty, .int .u64 0, .int .u64 0]) 3 32 Try.underlying24 hi hz0 hz1 hz2 rfl (by decide) _ _ _ rfl (World.ownsRow.alloc D2.out.1 _) ⟨w2.heap.size, 0, none⟩ 1 1 [.string s, .int .u64 xa, .int .u64 xb] rfl rfl (new3 _ _ _ _ _) (fun x hx => by simp at hx; rcases hx with rfl | rfl | rfl <;> rfl) (by unfold maxLen; omega) (by omega) (by simp; omega) ?_; intro v' w4 hown hgrow hblk; have P := Lib.hid (deck1_push (x := ⟨s, xa, xb⟩) hown); have G := Lib.hid hgrow; have K4 := Lib.hid hblk; clear hown hgrow hblk))
        have T := Lib.hid (⟨row_grown (World.ownsRow.alloc S2.out.1 _) G.out (AA.out), S2.out.2⟩ : Deck1 w.heap.size xs _ w4)
        have N : Apart (.slice (some ⟨gs, 0, none⟩) xs.length ks) v' := fun k hk hu => by
          rcases K4.out k hu with e | e
          · exact AA.out k hk e
          · have := (World.ownsRow.lt S2.out.1 k hk).2; simp at e; omega
        exact ⟨⟨j + 1, hjl, by rw [Int.natCast_succ], by rw [Y.out.2]; exact T.out, by rw [Y.out.1]; exact P.out, N, Below.grown (B2.out.alloc s2 _) G.out (by simp; omega) (fun k hk => (World.ownsRow.lt D2.out.1 k hk).1)⟩, by (simp [intOf]) <;> omega⟩
    · have e : j = cs.length := by omega
      subst e
      have hd : decide ((cs.length : Int) < (cs.length : Int)) = false := by simp
      clear hB
      go_wp2
      go_ret2
      exact ⟨_, _, rfl, SS.out, DD.out, AA.out, BB.out⟩
end Go.Proofs.Ytdbkplfkilaoeaa
