/- Places in a tree: rows of knots and depths; those behind a place. -/
import Derived.Test.YtdbkplfkilaoeacDpP
import Derived.Test.YtdbkplfkilaoeacKnL
import Derived.Test.YtdbkplfkilaoeacFloat
import Derived.Deep.RegionLaw
import Derived.Deep.AppendLies
import Derived.OwnWalk
import Derived.Laws.AppendOwnNone
namespace Go.Proofs.Ytdbkplfkilaoeac
open Go.ChangeShapes Go.WideShapes Go.ChangeAt Go.RowKit

theorem info_place : (Try.prog.info? 63).map (fun i => (i.zero, i.size, i.bytes)) = some (some (.agg #[.int .i16 0, .slice none 0 0, .slice none 0 0, .slice none 0 0, .int .i64 0]), 5, 88) := by kernel_rfl

/-- The cells of a place: a knot of the tree that lies in w0, and how deep it is. -/
def PlCells (w0 : World) (k : Kn) (d : Nat) (u : List Value) : Prop := ∃ va vc na nc ca cc, u = [.int .i16 k.f, .slice va k.vs.length vc, .slice na k.ns.length nc, .slice ca k.cs.length cc, .int .i64 (d : Int)] ∧ IntsIn w0 va k.vs ∧ I16sIn w0 na k.ns ∧ IntsIn w0 ca k.cs
/-- A row of places. -/
inductive RowP (w0 : World) (ks : List Kn) : List Nat → List Value → Prop
  | nil : RowP w0 ks [] []
  | snoc {L : List Nat} {xs : List Value} {j : Nat} {u : List Value} : RowP w0 ks L xs → PlCells w0 (knAt ks j) (dep ks j) u → RowP w0 ks (L ++ [j]) (xs ++ u)
theorem plCells_len {w0 : World} {k : Kn} {d : Nat} {u : List Value} (h : PlCells w0 k d u) : u.length = 5 := by obtain ⟨va, vc, na, nc, ca, cc, rfl, _⟩ := h; rfl
theorem rowP_len {w0 : World} {ks : List Kn} {L : List Nat} {xs : List Value} (h : RowP w0 ks L xs) : xs.length = L.length * 5 := by
  induction h with
  | nil => rfl
  | snoc _ hu ih => rw [List.length_append, List.length_append, ih, plCells_len hu]; simp; omega
theorem rowP_app {w0 : World} {ks : List Kn} {L M : List Nat} {xs ys : List Value} (h : RowP w0 ks L xs) (k : RowP w0 ks M ys) : RowP w0 ks (L ++ M) (xs ++ ys) := by
  induction k with
  | nil => simpa using h
  | snoc _ hu ih => rw [← List.append_assoc, ← List.append_assoc]; exact .snoc ih hu
/-- The cells of the place with an index. -/
theorem rowP_get {w0 : World} {ks : List Kn} {L : List Nat} {xs : List Value} (h : RowP w0 ks L xs) : ∀ {p i : Nat}, L[p]? = some i → ∃ u, PlCells w0 (knAt ks i) (dep ks i) u ∧ ∀ r, r < 5 → xs[p * 5 + r]? = u[r]? := by
  induction h with
  | nil => intro p i hp; simp at hp
  | @snoc L xs j u h0 hu ih =>
    intro p i hp
    have l1 := rowP_len h0
    by_cases e : p < L.length
    · rw [List.getElem?_append_left e] at hp
      obtain ⟨u', hu', hr⟩ := ih hp
      exact ⟨u', hu', fun r hr5 => by rw [List.getElem?_append_left (by omega)]; exact hr r hr5⟩
    · have hlt := (List.getElem?_eq_some_iff.1 hp).1
      rw [List.length_append] at hlt
      simp at hlt
      obtain rfl : p = L.length := by omega
      simp at hp
      subst hp
      exact ⟨u, hu, fun r hr5 => by rw [List.getElem?_append_right (by omega)]; congr 1; omega⟩
theorem rowP_one {w0 : World} {ks : List Kn} {L : List Nat} {xs : List Value} (h : RowP w0 ks L xs) : ∀ u ∈ xs, u.oneCell' = true := by
  induction h with
  | nil => intro u hu; cases hu
  | snoc _ hu ih =>
    intro x hx
    rcases List.mem_append.1 hx with hx | hx
    · exact ih x hx
    · obtain ⟨va, vc, na, nc, ca, cc, rfl, _⟩ := hu
      simp at hx
      rcases hx with rfl | rfl | rfl | rfl | rfl <;> rfl
/-- Places in a row of the call's own. -/
def OwnP (w0 : World) (B : Nat) (ks : List Kn) (L : List Nat) (v : Value) (w : World) : Prop := ∃ xs, w.ownsRow B 63 5 v L.length xs ∧ RowP w0 ks L xs
theorem ownsRow_belowP {w w' : World} {B e size n : Nat} {v : Value} {xs : List Value} (h : w.ownsRow B e size v n xs) (hb : Below w.heap.size w w') : w'.ownsRow B e size v n xs := by
  obtain ⟨h1, h2⟩ := h
  refine ⟨h1, ?_⟩
  rcases h2 with hn | ⟨g, cap, cur, rfl, hB, hg, rest⟩
  · exact .inl hn
  · exact .inr ⟨g, cap, cur, rfl, hB, (hb.block g (Array.getElem?_eq_some_iff.1 hg).1).trans hg, rest⟩
theorem ownP_below {w0 w w' : World} {B : Nat} {ks : List Kn} {L : List Nat} {v : Value} (h : OwnP w0 B ks L v w) (hb : Below w.heap.size w w') : OwnP w0 B ks L v w' := by
  obtain ⟨xs, h1, h2⟩ := h
  exact ⟨xs, ownsRow_belowP h1 hb, h2⟩
theorem ownP_less {w0 w : World} {B C : Nat} {ks : List Kn} {L : List Nat} {v : Value} (h : OwnP w0 B ks L v w) (hc : C ≤ B) : OwnP w0 C ks L v w := by
  obtain ⟨xs, ⟨h1, h2⟩, h3⟩ := h
  exact ⟨xs, ⟨h1, h2.imp id fun ⟨g, cap, cur, k1, k2, k3⟩ => ⟨g, cap, cur, k1, by omega, k3⟩⟩, h3⟩
theorem block_far {w : World} {k : Nat} (o : Obj) (h : k < w.heap.size) : (w.alloc o).heap[k]? = w.heap[k]? := by
  show (w.heap.push o)[k]? = _
  rw [Array.getElem?_push, if_neg (by omega)]
theorem new5 (w : World) (a b c d e : Value) (t : TypeId) : ∀ j u, [a, b, c, d, e][j]? = some u → (w.alloc (.cells #[a, b, c, d, e] t)).cell? ((⟨w.heap.size, 0, none⟩ : Addr).add j) = some u := by
  intro j u h
  match j, h with
  | 0, h => simp at h; subst h; simp [Addr.add]
  | 1, h => simp at h; subst h; simp [Addr.add]
  | 2, h => simp at h; subst h; simp [Addr.add]
  | 3, h => simp at h; subst h; simp [Addr.add]
  | 4, h => simp at h; subst h; simp [Addr.add]
theorem kids_take {ks : List Kn} {i t : Nat} (h : t < (knAt ks i).ns.length) : (kids ks i).take (t + 1) = (kids ks i).take t ++ [((knAt ks i).ns.getD t 0).toNat] := by
  have hl : t < (kids ks i).length := by unfold kids; simpa using h
  have e : (kids ks i)[t] = ((knAt ks i).ns.getD t 0).toNat := by
    show (List.map Int.toNat (knAt ks i).ns)[t]'(by simpa using h) = _
    rw [List.getElem_map, List.getD_eq_getElem?_getD, List.getElem?_eq_getElem h]; rfl
  rw [List.take_add_one, List.getElem?_eq_getElem hl, e]
  rfl
theorem kids_len (ks : List Kn) (i : Nat) : (kids ks i).length = (knAt ks i).ns.length := by unfold kids; simp

set_option maxRecDepth 100000 in
set_option maxHeartbeats 3200000 in
theorem iKids_any (w0 w : World) (ks : List Kn) (T : TreeOk ks) (SM : KsSmall ks) (i : Nat) (hi : i < ks.length) (ad : Option Addr) (c tb : Nat) (hB : Below w0.heap.size w0 w) (hc : KnotsIn w0 ad ks) (ht : w.cell? ⟨tb, 0, none⟩ = some (.slice ad ks.length c))
    (f : Int) (va na ca : Option Addr) (vl vc nc cl cc : Nat) (hN : I16sIn w0 na (knAt ks i).ns) (m : Int) :
    Calls Try.prog 53 #[.agg #[.int .i16 f, .slice va vl vc, .slice na (knAt ks i).ns.length nc, .slice ca cl cc, .int .i64 (dep ks i : Int)], .int .i64 m, .pointer (some ⟨tb, 0, none⟩)] w fun e w' => ∃ v, e = .returned v ∧ OwnP w0 w.heap.size ks (kids ks i) v w' ∧ Below w.heap.size w w' := by
  obtain ⟨i0, hi0, hz0, hz1, hz2⟩ := info_parts info_place
  have C := Lib.hid hc
  have N := Lib.hid hN
  have BB := Lib.hid hB
  have nsl := (SM.2 i hi).2.1
  have dl : dep ks i ≤ 120 := by have := dep_le ks (i + 1) i (Nat.lt_succ_self i); have := T.2.1; omega
  have nl := T.2.1
  have KL := Lib.hid fun j (h : j ∈ kids ks i) => And.intro (kids_lt T hi h) (kids_dep T hi h)
  have KT := Lib.hid fun t h => kids_take (ks := ks) (i := i) (t := t) h
  have KN := Lib.hid (kids_len ks i)
  have X0 := Lib.hid fun t (h : t < (knAt ks i).ns.length) => show 0 ≤ (knAt ks i).ns.getD t 0 by
    have e : (knAt ks i).ns.getD t 0 = (knAt ks i).ns[t] := by rw [List.getD_eq_getElem?_getD, List.getElem?_eq_getElem h]; rfl
    rw [e]; have := nx_in T hi (List.getElem_mem h); omega
  have tl := World.block_lt_of_cell? _ _ ht
  have MX := Lib.hid (block_alloc w (.cells #[.int .i16 f, .slice va vl vc, .slice na (knAt ks i).ns.length nc, .slice ca cl cc, .int .i64 (dep ks i : Int)] 63))
  have B0 := Lib.hid (below_new (Below.refl w.heap.size w) (.cells #[.int .i16 f, .slice va vl vc, .slice na (knAt ks i).ns.length nc, .slice ca cl cc, .int .i64 (dep ks i : Int)] 63))
  clear hB hc hN SM T
  generalize dep ks i = d at *
  generalize hns : (knAt ks i).ns = ns at *
  clear hns
  go_enter Try.func53, Try.ntmps53
  go_wp2
  generalize w.alloc (.cells #[.int .i16 f, .slice va vl vc, .slice na ns.length nc, .slice ca cl cc, .int .i64 (d : Int)] 63) = W1 at *
  go_loopw [6, 13] (fun bh ix wr => ∃ (t : Nat) (v : Value), t ≤ ns.length ∧ ix = .int .i64 t ∧ bh = v ∧ OwnP w0 (w.heap.size + 1) ks ((kids ks i).take t) v wr ∧ wr.heap[w.heap.size]? = some (.cells #[.int .i16 f, .slice va vl vc, .slice na ns.length nc, .slice ca cl cc, .int .i64 (d : Int)] 63 (0, 0)) ∧ Below w.heap.size w wr) (fun _ ix _ => ns.length - (intOf ix).toNat)
  case atStart => exact ⟨0, _, Nat.zero_le _, rfl, rfl, ⟨[], ⟨rfl, .inl ⟨rfl, rfl⟩⟩, by rw [List.take_zero]; exact .nil⟩, MX.out, B0.out⟩
  case round =>
    obtain ⟨t, v, htl, rfl, rfl, hO, hM, hB⟩ := hrel
    have OO := Lib.hid hO
    have MM := Lib.hid hM
    have B1 := Lib.hid hB
    have k1 := cell_of_block hM
    have y1 := lt_of_block hM
    have tc := (hB.cell (p := ⟨tb, 0, none⟩) tl).trans ht
    clear hO hM B0 MX
    by_cases hlt : t < ns.length
    · have hd : decide ((t : Int) < (ns.length : Int)) = true := by simpa using hlt
      obtain ⟨b2, o2, rfl, hb2, q0⟩ := N.out t hlt
      have e1 := ((BB.out.trans (Below.mono hB BB.out.size)).cell (p := ⟨b2, o2 + t, none⟩) hb2).trans q0
      have hk := KL.out (ns.getD t 0).toNat (by have h2 := KT.out t hlt; exact List.mem_of_mem_take (i := t + 1) (by rw [h2]; simp))
      have kt := Lib.hid (KT.out t hlt)
      have tl2 : (List.take t (kids ks i)).length = t := by rw [List.length_take, KN.out]; omega
      have x16 := X0.out t hlt
      generalize ns.getD t 0 = x at *
      obtain ⟨xn, rfl⟩ := Int.eq_ofNat_of_zero_le x16
      rw [Int.toNat_natCast] at hk kt
      obtain ⟨b1, o1, rfl, hkn⟩ := C.out xn hk.1.2
      obtain ⟨hft, va2, vc2, na2, nc2, ca2, cc2, y0, z0, z1, z2, z3, p1, p2, p3⟩ := hkn
      have hA := Below.mono hB BB.out.size
      have hA := BB.out.trans hA
      have d0 := (hA.cell (p := ⟨b1, o1 + xn * 4, none⟩) y0).trans z0
      have d1 := (hA.cell (p := ⟨b1, o1 + xn * 4 + 1, none⟩) y0).trans z1
      have d2 := (hA.cell (p := ⟨b1, o1 + xn * 4 + 2, none⟩) y0).trans z2
      have d3 := (hA.cell (p := ⟨b1, o1 + xn * 4 + 3, none⟩) y0).trans z3
      have PC : PlCells w0 (knAt ks xn) (dep ks xn) [.int .i16 (knAt ks xn).f, .slice va2 (knAt ks xn).vs.length vc2, .slice na2 (knAt ks xn).ns.length nc2, .slice ca2 (knAt ks xn).cs.length cc2, .int .i64 ((d : Int) + 1)] := ⟨va2, vc2, na2, nc2, ca2, cc2, by rw [hk.2, Int.natCast_succ], p1, p2, p3⟩
      have PC := Lib.hid PC
      have i1 : (0 : Int) ≤ (xn : Int) := by omega
      have i2 : (xn : Int) < (ks.length : Int) := by omega
      clear z0 z1 z2 z3 p1 p2 p3 hB hA y0 hft
      generalize (knAt ks xn).vs.length = l1 at *
      generalize (knAt ks xn).ns.length = l2 at *
      generalize (knAt ks xn).cs.length = l3 at *
      generalize (knAt ks xn).f = f1 at *
      obtain ⟨xs, O1, R1⟩ := OO.out
      rw [tl2] at O1
      have O2 := Lib.hid O1
      have ov : IntKind.i64.wrap ((d : Int) + 1) = (d : Int) + 1 := IntWalk.i64_in _ (by omega)
      have B2 := Lib.hid B1.out
      have M2 := Lib.hid MM.out
      have RR := Lib.hid R1
      clear O1 R1 OO B1 MM
      go_wp2_with fail
      go_region_law (refine step_append_lies _ (by rfl) _ _ 59 (by rfl) (w.heap.size + 1) 63 i0 (.agg #[.int .i16 0, .slice none 0 0, .slice none 0 0, .slice none 0 0, .int .i64 0]) 5 88 Try.underlying59 hi0 hz0 hz1 hz2 rfl (by decide) _ _ _ (by rfl) (World.ownsRow.drew (World.ownsRow.alloc O2.out _)) ⟨wr.heap.size, 0, none⟩ 1 1 [.int .i16 f1, .slice va2 l1 vc2, .slice na2 l2 nc2, .slice ca2 l3 cc2, .int .i64 ((d : Int) + 1)] (by rfl) rfl (fun j u h => new5 wr _ _ _ _ _ _ j u h) (rowP_one (RowP.snoc .nil PC.out)) (by omega) (by unfold maxLen; omega) (by omega) (by simp; omega) _ rfl ?_; intro gg cap w3 hown hgrow _ _; have P := Lib.hid hown; have G := Lib.hid hgrow; clear hown hgrow)
      all_goals go_wp2
      all_goals
        have hb3 := Below.grown (Below.refl (w.heap.size + 1) _) G.out (by simp; omega) (fun j hj => (World.ownsRow.lt O2.out j hj).1)
        have PP : OwnP w0 (w.heap.size + 1) ks ((kids ks i).take (t + 1)) (.slice (some ⟨gg, 0, none⟩) (t + 1) cap) w3 := by
          rw [kt.out]; exact ⟨_, by rw [List.length_append, tl2]; exact P.out, .snoc RR.out PC.out⟩
        exact ⟨⟨t + 1, _, hlt, by rw [Int.natCast_succ], rfl, PP, (hb3.block _ (by omega)).trans ((block_far _ (by omega)).trans M2.out), (B2.out.alloc (by omega) _).drew.trans (hb3.mono (by omega))⟩, by simp [intOf]; omega⟩
    · have e : t = ns.length := by omega
      subst e
      have hd : decide ((ns.length : Int) < (ns.length : Int)) = false := by simp
      have O9 := OO.out
      rw [List.take_of_length_le (by rw [KN.out]; exact Nat.le_refl _)] at O9
      have O9 := Lib.hid O9
      clear hB
      go_wp2
      go_ret
      exact ⟨_, rfl, ownP_less O9.out (by omega), B1.out⟩
end Go.Proofs.Ytdbkplfkilaoeac
