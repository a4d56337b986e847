/- How many questions a tree asks at the most: the program's contract. -/
import Derived.Test.YtdbkplfkilaoeacPli
import Derived.Test.YtdbkplfkilaoeacVtT
namespace Go.Proofs.Ytdbkplfkilaoeac
open Go.ChangeShapes Go.WideShapes Go.ChangeAt Go.RowKit

theorem mxTo_le {c : Nat → Nat} {P : List Nat} {k : Nat} : mxTo c P ≤ k ↔ ∀ p ∈ P, c p ≤ k := by
  induction P with
  | nil => simp [mxTo]
  | cons p P ih => simp only [mxTo, Nat.max_le, ih, List.mem_cons, forall_eq_or_imp]; exact And.comm
theorem mxTo_ge {c : Nat → Nat} {P : List Nat} {p : Nat} (h : p ∈ P) : c p ≤ mxTo c P := mxTo_le.1 (Nat.le_refl _) p h
theorem mxTo_snoc (c : Nat → Nat) (P : List Nat) (p : Nat) : mxTo c (P ++ [p]) = max (mxTo c P) (c p) := by
  refine Nat.le_antisymm (mxTo_le.2 fun q hq => ?_) (Nat.max_le.2 ⟨mxTo_le.2 fun q hq => mxTo_ge (by simp [hq]), mxTo_ge (by simp)⟩)
  rcases List.mem_append.1 hq with hq | hq
  · exact Nat.le_trans (mxTo_ge hq) (Nat.le_max_left _ _)
  · simp at hq; subst hq; exact Nat.le_max_right _ _
theorem mxTo_same {c : Nat → Nat} {P M : List Nat} (h : ∀ p, p ∈ P ↔ p ∈ M) : mxTo c P = mxTo c M :=
  Nat.le_antisymm (mxTo_le.2 fun q hq => mxTo_ge ((h q).1 hq)) (mxTo_le.2 fun q hq => mxTo_ge ((h q).2 hq))
/-- The most questions of a tree. -/
def deepOf (ks : List Kn) : Nat := mxTo (dep ks) (List.range ks.length)
theorem deep_bf {ks : List Kn} (T : TreeOk ks) {m : Nat} (h : ∀ p, p < m → p < (bf ks p).length) (hm : (bf ks m).length = m) : mxTo (dep ks) (bf ks m) = deepOf ks :=
  mxTo_same fun p => by rw [bf_mem T h hm, List.mem_range]
def deepV (ks : List Kn) : Value := .tuple (if treeOk ks then #[.int .i64 (deepOf ks : Int), .int .i64 0] else #[.int .i64 0, .int .i64 1])
theorem takeD_snoc {L : List Nat} {t i : Nat} (h : L[t]? = some i) : L.take (t + 1) = L.take t ++ [i] := by rw [List.take_add_one, h]; rfl

set_option maxRecDepth 100000 in
set_option maxHeartbeats 3200000 in
theorem iDeepestOf_any (ad : Option Addr) (ks : List Kn) (c : Nat) (w : World) (hc : KnotsIn w ad ks) (hn : KsSmall ks) :
    Calls Try.prog 16 #[.slice ad ks.length c] w fun e w' => e = .returned (deepV ks) ∧ Below w.heap.size w w' := by
  have V := Lib.hid (iValidTree_any ad ks c w hc hn)
  by_cases hT : treeOk ks = true
  · have T : TreeOk ks := of_decide_eq_true hT
    have DV : deepV ks = .tuple #[.int .i64 (deepOf ks : Int), .int .i64 0] := by unfold deepV; rw [if_pos hT]
    rw [hT] at V
    have PL := Lib.hid fun W (h : Below w.heap.size w W) => iPlaces_any ks T hn ad c W (knotsIn_below hc h)
    have DB := Lib.hid fun m h1 h2 => deep_bf T (m := m) h1 h2
    have BO := Lib.hid fun m h => (bf_ok T h (m := m)).1
    have DL := Lib.hid fun i (h : i < ks.length) => show dep ks i ≤ 120 by have := dep_le ks (i + 1) i (Nat.lt_succ_self i); have := T.2.1; omega
    have LB := Lib.hid fun m h => Nat.le_trans (bf_len T h (m := m)) T.2.1
    have DW := Lib.hid DV
    clear hc hn hT T DV
    go_enter Try.func16, Try.ntmps16
    go_wp2_with (first
      | (go_at_call 11; refine V.out.mono ?_; rintro e w1 ⟨rfl, hB⟩; have b1 := Lib.hid hB; clear hB)
      | (go_at_call 34; refine (PL.out _ b1.out).mono ?_; rintro e w2 ⟨v, m, rfl, hO, hS, hl, hB⟩; obtain ⟨a0, c0, rfl, hg⟩ := ownP_slice hO; have G := Lib.hid hg; have b2 := Lib.hid (b1.out.trans (Below.mono hB b1.out.size)); have D := Lib.hid (DB.out m hS hl); have O := Lib.hid (BO.out m hS); have ll := LB.out m hS; clear hO hS hl hB hg))
    generalize hL : bf ks m = L at *
    clear hL
    go_loopw [4, 13] (fun dp ix wr => ∃ t : Nat, t ≤ L.length ∧ ix = .int .i64 t ∧ dp = .int .i64 ((mxTo (dep ks) (L.take t) : Nat) : Int) ∧ Below w2.heap.size w2 wr) (fun _ ix _ => L.length - (intOf ix).toNat)
    case atStart => exact ⟨0, Nat.zero_le _, rfl, rfl, Below.refl _ _⟩
    case round =>
      obtain ⟨t, ht, rfl, rfl, hB⟩ := hrel
      have BB := Lib.hid hB
      by_cases hlt : t < L.length
      · have hd : decide ((t : Int) < (L.length : Int)) = true := by simpa using hlt
        have hi := List.getElem?_eq_getElem hlt
        obtain ⟨g, u, rfl, hg1, hg2, hu, hr⟩ := G.out t _ hi
        have hin := DL.out _ (O.out _ (List.getElem_mem hlt))
        have MX := mxTo_snoc (dep ks) (L.take t) L[t]
        rw [← takeD_snoc hi] at MX
        have mle : mxTo (dep ks) (L.take t) ≤ 120 := mxTo_le.2 fun q hq => DL.out q (O.out q (List.mem_of_mem_take hq))
        generalize L[t] = i at *
        obtain ⟨va, vc, na, nc, ca, cc, rfl, p1, p2, p3⟩ := hu
        have d0 := (hB.cell (p := ⟨g, t * 5 + 0, none⟩) hg2).trans (hr 0 (by omega))
        have d1 := (hB.cell (p := ⟨g, t * 5 + 1, none⟩) hg2).trans (hr 1 (by omega))
        have d2 := (hB.cell (p := ⟨g, t * 5 + 2, none⟩) hg2).trans (hr 2 (by omega))
        have d3 := (hB.cell (p := ⟨g, t * 5 + 3, none⟩) hg2).trans (hr 3 (by omega))
        have d4 := (hB.cell (p := ⟨g, t * 5 + 4, none⟩) hg2).trans (hr 4 (by omega))
        simp only [Nat.add_zero, List.getElem?_cons_zero, List.getElem?_cons_succ] at d0 d1 d2 d3 d4
        have i3 : (0 : Int) ≤ (t : Int) := by omega
        have i4 : (t : Int) < (L.length : Int) := by omega
        have MX := Lib.hid MX
        clear hr p1 p2 p3 hB hi
        generalize (knAt ks i).vs.length = l1 at *
        generalize (knAt ks i).ns.length = l2 at *
        generalize (knAt ks i).cs.length = l3 at *
        generalize (knAt ks i).f = f1 at *
        generalize mxTo (dep ks) (L.take t) = x at *
        generalize dep ks i = y at *
        go_wp2
        refine ⟨⟨t + 1, hlt, by rw [Int.natCast_succ], ?_, below_new BB.out _⟩, by simp [intOf]; omega⟩
        rw [MX.out]
        split
        · rw [Nat.max_eq_right (by omega)]
        · rw [Nat.max_eq_left (by omega)]
      · have e : t = L.length := by omega
        subst e
        have hd : decide ((L.length : Int) < (L.length : Int)) = false := by simp
        have D9 := D.out
        rw [List.take_of_length_le (Nat.le_refl _), D9]
        clear D9
        have B9 := Lib.hid (b2.out.trans (Below.mono hB b2.out.size))
        clear hB
        go_wp2
        go_returns
        exact ⟨DW.out ▸ rfl, B9.out⟩
  · have hF : treeOk ks = false := by simpa using hT
    have DV : deepV ks = .tuple #[.int .i64 0, .int .i64 1] := by unfold deepV; rw [if_neg hT]
    rw [hF] at V
    have DW := Lib.hid DV
    clear hc hn hT hF DV
    go_enter Try.func16, Try.ntmps16
    go_wp2_with (go_at_call 11; refine V.out.mono ?_; rintro e w1 ⟨rfl, hB⟩; have b1 := Lib.hid hB; clear hB)
    go_returns
    exact ⟨DW.out ▸ rfl, b1.out⟩
end Go.Proofs.Ytdbkplfkilaoeac
