/- Several texts in one, as a claim has at most 60 files: Fat Cfl Cfs AreD CfI CfM NmM TxMk NmS SOf CfN. -/
import Derived.Test.YtbmjghkdhhcffaaCncC
import Derived.Test.YtbmjghkdhhcffaaSm
import Derived.Test.YtbmjghkdhhcffaaOth
import Derived.Test.YtbmjghkdhhcffaaNames
import Derived.Test.YtbmjghkdhhcffaaRowN
import Derived.Test.YtbmjghkdhhcffaaDeckI
import Derived.Deep.AppendLies
import Derived.Deep.DeepCutAuto
import Derived.Test.YtbmjghkdhhcffaaStK
import Derived.Deep.RegionHeld3
import Derived.Test.YtbmjghkdhhcffaaFind
import Derived.Test.YtbmjghkdhhcffaaStM
import Derived.Test.YtbmjghkdhhcffaaMarkC
import Derived.Test.YtbmjghkdhhcffaaStrs
import Derived.Test.YtbmjghkdhhcffaaQuiet
import Derived.Test.YtbmjghkdhhcffaaDeckS
import Derived.Test.YtbmjghkdhhcffaaBoxes
import Derived.Laws.StructEq
namespace Go.Proofs.Ytbmjghkdhhcffaa
open Go.ChangeShapes Go.WideShapes Go.ChangeAt Go.RowKit

/-- What has become of a card. -/
structure Ft where
  s : ByteArray
  x : St
  y : St
  z : St
def flatF : List Ft → List Value
  | [] => []
  | f :: fs => .string f.s :: .bool f.x.t :: .int .u64 f.x.a :: .int .u64 f.x.b :: .bool f.y.t :: .int .u64 f.y.a :: .int .u64 f.y.b :: .bool f.z.t :: .int .u64 f.z.a :: .int .u64 f.z.b :: flatF fs
theorem flatF_len : ∀ fs : List Ft, (flatF fs).length = fs.length * 10
  | [] => rfl
  | f :: fs => by simp only [flatF, List.length_cons, flatF_len fs]; omega
theorem flatF_app : ∀ (xs ys : List Ft), flatF (xs ++ ys) = flatF xs ++ flatF ys
  | [], _ => rfl
  | f :: fs, ys => by simp only [flatF, List.cons_append, flatF_app fs ys]
def OwnFts (B : Nat) (fs : List Ft) (v : Value) (w : World) : Prop := w.ownsRow B 139 10 v fs.length (flatF fs)
theorem ownFts_nil (B : Nat) (w : World) : OwnFts B [] (.slice none 0 0) w := World.ownsRow_nil w B _ 10
theorem ownFts_lt {B : Nat} {fs : List Ft} {v : Value} {w : World} (h : OwnFts B fs v w) : ∀ j, v.ownBlock = some j → B ≤ j := fun j hj => (World.ownsRow.lt h j hj).1
theorem ownFts_push {B : Nat} {xs : List Ft} {s : ByteArray} {x y z : St} {v : Value} {w : World} (h : w.ownsRow B 139 10 v (xs.length + 1) (flatF xs ++ [.string s, .bool x.t, .int .u64 x.a, .int .u64 x.b, .bool y.t, .int .u64 y.a, .int .u64 y.b, .bool z.t, .int .u64 z.a, .int .u64 z.b])) : OwnFts B (xs ++ [⟨s, x, y, z⟩]) v w := by
  unfold OwnFts; rw [flatF_app, List.length_append]; exact h
theorem ownFts_weaken {B B' : Nat} {fs : List Ft} {v : Value} {w : World} (h : OwnFts B fs v w) (hb : B' ≤ B) : OwnFts B' fs v w := by
  obtain ⟨h1, h2⟩ := h
  refine ⟨h1, ?_⟩
  rcases h2 with hn | ⟨g, cap, cur, rfl, hB, rest⟩
  · exact .inl hn
  · exact .inr ⟨g, cap, cur, rfl, Nat.le_trans hb hB, rest⟩
theorem info_fate : (Try.prog.info? 139).map (fun i => (i.zero, i.size, i.bytes)) = some (some (.agg #[.string ByteArray.empty, .bool false, .int .u64 0, .int .u64 0, .bool false, .int .u64 0, .int .u64 0, .bool false, .int .u64 0, .int .u64 0]), 10, 88) := by kernel_rfl
theorem new10 (w : World) (x0 x1 x2 x3 x4 x5 x6 x7 x8 x9 : Value) (t : TypeId) : ∀ j u, [x0, x1, x2, x3, x4, x5, x6, x7, x8, x9][j]? = some u → (w.alloc (.cells #[x0, x1, x2, x3, x4, x5, x6, x7, x8, x9] t)).cell? ((⟨w.heap.size, 0, none⟩ : Addr).add j) = some u := by
  intro j u h
  match j, h with
  | 0, h => simp at h; subst h; simp [Addr.add]
  | 1, h => simp at h; subst h; simp [Addr.add]
  | 2, h => simp at h; subst h; simp [Addr.add]
  | 3, h => simp at h; subst h; simp [Addr.add]
  | 4, h => simp at h; subst h; simp [Addr.add]
  | 5, h => simp at h; subst h; simp [Addr.add]
  | 6, h => simp at h; subst h; simp [Addr.add]
  | 7, h => simp at h; subst h; simp [Addr.add]
  | 8, h => simp at h; subst h; simp [Addr.add]
  | 9, h => simp at h; subst h; simp [Addr.add]

/-- One more name. -/
def ftStep (ps qs rs : List Cd) (fs : List Ft) (s : ByteArray) : List Ft := if hasN (fs.map Ft.s) s = true then fs else fs ++ [⟨s, stOf ps s, stOf qs s, stOf rs s⟩]
/-- The fates of the first n cards. -/
def ftTo (ps qs rs all : List Cd) : Nat → List Ft
  | 0 => []
  | n + 1 => ftStep ps qs rs (ftTo ps qs rs all n) (cdAt all n).s
theorem ftTo_old {ps qs rs all : List Cd} {n : Nat} (h : hasN ((ftTo ps qs rs all n).map Ft.s) (cdAt all n).s = true) : ftTo ps qs rs all (n + 1) = ftTo ps qs rs all n := if_pos h
theorem ftTo_new {ps qs rs all : List Cd} {n : Nat} (h : hasN ((ftTo ps qs rs all n).map Ft.s) (cdAt all n).s = false) : ftTo ps qs rs all (n + 1) = ftTo ps qs rs all n ++ [⟨(cdAt all n).s, stOf ps (cdAt all n).s, stOf qs (cdAt all n).s, stOf rs (cdAt all n).s⟩] := if_neg (by rw [h]; simp)
theorem ftTo_len (ps qs rs all : List Cd) : ∀ n, (ftTo ps qs rs all n).length ≤ n
  | 0 => Nat.le_refl _
  | n + 1 => by
    have ih := ftTo_len ps qs rs all n
    cases h : hasN ((ftTo ps qs rs all n).map Ft.s) (cdAt all n).s
    · rw [ftTo_new h, List.length_append]; simp; omega
    · rw [ftTo_old h]; omega
theorem namesIn_at {P : Program} {k e : TypeId} {w w' : World} {b : Nat} {ns : List ByteArray} (h : NamesIn P k e w b ns) (hb : w'.heap[b]? = w.heap[b]?) : NamesIn P k e w' b ns := by
  obtain ⟨D, hown, hm, hat⟩ := h
  refine ⟨D, ?_, hm, hat⟩
  obtain ⟨es, clock, hc, F, hs, hD⟩ := hown
  exact ⟨es, clock, hb.trans hc, F, hs, hD⟩
theorem namesIn_lt {P : Program} {k e : TypeId} {w : World} {b : Nat} {ns : List ByteArray} (h : NamesIn P k e w b ns) : b < w.heap.size := by
  obtain ⟨D, hown, _⟩ := h
  exact Go.World.ownsMap.lt hown
theorem stsO_at {w w' : World} {b : Nat} {cs : List Cd} (h : StsO w b cs) (hb : w'.heap[b]? = w.heap[b]?) : StsO w' b cs := by
  obtain ⟨es, clock, hc, F, hs, hD⟩ := h
  exact ⟨es, clock, hb.trans hc, F, hs, hD⟩
theorem stsO_lt {w : World} {b : Nat} {cs : List Cd} (h : StsO w b cs) : b < w.heap.size := Go.World.ownsMap.lt h
theorem st_lookF {w : World} {b : Nat} {cs : List Cd} (h : StsO w b cs) {s : ByteArray} (hs : s.size ≤ maxLen) : (Instr.lookup 140 (.map (some b)) (.string s) false).run Try.prog w = .ok (stV (stOf cs s)) w := by
  obtain ⟨v, ps, hr, hv⟩ := Go.World.ownsMap.lookup h (Maps.string_keyed Try.underlying9) Try.underlying140 (zero_state w) (stR_of st0) (show keyOf Try.prog 9 (.string s) = some (kS s) from Go.WideMaps.keyOf_string_mk Try.underlying9 hs)
  rw [dSt_at] at hv
  obtain rfl := stR_inv hv
  exact hr
theorem oth_grown {g : Nat} {a b c : World} (h : Oth g a b) (hg : b.grownBy c (some g)) : Oth g a c := h.trans ⟨hg.os, hg.tape, hg.output, hg.size, fun j hj hl => hg.block j hl (fun e => hj (Option.some.inj e))⟩
theorem oth_own {g : Nat} {a b c : World} {r : Option Nat} (h : Oth g a b) (hg : b.grownBy c r) (hr : ∀ k, r = some k → a.heap.size ≤ k) : Oth g a c :=
  ⟨hg.os.trans h.os, hg.tape.trans h.tape, hg.output.trans h.output, Nat.le_trans h.size hg.size, fun j hj hl => (hg.block j (Nat.lt_of_lt_of_le hl h.size) (fun e => absurd (hr j e.symm) (by omega))).trans (h.block j hj hl)⟩
theorem oth_new {g : Nat} {a b : World} (h : Oth g a b) (o : Obj) : Oth g a (b.alloc o) := h.trans (Oth.of (below_new (Below.refl _ _) _))
theorem lot3 {w : World} {n : Nat} (hn : n = w.heap.size) {ps qs rs : List Cd} {g1 g2 g3 c1 c2 c3 : Nat} (h1 : CellsC w (some ⟨g1, 0, none⟩) ps) (h2 : CellsC w (some ⟨g2, 0, none⟩) qs) (h3 : CellsC w (some ⟨g3, 0, none⟩) rs) :
    LotC (w.alloc (.cells #[.slice (some ⟨g1, 0, none⟩) ps.length c1, .slice (some ⟨g2, 0, none⟩) qs.length c2, .slice (some ⟨g3, 0, none⟩) rs.length c3] 27)) (some ⟨n, 0, none⟩) [ps, qs, rs] := by
  subst hn
  intro i hi
  have hlt : w.heap.size < (w.alloc (.cells #[.slice (some ⟨g1, 0, none⟩) ps.length c1, .slice (some ⟨g2, 0, none⟩) qs.length c2, .slice (some ⟨g3, 0, none⟩) rs.length c3] 27)).heap.size := by simp
  match i, hi with
  | 0, _ => exact ⟨_, _, g1, c1, rfl, hlt, by simp [csAt], cellsC_below h1 (below_new (Below.refl _ _) _)⟩
  | 1, _ => exact ⟨_, _, g2, c2, rfl, hlt, by simp [csAt], cellsC_below h2 (below_new (Below.refl _ _) _)⟩
  | 2, _ => exact ⟨_, _, g3, c3, rfl, hlt, by simp [csAt], cellsC_below h3 (below_new (Below.refl _ _) _)⟩
  | n + 3, h => exact absurd h (by simp)
/-- All cards of three decks. -/
def all3 (ps qs rs : List Cd) : List Cd := flatK [ps, qs, rs] 3
theorem all3_eq (ps qs rs : List Cd) : all3 ps qs rs = ps ++ qs ++ rs := by show [] ++ ps ++ qs ++ rs = _; rw [List.nil_append]
theorem all3_fits {ps qs rs : List Cd} (h1 : ∀ i, i < ps.length → (cdAt ps i).fits) (h2 : ∀ i, i < qs.length → (cdAt qs i).fits) (h3 : ∀ i, i < rs.length → (cdAt rs i).fits) : ∀ i, i < (all3 ps qs rs).length → (cdAt (all3 ps qs rs) i).fits := by
  have key : ∀ (xs : List Cd), (∀ i, i < xs.length → (cdAt xs i).fits) ↔ ∀ x ∈ xs, x.fits := fun xs => by
    constructor
    · intro h x hx
      obtain ⟨i, hi, rfl⟩ := List.getElem_of_mem hx
      have := h i hi
      unfold cdAt at this
      rwa [List.getD, List.getElem?_eq_getElem hi] at this
    · intro h i hi
      unfold cdAt
      rw [List.getD, List.getElem?_eq_getElem hi]
      exact h _ (List.getElem_mem hi)
  rw [all3_eq, key]
  rw [key] at h1 h2 h3
  intro x hx
  rcases List.mem_append.1 hx with e | e
  · rcases List.mem_append.1 e with e | e
    · exact h1 x e
    · exact h2 x e
  · exact h3 x e
/-- Fates of the call's own are handed back. -/
def FtR (fs : List Ft) (w : World) (e : Ending) (w' : World) : Prop := ∃ v, e = .returned v ∧ OwnFts w.heap.size fs v w' ∧ Below w.heap.size w w'

set_option maxRecDepth 100000 in
set_option maxHeartbeats 1600000 in
theorem iFates_any (g1 g2 g3 : Nat) (ps qs rs : List Cd) (c1 c2 c3 : Nat) (w : World) (h1 : CardsIn w (some ⟨g1, 0, none⟩) ps) (h2 : CardsIn w (some ⟨g2, 0, none⟩) qs) (h3 : CardsIn w (some ⟨g3, 0, none⟩) rs) (l1 : ps.length ≤ 80) (l2 : qs.length ≤ 80) (l3 : rs.length ≤ 80) :
    Calls Try.prog 46 #[.slice (some ⟨g1, 0, none⟩) ps.length c1, .slice (some ⟨g2, 0, none⟩) qs.length c2, .slice (some ⟨g3, 0, none⟩) rs.length c3] w (FtR (ftTo ps qs rs (all3 ps qs rs) (all3 ps qs rs).length) w) := by
  obtain ⟨i0, hi, hz0, hz1, hz2⟩ := info_parts info_fate
  have H1 := Lib.hid h1
  have H2 := Lib.hid h2
  have H3 := Lib.hid h3
  have S1 := Lib.hid fun W h => iStates_any (some ⟨g1, 0, none⟩) ps c1 W h (by omega)
  have S2 := Lib.hid fun W h => iStates_any (some ⟨g2, 0, none⟩) qs c2 W h (by omega)
  have S3 := Lib.hid fun W h => iStates_any (some ⟨g3, 0, none⟩) rs c3 W h (by omega)
  have la : (all3 ps qs rs).length ≤ 240 := by rw [all3_eq]; simp; omega
  have CC := Lib.hid fun al W h => (show Calls Try.prog 88 #[.slice al 3 3] W (CdR (all3 ps qs rs) W) from concatC_any al [ps, qs, rs] 3 W h (Nat.le_refl 3) (by show 0 + ps.length + qs.length + rs.length ≤ 300; omega))
  have FA := Lib.hid (all3_fits (fun i hi => (h1 i hi).1) (fun i hi => (h2 i hi).1) (fun i hi => (h3 i hi).1))
  have L3 := Lib.hid fun (W : World) (hB : Below w.heap.size w W) (n : Nat) (hn : n = W.heap.size) => lot3 hn (c1 := c1) (c2 := c2) (c3 := c3) (cellsC_below (fun i hi => (h1 i hi).2) hB) (cellsC_below (fun i hi => (h2 i hi).2) hB) (cellsC_below (fun i hi => (h3 i hi).2) hB)
  clear h1 h2 h3 l1 l2 l3
  have hmm := fun W => run_makeMap (P := Try.prog) 142 W
  have tok1 : True := trivial
  have tok2 : True := trivial
  generalize all3 ps qs rs = all at *
  go_enter Try.func46, Try.ntmps46
  go_wp2_with (first
    | (go_at_call 87; have _t := tok1; clear _t tok1; refine (S1.out _ H1.out).mono ?_; rintro e w2 ⟨m1, rfl, hM, hB⟩; have b2 := Lib.hid hB; have M1 := Lib.hid hM; clear hM hB)
    | (go_at_call 87; have _t := tok2; clear _t tok2; refine (S2.out _ (cardsIn_below H2.out b2.out)).mono ?_; rintro e w3 ⟨m2, rfl, hM, hB⟩; have b3 := Lib.hid (b2.out.trans (Below.mono hB b2.out.size)); have N1 := Lib.hid (M1.out.below hB); have M2 := Lib.hid hM; clear hM hB)
    | (go_at_call 87; refine (S3.out _ (cardsIn_below H3.out b3.out)).mono ?_; rintro e w4 ⟨m3, rfl, hM, hB⟩; have b4 := Lib.hid (b3.out.trans (Below.mono hB b3.out.size)); have P1 := Lib.hid (N1.out.below hB); have P2 := Lib.hid (M2.out.below hB); have P3 := Lib.hid hM; clear hM hB)
    | (go_at_call 88; refine (CC.out (some ⟨w4.heap.size + 1, 0, none⟩) _ (L3.out (w4.alloc (.map #[] 0)) (below_new b4.out _) (w4.heap.size + 1) (by simp))).mono ?_; rintro e w5 ⟨v5, rfl, hO, hB⟩; obtain ⟨a5, c5, hv5, hi5⟩ := ownCards_in hO; subst hv5; have O5 := Lib.hid hO; have I5 := Lib.hid hi5; have B5 := Lib.hid hB; clear hO hi5 hB))
  have NM0 := Lib.hid ((namesIn_made Try.prog 9 4 w4).below (below_new (Below.refl _ _) (.cells #[.slice (some ⟨g1, 0, none⟩) ps.length c1, .slice (some ⟨g2, 0, none⟩) qs.length c2, .slice (some ⟨g3, 0, none⟩) rs.length c3] 27)))
  have NM := Lib.hid (NM0.out.below B5.out)
  have x1 : m1 < w4.heap.size := stsO_lt P1.out
  have x2 : m2 < w4.heap.size := stsO_lt P2.out
  have x3 : m3 < w4.heap.size := stsO_lt P3.out
  have A5 := Lib.hid (Below.trans (below_new (below_new (Below.refl w4.heap.size w4) (.map #[] 0)) (.cells #[.slice (some ⟨g1, 0, none⟩) ps.length c1, .slice (some ⟨g2, 0, none⟩) qs.length c2, .slice (some ⟨g3, 0, none⟩) rs.length c3] 27)) (B5.out.mono (by simp <;> omega)))
  have Q1 := Lib.hid (P1.out.below A5.out)
  have Q2 := Lib.hid (P2.out.below A5.out)
  have Q3 := Lib.hid (P3.out.below A5.out)
  have x4 : w.heap.size ≤ w4.heap.size := b4.out.size
  have BW := Lib.hid (b4.out.trans (Below.mono A5.out x4))
  have x5 : w4.heap.size + 2 ≤ w5.heap.size := by have := B5.out.size; simpa using this
  have x6 : ∀ j, (Value.slice a5 all.length c5).ownBlock = some j → w4.heap.size + 2 ≤ j := fun j hj => by have := ownCards_lt O5.out j hj; simpa using this
  clear NM0 A5 P1 P2 P3 N1 M1 M2 b2 b3 b4 B5 O5 S1 S2 S3 H1 H2 H3 CC L3 hmm
  generalize w4.heap.size = nm at *
  go_loopw [10, 27] (fun v i wr => ∃ j : Nat, j ≤ all.length ∧ i = .int .i64 (j : Int) ∧ OwnFts w5.heap.size (ftTo ps qs rs all j) v wr ∧ NamesIn Try.prog 9 4 wr nm ((ftTo ps qs rs all j).map Ft.s) ∧ Oth nm w5 wr) (fun _ i _ => all.length - (intOf i).toNat)
  case atStart => exact ⟨0, Nat.zero_le _, rfl, ownFts_nil _ _, NM.out, Oth.refl _ _⟩
  case round =>
    obtain ⟨j, hj, rfl, hO, hN, hT⟩ := hrel
    have OO := Lib.hid hO
    have NN := Lib.hid hN
    have TT := Lib.hid hT
    clear hO hN
    by_cases hjl : j < all.length
    · have hd : decide ((j : Int) < (all.length : Int)) = true := by simpa using hjl
      obtain ⟨b1, o1, rfl, hb1, p0, p1, p2⟩ := I5.out j hjl
      have hft := (FA.out j hjl).1
      have ne : b1 ≠ nm := by have := x6 b1 rfl; omega
      have y5 := hT.size
      have d0 := (World.cell?_of_block (a := ⟨b1, o1 + j * 3, none⟩) (hT.block b1 ne hb1)).trans p0
      have d1 := (World.cell?_of_block (a := ⟨b1, o1 + j * 3 + 1, none⟩) (hT.block b1 ne hb1)).trans p1
      have d2 := (World.cell?_of_block (a := ⟨b1, o1 + j * 3 + 2, none⟩) (hT.block b1 ne hb1)).trans p2
      have i1 : (0 : Int) ≤ (j : Int) := by omega
      have i2 : (j : Int) < (all.length : Int) := by omega
      have ln := ftTo_len ps qs rs all j
      have N1 := NN.out.below (below_new (Below.refl wr.heap.size wr) (.cells #[.string (cdAt all j).s, .int .u64 (cdAt all j).a, .int .u64 (cdAt all j).b] 69))
      have L := N1.asked Try.underlying142 Try.underlying9 Try.underlying4 (zero_bool _) _ hft
      clear p0 p1 p2 hT
      cases hn : hasN ((ftTo ps qs rs all j).map Ft.s) (cdAt all j).s
      · obtain ⟨w6, U, N6, hg⟩ := N1.added Try.underlying142 Try.underlying9 Try.underlying4 _ hft (by rw [List.length_map]; unfold maxLen; omega)
        have T6 := Lib.hid (oth_grown (oth_new TT.out (.cells #[.string (cdAt all j).s, .int .u64 (cdAt all j).a, .int .u64 (cdAt all j).b] 69)) hg)
        have k1 := st_lookF (stsO_at Q1.out (T6.out.block m1 (by omega) (by omega))) hft
        have k2 := st_lookF (stsO_at Q2.out (T6.out.block m2 (by omega) (by omega))) hft
        have k3 := st_lookF (stsO_at Q3.out (T6.out.block m3 (by omega) (by omega))) hft
        have O6 := Lib.hid (row_grown (World.ownsRow.alloc OO.out (.cells #[.string (cdAt all j).s, .int .u64 (cdAt all j).a, .int .u64 (cdAt all j).b] 69)) hg (fun q hq e => by cases e; have := ownFts_lt OO.out _ hq; omega))
        have cx : ∀ q, w6.cell? ⟨wr.heap.size, q, none⟩ = (wr.alloc (.cells #[.string (cdAt all j).s, .int .u64 (cdAt all j).a, .int .u64 (cdAt all j).b] 69)).cell? ⟨wr.heap.size, q, none⟩ := fun q => World.cell?_of_block (a := ⟨wr.heap.size, q, none⟩) (hg.block wr.heap.size (by simp) (fun e => by cases e; omega))
        have c0 : w6.cell? ⟨wr.heap.size, 0, none⟩ = some (.string (cdAt all j).s) := (cx 0).trans (by simp)
        have z6 : wr.heap.size < w6.heap.size := by have := hg.size; simp at this; omega
        have NX := Lib.hid (ftTo_new hn)
        have N6 := Lib.hid N6
        rw [hn] at L
        clear hn cx hg N1 hft NN TT OO
        generalize ftTo ps qs rs all j = fs at *
        generalize stOf ps (cdAt all j).s = u1 at *
        generalize stOf qs (cdAt all j).s = u2 at *
        generalize stOf rs (cdAt all j).s = u3 at *
        obtain ⟨t1, p1, q1⟩ := u1
        obtain ⟨t2, p2, q2⟩ := u2
        obtain ⟨t3, p3, q3⟩ := u3
        simp only [stV] at k1 k2 k3
        generalize cdAt all j = c at *
        obtain ⟨s, xa, xb⟩ := c
        simp only at d0 d1 d2 NX N6 U L k1 k2 k3 c0 O6
        go_wp2_with (at_builtin; refine wpList_append_lies _ rfl _ _ 79 rfl w5.heap.size 139 i0 (.agg #[.string ByteArray.empty, .bool false, .int .u64 0, .int .u64 0, .bool false, .int .u64 0, .int .u64 0, .bool false, .int .u64 0, .int .u64 0]) 10 88 Try.underlying79 hi hz0 hz1 hz2 rfl (by decide) _ _ _ rfl (World.ownsRow.alloc O6.out _) ⟨w6.heap.size, 0, none⟩ 1 1 [.string s, .bool t1, .int .u64 p1, .int .u64 q1, .bool t2, .int .u64 p2, .int .u64 q2, .bool t3, .int .u64 p3, .int .u64 q3] rfl rfl (new10 _ _ _ _ _ _ _ _ _ _ _ _) (fun x hx => by simp at hx; rcases hx with rfl | rfl | rfl | rfl | rfl | rfl | rfl | rfl | rfl | rfl <;> rfl) (by omega) (by unfold maxLen; omega) (by omega) (by simp; have := T6.out.size; omega) _ rfl ?_; intro gg cap2 w8 hown hgrow _ _; have P := Lib.hid (ownFts_push (x := ⟨t1, p1, q1⟩) (y := ⟨t2, p2, q2⟩) (z := ⟨t3, p3, q3⟩) hown); have G := Lib.hid hgrow; clear hown hgrow)
        have T8 := oth_own (oth_new T6.out (.cells #[.string s, .bool t1, .int .u64 p1, .int .u64 q1, .bool t2, .int .u64 p2, .int .u64 q2, .bool t3, .int .u64 p3, .int .u64 q3] 139)) G.out (fun k hk => ownFts_lt (fs := fs) O6.out k hk)
        refine ⟨⟨j + 1, hjl, by rw [Int.natCast_succ], by rw [NX.out]; exact P.out, ?_, T8⟩, by (simp [intOf]) <;> omega⟩
        rw [NX.out, List.map_append]
        have N7 := N6.out.below (below_new (Below.refl w6.heap.size w6) (.cells #[.string s, .bool t1, .int .u64 p1, .int .u64 q1, .bool t2, .int .u64 p2, .int .u64 q2, .bool t3, .int .u64 p3, .int .u64 q3] 139))
        exact namesIn_at N7 (G.out.block nm (namesIn_lt N7) (fun e => by have := ownFts_lt (fs := fs) O6.out nm e.symm; omega))
      · have NX := Lib.hid (ftTo_old hn)
        have N2 := Lib.hid N1
        have T2 := Lib.hid (oth_new TT.out (.cells #[.string (cdAt all j).s, .int .u64 (cdAt all j).a, .int .u64 (cdAt all j).b] 69))
        have O2 := Lib.hid (World.ownsRow.alloc OO.out (.cells #[.string (cdAt all j).s, .int .u64 (cdAt all j).a, .int .u64 (cdAt all j).b] 69))
        rw [hn] at L
        clear hn N1 hft NN TT OO
        go_wp2
        exact ⟨⟨j + 1, hjl, by rw [Int.natCast_succ], by rw [NX.out]; exact O2.out, by rw [NX.out]; exact N2.out, T2.out⟩, by (simp [intOf]) <;> omega⟩
    · have e : j = all.length := by omega
      subst e
      have hd : decide ((all.length : Int) < (all.length : Int)) = false := by simp
      clear hT
      go_wp2
      go_ret
      exact ⟨_, rfl, ownFts_weaken OO.out BW.out.size, BW.out.trans (Below.mono (TT.out.below (by omega)) x4)⟩
end Go.Proofs.Ytbmjghkdhhcffaa

namespace Go.Proofs.Ytbmjghkdhhcffaa
open Go.ChangeShapes Go.WideShapes Go.ChangeAt Go.RowKit

theorem step_put {ops : Array Oper} {o : Oper} {a : Act} {w : World} {K : Act → World → Prop} {Q : Exit → Act → World → Prop} {E : Prop} {b : Nat} {xs : List St} (hS : StSet w b xs) (hn : xs.length < 100) (hgd : o.guard = none) (m k x : Operand)
    (ho : o.op = .insert 179 m k x) (s : St) (hs : StFit s) (hm : a.eval m = .map (some b)) (hk : a.eval k = stV s) (hx : a.eval x = .bool true)
    (h : ∀ w', StSet w' b (s :: xs) → w.grownBy w' (some b) → K (a.put o.dst undef) w') :
    if Region.wanted o (yielded ops a.tmps) = true then Oper.wp Try.prog o a w K Q else E := by
  have hw : Region.wanted o (yielded ops a.tmps) = true := by simp [Region.wanted, hgd]
  rw [if_pos hw]
  obtain ⟨w', hr, h2, h3⟩ := hS.put s hs hn
  unfold Oper.wp execOp
  simp only [ho, hm, hk, hx, Sem.run_bind, hr, Result.andThen_ok, Sem.run_pure]
  unfold Oper.upon
  exact h w' h2 h3
set_option maxRecDepth 100000 in
theorem upon_put {o : Oper} {a : Act} {w : World} {K : Act → World → Prop} {Q : Exit → Act → World → Prop} {b : Nat} {xs : List St} (hS : StSet w b xs) (hn : xs.length < 100) {t : Bool} {p q : Int} (hs : StFit ⟨t, p, q⟩)
    (h : ∀ w', StSet w' b (⟨t, p, q⟩ :: xs) → w.grownBy w' (some b) → K (a.put o.dst undef) w') :
    Oper.upon Try.prog o a K Q (((Instr.mapUpdate 179 (.map (some b)) (.agg #[.bool t, .int .u64 p, .int .u64 q]) (.bool true)).run Try.prog w).andThen fun _ w' => .ok .skip w') := by
  obtain ⟨w', hr, h2, h3⟩ := hS.put ⟨t, p, q⟩ hs hn
  unfold stV at hr
  rw [hr, Result.andThen_ok]
  exact h w' h2 h3
theorem stSet_drew {w : World} {b : Nat} {xs : List St} (h : StSet w b xs) : StSet w.drew b xs := h.at rfl
theorem bdrewF {B : Nat} {w W : World} (h : Below B w W) : Below B w W.drew := ⟨h.os, h.tape, h.output, h.size, h.block⟩
theorem cnt3p (x y z : St) : (((cntSt [x, y, z] : Nat) : Int) == 3) = isC x y z ∧ (((cntSt [x, z, y] : Nat) : Int) == 3) = isC x y z ∧ (((cntSt [y, x, z] : Nat) : Int) == 3) = isC x y z ∧ (((cntSt [y, z, x] : Nat) : Int) == 3) = isC x y z ∧ (((cntSt [z, x, y] : Nat) : Int) == 3) = isC x y z ∧ (((cntSt [z, y, x] : Nat) : Int) == 3) = isC x y z := by
  simp only [cnt3]
  unfold isC
  rw [eqSt_comm z y, eqSt_comm y x, eqSt_comm z x]
  cases eqSt x y <;> cases eqSt x z <;> cases eqSt y z <;> simp

set_option maxRecDepth 100000 in
set_option maxHeartbeats 3200000 in
theorem iConf_any (s : ByteArray) (t1 t2 t3 : Bool) (p1 q1 p2 q2 p3 q3 : Int) (f1 : StFit ⟨t1, p1, q1⟩) (f2 : StFit ⟨t2, p2, q2⟩) (f3 : StFit ⟨t3, p3, q3⟩) (w : World) :
    Calls Try.prog 86 #[.agg #[.string s, .bool t1, .int .u64 p1, .int .u64 q1, .bool t2, .int .u64 p2, .int .u64 q2, .bool t3, .int .u64 p3, .int .u64 q3]] w fun e w' => e = .returned (.bool (isC ⟨t1, p1, q1⟩ ⟨t2, p2, q2⟩ ⟨t3, p3, q3⟩)) ∧ Below w.heap.size w w' := by
  have NW := Lib.hid fun j u h => new10 w (.string s) (.bool t1) (.int .u64 p1) (.int .u64 q1) (.bool t2) (.int .u64 p2) (.int .u64 q2) (.bool t3) (.int .u64 p3) (.int .u64 q3) 139 j u h
  have hmm := fun W => run_makeMap (P := Try.prog) 179 W
  have CN := Lib.hid (cnt3p ⟨t1, p1, q1⟩ ⟨t2, p2, q2⟩ ⟨t3, p3, q3⟩)
  have F1 := Lib.hid f1
  have F2 := Lib.hid f2
  have F3 := Lib.hid f3
  clear f1 f2 f3
  generalize isC ⟨t1, p1, q1⟩ ⟨t2, p2, q2⟩ ⟨t3, p3, q3⟩ = rr at *
  go_enter Try.func86, Try.ntmps86
  go_upto_region 1 with fail
  have KE : Hid (∀ W, Below (w.heap.size + 1) (w.alloc (.cells #[.string s, .bool t1, .int .u64 p1, .int .u64 q1, .bool t2, .int .u64 p2, .int .u64 q2, .bool t3, .int .u64 p3, .int .u64 q3] 139)) W → W.cell? ⟨w.heap.size, 1, none⟩ = some (.bool t1) ∧ W.cell? ⟨w.heap.size, 2, none⟩ = some (.int .u64 p1) ∧ W.cell? ⟨w.heap.size, 3, none⟩ = some (.int .u64 q1) ∧ W.cell? ⟨w.heap.size, 4, none⟩ = some (.bool t2) ∧ W.cell? ⟨w.heap.size, 5, none⟩ = some (.int .u64 p2) ∧ W.cell? ⟨w.heap.size, 6, none⟩ = some (.int .u64 q2) ∧ W.cell? ⟨w.heap.size, 7, none⟩ = some (.bool t3) ∧ W.cell? ⟨w.heap.size, 8, none⟩ = some (.int .u64 p3) ∧ W.cell? ⟨w.heap.size, 9, none⟩ = some (.int .u64 q3)) := Lib.hid fun W hW => by
    have e : ∀ q, W.cell? ⟨w.heap.size, q, none⟩ = (w.alloc (.cells #[.string s, .bool t1, .int .u64 p1, .int .u64 q1, .bool t2, .int .u64 p2, .int .u64 q2, .bool t3, .int .u64 p3, .int .u64 q3] 139)).cell? ⟨w.heap.size, q, none⟩ := fun q => World.cell?_of_block (a := ⟨w.heap.size, q, none⟩) (hW.block w.heap.size (by omega))
    refine ⟨?_, ?_, ?_, ?_, ?_, ?_, ?_, ?_, ?_⟩ <;> (rw [e]; simp)
  have MD : Hid (StSet ((w.alloc (.cells #[.string s, .bool t1, .int .u64 p1, .int .u64 q1, .bool t2, .int .u64 p2, .int .u64 q2, .bool t3, .int .u64 p3, .int .u64 q3] 139)).alloc (.map #[] 0)) (w.heap.size + 1) []) := Lib.hid (by have h := stSet_made (w.alloc (.cells #[.string s, .bool t1, .int .u64 p1, .int .u64 q1, .bool t2, .int .u64 p2, .int .u64 q2, .bool t3, .int .u64 p3, .int .u64 q3] 139)); rw [show (w.alloc (.cells #[.string s, .bool t1, .int .u64 p1, .int .u64 q1, .bool t2, .int .u64 p2, .int .u64 q2, .bool t3, .int .u64 p3, .int .u64 q3] 139)).heap.size = w.heap.size + 1 by simp] at h; exact h)
  have MB : Hid (Below (w.heap.size + 1) (w.alloc (.cells #[.string s, .bool t1, .int .u64 p1, .int .u64 q1, .bool t2, .int .u64 p2, .int .u64 q2, .bool t3, .int .u64 p3, .int .u64 q3] 139)) ((w.alloc (.cells #[.string s, .bool t1, .int .u64 p1, .int .u64 q1, .bool t2, .int .u64 p2, .int .u64 q2, .bool t3, .int .u64 p3, .int .u64 q3] 139)).alloc (.map #[] 0))) := Lib.hid (by have h := below_new (Below.refl (w.alloc (.cells #[.string s, .bool t1, .int .u64 p1, .int .u64 q1, .bool t2, .int .u64 p2, .int .u64 q2, .bool t3, .int .u64 p3, .int .u64 q3] 139)).heap.size (w.alloc (.cells #[.string s, .bool t1, .int .u64 p1, .int .u64 q1, .bool t2, .int .u64 p2, .int .u64 q2, .bool t3, .int .u64 p3, .int .u64 q3] 139))) (.map #[] 0); rw [show (w.alloc (.cells #[.string s, .bool t1, .int .u64 p1, .int .u64 q1, .bool t2, .int .u64 p2, .int .u64 q2, .bool t3, .int .u64 p3, .int .u64 q3] 139)).heap.size = w.heap.size + 1 by simp] at h; exact h)
  go_region_held3 (fun w' => w'.cell? ⟨w.heap.size, 1, none⟩ = some (.bool t1) ∧ w'.cell? ⟨w.heap.size, 2, none⟩ = some (.int .u64 p1) ∧ w'.cell? ⟨w.heap.size, 3, none⟩ = some (.int .u64 q1) ∧ w'.cell? ⟨w.heap.size, 4, none⟩ = some (.bool t2) ∧ w'.cell? ⟨w.heap.size, 5, none⟩ = some (.int .u64 p2) ∧ w'.cell? ⟨w.heap.size, 6, none⟩ = some (.int .u64 q2) ∧ w'.cell? ⟨w.heap.size, 7, none⟩ = some (.bool t3) ∧ w'.cell? ⟨w.heap.size, 8, none⟩ = some (.int .u64 p3) ∧ w'.cell? ⟨w.heap.size, 9, none⟩ = some (.int .u64 q3))
    (first | exact KE.out _ bb.out | exact KE.out _ MB.out | exact KE.out _ (bdrewF MB.out) | exact KE.out _ (Below.refl _ _) | exact KE.out _ (bdrewF (Below.refl _ _)) | go_keep)
    (first
    | (refine upon_put SS.out (by simp) F1.out ?_; intro w2 hs hg; have bN := Lib.hid (Below.grown bb.out hg (by have h := bb.out.size; simp at h; omega) (fun k hk => by cases hk; simp)); clear SS bb; have SS := Lib.hid hs; have bb := bN; clear hs hg bN)
    | (refine upon_put SS.out (by simp) F2.out ?_; intro w2 hs hg; have bN := Lib.hid (Below.grown bb.out hg (by have h := bb.out.size; simp at h; omega) (fun k hk => by cases hk; simp)); clear SS bb; have SS := Lib.hid hs; have bb := bN; clear hs hg bN)
    | (refine upon_put SS.out (by simp) F3.out ?_; intro w2 hs hg; have bN := Lib.hid (Below.grown bb.out hg (by have h := bb.out.size; simp at h; omega) (fun k hk => by cases hk; simp)); clear SS bb; have SS := Lib.hid hs; have bb := bN; clear hs hg bN)
    | (refine upon_put (stSet_drew MD.out) (by simp) F1.out ?_; intro w2 hs hg; have bb := Lib.hid (Below.grown (B := w.heap.size + 1) (bdrewF MB.out) hg (by simp) (fun k hk => by cases hk; simp)); have SS := Lib.hid hs; clear hs hg)
    | (refine upon_put (stSet_drew MD.out) (by simp) F2.out ?_; intro w2 hs hg; have bb := Lib.hid (Below.grown (B := w.heap.size + 1) (bdrewF MB.out) hg (by simp) (fun k hk => by cases hk; simp)); have SS := Lib.hid hs; clear hs hg)
    | (refine upon_put (stSet_drew MD.out) (by simp) F3.out ?_; intro w2 hs hg; have bb := Lib.hid (Below.grown (B := w.heap.size + 1) (bdrewF MB.out) hg (by simp) (fun k hk => by cases hk; simp)); have SS := Lib.hid hs; clear hs hg))
  all_goals have L := fun ty => SS.out.count ty
  all_goals obtain ⟨n1, n2, n3, n4, n5, n6⟩ := CN.out
  all_goals go_wp2
  all_goals go_returns
  all_goals exact ⟨rfl, (below_new (Below.refl w.heap.size w) _).trans (Below.mono bb.out (by omega))⟩
end Go.Proofs.Ytbmjghkdhhcffaa

namespace Go.Proofs.Ytbmjghkdhhcffaa
open Go.ChangeShapes Go.WideShapes Go.ChangeAt Go.RowKit

def ftAt (fs : List Ft) (i : Nat) : Ft := fs.getD i ⟨ByteArray.empty, st0, st0, st0⟩
theorem flatF_get : ∀ (fs : List Ft) (i k : Nat), i < fs.length → k < 10 → (flatF fs)[i * 10 + k]? = (flatF [ftAt fs i])[k]?
  | [], i, _, h, _ => absurd h (Nat.not_lt_zero _)
  | f :: fs, 0, k, _, hk => by
    show (flatF ([f] ++ fs))[0 * 10 + k]? = (flatF [f])[k]?
    rw [flatF_app, Nat.zero_mul, Nat.zero_add, List.getElem?_append_left (by rw [flatF_len]; exact hk)]
  | f :: fs, i + 1, k, h, hk => by
    show (flatF ([f] ++ fs))[(i + 1) * 10 + k]? = (flatF [ftAt fs i])[k]?
    rw [flatF_app, List.getElem?_append_right (by rw [flatF_len]; show 10 ≤ _; omega), flatF_len, ← flatF_get fs i k (by simpa using h) hk]
    congr 1
    show (i + 1) * 10 + k - 1 * 10 = i * 10 + k
    omega
/-- The cells of fates. -/
def CellsF (w : World) (a : Option Addr) (fs : List Ft) : Prop := ∀ i, i < fs.length → ∃ b off, a = some ⟨b, off, none⟩ ∧ b < w.heap.size ∧ ∀ k, k < 10 → w.cell? ⟨b, off + i * 10 + k, none⟩ = (flatF [ftAt fs i])[k]?
theorem ownFts_in {B : Nat} {fs : List Ft} {v : Value} {w : World} (h : OwnFts B fs v w) : ∃ a c, v = .slice a fs.length c ∧ CellsF w a fs := by
  have h0 := h
  obtain ⟨_, h2⟩ := h
  rcases h2 with ⟨rfl, hn⟩ | ⟨g, cap, cur, rfl, hb, hg, _⟩
  · exact ⟨none, 0, by rw [hn], fun i hi => by omega⟩
  · exact ⟨_, cap, rfl, fun i hi => ⟨g, 0, rfl, (Array.getElem?_eq_some_iff.1 hg).1, fun k hk => by rw [Nat.zero_add, World.ownsRow.cellAt h0 _ (by omega)]; exact flatF_get fs i k hi hk⟩⟩
theorem cellsF_below {w w' : World} {a : Option Addr} {fs : List Ft} (h : CellsF w a fs) (hb : Below w.heap.size w w') : CellsF w' a fs := fun i hi => by
  obtain ⟨b, off, ha, hlt, hc⟩ := h i hi
  exact ⟨b, off, ha, Nat.lt_of_lt_of_le hlt hb.size, fun k hk => (hb.cell hlt).trans (hc k hk)⟩
/-- Fates that can be. -/
def FtFit (f : Ft) : Prop := StFit f.x ∧ StFit f.y ∧ StFit f.z
/-- The names in conflict among the first n. -/
def cnL (fs : List Ft) : Nat → List ByteArray
  | 0 => []
  | n + 1 => if isC (ftAt fs n).x (ftAt fs n).y (ftAt fs n).z = true then cnL fs n ++ [(ftAt fs n).s] else cnL fs n
theorem cnL_yes {fs : List Ft} {n : Nat} (h : isC (ftAt fs n).x (ftAt fs n).y (ftAt fs n).z = true) : cnL fs (n + 1) = cnL fs n ++ [(ftAt fs n).s] := if_pos h
theorem cnL_no {fs : List Ft} {n : Nat} (h : isC (ftAt fs n).x (ftAt fs n).y (ftAt fs n).z = false) : cnL fs (n + 1) = cnL fs n := if_neg (by rw [h]; simp)
theorem cnL_len (fs : List Ft) : ∀ n, (cnL fs n).length ≤ n
  | 0 => Nat.le_refl _
  | n + 1 => by
    have ih := cnL_len fs n
    cases h : isC (ftAt fs n).x (ftAt fs n).y (ftAt fs n).z
    · rw [cnL_no h]; omega
    · rw [cnL_yes h, List.length_append]; simp; omega
/-- Texts of the call's own. -/
def OwnTx (B : Nat) (zs : List ByteArray) (v : Value) (w : World) : Prop := w.ownsRow B 9 1 v zs.length (zs.map Value.string)
theorem ownTx_nil (B : Nat) (w : World) : OwnTx B [] (.slice none 0 0) w := ⟨rfl, .inl ⟨rfl, rfl⟩⟩
theorem ownTx_lt {B : Nat} {zs : List ByteArray} {v : Value} {w : World} (h : OwnTx B zs v w) : ∀ j, v.ownBlock = some j → B ≤ j := fun j hj => (World.ownsRow.lt h j hj).1
theorem ownTx_kept {B : Nat} {zs : List ByteArray} {v : Value} {w w' : World} (h : OwnTx B zs v w) (hb : Below w.heap.size w w') : OwnTx B zs v w' := ownsRow_below h hb
theorem ownTx_push {B : Nat} {xs : List ByteArray} {y : ByteArray} {v : Value} {w : World} (h : w.ownsRow B 9 1 v (xs.length + 1) (xs.map Value.string ++ [.string y])) : OwnTx B (xs ++ [y]) v w := by
  unfold OwnTx; rw [List.length_append, List.map_append]; exact h
theorem info_tx : (Try.prog.info? 9).map (fun i => (i.zero, i.size, i.bytes)) = some (some (.string ⟨#[]⟩), 1, 16) := by kernel_rfl
/-- Texts of the call's own are handed back. -/
def TxR (zs : List ByteArray) (w : World) (e : Ending) (w' : World) : Prop := ∃ v, e = .returned v ∧ OwnTx w.heap.size zs v w' ∧ Below w.heap.size w w'
theorem new1T (w : World) (x0 : Value) (t : TypeId) : ∀ j u, [x0][j]? = some u → (w.alloc (.cells #[x0] t)).cell? ((⟨w.heap.size, 0, none⟩ : Addr).add j) = some u := by
  intro j u h
  match j, h with
  | 0, h => simp at h; subst h; simp [Addr.add]

set_option maxRecDepth 100000 in
set_option maxHeartbeats 3200000 in
theorem iConfs_any (a : Option Addr) (fs : List Ft) (c : Nat) (w : World) (hC : CellsF w a fs) (hF : ∀ i, i < fs.length → FtFit (ftAt fs i)) (hn : fs.length ≤ 1000) :
    Calls Try.prog 45 #[.slice a fs.length c] w (TxR (cnL fs fs.length) w) := by
  obtain ⟨i0, hi, hz0, hz1, hz2⟩ := info_parts info_tx
  have CC := Lib.hid hC
  have FF := Lib.hid hF
  clear hC hF
  go_enter Try.func45, Try.ntmps45
  go_wp2
  go_loopw [3, 8] (fun v i wr => ∃ j : Nat, j ≤ fs.length ∧ i = .int .i64 (j : Int) ∧ OwnTx w.heap.size (cnL fs j) v wr ∧ Below w.heap.size w wr) (fun _ i _ => fs.length - (intOf i).toNat)
  case atStart => exact ⟨0, Nat.zero_le _, rfl, ownTx_nil _ _, Below.refl _ _⟩
  case round =>
    obtain ⟨j, hj, rfl, hO, hB⟩ := hrel
    have OO := Lib.hid hO
    have BB := Lib.hid hB
    clear hO
    by_cases hjl : j < fs.length
    · have hd : decide ((j : Int) < (fs.length : Int)) = true := by simpa using hjl
      obtain ⟨b1, o1, rfl, hb1, hc⟩ := CC.out j hjl
      obtain ⟨f1, f2, f3⟩ := FF.out j hjl
      have i1 : (0 : Int) ≤ (j : Int) := by omega
      have i2 : (j : Int) < (fs.length : Int) := by omega
      have ln := cnL_len fs j
      have y1 := hB.size
      have dd : ∀ k, k < 10 → wr.cell? ⟨b1, o1 + j * 10 + k, none⟩ = (flatF [ftAt fs j])[k]? := fun k hk => (hB.cell hb1).trans (hc k hk)
      have NY := Lib.hid (fun h => cnL_yes (fs := fs) (n := j) h)
      have NN := Lib.hid (fun h => cnL_no (fs := fs) (n := j) h)
      clear hc hB
      generalize cnL fs j = ns at *
      generalize ftAt fs j = f at *
      obtain ⟨s, ⟨t1, p1, q1⟩, ⟨t2, p2, q2⟩, ⟨t3, p3, q3⟩⟩ := f
      have e0 := dd 0 (by omega)
      have e1 := dd 1 (by omega)
      have e2 := dd 2 (by omega)
      have e3 := dd 3 (by omega)
      have e4 := dd 4 (by omega)
      have e5 := dd 5 (by omega)
      have e6 := dd 6 (by omega)
      have e7 := dd 7 (by omega)
      have e8 := dd 8 (by omega)
      have e9 := dd 9 (by omega)
      simp only [flatF, List.getElem?_cons_zero, List.getElem?_cons_succ, Nat.add_zero] at e0 e1 e2 e3 e4 e5 e6 e7 e8 e9
      simp only at f1 f2 f3 NY NN
      have K := Lib.hid fun W => iConf_any s t1 t2 t3 p1 q1 p2 q2 p3 q3 f1 f2 f3 W
      clear dd f1 f2 f3
      cases hk : isC ⟨t1, p1, q1⟩ ⟨t2, p2, q2⟩ ⟨t3, p3, q3⟩
      · have NX := Lib.hid (NN.out hk)
        rw [hk] at K
        clear hk NY NN
        go_wp2_with (go_at_call 86; refine (K.out _).mono ?_; rintro e w5 ⟨rfl, hB5⟩; have B5 := Lib.hid hB5; clear hB5)
        have BX := Lib.hid ((below_new (Below.refl wr.heap.size wr) (.cells #[.string s, .bool t1, .int .u64 p1, .int .u64 q1, .bool t2, .int .u64 p2, .int .u64 q2, .bool t3, .int .u64 p3, .int .u64 q3] 139)).trans (B5.out.mono (by simp)))
        exact ⟨⟨j + 1, hjl, by rw [Int.natCast_succ], by rw [NX.out]; exact ownTx_kept OO.out BX.out, BB.out.trans (Below.mono BX.out y1)⟩, by (simp [intOf]) <;> omega⟩
      · have NX := Lib.hid (NY.out hk)
        rw [hk] at K
        clear hk NY NN
        go_wp2_with (first
          | (go_at_call 86; refine (K.out _).mono ?_; rintro e w5 ⟨rfl, hB5⟩; have B5 := Lib.hid hB5; have BX := Lib.hid ((below_new (Below.refl wr.heap.size wr) (.cells #[.string s, .bool t1, .int .u64 p1, .int .u64 q1, .bool t2, .int .u64 p2, .int .u64 q2, .bool t3, .int .u64 p3, .int .u64 q3] 139)).trans (hB5.mono (by simp))); have c0 : w5.cell? ⟨wr.heap.size, 0, none⟩ = some (.string s) := (hB5.cell (p := ⟨wr.heap.size, 0, none⟩) (by simp)).trans (by simp); have z5 : wr.heap.size < w5.heap.size := (by have h := hB5.size; simp at h; omega); clear hB5)
          | (at_builtin; refine wpList_append_lies _ rfl _ _ 24 rfl w.heap.size 9 i0 (.string ⟨#[]⟩) 1 16 Try.underlying24 hi hz0 hz1 hz2 rfl (by decide) _ _ _ rfl (World.ownsRow.alloc (ownTx_kept OO.out BX.out) _) ⟨w5.heap.size, 0, none⟩ 1 1 [.string s] rfl rfl (new1T _ _ _) (fun x hx => by simp at hx; subst hx; rfl) (by omega) (by unfold maxLen; omega) (by omega) (by simp; omega) _ rfl ?_; intro gg cap2 w8 hown hgrow _ _; have P := Lib.hid (ownTx_push hown); have G := Lib.hid hgrow; clear hown hgrow))
        exact ⟨⟨j + 1, hjl, by rw [Int.natCast_succ], by rw [NX.out]; exact P.out, Below.grown (below_new (BB.out.trans (Below.mono BX.out y1)) _) G.out (by simp; omega) (fun k hk => ownTx_lt OO.out k hk)⟩, by (simp [intOf]) <;> omega⟩
    · have e : j = fs.length := by omega
      subst e
      have hd : decide ((fs.length : Int) < (fs.length : Int)) = false := by simp
      clear hB
      go_wp2
      go_ret
      exact ⟨_, rfl, OO.out, BB.out⟩
end Go.Proofs.Ytbmjghkdhhcffaa

namespace Go.Proofs.Ytbmjghkdhhcffaa
open Go.ChangeShapes Go.WideShapes Go.ChangeAt Go.RowKit

/-- The first decks are valid. -/
def areTo (ls : List (List Cd)) : Nat → Bool
  | 0 => true
  | n + 1 => areTo ls n && deckOk (csAt ls n)
theorem areTo_no {ls : List (List Cd)} {j : Nat} (h : deckOk (csAt ls j) = false) : ∀ d, areTo ls (j + 1 + d) = false
  | 0 => by show (areTo ls j && deckOk (csAt ls j)) = false; rw [h, Bool.and_false]
  | d + 1 => by show (areTo ls (j + 1 + d) && _) = false; rw [areTo_no h d, Bool.false_and]
theorem areTo_next {ls : List (List Cd)} {j : Nat} (h : areTo ls j = true) (k : deckOk (csAt ls j) = true) : areTo ls (j + 1) = true := by show (areTo ls j && deckOk (csAt ls j)) = true; rw [h, k]; rfl
theorem ret_areE {x y : Bool} (h : x = y) : Ending.returned (.bool y) = Ending.returned (.bool x) := by rw [h]

set_option maxRecDepth 100000 in
set_option maxHeartbeats 1600000 in
theorem iAre_any (al : Option Addr) (ls : List (List Cd)) (cl : Nat) (w : World) (hL : LotC w al ls) (hF : ∀ i, i < ls.length → ∀ k, k < (csAt ls i).length → (cdAt (csAt ls i) k).fits) (hn : ls.length ≤ 3) :
    Calls Try.prog 44 #[.slice al ls.length cl] w fun e w' => e = .returned (.bool (areTo ls ls.length)) ∧ Below w.heap.size w w' := by
  have LL := Lib.hid hL
  have FF := Lib.hid hF
  clear hL hF
  go_enter Try.func44, Try.ntmps44
  go_wp2
  go_loopw [7] (fun i wr => ∃ j : Nat, j ≤ ls.length ∧ i = .int .i64 (j : Int) ∧ areTo ls j = true ∧ Below w.heap.size w wr) (fun i _ => ls.length - (intOf i).toNat)
  case atStart => exact ⟨0, Nat.zero_le _, rfl, rfl, Below.refl _ _⟩
  case round =>
    obtain ⟨j, hj, rfl, hA, hB⟩ := hrel
    have BB := Lib.hid hB
    have AA := Lib.hid hA
    clear hA
    by_cases hjl : j < ls.length
    · have hd : decide ((j : Int) < (ls.length : Int)) = true := by simpa using hjl
      obtain ⟨b1, o1, g, sc, rfl, hb1, p0, p1⟩ := LL.out j hjl
      have d0 := (hB.cell (p := ⟨b1, o1 + j, none⟩) hb1).trans p0
      have i3 : (0 : Int) ≤ (j : Int) := by omega
      have i4 : (j : Int) < (ls.length : Int) := by omega
      have CI := Lib.hid (cardsIn_of (cellsC_below p1 hB) (FF.out j hjl))
      have V := Lib.hid fun W h => iDeckOk_any (some ⟨g, 0, none⟩) (csAt ls j) sc W h
      clear hB p0 p1
      cases hk : deckOk (csAt ls j)
      · have NO := Lib.hid (areTo_no hk (ls.length - (j + 1)))
        rw [show j + 1 + (ls.length - (j + 1)) = ls.length by omega] at NO
        rw [hk] at V
        clear hk
        generalize csAt ls j = xs at *
        go_wp2_with (go_at_call 53; refine (V.out _ CI.out).mono ?_; rintro e w1 ⟨rfl, hB⟩; have B1 := Lib.hid (BB.out.trans (Below.mono hB BB.out.size)); clear hB)
        go_ret
        exact ⟨ret_areE NO.out, B1.out⟩
      · have NX := Lib.hid (areTo_next AA.out hk)
        rw [hk] at V
        clear hk
        generalize csAt ls j = xs at *
        go_wp2_with (go_at_call 53; refine (V.out _ CI.out).mono ?_; rintro e w1 ⟨rfl, hB⟩; have B1 := Lib.hid (BB.out.trans (Below.mono hB BB.out.size)); clear hB)
        exact ⟨⟨j + 1, hjl, by rw [Int.natCast_succ], NX.out, B1.out⟩, by (simp [intOf]) <;> omega⟩
    · obtain rfl : j = ls.length := by omega
      have hd : decide ((ls.length : Int) < (ls.length : Int)) = false := by simp
      clear hB
      go_wp2
      go_ret
      exact ⟨ret_areE AA.out, BB.out⟩
end Go.Proofs.Ytbmjghkdhhcffaa

namespace Go.Proofs.Ytbmjghkdhhcffaa
open Go.ChangeShapes Go.WideShapes Go.ChangeAt Go.RowKit

/-- The fates of all cards of three decks. -/
def ft3 (ps qs rs : List Cd) : List Ft := ftTo ps qs rs (all3 ps qs rs) (all3 ps qs rs).length
theorem stTo_fit {cs : List Cd} (hf : ∀ i, i < cs.length → (cdAt cs i).fits) (s : ByteArray) : ∀ n, n ≤ cs.length → StFit (stTo cs s n)
  | 0, _ => (show U64 0 ∧ U64 0 from ⟨⟨by decide, by decide⟩, ⟨by decide, by decide⟩⟩)
  | n + 1, hn => by
    unfold stTo
    split
    · exact (hf n (by omega)).2
    · exact stTo_fit hf s n (by omega)
theorem ftTo_fit {ps qs rs : List Cd} (h1 : ∀ i, i < ps.length → (cdAt ps i).fits) (h2 : ∀ i, i < qs.length → (cdAt qs i).fits) (h3 : ∀ i, i < rs.length → (cdAt rs i).fits) (all : List Cd) : ∀ n, ∀ f ∈ ftTo ps qs rs all n, FtFit f
  | 0 => fun f hf => by cases hf
  | n + 1 => fun f hf => by
    have ih := ftTo_fit h1 h2 h3 all n
    cases h : hasN ((ftTo ps qs rs all n).map Ft.s) (cdAt all n).s
    · rw [ftTo_new h] at hf
      rcases List.mem_append.1 hf with e | e
      · exact ih f e
      · simp at e
        subst e
        exact ⟨stTo_fit h1 _ _ (Nat.le_refl _), stTo_fit h2 _ _ (Nat.le_refl _), stTo_fit h3 _ _ (Nat.le_refl _)⟩
    · rw [ftTo_old h] at hf; exact ih f hf
theorem ft3_fit {ps qs rs : List Cd} (h1 : ∀ i, i < ps.length → (cdAt ps i).fits) (h2 : ∀ i, i < qs.length → (cdAt qs i).fits) (h3 : ∀ i, i < rs.length → (cdAt rs i).fits) : ∀ i, i < (ft3 ps qs rs).length → FtFit (ftAt (ft3 ps qs rs) i) := fun i hi => by
  refine ftTo_fit h1 h2 h3 (all3 ps qs rs) (all3 ps qs rs).length _ ?_
  unfold ftAt
  show List.getD (ft3 ps qs rs) i ⟨ByteArray.empty, st0, st0, st0⟩ ∈ ft3 ps qs rs
  rw [List.getD, List.getElem?_eq_getElem hi]
  exact List.getElem_mem hi
theorem ft3_len (ps qs rs : List Cd) : (ft3 ps qs rs).length ≤ ps.length + qs.length + rs.length := by
  have := ftTo_len ps qs rs (all3 ps qs rs) (all3 ps qs rs).length
  have e : (all3 ps qs rs).length = ps.length + qs.length + rs.length := by rw [all3_eq]; simp; omega
  unfold ft3; omega
theorem are3 (ps qs rs : List Cd) : areTo [ps, qs, rs] 3 = (deckOk ps && (deckOk qs && deckOk rs)) := by
  show (((true && deckOk ps) && deckOk qs) && deckOk rs) = _
  rw [Bool.true_and, Bool.and_assoc]
/-- The names in conflict, and the code. -/
def cfL (ps qs rs : List Cd) : List ByteArray := if (deckOk ps && (deckOk qs && deckOk rs)) = true then cnL (ft3 ps qs rs) (ft3 ps qs rs).length else []
def cfC (ps qs rs : List Cd) : Int := if (deckOk ps && (deckOk qs && deckOk rs)) = true then 0 else 1
def CfR (xs : List ByteArray) (k : Int) (w : World) (e : Ending) (w' : World) : Prop := ∃ v, e = .returned (.tuple #[v, .int .i64 k]) ∧ OwnTx w.heap.size xs v w' ∧ Below w.heap.size w w'
theorem fits3 {w : World} {a1 a2 a3 : Option Addr} {ps qs rs : List Cd} (h1 : CardsIn w a1 ps) (h2 : CardsIn w a2 qs) (h3 : CardsIn w a3 rs) : ∀ i, i < [ps, qs, rs].length → ∀ k, k < (csAt [ps, qs, rs] i).length → (cdAt (csAt [ps, qs, rs] i) k).fits := fun i hi => by
  match i, hi with
  | 0, _ => exact fun k hk => (h1 k hk).1
  | 1, _ => exact fun k hk => (h2 k hk).1
  | 2, _ => exact fun k hk => (h3 k hk).1
  | n + 3, h => exact absurd h (by simp)
theorem ownTx_weaken {B B' : Nat} {fs : List ByteArray} {v : Value} {w : World} (h : OwnTx B fs v w) (hb : B' ≤ B) : OwnTx B' fs v w := by
  obtain ⟨h1, h2⟩ := h
  refine ⟨h1, ?_⟩
  rcases h2 with hn | ⟨g, cap, cur, rfl, hB, rest⟩
  · exact .inl hn
  · exact .inr ⟨g, cap, cur, rfl, Nat.le_trans hb hB, rest⟩

set_option maxRecDepth 100000 in
set_option maxHeartbeats 3200000 in
theorem iConflicts_any (g1 g2 g3 : Nat) (ps qs rs : List Cd) (c1 c2 c3 : Nat) (w : World) (h1 : CardsIn w (some ⟨g1, 0, none⟩) ps) (h2 : CardsIn w (some ⟨g2, 0, none⟩) qs) (h3 : CardsIn w (some ⟨g3, 0, none⟩) rs) :
    Calls Try.prog 10 #[.slice (some ⟨g1, 0, none⟩) ps.length c1, .slice (some ⟨g2, 0, none⟩) qs.length c2, .slice (some ⟨g3, 0, none⟩) rs.length c3] w (CfR (cfL ps qs rs) (cfC ps qs rs) w) := by
  have A := Lib.hid (show Calls Try.prog 44 #[.slice (some ⟨w.heap.size, 0, none⟩) 3 3] _ _ from are3 ps qs rs ▸ iAre_any (some ⟨w.heap.size, 0, none⟩) [ps, qs, rs] 3 _ (lot3 (c1 := c1) (c2 := c2) (c3 := c3) rfl (fun i hi => (h1 i hi).2) (fun i hi => (h2 i hi).2) (fun i hi => (h3 i hi).2)) (fits3 h1 h2 h3) (Nat.le_refl 3))
  have FT := Lib.hid (ft3_fit (fun i hi => (h1 i hi).1) (fun i hi => (h2 i hi).1) (fun i hi => (h3 i hi).1))
  have H1 := Lib.hid h1
  have H2 := Lib.hid h2
  have H3 := Lib.hid h3
  have b0 := Lib.hid (below_new (Below.refl w.heap.size w) (.cells #[.slice (some ⟨g1, 0, none⟩) ps.length c1, .slice (some ⟨g2, 0, none⟩) qs.length c2, .slice (some ⟨g3, 0, none⟩) rs.length c3] 27))
  clear h1 h2 h3
  unfold cfL cfC
  cases hd : (deckOk ps && (deckOk qs && deckOk rs))
  · rw [hd] at A
    clear hd
    simp only [Bool.false_eq_true, if_false]
    go_enter Try.func10, Try.ntmps10
    go_wp2_with (go_at_call 44; refine A.out.mono ?_; rintro e w1 ⟨rfl, hB⟩; have B1 := Lib.hid (b0.out.trans (Below.mono hB (by simp))); clear hB)
    go_returns
    exact ⟨_, rfl, ownTx_nil _ _, B1.out⟩
  · have hp := hd
    rw [Bool.and_eq_true, Bool.and_eq_true] at hp
    have l1 := deckOk_80 hp.1
    have l2 := deckOk_80 hp.2.1
    have l3 := deckOk_80 hp.2.2
    have ln := ft3_len ps qs rs
    have FA := Lib.hid fun W a b c => iFates_any g1 g2 g3 ps qs rs c1 c2 c3 W a b c l1 l2 l3
    rw [hd] at A
    clear hd hp
    simp only [if_true]
    have CN := Lib.hid fun a c W h => iConfs_any a (ft3 ps qs rs) c W h FT.out (by omega)
    clear l1 l2 l3 ln
    unfold ft3 at CN ⊢
    generalize ftTo ps qs rs (all3 ps qs rs) (all3 ps qs rs).length = fs at *
    go_enter Try.func10, Try.ntmps10
    go_wp2_with (first
      | (go_at_call 44; refine A.out.mono ?_; rintro e w1 ⟨rfl, hB⟩; have B1 := Lib.hid (b0.out.trans (Below.mono hB (by simp))); clear hB)
      | (go_at_call 46; refine (FA.out _ (cardsIn_below H1.out B1.out) (cardsIn_below H2.out B1.out) (cardsIn_below H3.out B1.out)).mono ?_; rintro e w2 ⟨v2, rfl, hO, hB⟩; obtain ⟨a2, c4, hv, hi⟩ := ownFts_in hO; subst hv; have I2 := Lib.hid hi; have B2 := Lib.hid (B1.out.trans (Below.mono hB B1.out.size)); clear hO hi hB)
      | (go_at_call 45; refine (CN.out _ _ _ I2.out).mono ?_; rintro e w3 ⟨v3, rfl, hO, hB⟩; have O3 := Lib.hid (ownTx_weaken hO B2.out.size); have B3 := Lib.hid (B2.out.trans (Below.mono hB B2.out.size)); clear hO hB))
    go_returns
    exact ⟨_, rfl, O3.out, B3.out⟩
end Go.Proofs.Ytbmjghkdhhcffaa

namespace Go.Proofs.Ytbmjghkdhhcffaa
open Go.ChangeShapes Go.WideShapes Go.ChangeAt Go.RowKit

theorem cnL_filter (fs : List Ft) : ∀ n, n ≤ fs.length → cnL fs n = ((fs.take n).filter fun f => isC f.x f.y f.z).map Ft.s
  | 0, _ => by simp [cnL]
  | n + 1, hn => by
    have e : fs.take (n + 1) = fs.take n ++ [ftAt fs n] := by
      rw [List.take_succ_eq_append_getElem (by omega)]
      congr 2
      unfold ftAt
      rw [List.getD, List.getElem?_eq_getElem (by omega)]
      rfl
    rw [e, List.filter_append, List.map_append, ← cnL_filter fs n (by omega)]
    cases h : isC (ftAt fs n).x (ftAt fs n).y (ftAt fs n).z
    · rw [cnL_no h]; simp [h]
    · rw [cnL_yes h]; simp [h]
/-- The names of the first n cards, each told once. -/
def nmTo (all : List Cd) : Nat → List ByteArray
  | 0 => []
  | n + 1 => if hasN (nmTo all n) (cdAt all n).s = true then nmTo all n else nmTo all n ++ [(cdAt all n).s]
theorem ftTo_map (ps qs rs all : List Cd) : ∀ n, ftTo ps qs rs all n = (nmTo all n).map fun s => ⟨s, stOf ps s, stOf qs s, stOf rs s⟩
  | 0 => rfl
  | n + 1 => by
    have ih := ftTo_map ps qs rs all n
    have e : (ftTo ps qs rs all n).map Ft.s = nmTo all n := by rw [ih, List.map_map]; exact List.map_id _
    cases h : hasN (nmTo all n) (cdAt all n).s
    · rw [ftTo_new (by rw [e]; exact h), ih]
      show _ = List.map _ (if hasN (nmTo all n) (cdAt all n).s = true then nmTo all n else nmTo all n ++ [(cdAt all n).s])
      rw [if_neg (by rw [h]; simp), List.map_append]
      rfl
    · rw [ftTo_old (by rw [e]; exact h), ih]
      show _ = List.map _ (if hasN (nmTo all n) (cdAt all n).s = true then nmTo all n else nmTo all n ++ [(cdAt all n).s])
      rw [if_pos h]
/-- All conflicts of three decks. -/
theorem cnL_all (ps qs rs all : List Cd) (n : Nat) : cnL (ftTo ps qs rs all n) (ftTo ps qs rs all n).length = (nmTo all n).filter fun s => isC (stOf ps s) (stOf qs s) (stOf rs s) := by
  rw [cnL_filter _ _ (Nat.le_refl _), List.take_length, ftTo_map, List.filter_map, List.map_map]
  exact List.map_id _
theorem hasN_app (xs ys : List ByteArray) (s : ByteArray) : hasN (xs ++ ys) s = (hasN xs s || hasN ys s) := by unfold hasN; rw [List.any_append]
theorem nmTo_has {all : List Cd} {i : Nat} : ∀ n, i < n → hasN (nmTo all n) (cdAt all i).s = true
  | 0, h => absurd h (Nat.not_lt_zero _)
  | n + 1, h => by
    unfold nmTo
    split
    · rename_i q
      by_cases e : i = n
      · subst e; exact q
      · exact nmTo_has n (by omega)
    · rw [hasN_app]
      by_cases e : i = n
      · subst e; simp [hasN]
      · rw [nmTo_has n (by omega), Bool.true_or]
theorem nmTo_app (xs ys : List Cd) : ∀ n, n ≤ xs.length → nmTo (xs ++ ys) n = nmTo xs n
  | 0, _ => rfl
  | n + 1, h => by
    have e : cdAt (xs ++ ys) n = cdAt xs n := by unfold cdAt; rw [List.getD, List.getD, List.getElem?_append_left (by omega)]
    unfold nmTo
    rw [e, nmTo_app xs ys n (by omega)]
theorem nmTo_more {xs ys : List Cd} {P : ByteArray → Bool} (hP : ∀ s, (∀ i, i < xs.length → (cdAt xs i).s ≠ s) → P s = false) : ∀ k, (nmTo (xs ++ ys) (xs.length + k)).filter P = (nmTo xs xs.length).filter P
  | 0 => by rw [Nat.add_zero, nmTo_app xs ys _ (Nat.le_refl _)]
  | k + 1 => by
    have ih := nmTo_more hP (ys := ys) k
    rw [← Nat.add_assoc]
    show List.filter P (if hasN (nmTo (xs ++ ys) (xs.length + k)) (cdAt (xs ++ ys) (xs.length + k)).s = true then nmTo (xs ++ ys) (xs.length + k) else nmTo (xs ++ ys) (xs.length + k) ++ [(cdAt (xs ++ ys) (xs.length + k)).s]) = _
    split
    · exact ih
    · rename_i q
      rw [List.filter_append, ih]
      have : P (cdAt (xs ++ ys) (xs.length + k)).s = false := hP _ fun i hi he => q (by
        have e : cdAt (xs ++ ys) i = cdAt xs i := by unfold cdAt; rw [List.getD, List.getD, List.getElem?_append_left (by omega)]
        have h := nmTo_has (all := xs ++ ys) (i := i) (xs.length + k) (by omega)
        rw [e, he] at h
        exact h)
      simp [this]
/-- A card of the third deck alone is in no conflict. -/
theorem cf_two (ps qs rs : List Cd) : (nmTo (ps ++ qs ++ rs) (ps ++ qs ++ rs).length).filter (fun s => isC (stOf ps s) (stOf qs s) (stOf rs s)) = (nmTo (ps ++ qs) (ps ++ qs).length).filter fun s => isC (stOf ps s) (stOf qs s) (stOf rs s) := by
  rw [show (ps ++ qs ++ rs).length = (ps ++ qs).length + rs.length from List.length_append]
  refine nmTo_more (fun s hs => ?_) rs.length
  have h1 : stOf ps s = st0 := st_none _ fun k hk => by
    have h := hs k (by rw [List.length_append]; omega)
    have e : cdAt (ps ++ qs) k = cdAt ps k := by unfold cdAt; rw [List.getD, List.getD, List.getElem?_append_left hk]
    rwa [e] at h
  have h2 : stOf qs s = st0 := st_none _ fun k hk => by
    have h := hs (ps.length + k) (by rw [List.length_append]; omega)
    have e : cdAt (ps ++ qs) (ps.length + k) = cdAt qs k := by unfold cdAt; rw [List.getD, List.getD, List.getElem?_append_right (by omega), Nat.add_sub_cancel_left]
    rwa [e] at h
  show isC (stOf ps s) (stOf qs s) (stOf rs s) = false
  rw [h1, h2]
  unfold isC
  rw [eqSt_iff.2 rfl]
  rfl
end Go.Proofs.Ytbmjghkdhhcffaa

namespace Go.Proofs.Ytbmjghkdhhcffaa
open Go.ChangeShapes Go.WideShapes Go.ChangeAt Go.RowKit

theorem hasN_one (x s : ByteArray) : hasN [x] s = (x == s) := by rw [bytes_beq]; unfold hasN; simp
/-- One of the first k decks has a card with the name. -/
def inAny (ls : List (List Cd)) (s : ByteArray) : Nat → Bool
  | 0 => false
  | k + 1 => inAny ls s k || decide (0 ≤ findC (csAt ls k) s)
theorem inAny_next (ls : List (List Cd)) (s : ByteArray) (k : Nat) : inAny ls s (k + 1) = (inAny ls s k || decide (0 ≤ findC (csAt ls k) s)) := rfl
theorem cdAt_left {xs ys : List Cd} {i : Nat} (h : i < xs.length) : cdAt (xs ++ ys) i = cdAt xs i := by unfold cdAt; rw [List.getD, List.getD, List.getElem?_append_left h]
theorem cdAt_right {xs ys : List Cd} (i : Nat) : cdAt (xs ++ ys) (xs.length + i) = cdAt ys i := by unfold cdAt; rw [List.getD, List.getD, List.getElem?_append_right (by omega), Nat.add_sub_cancel_left]
theorem cdAt_flatK {ls : List (List Cd)} {d i : Nat} (hi : i < (csAt ls d).length) : ∀ k, cdAt (flatK ls (d + 1 + k)) (nCds ls d + i) = cdAt (csAt ls d) i
  | 0 => by
    show cdAt (flatK ls d ++ csAt ls d) (nCds ls d + i) = _
    rw [← flatK_len ls d, cdAt_right]
  | k + 1 => by
    show cdAt (flatK ls (d + 1 + k) ++ csAt ls (d + 1 + k)) (nCds ls d + i) = _
    rw [cdAt_left, cdAt_flatK hi k]
    rw [flatK_len]
    have h1 := nCds_mono ls (d + 1) k
    have h2 : nCds ls (d + 1) = nCds ls d + (csAt ls d).length := rfl
    omega
theorem cdAt_all {ls : List (List Cd)} {d i : Nat} (hd : d < ls.length) (hi : i < (csAt ls d).length) : cdAt (flatK ls ls.length) (nCds ls d + i) = cdAt (csAt ls d) i := by
  have h := cdAt_flatK hi (ls.length - (d + 1))
  rwa [show d + 1 + (ls.length - (d + 1)) = ls.length by omega] at h
theorem nCds_split (ls : List (List Cd)) : ∀ d m, m < nCds ls d → ∃ e i, e < d ∧ i < (csAt ls e).length ∧ m = nCds ls e + i
  | 0, m, h => absurd h (Nat.not_lt_zero _)
  | d + 1, m, h => by
    by_cases q : m < nCds ls d
    · obtain ⟨e, i, h1, h2, h3⟩ := nCds_split ls d m q
      exact ⟨e, i, by omega, h2, h3⟩
    · have h2 : nCds ls (d + 1) = nCds ls d + (csAt ls d).length := rfl
      exact ⟨d, m - nCds ls d, by omega, by omega, by omega⟩
theorem nmTo_mem {all : List Cd} {s : ByteArray} : ∀ n, hasN (nmTo all n) s = true → ∃ i, i < n ∧ (cdAt all i).s = s
  | 0, h => by simp [nmTo, hasN] at h
  | n + 1, h => by
    unfold nmTo at h
    split at h
    · obtain ⟨i, h1, h2⟩ := nmTo_mem n h
      exact ⟨i, by omega, h2⟩
    · rw [hasN_app, Bool.or_eq_true] at h
      rcases h with h | h
      · obtain ⟨i, h1, h2⟩ := nmTo_mem n h
        exact ⟨i, by omega, h2⟩
      · rw [hasN_one] at h
        exact ⟨n, by omega, bytes_eq h⟩
theorem inAny_iff {ls : List (List Cd)} (ok : ∀ e, e < ls.length → deckOk (csAt ls e) = true) {s : ByteArray} : ∀ k, k ≤ ls.length → (inAny ls s k = true ↔ ∃ e i, e < k ∧ i < (csAt ls e).length ∧ (cdAt (csAt ls e) i).s = s)
  | 0, _ => ⟨(fun h => Bool.noConfusion h), (fun ⟨_, _, h, _⟩ => absurd h (Nat.not_lt_zero _))⟩
  | k + 1, hk => by
    have ih := inAny_iff ok (s := s) k (by omega)
    rw [inAny_next, Bool.or_eq_true, ih, decide_eq_true_eq]
    constructor
    · rintro (⟨e, i, h1, h2, h3⟩ | h)
      · exact ⟨e, i, by omega, h2, h3⟩
      · rcases st_find (ok k (by omega)) s with ⟨e0, _, _⟩ | ⟨i, hi, _, hn, _, _⟩
        · omega
        · exact ⟨k, i, by omega, hi, hn⟩
    · rintro ⟨e, i, h1, h2, h3⟩
      by_cases q : e = k
      · subst q
        right
        rcases st_find (ok e (by omega)) s with ⟨_, _, hn⟩ | ⟨j, hj, e0, _, _, _⟩
        · exact absurd h3 (hn i h2)
        · omega
      · exact .inl ⟨e, i, by omega, h2, h3⟩
/-- A card's name has been told just if an earlier deck has it. -/
theorem told_iff {ls : List (List Cd)} (ok : ∀ e, e < ls.length → deckOk (csAt ls e) = true) {d i : Nat} (hd : d < ls.length) (hi : i < (csAt ls d).length) :
    hasN (nmTo (flatK ls ls.length) (nCds ls d + i)) (cdAt (csAt ls d) i).s = inAny ls (cdAt (csAt ls d) i).s d := by
  rw [Bool.eq_iff_iff, inAny_iff ok d (by omega)]
  constructor
  · intro h
    obtain ⟨m, hm, he⟩ := nmTo_mem _ h
    by_cases q : m < nCds ls d
    · obtain ⟨e, j, h1, h2, rfl⟩ := nCds_split ls d m q
      rw [cdAt_all (by omega) h2] at he
      exact ⟨e, j, h1, h2, he⟩
    · exfalso
      have hj : m - nCds ls d < (csAt ls d).length := by omega
      have e1 := cdAt_all hd hj
      rw [show nCds ls d + (m - nCds ls d) = m by omega] at e1
      rw [e1] at he
      have := deckOk_uniq (ok d hd) hj hi he
      omega
  · rintro ⟨e, j, h1, h2, h3⟩
    have hlt : nCds ls e + j < nCds ls d + i := by
      have h4 := nCds_mono ls (e + 1) (d - (e + 1))
      rw [show e + 1 + (d - (e + 1)) = d by omega] at h4
      have h5 : nCds ls (e + 1) = nCds ls e + (csAt ls e).length := rfl
      omega
    have h := nmTo_has (all := flatK ls ls.length) _ hlt
    rw [cdAt_all (by omega) h2, h3] at h
    exact h
theorem nmTo_next (all : List Cd) (n : Nat) : nmTo all (n + 1) = if hasN (nmTo all n) (cdAt all n).s = true then nmTo all n else nmTo all n ++ [(cdAt all n).s] := rfl
theorem nm_old {ls : List (List Cd)} (ok : ∀ e, e < ls.length → deckOk (csAt ls e) = true) {d i : Nat} (hd : d < ls.length) (hi : i < (csAt ls d).length) (h : inAny ls (cdAt (csAt ls d) i).s d = true) :
    nmTo (flatK ls ls.length) (nCds ls d + (i + 1)) = nmTo (flatK ls ls.length) (nCds ls d + i) := by
  have q := told_iff ok hd hi
  rw [h] at q
  rw [← Nat.add_assoc, nmTo_next, cdAt_all hd hi, if_pos q]
theorem nm_new {ls : List (List Cd)} (ok : ∀ e, e < ls.length → deckOk (csAt ls e) = true) {d i : Nat} (hd : d < ls.length) (hi : i < (csAt ls d).length) (h : inAny ls (cdAt (csAt ls d) i).s d = false) :
    nmTo (flatK ls ls.length) (nCds ls d + (i + 1)) = nmTo (flatK ls ls.length) (nCds ls d + i) ++ [(cdAt (csAt ls d) i).s] := by
  have q := told_iff ok hd hi
  rw [h] at q
  rw [← Nat.add_assoc, nmTo_next, cdAt_all hd hi, if_neg (by rw [q]; simp)]
theorem nmTo_len (all : List Cd) : ∀ n, (nmTo all n).length ≤ n
  | 0 => Nat.le_refl _
  | n + 1 => by
    have ih := nmTo_len all n
    unfold nmTo
    split
    · omega
    · rw [List.length_append]; simp; omega
/-- The names of all decks. -/
def nmL (ls : List (List Cd)) : List ByteArray := nmTo (flatK ls ls.length) (nCds ls ls.length)
theorem nmL_len (ls : List (List Cd)) : (nmL ls).length ≤ nCds ls ls.length := nmTo_len _ _
end Go.Proofs.Ytbmjghkdhhcffaa

namespace Go.Proofs.Ytbmjghkdhhcffaa
open Go.ChangeShapes Go.WideShapes Go.ChangeAt Go.RowKit

theorem flatT_get (zs : List ByteArray) (i : Nat) (h : i < zs.length) : (zs.map Value.string)[i]? = some (.string (zs.getD i ⟨#[]⟩)) := by
  rw [List.getElem?_map, List.getD, List.getElem?_eq_getElem h]; rfl
theorem ownTx_in {B : Nat} {zs : List ByteArray} {v : Value} {w : World} (h : OwnTx B zs v w) : ∃ a c, v = .slice a zs.length c ∧ StrsIn w a zs := by
  have h0 := h
  obtain ⟨_, h2⟩ := h
  rcases h2 with ⟨rfl, hn⟩ | ⟨g, cap, cur, rfl, hb, hg, _⟩
  · exact ⟨none, 0, by rw [hn], fun i hi => by omega⟩
  · exact ⟨_, cap, rfl, fun i hi => ⟨g, 0, rfl, (Array.getElem?_eq_some_iff.1 hg).1, by rw [Nat.zero_add]; have := World.ownsRow.cellAt h0 i (by omega); rw [this]; exact flatT_get zs i hi⟩⟩
theorem ownTx_weak {B B' : Nat} {zs : List ByteArray} {v : Value} {w : World} (h : OwnTx B zs v w) (hb : B' ≤ B) : OwnTx B' zs v w := by
  obtain ⟨h1, h2⟩ := h
  refine ⟨h1, ?_⟩
  rcases h2 with hn | ⟨g, cap, cur, rfl, hB, rest⟩
  · exact .inl hn
  · exact .inr ⟨g, cap, cur, rfl, Nat.le_trans hb hB, rest⟩
theorem ownTx_oth {B g : Nat} {zs : List ByteArray} {v : Value} {w w' : World} (h : OwnTx B zs v w) (hb : Oth g w w') (hg : g < B) : OwnTx B zs v w' := by
  obtain ⟨h1, h2⟩ := h
  refine ⟨h1, ?_⟩
  rcases h2 with hn | ⟨b, cap, cur, rfl, hB, hh, rest⟩
  · exact .inl hn
  · exact .inr ⟨b, cap, cur, rfl, hB, (hb.block b (by omega) (Array.getElem?_eq_some_iff.1 hh).1).trans hh, rest⟩
/-- The first j texts are marked, from k on. -/
def MarkedT (k j : Nat) (zs : List ByteArray) : Prop := ∀ l, l < j → zs.getD l ⟨#[]⟩ = mtext (k + l)
theorem markedT_next {k j : Nat} {zs : List ByteArray} (h : MarkedT k j zs) (hj : j < zs.length) : MarkedT k (j + 1) (zs.set j (mtext (k + j))) := by
  intro l hl
  rw [List.getD, List.getElem?_set]
  by_cases e : j = l
  · subst e; simp [hj]
  · rw [if_neg e]; exact h l (by omega)

set_option maxRecDepth 100000 in
set_option maxHeartbeats 1600000 in
theorem markTxOwn_any (B : Nat) (zs : List ByteArray) (v : Value) (k : Nat) (w : World) (h : OwnTx B zs v w) (hk : k + zs.length ≤ 4000000) :
    Calls Try.prog 14 #[v, .int .i64 (k : Int)] w fun e w' => e = .returned (.int .i64 ((k + zs.length : Nat) : Int)) ∧ (∃ ds, ds.length = zs.length ∧ MarkedT k ds.length ds ∧ OwnTx B ds v w') ∧ Below B w w' := by
  obtain ⟨h1, h2⟩ := h
  rcases h2 with ⟨rfl, hz⟩ | ⟨g, cap, cur, rfl, hb, hg, hcap, hmax, hsz, htk⟩
  · have e : zs = [] := List.length_eq_zero_iff.1 hz
    subst e
    go_enter Try.func14, Try.ntmps14
    go_wp2
    refine wp_loop_rounds 1 ?_
    rw [rounds_succ]; go_wp2
    go_ret
    exact ⟨rfl, ⟨[], rfl, fun l hl => absurd hl (Nat.not_lt_zero _), ⟨rfl, .inl ⟨rfl, rfl⟩⟩⟩, Below.refl _ _⟩
  · have O : OwnTx B zs (.slice (some ⟨g, 0, none⟩) zs.length cap) w := ⟨h1, .inr ⟨g, cap, cur, rfl, hb, hg, hcap, hmax, hsz, htk⟩⟩
    have hgB := Lib.hid hb
    have OW := Lib.hid O
    clear h1 hg hcap hsz htk hmax cur O
    obtain ⟨n, hn⟩ : ∃ n, zs.length = n := ⟨_, rfl⟩
    rw [hn] at hk ⊢
    have NN := Lib.hid hn
    clear hn
    go_enter Try.func14, Try.ntmps14
    go_wp2
    go_loopw [1, 5] (fun q i wr => ∃ (j q0 : Nat) (ds : List ByteArray), j ≤ n ∧ i = .int .i64 j ∧ q = .int .i64 (q0 : Int) ∧ q0 = k + j ∧ ds.length = n ∧ MarkedT k j ds ∧ OwnTx B ds (.slice (some ⟨g, 0, none⟩) ds.length cap) wr ∧ Below B w wr) (fun _ i _ => n - (intOf i).toNat)
    case atStart => exact ⟨0, k, zs, Nat.zero_le _, rfl, rfl, rfl, NN.out, fun l hl => absurd hl (Nat.not_lt_zero _), OW.out, Below.refl _ _⟩
    case round =>
      obtain ⟨j, q0, ds, hj, rfl, rfl, hq, hds, hM, hO, hB⟩ := hrel
      have Q := Lib.hid hq
      have DS := Lib.hid hds
      have MM := Lib.hid hM
      have OO := Lib.hid hO
      have BB := Lib.hid hB
      have gl : g < wr.heap.size := (World.ownsRow.lt hO g rfl).2
      by_cases hkl : j < n
      · have hd : decide ((j : Int) < (n : Int)) = true := by simpa using hkl
        have qb : q0 ≤ 4000000 := by omega
        have i1 : (0 : Int) ≤ (j : Int) := by omega
        have i2 : (j : Int) < (n : Int) := by omega
        have hjd : j < ds.length := by omega
        have r0 := (World.ownsRow.cellAt hO j (by omega)).trans (flatT_get ds j hjd)
        have FZ := Lib.hid (fun j => World.ownsRow.frozenAt hO j)
        have R0 := Lib.hid r0
        have K := Lib.hid fun W => markText_is q0 qb W
        have NX := Lib.hid (markedT_next hM hjd)
        have ST := Lib.hid (show (ds.map Value.string).set j (.string (mtext (k + j))) = (ds.set j (mtext (k + j))).map Value.string by rw [List.map_set])
        have QM := Lib.hid (show mtext (k + j) = mtext q0 by rw [← hq])
        have x1 : IntKind.i64.wrap ((q0 : Int) + 1) = (q0 : Int) + 1 := IntWalk.i64_in _ (by omega)
        clear hq hds hM hO hB r0 hjd
        generalize mtext q0 = s at *
        go_wp2_with (go_at_call 48; refine (K.out _).mono ?_; rintro e w2 ⟨rfl, hB⟩; have t0 := (hB.cell (p := ⟨g, j, none⟩) gl).trans R0.out; have u : ∀ j, w2.frozen? ⟨g, j, none⟩ = false := (fun j => (hB.frozen (p := ⟨g, j, none⟩) gl).trans (FZ.out j)); have O2 := Lib.hid (ownTx_kept OO.out hB); have B2 := Lib.hid (BB.out.trans (Below.mono hB (Nat.le_of_lt (Nat.lt_of_le_of_lt hgB.out gl)))); clear hB)
        have s0 := World.ownsRow.stored O2.out j (.string s)
        have o := s0.1
        have st := ST.out
        have nx := NX.out
        rw [QM.out] at st nx
        rw [st] at o
        refine ⟨⟨j + 1, q0 + 1, ds.set j s, hkl, by rw [Int.natCast_succ], by congr 1, by have := Q.out; omega, by rw [List.length_set]; exact DS.out, nx, ?_, B2.out.setCell hgB.out _⟩, by (simp [intOf]) <;> omega⟩
        unfold OwnTx
        rw [List.length_set]
        exact o
      · have e : j = n := by omega
        subst e
        have hd : decide ((j : Int) < (j : Int)) = false := by simp
        clear hds hM hO hB
        have hq2 := hq
        subst hq2
        clear hq
        go_wp2
        go_ret
        exact ⟨rfl, ⟨ds, DS.out, by rw [DS.out]; exact MM.out, by have := OO.out; rw [DS.out] at this; exact this⟩, BB.out⟩

set_option maxRecDepth 100000 in
set_option maxHeartbeats 1600000 in
theorem heldTx_any (a : Option Addr) (ds : List ByteArray) (c k : Nat) (w : World) (h : StrsIn w a ds) (hm : MarkedT k ds.length ds) (hk : k + ds.length ≤ 4000000) :
    Calls Try.prog 15 #[.slice a ds.length c, .int .i64 (k : Int)] w fun e w' => e = .returned (.int .i64 ((k + ds.length : Nat) : Int)) ∧ Below w.heap.size w w' := by
  have H := Lib.hid h
  have M := Lib.hid hm
  clear h hm
  go_enter Try.func15, Try.ntmps15
  go_wp2
  go_loopw [1, 5] (fun q i wr => ∃ j q0 : Nat, j ≤ ds.length ∧ i = .int .i64 j ∧ q = .int .i64 (q0 : Int) ∧ q0 = k + j ∧ Below w.heap.size w wr) (fun _ i _ => ds.length - (intOf i).toNat)
  case atStart => exact ⟨0, k, Nat.zero_le _, rfl, rfl, rfl, Below.refl _ _⟩
  case round =>
    obtain ⟨j, q0, hj, rfl, rfl, hq, hB⟩ := hrel
    have Q := Lib.hid hq
    have BB := Lib.hid hB
    by_cases hkl : j < ds.length
    · have hd : decide ((j : Int) < (ds.length : Int)) = true := by simpa using hkl
      have qb : q0 ≤ 4000000 := by omega
      have i1 : (0 : Int) ≤ (j : Int) := by omega
      have i2 : (j : Int) < (ds.length : Int) := by omega
      obtain ⟨b, o, rfl, hb, c0⟩ := H.out j hkl
      have e := M.out j hkl
      rw [← hq] at e
      rw [e] at c0
      have d0 := (hB.cell (p := ⟨b, o + j, none⟩) hb).trans c0
      have y : b < wr.heap.size := Nat.lt_of_lt_of_le hb hB.size
      have K := Lib.hid fun W => markText_is q0 qb W
      have x1 : IntKind.i64.wrap ((q0 : Int) + 1) = (q0 : Int) + 1 := IntWalk.i64_in _ (by omega)
      clear hq hB c0 e
      generalize mtext q0 = s at *
      have n3 : (s.toList != s.toList) = false := by simp
      have hbw := cell_bw
      go_wp2_with fail
      refine region_bw (by kernel_rfl) (by kernel_rfl) ?_
      repeat (go_big_quiet_step (first | (go_at_call 48; exact calls_bw (K.out _))))
      refine wpQuiet_nil ?_; intro wq hq; replace hq := below_of_bw hq; obtain ⟨qc, qf, qz⟩ := bcell hq
      have B2 := Lib.hid (BB.out.trans (hq.mono BB.out.size))
      clear d0 hq qc qf qz hbw
      go_wp2_with fail
      exact ⟨⟨j + 1, q0 + 1, hkl, by rw [Int.natCast_succ], by congr 1, by have := Q.out; omega, B2.out⟩, by (simp [intOf]) <;> omega⟩
    · have e : j = ds.length := by omega
      subst e
      have hd : decide ((ds.length : Int) < (ds.length : Int)) = false := by simp
      have hq2 := hq
      subst hq2
      clear hq hB
      go_wp2
      go_ret
      exact ⟨rfl, BB.out⟩
end Go.Proofs.Ytbmjghkdhhcffaa

namespace Go.Proofs.Ytbmjghkdhhcffaa
open Go.ChangeShapes Go.WideShapes Go.ChangeAt Go.RowKit

/-- The names that are told ahead of card i of deck d. -/
def nmD (ls : List (List Cd)) (d i : Nat) : List ByteArray := nmTo (flatK ls ls.length) (nCds ls d + i)
theorem nmD_zero (ls : List (List Cd)) : nmD ls 0 0 = [] := rfl
theorem nmD_next (ls : List (List Cd)) (d : Nat) : nmD ls (d + 1) 0 = nmD ls d (csAt ls d).length := rfl
theorem nmD_len (ls : List (List Cd)) (d i : Nat) : (nmD ls d i).length ≤ nCds ls d + i := nmTo_len _ _
theorem nmD_old {ls : List (List Cd)} (ok : ∀ e, e < ls.length → deckOk (csAt ls e) = true) {d i : Nat} (hd : d < ls.length) (hi : i < (csAt ls d).length) (h : inAny ls (cdAt (csAt ls d) i).s d = true) : nmD ls d (i + 1) = nmD ls d i := nm_old ok hd hi h
theorem nmD_new {ls : List (List Cd)} (ok : ∀ e, e < ls.length → deckOk (csAt ls e) = true) {d i : Nat} (hd : d < ls.length) (hi : i < (csAt ls d).length) (h : inAny ls (cdAt (csAt ls d) i).s d = false) : nmD ls d (i + 1) = nmD ls d i ++ [(cdAt (csAt ls d) i).s] := nm_new ok hd hi h
theorem ownTx_made {w : World} {m B : Nat} (hn : m = w.heap.size) (hB : B ≤ w.heap.size) : OwnTx B [] (.slice (some ⟨m, 0, none⟩) 0 0) (w.alloc (.cells #[] 9)) := by
  subst hn; exact World.ownsRow_made w #[] 0 hB (Nat.zero_le _) rfl
theorem nCds_80 {ls : List (List Cd)} (ok : ∀ e, e < ls.length → deckOk (csAt ls e) = true) : ∀ k, k ≤ ls.length → nCds ls k ≤ 80 * k
  | 0, _ => Nat.le_refl _
  | k + 1, h => by
    have ih := nCds_80 ok k (by omega)
    have h2 := deckOk_80 (ok k (by omega))
    show nCds ls k + (csAt ls k).length ≤ _
    omega

set_option maxRecDepth 100000 in
set_option maxHeartbeats 3200000 in
theorem sNames_any (al : Option Addr) (ls : List (List Cd)) (cl : Nat) (w : World) (hL : LotC w al ls) (hF : ∀ i, i < ls.length → ∀ k, k < (csAt ls i).length → (cdAt (csAt ls i) k).fits) (ok : ∀ e, e < ls.length → deckOk (csAt ls e) = true) (hn : ls.length ≤ 3) :
    Calls Try.prog 84 #[.slice al ls.length cl] w (TxR (nmD ls ls.length 0) w) := by
  obtain ⟨i0, hi, hz0, hz1, hz2⟩ := info_parts info_tx
  have LL := Lib.hid hL
  have FF := Lib.hid hF
  have OK := Lib.hid ok
  have N80 := Lib.hid (nCds_80 ok)
  have NO := Lib.hid fun d i hd hi h => nmD_old ok (d := d) (i := i) hd hi h
  have NN := Lib.hid fun d i hd hi h => nmD_new ok (d := d) (i := i) hd hi h
  have B0 := Lib.hid (below_new (Below.refl w.heap.size w) (.cells #[] 9))
  have M0 := Lib.hid (ownTx_made (w := w) rfl (Nat.le_refl _))
  clear hL hF ok
  go_enter Try.func84, Try.ntmps84
  go_wp2
  go_loopw [3, 4] (fun v i wr => ∃ d : Nat, d ≤ ls.length ∧ i = .int .i64 (d : Int) ∧ OwnTx w.heap.size (nmD ls d 0) v wr ∧ Below w.heap.size w wr) (fun _ i _ => ls.length - (intOf i).toNat)
  case atStart => exact ⟨0, Nat.zero_le _, rfl, M0.out, B0.out⟩
  case round =>
    obtain ⟨d, hd, rfl, hO, hB⟩ := hrel
    have OO := Lib.hid hO
    have BB := Lib.hid hB
    clear hO
    by_cases hdl : d < ls.length
    · have hd1 : decide ((d : Int) < (ls.length : Int)) = true := by simpa using hdl
      obtain ⟨b1, o1, g, sc, rfl, hb1, p0, p1⟩ := LL.out d hdl
      have P0 := Lib.hid p0
      have P1 := Lib.hid p1
      have i3 : (0 : Int) ≤ (d : Int) := by omega
      have i4 : (d : Int) < (ls.length : Int) := by omega
      have n80 := N80.out d hd
      have m80 := deckOk_80 (OK.out d hdl)
      have ND := Lib.hid (nmD_next ls d)
      generalize wr = W2 at *
      clear hB p0 p1
      go_wp2_with fail
      go_loopw [3, 5] (fun v i wr => ∃ j : Nat, j ≤ (csAt ls d).length ∧ i = .int .i64 (j : Int) ∧ OwnTx w.heap.size (nmD ls d j) v wr ∧ Below w.heap.size w wr) (fun _ i _ => (csAt ls d).length - (intOf i).toNat)
      case atStart => exact ⟨0, Nat.zero_le _, rfl, OO.out, BB.out⟩
      case round =>
        obtain ⟨j, hj, rfl, hO, hB⟩ := hrel
        have O3 := Lib.hid hO
        have B3 := Lib.hid hB
        have d0 := (hB.cell (p := ⟨b1, o1 + d, none⟩) hb1).trans P0.out
        have y1 : b1 < wr.heap.size := Nat.lt_of_lt_of_le hb1 hB.size
        clear hO
        by_cases hjl : j < (csAt ls d).length
        · have hd2 : decide ((j : Int) < ((csAt ls d).length : Int)) = true := by simpa using hjl
          have i5 : (0 : Int) ≤ (j : Int) := by omega
          have i6 : (j : Int) < ((csAt ls d).length : Int) := by omega
          have NO1 := Lib.hid fun h => NO.out d j hdl hjl h
          have NN1 := Lib.hid fun h => NN.out d j hdl hjl h
          have nl := nmD_len ls d j
          obtain ⟨b2, o2, hg, hb2, q0, _, _⟩ := P1.out j hjl
          cases hg
          rw [Nat.zero_add] at q0
          have Q0 := Lib.hid q0
          generalize nmD ls d j = ns at *
          generalize (cdAt (csAt ls d) j).s = s at *
          generalize (csAt ls d).length = m at *
          generalize wr = W3 at *
          clear hB q0
          go_wp2_with fail
          clear d0 y1
          go_loopw [6, 7] (fun o i wr => ∃ k : Nat, k ≤ d ∧ i = .int .i64 (k : Int) ∧ o = .bool (inAny ls s k) ∧ Below W3.heap.size W3 wr) (fun _ i _ => d - (intOf i).toNat)
          case atStart => exact ⟨0, Nat.zero_le _, rfl, rfl, Below.refl _ _⟩
          case round =>
            obtain ⟨k, hk, rfl, rfl, hB⟩ := hrel
            have B4 := Lib.hid (B3.out.trans (Below.mono hB B3.out.size))
            have B5 := Lib.hid hB
            clear hB
            have d0 := (B4.out.cell (p := ⟨b1, o1 + d, none⟩) hb1).trans P0.out
            have y1 : b1 < wr.heap.size := Nat.lt_of_lt_of_le hb1 B4.out.size
            have d2 := (B4.out.cell (p := ⟨g, j * 3, none⟩) hb2).trans Q0.out
            have y2 : g < wr.heap.size := Nat.lt_of_lt_of_le hb2 B4.out.size
            by_cases hkl : k < d
            · have hd3 : decide ((k : Int) < (d : Int)) = true := by simpa using hkl
              have hkl2 : k < ls.length := by omega
              obtain ⟨b3, o3, g3, sc3, he, hb3, r0, r1⟩ := LL.out k hkl2
              cases he
              have d3 := (B4.out.cell (p := ⟨b1, o1 + k, none⟩) hb1).trans r0
              have i7 : (0 : Int) ≤ (k : Int) := by omega
              have i8 : (k : Int) < (ls.length : Int) := by omega
              have CI := Lib.hid (cardsIn_of (cellsC_below r1 B4.out) (FF.out k hkl2))
              have F := fun W h => sFind_any (some ⟨g3, 0, none⟩) (csAt ls k) sc3 s W h (deckOk_80 (OK.out k hkl2))
              have NX := Lib.hid (inAny_next ls s k)
              clear r0 r1
              have hbw := cell_bw
              cases hold : inAny ls s k
              · rw [hold, Bool.false_or] at NX
                generalize findC (csAt ls k) s = x at *
                generalize csAt ls k = cs at *
                have F := Lib.hid F
                clear hold
                by_cases hx : 0 ≤ x
                · have dx2 : decide ((0 : Int) ≤ x) = true := by simpa using hx
                  have NE := Lib.hid (NX.out.trans dx2)
                  go_wp2_with fail
                  refine region_bw (by kernel_rfl) (by kernel_rfl) ?_
                  repeat (go_big_quiet_step (first | (go_at_call 131; exact calls_bw (F.out _ (cardsIn_below CI.out (below_bw _ _))))))
                  refine wpQuiet_nil ?_; intro wq hq; replace hq := below_of_bw hq; obtain ⟨qc, qf, qz⟩ := bcell hq
                  have B6 := Lib.hid (B5.out.trans (Below.mono hq B5.out.size))
                  clear hbw d0 d2 d3 qc qf qz hq
                  go_wp2_with fail
                  exact ⟨⟨k + 1, hkl, by rw [Int.natCast_succ], by rw [NE.out], B6.out⟩, by (simp [intOf]) <;> omega⟩
                · have dx2 : decide ((0 : Int) ≤ x) = false := by simpa using hx
                  have NE := Lib.hid (NX.out.trans dx2)
                  go_wp2_with fail
                  refine region_bw (by kernel_rfl) (by kernel_rfl) ?_
                  repeat (go_big_quiet_step (first | (go_at_call 131; exact calls_bw (F.out _ (cardsIn_below CI.out (below_bw _ _))))))
                  refine wpQuiet_nil ?_; intro wq hq; replace hq := below_of_bw hq; obtain ⟨qc, qf, qz⟩ := bcell hq
                  have B6 := Lib.hid (B5.out.trans (Below.mono hq B5.out.size))
                  clear hbw d0 d2 d3 qc qf qz hq
                  go_wp2_with fail
                  exact ⟨⟨k + 1, hkl, by rw [Int.natCast_succ], by rw [NE.out], B6.out⟩, by (simp [intOf]) <;> omega⟩
              · rw [hold, Bool.true_or] at NX
                clear hold F CI
                go_wp2_with fail
                refine region_bw (by kernel_rfl) (by kernel_rfl) ?_
                repeat (go_big_quiet_step (fail))
                refine wpQuiet_nil ?_; intro wq hq; replace hq := below_of_bw hq; obtain ⟨qc, qf, qz⟩ := bcell hq
                have B6 := Lib.hid (B5.out.trans (Below.mono hq B5.out.size))
                clear hbw d0 d2 d3 qc qf qz hq
                go_wp2_with fail
                exact ⟨⟨k + 1, hkl, by rw [Int.natCast_succ], by rw [NX.out], B6.out⟩, by (simp [intOf]) <;> omega⟩
            · have e : k = d := by omega
              subst e
              have hd3 : decide ((k : Int) < (k : Int)) = false := by simp
              have O4 := Lib.hid (ownTx_kept O3.out B5.out)
              have s4 := B4.out.size
              cases hold : inAny ls s k
              · have NX := Lib.hid (NN1.out hold)
                clear hold NO1 NN1
                go_wp2_with (at_builtin; refine wpList_append_lies _ rfl _ _ 24 rfl w.heap.size 9 i0 (.string ⟨#[]⟩) 1 16 Try.underlying24 hi hz0 hz1 hz2 rfl (by decide) _ _ _ rfl (World.ownsRow.alloc O4.out _) ⟨wr.heap.size, 0, none⟩ 1 1 [.string s] rfl rfl (new1T _ _ _) (fun x hx => by simp at hx; subst hx; rfl) (by omega) (by unfold maxLen; omega) (by omega) (by simp; omega) _ rfl ?_; intro gg cap2 w8 hown hgrow _ _; have P := Lib.hid (ownTx_push hown); have G := Lib.hid hgrow; clear hown hgrow)
                exact ⟨⟨j + 1, hjl, by rw [Int.natCast_succ], by rw [NX.out]; exact P.out, Below.grown (below_new B4.out _) G.out (by simp; omega) (fun k hk => ownTx_lt O4.out k hk)⟩, by (simp [intOf]) <;> omega⟩
              · have NX := Lib.hid (NO1.out hold)
                clear hold NO1 NN1
                go_wp2_with fail
                exact ⟨⟨j + 1, hjl, by rw [Int.natCast_succ], by rw [NX.out]; exact O4.out, B4.out⟩, by (simp [intOf]) <;> omega⟩
        · have e : j = (csAt ls d).length := by omega
          subst e
          have hd2 : decide (((csAt ls d).length : Int) < ((csAt ls d).length : Int)) = false := by simp
          rw [← ND.out] at O3
          clear hB
          go_wp2_with fail
          exact ⟨⟨d + 1, hdl, by rw [Int.natCast_succ], O3.out, B3.out⟩, by (simp [intOf]) <;> omega⟩
    · have e : d = ls.length := by omega
      subst e
      have hd1 : decide ((ls.length : Int) < (ls.length : Int)) = false := by simp
      clear hB
      go_wp2_with fail
      go_ret
      exact ⟨_, rfl, OO.out, BB.out⟩
end Go.Proofs.Ytbmjghkdhhcffaa

namespace Go.Proofs.Ytbmjghkdhhcffaa
open Go.ChangeShapes Go.WideShapes Go.ChangeAt Go.RowKit

set_option maxRecDepth 100000 in
set_option maxHeartbeats 1600000 in
theorem sOf_any (ad : Option Addr) (cs : List Cd) (c : Nat) (s : ByteArray) (w : World) (hc : CardsIn w ad cs) (ok : deckOk cs = true) :
    Calls Try.prog 85 #[.slice ad cs.length c, .string s] w fun e w' => e = .returned (stV (stOf cs s)) ∧ Below w.heap.size w w' := by
  have C := Lib.hid hc
  have F := fun W h => sFind_any ad cs c s W h (deckOk_80 ok)
  have A0 := below_new (Below.refl w.heap.size w) (.cells #[.bool false, .int .u64 0, .int .u64 0] 134)
  have C0 := Lib.hid (cardsIn_below hc A0)
  clear hc
  rcases st_find ok s with ⟨hf, hs, _⟩ | ⟨k, hk, hf, hn, hs, _⟩
  · rw [hf] at F
    rw [hs]
    have F := Lib.hid F
    unfold stV st0
    clear hf hs A0
    go_enter Try.func85, Try.ntmps85
    go_wp2_with (go_at_call 131; refine (F.out _ C0.out).mono ?_; rintro e w1 ⟨rfl, hB⟩; have B1 := Lib.hid hB; have n2 := Ab.block hB (block_alloc w (.cells #[.bool false, .int .u64 0, .int .u64 0] 134)); have k0 := cell_of_block n2; have k1 := free_of_block n2; have k2 := lt_of_block n2; have B2 := Lib.hid (Below.trans (below_new (Below.refl w.heap.size w) (.cells #[.bool false, .int .u64 0, .int .u64 0] 134)) (hB.mono (by simp))); clear hB n2)
    refine bodyPost_ret (by simp [results, Try.results85, go_sem,  k0]; try rfl) rfl ?_
    exact ⟨rfl, Below.setCell (Below.setCell (Below.setCell B2.out (Nat.le_refl _) _) (Nat.le_refl _) _) (Nat.le_refl _) _⟩
  · rw [hf] at F
    rw [hs]
    have F := Lib.hid F
    unfold stV
    have dk : decide ((k : Int) < 0) = false := by simp
    have k3 : (0 : Int) ≤ (k : Int) := by omega
    have k4 : (k : Int) < (cs.length : Int) := by omega
    obtain ⟨_, b2, o2, rfl, hb2, q0, q1, q2⟩ := C0.out k hk
    have z2 := Lib.hid hb2
    have Q1 := Lib.hid q1
    have Q2 := Lib.hid q2
    generalize cdAt cs k = x at *
    obtain ⟨sx, xa, xb⟩ := x
    simp only at Q1 Q2
    clear hf hs A0 q0 q1 q2 hb2
    go_enter Try.func85, Try.ntmps85
    go_wp2_with (go_at_call 131; refine (F.out _ C0.out).mono ?_; rintro e w1 ⟨rfl, hB⟩; have B1 := Lib.hid hB; have e1 := (hB.cell (p := ⟨b2, o2 + k * 3 + 1, none⟩) z2.out).trans Q1.out; have e2 := (hB.cell (p := ⟨b2, o2 + k * 3 + 2, none⟩) z2.out).trans Q2.out; have n2 := Ab.block hB (block_alloc w (.cells #[.bool false, .int .u64 0, .int .u64 0] 134)); have k0 := cell_of_block n2; have k1 := free_of_block n2; have k2 := lt_of_block n2; have B2 := Lib.hid (Below.trans (below_new (Below.refl w.heap.size w) (.cells #[.bool false, .int .u64 0, .int .u64 0] 134)) (hB.mono (by simp))); clear hB n2)
    refine bodyPost_ret (by simp [results, Try.results85, go_sem,  k0]; try rfl) rfl ?_
    exact ⟨rfl, Below.setCell (Below.setCell (Below.setCell B2.out (Nat.le_refl _) _) (Nat.le_refl _) _) (Nat.le_refl _) _⟩
end Go.Proofs.Ytbmjghkdhhcffaa

namespace Go.Proofs.Ytbmjghkdhhcffaa
open Go.ChangeShapes Go.WideShapes Go.ChangeAt Go.RowKit

theorem eq_mask7 (a b c d : Int) (w : World) : (Op.equalIn 9999 37 (.agg #[.int .u64 a, .int .u64 b]) (.agg #[.int .u64 c, .int .u64 d])).run Try.prog w = .ok (a == c && b == d) w := by
  have u3 := Try.underlying35
  have a3 := Try.isAgg35
  have z3 := Try.sizeOf35
  rw [show (9999 : Nat) = 9998 + 1 from rfl, Op.equalIn]
  simp only [Sem.run_bind, run_underlying Try.underlying37, Result.andThen_ok]
  simp only [Std.Legacy.Range.forIn_eq_forIn_range', Std.Legacy.Range.size, Nat.sub_zero, Nat.add_sub_cancel, Nat.div_one, List.range'_succ, List.range'_zero, List.forIn_cons, List.forIn_nil]
  go_simp
  by_cases h1 : a = c <;> by_cases h2 : b = d <;> simp [h1, h2]
theorem eq_st7 (t u : Bool) (a b c d : Int) (w : World) : (Op.equalIn 10000 134 (.agg #[.bool t, .int .u64 a, .int .u64 b]) (.agg #[.bool u, .int .u64 c, .int .u64 d])).run Try.prog w = .ok (t == u && (a == c && b == d)) w := by
  have us := Try.underlying4
  have ag := Try.isAgg4
  have zs := Try.sizeOf4
  have am := Try.isAgg37
  have zm := Try.sizeOf37
  have em := eq_mask7
  have hS : Try.prog.underlying 134 = some (.struct (Try.prog.fieldsOf 134)) := by kernel_rfl
  rw [show (10000 : Nat) = 9999 + 1 from rfl, run_equalIn_struct w 9999 134 _ _ hS (by kernel_rfl)]
  simp only [Program.fieldsOf, Try.underlying134]
  go_simp
  cases t <;> cases u <;> by_cases h1 : a = c <;> by_cases h2 : b = d <;> simp [h1, h2]

theorem lot2 {w : World} {n : Nat} (hn : n = w.heap.size) {ps qs : List Cd} {g1 g2 c1 c2 : Nat} (h1 : CellsC w (some ⟨g1, 0, none⟩) ps) (h2 : CellsC w (some ⟨g2, 0, none⟩) qs) :
    LotC (w.alloc (.cells #[.slice (some ⟨g1, 0, none⟩) ps.length c1, .slice (some ⟨g2, 0, none⟩) qs.length c2] 27)) (some ⟨n, 0, none⟩) [ps, qs] := by
  subst hn
  intro i hi
  have hlt : w.heap.size < (w.alloc (.cells #[.slice (some ⟨g1, 0, none⟩) ps.length c1, .slice (some ⟨g2, 0, none⟩) qs.length c2] 27)).heap.size := by simp
  match i, hi with
  | 0, _ => exact ⟨_, _, g1, c1, rfl, hlt, by simp [csAt], cellsC_below h1 (below_new (Below.refl _ _) _)⟩
  | 1, _ => exact ⟨_, _, g2, c2, rfl, hlt, by simp [csAt], cellsC_below h2 (below_new (Below.refl _ _) _)⟩
  | n + 2, h => exact absurd h (by simp)
theorem new1N (w : World) (n : Nat) (hn : w.heap.size = n) (x0 : Value) (t : TypeId) : ∀ j u, [x0][j]? = some u → (w.alloc (.cells #[x0] t)).cell? ((⟨n, 0, none⟩ : Addr).add j) = some u := by subst hn; exact new1T w x0 t
/-- The names of two decks. -/
def nm2 (ps qs : List Cd) : List ByteArray := nmD [ps, qs] 2 0
theorem nm2_eq (ps qs : List Cd) : nm2 ps qs = nmTo (ps ++ qs) (ps ++ qs).length := by
  show nmTo ([] ++ ps ++ qs) (0 + ps.length + qs.length + 0) = _
  rw [List.nil_append, List.length_append, Nat.zero_add, Nat.add_zero]
theorem nm2_len (ps qs : List Cd) : (nm2 ps qs).length ≤ ps.length + qs.length := by rw [nm2_eq, ← List.length_append]; exact nmTo_len _ _
/-- The first n names that are in conflict. -/
def cnT (ps qs rs : List Cd) (ns : List ByteArray) (n : Nat) : List ByteArray := (ns.take n).filter fun s => isC (stOf ps s) (stOf qs s) (stOf rs s)
theorem cnT_zero (ps qs rs : List Cd) (ns : List ByteArray) : cnT ps qs rs ns 0 = [] := by unfold cnT; rw [List.take_zero]; rfl
theorem cnT_yes {ps qs rs : List Cd} {ns : List ByteArray} {n : Nat} (hn : n < ns.length) {s : ByteArray} (hs : ns.getD n ⟨#[]⟩ = s) (h : isC (stOf ps s) (stOf qs s) (stOf rs s) = true) : cnT ps qs rs ns (n + 1) = cnT ps qs rs ns n ++ [s] := by
  rw [List.getD, List.getElem?_eq_getElem hn] at hs
  simp only [Option.getD_some] at hs
  unfold cnT
  rw [List.take_succ_eq_append_getElem hn, List.filter_append, hs]
  simp [h]
theorem cnT_no {ps qs rs : List Cd} {ns : List ByteArray} {n : Nat} (hn : n < ns.length) {s : ByteArray} (hs : ns.getD n ⟨#[]⟩ = s) (h : isC (stOf ps s) (stOf qs s) (stOf rs s) = false) : cnT ps qs rs ns (n + 1) = cnT ps qs rs ns n := by
  rw [List.getD, List.getElem?_eq_getElem hn] at hs
  simp only [Option.getD_some] at hs
  unfold cnT
  rw [List.take_succ_eq_append_getElem hn, List.filter_append, hs]
  simp [h]
theorem cnT_len (ps qs rs : List Cd) (ns : List ByteArray) (n : Nat) : (cnT ps qs rs ns n).length ≤ ns.length := Nat.le_trans (List.length_filter_le _ _) (List.length_take_le' _ _)
theorem cnT_all (ps qs rs : List Cd) : cnT ps qs rs (nm2 ps qs) (nm2 ps qs).length = cnL (ft3 ps qs rs) (ft3 ps qs rs).length := by
  unfold cnT ft3
  rw [List.take_length, nm2_eq, cnL_all, all3_eq, cf_two]
theorem cfL_len (ps qs rs : List Cd) : (cfL ps qs rs).length ≤ ps.length + qs.length + rs.length := by
  unfold cfL
  split
  · exact Nat.le_trans (cnL_len _ _) (ft3_len ps qs rs)
  · exact Nat.zero_le _
theorem fit2 {ps qs : List Cd} (h1 : ∀ i, i < ps.length → (cdAt ps i).fits) (h2 : ∀ i, i < qs.length → (cdAt qs i).fits) : ∀ i, i < [ps, qs].length → ∀ k, k < (csAt [ps, qs] i).length → (cdAt (csAt [ps, qs] i) k).fits := fun i hi =>
  match i, hi with
  | 0, _ => h1
  | 1, _ => h2
  | n + 2, h => absurd h (by simp)
theorem ok2 {ps qs : List Cd} (h1 : deckOk ps = true) (h2 : deckOk qs = true) : ∀ e, e < [ps, qs].length → deckOk (csAt [ps, qs] e) = true := fun i hi =>
  match i, hi with
  | 0, _ => h1
  | 1, _ => h2
  | n + 2, h => absurd h (by simp)

set_option maxRecDepth 100000 in
set_option maxHeartbeats 3200000 in
theorem sConfl_any (g1 g2 g3 : Nat) (ps qs rs : List Cd) (c1 c2 c3 : Nat) (w : World) (h1 : CardsIn w (some ⟨g1, 0, none⟩) ps) (h2 : CardsIn w (some ⟨g2, 0, none⟩) qs) (h3 : CardsIn w (some ⟨g3, 0, none⟩) rs) (k1 : deckOk ps = true) (k2 : deckOk qs = true) (k3 : deckOk rs = true) :
    Calls Try.prog 42 #[.slice (some ⟨g1, 0, none⟩) ps.length c1, .slice (some ⟨g2, 0, none⟩) qs.length c2, .slice (some ⟨g3, 0, none⟩) rs.length c3] w (TxR (cnL (ft3 ps qs rs) (ft3 ps qs rs).length) w) := by
  obtain ⟨i0, hi, hz0, hz1, hz2⟩ := info_parts info_tx
  rw [← cnT_all]
  have H1 := Lib.hid h1
  have H2 := Lib.hid h2
  have H3 := Lib.hid h3
  have S1 := fun s W h => sOf_any (some ⟨g1, 0, none⟩) ps c1 s W h k1
  have S2 := fun s W h => sOf_any (some ⟨g2, 0, none⟩) qs c2 s W h k2
  have S3 := fun s W h => sOf_any (some ⟨g3, 0, none⟩) rs c3 s W h k3
  have A0 := Lib.hid (below_new (Below.refl w.heap.size w) (.cells #[.slice (some ⟨g1, 0, none⟩) ps.length c1, .slice (some ⟨g2, 0, none⟩) qs.length c2] 27))
  have NM := Lib.hid (show Calls Try.prog 84 #[.slice (some ⟨w.heap.size, 0, none⟩) 2 2] (w.alloc (.cells #[.slice (some ⟨g1, 0, none⟩) ps.length c1, .slice (some ⟨g2, 0, none⟩) qs.length c2] 27)) (TxR (nm2 ps qs) _) from
    sNames_any (some ⟨w.heap.size, 0, none⟩) [ps, qs] 2 _ (lot2 (c1 := c1) (c2 := c2) rfl (fun i hi => (h1 i hi).2) (fun i hi => (h2 i hi).2)) (fit2 (fun i hi => (h1 i hi).1) (fun i hi => (h2 i hi).1)) (ok2 k1 k2) (by simp))
  have ln := nm2_len ps qs
  have l1 := deckOk_80 k1
  have l2 := deckOk_80 k2
  generalize nm2 ps qs = ns at *
  have ln : ns.length ≤ 160 := by omega
  clear h1 h2 h3 k1 k2 k3 l1 l2
  go_enter Try.func42, Try.ntmps42
  go_wp2_with (go_at_call 84; refine NM.out.mono ?_; rintro e w1 ⟨v1, rfl, hO, hB⟩; obtain ⟨a1, cc1, rfl, hI⟩ := ownTx_in hO; have I1 := Lib.hid hI; have B1 := Lib.hid (A0.out.trans (Below.mono hB A0.out.size)); clear hO hI hB)
  have C0 := Lib.hid (below_new (Below.refl w1.heap.size w1) (.cells #[] 9))
  have M0 := Lib.hid (ownTx_made (w := w1) rfl (Nat.le_refl _))
  have h11 := Lib.hid (cardsIn_below H1.out B1.out)
  have h12 := Lib.hid (cardsIn_below H2.out B1.out)
  have h13 := Lib.hid (cardsIn_below H3.out B1.out)
  go_loopw [8, 9] (fun v i wr => ∃ j : Nat, j ≤ ns.length ∧ i = .int .i64 (j : Int) ∧ OwnTx w1.heap.size (cnT ps qs rs ns j) v wr ∧ Below w1.heap.size w1 wr) (fun _ i _ => ns.length - (intOf i).toNat)
  case atStart => exact ⟨0, Nat.zero_le _, rfl, by rw [cnT_zero]; exact M0.out, C0.out⟩
  case round =>
    obtain ⟨j, hj, rfl, hO, hB⟩ := hrel
    have OO := Lib.hid hO
    have BB := Lib.hid hB
    clear hO
    by_cases hjl : j < ns.length
    · have hd : decide ((j : Int) < (ns.length : Int)) = true := by simpa using hjl
      obtain ⟨b1, o1, rfl, hb1, p0⟩ := I1.out j hjl
      have d0 := (hB.cell (p := ⟨b1, o1 + j, none⟩) hb1).trans p0
      have P0 := Lib.hid p0
      have y1 : b1 < wr.heap.size := Nat.lt_of_lt_of_le hb1 hB.size
      have HB1 := Lib.hid hb1
      have i1 : (0 : Int) ≤ (j : Int) := by omega
      have i2 : (j : Int) < (ns.length : Int) := by omega
      have cl := cnT_len ps qs rs ns j
      have NY := fun h => cnT_yes (ps := ps) (qs := qs) (rs := rs) hjl rfl h
      have NN := fun h => cnT_no (ps := ps) (qs := qs) (rs := rs) hjl rfl h
      generalize cnT ps qs rs ns j = xs at *
      generalize ns.getD j ⟨#[]⟩ = s at *
      have T1 := S1 s
      have T2 := S2 s
      have T3 := S3 s
      generalize stOf ps s = x at *
      generalize stOf qs s = y at *
      generalize stOf rs s = z at *
      obtain ⟨t1, p1, q1⟩ := x
      obtain ⟨t2, p2, q2⟩ := y
      obtain ⟨t3, p3, q3⟩ := z
      unfold stV at T1 T2 T3
      simp only at T1 T2 T3
      replace T1 := Lib.hid T1
      replace T2 := Lib.hid T2
      replace T3 := Lib.hid T3
      replace NY := Lib.hid NY
      replace NN := Lib.hid NN
      clear hB p0 hb1 S1 S2 S3
      have tok1 : True := trivial
      have tok2 : True := trivial
      go_upto_region 9 with (first
        | (go_at_call 85; have _t := tok1; clear _t tok1; refine (T1.out _ (cardsIn_below h11.out BB.out)).mono ?_; rintro e w2 ⟨rfl, hB2⟩; have A2a := Lib.hid (below_new (show Below wr.heap.size wr w2 from hB2) (.cells #[.bool t1, .int .u64 p1, .int .u64 q1] 134)); have B2 := Lib.hid (BB.out.trans (Below.mono hB2 BB.out.size)); have B2a := Lib.hid (below_new B2.out (.cells #[.bool t1, .int .u64 p1, .int .u64 q1] 134)); clear d0 y1; have d0 := (B2.out.cell (p := ⟨b1, o1 + j, none⟩) HB1.out).trans P0.out; have y1 : b1 < w2.heap.size := Nat.lt_of_lt_of_le HB1.out B2.out.size; clear hB2)
        | (go_at_call 85; have _t := tok2; clear _t tok2; refine (T2.out _ (cardsIn_below h12.out B2a.out)).mono ?_; rintro e w3 ⟨rfl, hB3⟩; have A3a := Lib.hid (below_new (A2a.out.trans (Below.mono hB3 A2a.out.size)) (.cells #[.bool t2, .int .u64 p2, .int .u64 q2] 134)); have B3 := Lib.hid (B2a.out.trans (Below.mono hB3 B2a.out.size)); have B3a := Lib.hid (below_new B3.out (.cells #[.bool t2, .int .u64 p2, .int .u64 q2] 134)); have n2 := Ab.block hB3 (block_alloc w2 (.cells #[.bool t1, .int .u64 p1, .int .u64 q1] 134)); have N2 := Lib.hid (Ab.block (below_new (Below.refl w3.heap.size w3) (.cells #[.bool t2, .int .u64 p2, .int .u64 q2] 134)) n2); clear d0 y1; have d0 := (B3.out.cell (p := ⟨b1, o1 + j, none⟩) HB1.out).trans P0.out; have y1 : b1 < w3.heap.size := Nat.lt_of_lt_of_le HB1.out B3.out.size; clear hB3 n2)
        | (go_at_call 85; refine (T3.out _ (cardsIn_below h13.out B3a.out)).mono ?_; rintro e w4 ⟨rfl, hB4⟩; have A4a := Lib.hid (below_new (A3a.out.trans (Below.mono hB4 A3a.out.size)) (.cells #[.bool t3, .int .u64 p3, .int .u64 q3] 134)); have B4 := Lib.hid (B3a.out.trans (Below.mono hB4 B3a.out.size)); have B4a := Lib.hid (below_new B4.out (.cells #[.bool t3, .int .u64 p3, .int .u64 q3] 134)); have n2 := Ab.block hB4 N2.out; have n3 := Ab.block hB4 (block_alloc w3 (.cells #[.bool t2, .int .u64 p2, .int .u64 q2] 134)); have k2 := cell_of_block n2; have k3 := cell_of_block n3; have z2 := lt_of_block n2; have z3 := lt_of_block n3; clear d0 y1; have d0 := (B4.out.cell (p := ⟨b1, o1 + j, none⟩) HB1.out).trans P0.out; have y1 : b1 < w4.heap.size := Nat.lt_of_lt_of_le HB1.out B4.out.size; clear hB4 n2 n3))
      have e12 : ∀ W, (Op.equalIn 10000 134 (.agg #[.bool t1, .int .u64 p1, .int .u64 q1]) (.agg #[.bool t2, .int .u64 p2, .int .u64 q2])).run Try.prog W = .ok (eqSt ⟨t1, p1, q1⟩ ⟨t2, p2, q2⟩) W := fun W => eq_st7 t1 t2 p1 q1 p2 q2 W
      have e13 : ∀ W, (Op.equalIn 10000 134 (.agg #[.bool t1, .int .u64 p1, .int .u64 q1]) (.agg #[.bool t3, .int .u64 p3, .int .u64 q3])).run Try.prog W = .ok (eqSt ⟨t1, p1, q1⟩ ⟨t3, p3, q3⟩) W := fun W => eq_st7 t1 t3 p1 q1 p3 q3 W
      have e23 : ∀ W, (Op.equalIn 10000 134 (.agg #[.bool t2, .int .u64 p2, .int .u64 q2]) (.agg #[.bool t3, .int .u64 p3, .int .u64 q3])).run Try.prog W = .ok (eqSt ⟨t2, p2, q2⟩ ⟨t3, p3, q3⟩) W := fun W => eq_st7 t2 t3 p2 q2 p3 q3 W
      have HC := Lib.hid (show isC ⟨t1, p1, q1⟩ ⟨t2, p2, q2⟩ ⟨t3, p3, q3⟩ = (!(eqSt ⟨t1, p1, q1⟩ ⟨t2, p2, q2⟩) && (!(eqSt ⟨t1, p1, q1⟩ ⟨t3, p3, q3⟩) && !(eqSt ⟨t2, p2, q2⟩ ⟨t3, p3, q3⟩))) from rfl)
      generalize eqSt ⟨t1, p1, q1⟩ ⟨t2, p2, q2⟩ = f12 at *
      generalize eqSt ⟨t1, p1, q1⟩ ⟨t3, p3, q3⟩ = f13 at *
      generalize eqSt ⟨t2, p2, q2⟩ ⟨t3, p3, q3⟩ = f23 at *
      have O4 := Lib.hid (ownTx_kept OO.out A4a.out)
      clear T1 T2 T3
      cases f12
      · cases f13
        · cases f23
          · have NX := Lib.hid (NY.out (HC.out.trans (by simp)))
            have s4 := B4.out.size
            clear NY NN HC
            go_wp2_with (at_builtin; refine wpList_append_lies _ rfl _ _ 24 rfl w1.heap.size 9 i0 (.string ⟨#[]⟩) 1 16 Try.underlying24 hi hz0 hz1 hz2 rfl (by decide) _ _ _ rfl (World.ownsRow.alloc O4.out _) ⟨w4.heap.size + 1, 0, none⟩ 1 1 [.string s] rfl rfl (new1N (w4.alloc (.cells #[.bool t3, .int .u64 p3, .int .u64 q3] 134)) _ (by simp) _ _) (fun x hx => by simp at hx; subst hx; rfl) (by omega) (by unfold maxLen; omega) (by omega) (by simp; omega) _ rfl ?_; intro gg cap2 w8 hown hgrow _ _; have P := Lib.hid (ownTx_push hown); have G := Lib.hid hgrow; clear hown hgrow)
            exact ⟨⟨j + 1, hjl, by rw [Int.natCast_succ], by rw [NX.out]; exact P.out, Below.grown (below_new B4a.out _) G.out (by simp; omega) (fun k hk => ownTx_lt O4.out k hk)⟩, by (simp [intOf]) <;> omega⟩
          · have NX := Lib.hid (NN.out (HC.out.trans (by simp)))
            clear NY NN HC
            go_wp2_with fail
            exact ⟨⟨j + 1, hjl, by rw [Int.natCast_succ], by rw [NX.out]; exact ownTx_kept OO.out A4a.out, B4a.out⟩, by (simp [intOf]) <;> omega⟩
        · have NX := Lib.hid (NN.out (HC.out.trans (by simp)))
          clear NY NN HC
          go_wp2_with fail
          exact ⟨⟨j + 1, hjl, by rw [Int.natCast_succ], by rw [NX.out]; exact ownTx_kept OO.out A4a.out, B4a.out⟩, by (simp [intOf]) <;> omega⟩
      · have NX := Lib.hid (NN.out (HC.out.trans (by simp)))
        clear NY NN HC
        go_wp2_with fail
        exact ⟨⟨j + 1, hjl, by rw [Int.natCast_succ], by rw [NX.out]; exact ownTx_kept OO.out A4a.out, B4a.out⟩, by (simp [intOf]) <;> omega⟩
    · have e : j = ns.length := by omega
      subst e
      have hd : decide ((ns.length : Int) < (ns.length : Int)) = false := by simp
      clear hB
      go_wp2
      go_ret
      exact ⟨_, rfl, ownTx_weak OO.out B1.out.size, B1.out.trans (Below.mono BB.out B1.out.size)⟩

set_option maxRecDepth 100000 in
set_option maxHeartbeats 3200000 in
theorem sConflicts_any (g1 g2 g3 : Nat) (ps qs rs : List Cd) (c1 c2 c3 : Nat) (w : World) (h1 : CardsIn w (some ⟨g1, 0, none⟩) ps) (h2 : CardsIn w (some ⟨g2, 0, none⟩) qs) (h3 : CardsIn w (some ⟨g3, 0, none⟩) rs) :
    Calls Try.prog 8 #[.slice (some ⟨g1, 0, none⟩) ps.length c1, .slice (some ⟨g2, 0, none⟩) qs.length c2, .slice (some ⟨g3, 0, none⟩) rs.length c3] w (CfR (cfL ps qs rs) (cfC ps qs rs) w) := by
  have H1 := Lib.hid h1
  have H2 := Lib.hid h2
  have H3 := Lib.hid h3
  have V1 := fun W h => sDeckOk_any (some ⟨g1, 0, none⟩) ps c1 W h
  have V2 := fun W h => sDeckOk_any (some ⟨g2, 0, none⟩) qs c2 W h
  have V3 := fun W h => sDeckOk_any (some ⟨g3, 0, none⟩) rs c3 W h
  clear h1 h2 h3
  have tok1 : True := trivial
  have tok2 : True := trivial
  have tok3 : True := trivial
  unfold cfL cfC
  cases k1 : deckOk ps
  · rw [k1] at V1
    replace V1 := Lib.hid V1
    replace V2 := Lib.hid V2
    replace V3 := Lib.hid V3
    simp only [Bool.true_and, Bool.false_and, Bool.false_eq_true, if_false]
    clear k1
    go_enter Try.func8, Try.ntmps8
    go_wp2_with (first
      | (go_at_call 41; have _t := tok1; clear _t tok1; refine (V1.out _ H1.out).mono ?_; rintro e w1 ⟨rfl, hB⟩; have b1 := Lib.hid hB; clear hB))
    go_returns
    exact ⟨_, rfl, ownTx_made rfl b1.out.size, below_new b1.out _⟩
  rw [k1] at V1
  cases k2 : deckOk qs
  · rw [k2] at V2
    replace V1 := Lib.hid V1
    replace V2 := Lib.hid V2
    replace V3 := Lib.hid V3
    simp only [Bool.true_and, Bool.false_and, Bool.false_eq_true, if_false]
    clear k1 k2
    go_enter Try.func8, Try.ntmps8
    go_wp2_with (first
      | (go_at_call 41; have _t := tok1; clear _t tok1; refine (V1.out _ H1.out).mono ?_; rintro e w1 ⟨rfl, hB⟩; have b1 := Lib.hid hB; clear hB)
      | (go_at_call 41; have _t := tok2; clear _t tok2; refine (V2.out _ (cardsIn_below H2.out b1.out)).mono ?_; rintro e w2 ⟨rfl, hB⟩; have b2 := Lib.hid (b1.out.trans (Below.mono hB b1.out.size)); clear hB))
    go_returns
    exact ⟨_, rfl, ownTx_made rfl b2.out.size, below_new b2.out _⟩
  rw [k2] at V2
  cases k3 : deckOk rs
  · rw [k3] at V3
    replace V1 := Lib.hid V1
    replace V2 := Lib.hid V2
    replace V3 := Lib.hid V3
    simp only [Bool.true_and, Bool.false_and, Bool.false_eq_true, if_false]
    clear k1 k2 k3
    go_enter Try.func8, Try.ntmps8
    go_wp2_with (first
      | (go_at_call 41; have _t := tok1; clear _t tok1; refine (V1.out _ H1.out).mono ?_; rintro e w1 ⟨rfl, hB⟩; have b1 := Lib.hid hB; clear hB)
      | (go_at_call 41; have _t := tok2; clear _t tok2; refine (V2.out _ (cardsIn_below H2.out b1.out)).mono ?_; rintro e w2 ⟨rfl, hB⟩; have b2 := Lib.hid (b1.out.trans (Below.mono hB b1.out.size)); clear hB)
      | (go_at_call 41; have _t := tok3; clear _t tok3; refine (V3.out _ (cardsIn_below H3.out b2.out)).mono ?_; rintro e w3 ⟨rfl, hB⟩; have b3 := Lib.hid (b2.out.trans (Below.mono hB b2.out.size)); clear hB))
    go_returns
    exact ⟨_, rfl, ownTx_made rfl b3.out.size, below_new b3.out _⟩
  rw [k3] at V3
  have C := Lib.hid fun W h1 h2 h3 => sConfl_any g1 g2 g3 ps qs rs c1 c2 c3 W h1 h2 h3 k1 k2 k3
  replace V1 := Lib.hid V1
  replace V2 := Lib.hid V2
  replace V3 := Lib.hid V3
  simp only [Bool.true_and, if_true]
  clear k1 k2 k3
  generalize cnL (ft3 ps qs rs) (ft3 ps qs rs).length = xs at *
  go_enter Try.func8, Try.ntmps8
  go_wp2_with (first
    | (go_at_call 41; have _t := tok1; clear _t tok1; refine (V1.out _ H1.out).mono ?_; rintro e w1 ⟨rfl, hB⟩; have b1 := Lib.hid hB; clear hB)
    | (go_at_call 41; have _t := tok2; clear _t tok2; refine (V2.out _ (cardsIn_below H2.out b1.out)).mono ?_; rintro e w2 ⟨rfl, hB⟩; have b2 := Lib.hid (b1.out.trans (Below.mono hB b1.out.size)); clear hB)
    | (go_at_call 41; have _t := tok3; clear _t tok3; refine (V3.out _ (cardsIn_below H3.out b2.out)).mono ?_; rintro e w3 ⟨rfl, hB⟩; have b3 := Lib.hid (b2.out.trans (Below.mono hB b2.out.size)); clear hB)
    | (go_at_call 42; refine (C.out _ (cardsIn_below H1.out b3.out) (cardsIn_below H2.out b3.out) (cardsIn_below H3.out b3.out)).mono ?_; rintro e w4 ⟨v4, rfl, hO, hB⟩; have O4 := Lib.hid (ownTx_weak hO b3.out.size); have b4 := Lib.hid (b3.out.trans (Below.mono hB b3.out.size)); clear hO hB))
  go_returns
  exact ⟨_, rfl, O4.out, b4.out⟩
end Go.Proofs.Ytbmjghkdhhcffaa
