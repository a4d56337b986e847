/- Several texts in one, as a claim has at most 60 files: ApM SAp ApA Sm Stp ApI Rfc ApC Hash ApF ApG EdX ApP EdU ApX ApY EtL. -/
import Derived.Test.YtpgonfeobfefaaaDoorStM
import Derived.Test.YtpgonfeobfefaaaDoorEdV
import Derived.Test.YtpgonfeobfefaaaDoorBit
import Derived.Test.YtpgonfeobfefaaaDoorDrops
import Derived.Test.YtpgonfeobfefaaaDoorHole
import Derived.Test.YtpgonfeobfefaaaDoorWith
import Derived.Test.YtpgonfeobfefaaaDoorWithin
import Derived.Test.YtpgonfeobfefaaaDoorFloat
import Derived.Deep.AppendLies
import Derived.Deep.RegionLaw
import Derived.Deep.DeepCutAuto
import Derived.Test.YtpgonfeobfefaaaDoorBoxes
import Derived.Test.YtpgonfeobfefaaaDoorWear2
import Derived.Laws.StructEq
import Derived.Maps.RangeWalk
import Derived.Maps.OwnSet
import Derived.Maps.OwnOps
import Derived.Test.YtpgonfeobfefaaaDoorAft
import Derived.Stop.IfaceNil
import Derived.Test.YtpgonfeobfefaaaDoorErA2
import Derived.Test.YtpgonfeobfefaaaDoorChk
import Derived.Test.YtpgonfeobfefaaaDoorCard
import Derived.Test.YtpgonfeobfefaaaDoorEdW
import Derived.Test.YtpgonfeobfefaaaDoorQuery
import Derived.Test.YtpgonfeobfefaaaDoorQuiet
import Derived.Test.YtpgonfeobfefaaaDoorEdsOwn
import Derived.Test.YtpgonfeobfefaaaDoorRows
import Derived.JoinedOf
import Derived.LaidLaws
import Derived.LaidHandle
import Derived.Stop.Joined
namespace Go.Proofs.YtpgonfeobfefaaaDoor
open Go.ChangeShapes Go.WideShapes Go.ChangeAt Go.RowKit

/-- The state of the card behind an edit. -/
def apS (x : Ed) (n : St) : St :=
  if x.k = 1 then ⟨true, x.a, x.b⟩ else if x.k = 2 then st0
  else if x.k = 3 then ⟨n.t, bits .or .u64 n.a (b0 x.h), bits .or .u64 n.b (b1 x.h)⟩
  else ⟨n.t, bits .andNot .u64 n.a (b0 x.h), bits .andNot .u64 n.b (b1 x.h)⟩
/-- Does an edit fit to the state ahead of it? -/
def apF (x : Ed) (n : St) : Bool :=
  if x.k = 1 then !n.t else if x.k = 2 then (n.t && (n.a == x.a && n.b == x.b))
  else if x.k = 3 then (n.t && !allIn (b0 x.h) (b1 x.h) n.a n.b) else (n.t && allIn (b0 x.h) (b1 x.h) n.a n.b)
/-- What is wrong with an edit of a deck. -/
def apC (cs : List Cd) (x : Ed) : Int := if x.k = 1 ∧ cs.length = 80 then 3 else if apF x (stOf cs x.s) then 0 else 4
/-- A card that is added where there was none. -/
def adI (t : Bool) (c : Cd) : List Cd := if t then [] else [c]
/-- The deck behind it. -/
def apD (cs : List Cd) (x : Ed) : List Cd := apL cs x.s (apS x (stOf cs x.s)) cs.length ++ adI (stOf cs x.s).t ⟨x.s, (apS x (stOf cs x.s)).a, (apS x (stOf cs x.s)).b⟩

theorem apC_full {cs : List Cd} {x : Ed} (h : x.k = 1 ∧ cs.length = 80) : apC cs x = 3 := by unfold apC; rw [if_pos h]
theorem apC_fit {cs : List Cd} {x : Ed} (h : ¬ (x.k = 1 ∧ cs.length = 80)) (k : apF x (stOf cs x.s) = true) : apC cs x = 0 := by unfold apC; rw [if_neg h, if_pos k]
theorem apC_mis {cs : List Cd} {x : Ed} (h : ¬ (x.k = 1 ∧ cs.length = 80)) (k : apF x (stOf cs x.s) = false) : apC cs x = 4 := by unfold apC; rw [if_neg h, if_neg (by rw [k]; simp)]

/-- No card has the name: it is added. -/
theorem apD_add {cs : List Cd} {x : Ed} (hk : x.k = 1) (h : ∀ k, k < cs.length → (cdAt cs k).s ≠ x.s) : apD cs x = cs ++ [⟨x.s, x.a, x.b⟩] := by
  have e : stOf cs x.s = st0 := st_none _ h
  unfold apD adI
  rw [e, apL_none _ _ (Nat.le_refl _) h, List.take_length]
  unfold apS
  rw [if_pos hk]
  rfl
theorem apD_at {cs : List Cd} {x : Ed} {k : Nat} (hk : k < cs.length) (he : (cdAt cs k).s = x.s) (h : ∀ j, j < cs.length → j ≠ k → (cdAt cs j).s ≠ x.s) (ht : (stOf cs x.s).t = true) :
    apD cs x = cs.take k ++ ((if (apS x (stOf cs x.s)).t then [⟨x.s, (apS x (stOf cs x.s)).a, (apS x (stOf cs x.s)).b⟩] else []) ++ cs.drop (k + 1)) := by
  have hl : k + 1 + (cs.length - (k + 1)) = cs.length := by omega
  have := apL_hit (apS x (stOf cs x.s)) he (cs.length - (k + 1)) (by omega) h
  rw [hl, show (cs.drop (k + 1)).take (cs.length - (k + 1)) = cs.drop (k + 1) from List.take_of_length_le (by rw [List.length_drop]; omega)] at this
  unfold apD adI
  rw [this, if_pos ht, List.append_nil]
theorem apD_len {cs : List Cd} {x : Ed} (hd : deckOk cs = true) (hc : apC cs x = 0) : (apD cs x).length ≤ 80 := by
  have h80 : cs.length ≤ 80 := by unfold deckOk at hd; rw [Bool.and_eq_true] at hd; exact of_decide_eq_true hd.1
  have hn : ¬ (x.k = 1 ∧ cs.length = 80) := fun h => by rw [apC_full h] at hc; cases hc
  have hf : apF x (stOf cs x.s) = true := by
    cases e : apF x (stOf cs x.s)
    · rw [apC_mis hn e] at hc; cases hc
    · rfl
  rcases st_find hd x.s with ⟨_, e0, h0⟩ | ⟨k, hk, _, he, e0, hu⟩
  · have k1 : x.k = 1 := by
      unfold apF at hf
      rw [e0] at hf
      split at hf
      · assumption
      · split at hf
        · simp [st0] at hf
        · split at hf <;> simp [st0] at hf
    rw [apD_add k1 h0]
    simp
    omega
  · rw [apD_at hk he hu (by rw [e0])]
    simp
    split <;> simp <;> omega
end Go.Proofs.YtpgonfeobfefaaaDoor

namespace Go.Proofs.YtpgonfeobfefaaaDoor
open Go.ChangeShapes Go.WideShapes Go.ChangeAt Go.RowKit

theorem cellsC_flat {w : World} {g o : Nat} {cs : List Cd} (h : CellsC w (some ⟨g, o, none⟩) cs) : ∀ j u, (flatC cs)[j]? = some u → w.cell? ((⟨g, o, none⟩ : Addr).add j) = some u := by
  intro j u hu
  have hj : j < cs.length * 3 := by rw [← flatC_len]; exact (List.getElem?_eq_some_iff.1 hu).1
  obtain ⟨b, off, ha, hb, h0, h1, h2⟩ := h (j / 3) (by omega)
  cases ha
  have g3 := flatC_get cs (j / 3) (by omega)
  have ea : (⟨g, o, none⟩ : Addr).add j = ⟨g, o + j, none⟩ := by unfold Addr.add; split <;> simp_all
  rw [ea]
  rcases (show j % 3 = 0 ∨ j % 3 = 1 ∨ j % 3 = 2 by omega) with e | e | e
  · have : j / 3 * 3 = j := by omega
    rw [this] at h0 g3; rw [g3.1] at hu; rw [← hu]; exact h0
  · have : j / 3 * 3 + 1 = j := by omega
    rw [Nat.add_assoc, this] at h1; rw [this] at g3; rw [g3.2.1] at hu; rw [← hu]; exact h1
  · have : j / 3 * 3 + 2 = j := by omega
    rw [Nat.add_assoc, this] at h2; rw [this] at g3; rw [g3.2.2] at hu; rw [← hu]; exact h2
theorem cellsC_drop {w : World} {g o : Nat} {cs : List Cd} (h : CellsC w (some ⟨g, o, none⟩) cs) (k : Nat) : CellsC w (some ⟨g, o + k * 3, none⟩) (cs.drop k) := fun i hi => by
  rw [List.length_drop] at hi
  obtain ⟨b, off, ha, hb, h0, h1, h2⟩ := h (k + i) (by omega)
  cases ha
  have e : cdAt (cs.drop k) i = cdAt cs (k + i) := by unfold cdAt; rw [List.getD, List.getD, List.getElem?_drop]
  rw [e]
  refine ⟨g, o + k * 3, rfl, hb, ?_, ?_, ?_⟩
  · rw [show o + k * 3 + i * 3 = o + (k + i) * 3 by omega]; exact h0
  · rw [show o + k * 3 + i * 3 + 1 = o + (k + i) * 3 + 1 by omega]; exact h1
  · rw [show o + k * 3 + i * 3 + 2 = o + (k + i) * 3 + 2 by omega]; exact h2
theorem flatC_oneA : ∀ (cs : List Cd), ∀ u ∈ flatC cs, u.oneCell' = true
  | [], u, h => by cases h
  | c :: cs, u, h => by
    simp only [flatC, List.mem_cons] at h
    rcases h with rfl | rfl | rfl | h
    · rfl
    · rfl
    · rfl
    · exact flatC_oneA cs u h
theorem own_joinA {B : Nat} {xs ys : List Cd} {v : Value} {w : World} (h : w.ownsRow B 68 3 v (xs.length + ys.length) (flatC xs ++ flatC ys)) : OwnCards B (xs ++ ys) v w := by unfold OwnCards; rw [flatC_app, List.length_append]; exact h
theorem flatC_take : ∀ (cs : List Cd) (k : Nat), (flatC cs).take (k * 3) = flatC (cs.take k)
  | [], k => by simp [flatC]
  | c :: cs, 0 => rfl
  | c :: cs, k + 1 => by
    rw [show (k + 1) * 3 = k * 3 + 1 + 1 + 1 by omega]
    simp only [flatC, List.take_succ_cons, flatC_take cs k]
/-- The first cards of a row of the call's own. -/
theorem own_takeA {B g n cap k : Nat} {cs : List Cd} {w : World} (h : OwnCards B cs (.slice (some ⟨g, 0, none⟩) n cap) w) (hk : k ≤ cs.length) : OwnCards B (cs.take k) (.slice (some ⟨g, 0, none⟩) k cap) w := by
  obtain ⟨h1, h2⟩ := h
  have hl : (cs.take k).length = k := by rw [List.length_take]; omega
  rcases h2 with ⟨h2, _⟩ | ⟨g', cap', cur, he, hB, hg, hc, hm, hs, ht⟩
  · cases h2
  · cases he
    refine ⟨by rw [flatC_len], .inr ⟨g, cap, cur, by rw [hl], hB, hg, by rw [hl]; omega, hm, hs, ?_⟩⟩
    rw [hl, ← flatC_take, ← ht, List.take_take]
    congr 1
    omega
theorem new3S (w : World) (x0 x1 x2 : Value) (t : TypeId) : ∀ j u, [x0, x1, x2][j]? = some u → (w.alloc (.cells #[x0, x1, x2] t)).drew.cell? ((⟨w.heap.size, 0, none⟩ : Addr).add j) = some u := by
  intro j u h
  rw [World.cell?_drew]
  match j, h with
  | 0, h => simp at h; subst h; simp [Addr.add]
  | 1, h => simp at h; subst h; simp [Addr.add]
  | 2, h => simp at h; subst h; simp [Addr.add]
/-- An edit that lies in memory. -/
def EdP (w : World) (g o : Nat) (k : Int) (s : ByteArray) (h a b : Int) : Prop := w.cell? ⟨g, o, none⟩ = some (.int .i8 k) ∧ w.cell? ⟨g, o + 1, none⟩ = some (.string s) ∧ w.cell? ⟨g, o + 2, none⟩ = some (.int .i16 h) ∧ w.cell? ⟨g, o + 3, none⟩ = some (.int .u64 a) ∧ w.cell? ⟨g, o + 4, none⟩ = some (.int .u64 b)
theorem EdP.lt {w : World} {g o : Nat} {k : Int} {s : ByteArray} {h a b : Int} (x : EdP w g o k s h a b) : g < w.heap.size := World.block_lt_of_cell? _ _ x.1
theorem EdP.below {w W : World} {g o : Nat} {k : Int} {s : ByteArray} {h a b : Int} (x : EdP w g o k s h a b) (hb : Below w.heap.size w W) : EdP W g o k s h a b := by
  have l := x.lt
  exact ⟨(hb.cell (p := ⟨g, o, none⟩) l).trans x.1, (hb.cell (p := ⟨g, o + 1, none⟩) l).trans x.2.1, (hb.cell (p := ⟨g, o + 2, none⟩) l).trans x.2.2.1, (hb.cell (p := ⟨g, o + 3, none⟩) l).trans x.2.2.2.1, (hb.cell (p := ⟨g, o + 4, none⟩) l).trans x.2.2.2.2⟩
/-- What l07Apply answers. -/
def SaR (xs : List Cd) (k : Int) (w : World) (e : Ending) (w' : World) : Prop := ∃ g c, e = .returned (.tuple #[.slice (some ⟨g, 0, none⟩) xs.length c, .int .i64 k]) ∧ OwnCards w.heap.size xs (.slice (some ⟨g, 0, none⟩) xs.length c) w' ∧ Below w.heap.size w w'
theorem cardsIn_lt {w : World} {g : Nat} {cs : List Cd} (h : CardsIn w (some ⟨g, 0, none⟩) cs) (hn : 0 < cs.length) : g < w.heap.size := by
  obtain ⟨_, b, o, he, hl, _⟩ := h 0 hn
  cases he
  exact hl
theorem sa_none {w W : World} (h : Below w.heap.size w W) : OwnCards w.heap.size [] (.slice (some ⟨W.heap.size, 0, none⟩) 0 0) (W.alloc (.cells #[] 68)) := World.ownsRow_made W #[] 0 h.size (Nat.zero_le _) rfl
theorem own0A {B : Nat} {cs : List Cd} {v : Value} {w : World} (h : w.ownsRow B 68 3 v (0 + cs.length) ([] ++ flatC cs)) : OwnCards B cs v w := by rw [Nat.zero_add, List.nil_append] at h; exact h

theorem saR_of {xs : List Cd} {n g c : Nat} {k : Int} {w w' : World} {e : Ending} (hn : xs.length = n) (he : e = .returned (.tuple #[.slice (some ⟨g, 0, none⟩) n c, .int .i64 k])) (hO : OwnCards w.heap.size xs (.slice (some ⟨g, 0, none⟩) n c) w') (hB : Below w.heap.size w w') : SaR xs k w e w' := by
  subst hn
  exact ⟨g, c, he, hO, hB⟩
theorem below_drewA {B : Nat} {w W : World} (h : Below B w W) : Below B w W.drew := ⟨h.os, h.tape, h.output, h.size, h.block⟩
theorem own_formA {B : Nat} {cs : List Cd} {v : Value} {w : World} (h : OwnCards B cs v w) (hn : 0 < cs.length) : ∃ g cap, v = .slice (some ⟨g, 0, none⟩) cs.length cap ∧ B ≤ g ∧ cs.length ≤ cap := by
  rcases h.2 with ⟨_, h0⟩ | ⟨g, cap, cur, hv, hb, _, hc, _⟩
  · omega
  · exact ⟨g, cap, hv, hb, hc⟩
theorem own_form0 {B n : Nat} {xs : List Value} {v : Value} {w : World} (h : w.ownsRow B 68 3 v n xs) (hb : ∃ g, v.ownBlock = some g) : ∃ g cap, v = .slice (some ⟨g, 0, none⟩) n cap := by
  obtain ⟨g0, hb⟩ := hb
  rcases h.2 with ⟨rfl, _⟩ | ⟨g, cap, cur, hv, _⟩
  · cases hb
  · exact ⟨g, cap, hv⟩
/-- An append as the last operation of a region, of nothing too. -/
theorem yld_append {P : Program} (w : World) {o : Oper} {a : Act} {R : Value → World → Prop} (s x : Operand) (t : TypeId)
    (ho : o.op = .call { callee := .builtin .append, args := #[s, x], argTypes := #[t, t] })
    (base : Nat) (e : TypeId) (i : TypeInfo) (z : Value) (size bytes : Nat) (ht : P.underlying t = some (.slice e)) (hi : P.info? e = some i) (hz : i.zero = some z)
    (hsize : i.size = size) (hby : i.bytes = bytes) (hzs : z.cells.size = size) (hsz : 0 < size)
    (v : Value) (n : Nat) (xs : List Value) (hs : a.eval s = v) (hown : w.ownsRow base e size v n xs)
    (ad : Addr) (m c : Nat) (news : List Value) (hx : a.eval x = .slice (some ad) m c) (hl : news.length = m * size) (hnews : ∀ j u, news[j]? = some u → w.cell? (ad.add j) = some u) (h1 : ∀ u ∈ news, u.oneCell' = true)
    (h63 : n + m ≤ maxLen) (hbytes : (n + m) * bytes ≤ 140737488355328) (hbase : base ≤ w.heap.size)
    (h : ∀ v' w', w'.ownsRow base e size v' (n + m) (xs ++ news) → w.grownBy w' v.ownBlock → (v'.ownBlock = v.ownBlock ∨ v'.ownBlock = some w.heap.size) → R v' w') : Yld P R w ((execOp a.eval o).run P w) := by
  obtain ⟨v', w', hr, h2, h3, _, h5⟩ := run_append_own_at (P := P) w base t o.type e i z size bytes ht hi hz hsize hby hzs hsz v n xs hown ad m c news hl hnews h1 h63 hbytes hbase
  unfold execOp
  simp only [ho, resolve, invoke, builtin, Sem.run_bind, Sem.run_pure, Result.andThen_ok, List.map_toArray, List.map_cons, List.map_nil, hs, hx, hr]
  exact h v' w' h2 h3 h5
theorem flatC_set2 : ∀ (cs : List Cd) (i : Nat) (a b : Int), ((flatC cs).set (i * 3 + 1) (.int .u64 a)).set (i * 3 + 2) (.int .u64 b) = flatC (cs.set i ⟨(cdAt cs i).s, a, b⟩)
  | [], i, a, b => rfl
  | d :: cs, 0, a, b => rfl
  | d :: cs, i + 1, a, b => by
    rw [show (i + 1) * 3 = i * 3 + 1 + 1 + 1 by omega]
    have := flatC_set2 cs i a b
    simp only [flatC, List.set_cons_succ, this]
    rfl
theorem sAp_full (k : Int) (hk : k = 1) (s : ByteArray) (h a b : Int) (ad : Option Addr) (n c : Nat) (g o : Nat) (w : World) (hE : EdP w g o k s h a b) (h80 : n = 80) :
    Calls Tryd.prog 32 #[.slice ad n c, .pointer (some ⟨g, o, none⟩)] w (SaR [] 3 w) := by
  subst h80
  subst hk
  have h0 := hE.1
  go_enter Tryd.func32, Tryd.ntmps32
  go_wp2
  go_returns
  exact ⟨_, _, rfl, sa_none (Below.refl _ _), (by repeat' (first | (with_reducible exact Below.refl _ _) | (with_reducible assumption) | (with_reducible refine below_drewN ?_ _) | (with_reducible refine Below.drew ?_) | (with_reducible refine below_new ?_ _) | (with_reducible refine below_next ?_ (by with_reducible assumption)) | (with_reducible refine Below.setCell ?_ ?_ _) | go_size))⟩

set_option maxRecDepth 100000 in
set_option maxHeartbeats 6400000 in
theorem sAp_found (s : ByteArray) (h a b : Int) (g0 : Nat) (cs : List Cd) (c : Nat) (g o : Nat) (w : World) (hc : CardsIn w (some ⟨g0, 0, none⟩) cs) (hE : EdP w g o 1 s h a b) (hn : cs.length ≤ 80) (h80 : ¬ cs.length = 80) (i : Nat) (hf : findC cs s = (i : Int)) :
    Calls Tryd.prog 32 #[.slice (some ⟨g0, 0, none⟩) cs.length c, .pointer (some ⟨g, o, none⟩)] w (SaR [] 4 w) := by
  obtain ⟨i0, hi, hz0, hz1, hz2⟩ := info_parts info_card
  have F := Lib.hid (cellsC_flat (cellsC_below (fun i hi => (hc i hi).2) (below_new (Below.refl w.heap.size w) (.cells #[] 68))))
  have CC := Lib.hid hc
  have FN := Lib.hid fun W hs => sFind_any (some ⟨g0, 0, none⟩) cs c s W hs hn
  have PE := Lib.hid hE
  obtain ⟨p0, p1, p2, p3, p4⟩ := hE
  have tok1 : True := trivial
  have d80 : ((cs.length : Int) == 80) = false := beq_eq_false_iff_ne.2 (by omega)
  rw [hf] at FN
  have di : decide ((i : Int) < 0) = false := by simp
  clear hf h80
  clear hc
  go_enter Tryd.func32, Tryd.ntmps32
  go_wp2_with (first | (at_builtin; have _t := tok1; clear _t tok1; refine wpList_append_own _ rfl _ _ 33 rfl w.heap.size 68 i0 (.agg #[.string ByteArray.empty, .int .u64 0, .int .u64 0]) 3 32 Tryd.underlying33 hi hz0 hz1 hz2 rfl (by decide) _ _ _ rfl (World.ownsRow_made w #[] 0 (Nat.le_refl _) (Nat.zero_le _) rfl) ⟨g0, 0, none⟩ cs.length c (flatC cs) rfl (flatC_len cs) F.out (flatC_oneA cs) (by unfold maxLen; omega) (by omega) (by simp) ?_; intro v1 w1 hown hgrow _; have O1 := Lib.hid (own0A hown); have B1 := Lib.hid (Below.grown ((Below.refl w.heap.size w).alloc (Nat.le_refl _) _) hgrow (by simp) (fun j hj => by cases hj; exact Nat.le_refl _)); have P1 := Lib.hid (PE.out.below B1.out); obtain ⟨x0, x1, x2, x3, x4⟩ := P1.out; clear hown hgrow p0 p1 p2 p3 p4) | (go_at_call 62; refine (FN.out _ (cardsIn_below CC.out B1.out)).mono ?_; rintro e w2 ⟨rfl, hB⟩; have O2 := Lib.hid (ownCards_kept O1.out hB); have B2 := Lib.hid (B1.out.trans (Below.mono hB B1.out.size)); have P2 := Lib.hid (P1.out.below hB); obtain ⟨y0, y1, y2, y3, y4⟩ := P2.out; clear hB x0 x1 x2 x3 x4))
  go_returns
  exact ⟨_, _, rfl, sa_none B2.out, below_new B2.out _⟩

set_option maxRecDepth 100000 in
set_option maxHeartbeats 6400000 in
theorem sAp_lost2 (s : ByteArray) (h a b : Int) (g0 : Nat) (cs : List Cd) (c : Nat) (g o : Nat) (w : World) (hc : CardsIn w (some ⟨g0, 0, none⟩) cs) (hE : EdP w g o 2 s h a b) (hn : cs.length ≤ 80) (hf : findC cs s = -1) :
    Calls Tryd.prog 32 #[.slice (some ⟨g0, 0, none⟩) cs.length c, .pointer (some ⟨g, o, none⟩)] w (SaR [] 4 w) := by
  obtain ⟨i0, hi, hz0, hz1, hz2⟩ := info_parts info_card
  have F := Lib.hid (cellsC_flat (cellsC_below (fun i hi => (hc i hi).2) (below_new (Below.refl w.heap.size w) (.cells #[] 68))))
  have CC := Lib.hid hc
  have FN := Lib.hid fun W hs => sFind_any (some ⟨g0, 0, none⟩) cs c s W hs hn
  have PE := Lib.hid hE
  obtain ⟨p0, p1, p2, p3, p4⟩ := hE
  have tok1 : True := trivial
  rw [hf] at FN
  clear hf
  clear hc
  go_enter Tryd.func32, Tryd.ntmps32
  go_wp2_with (first | (at_builtin; have _t := tok1; clear _t tok1; refine wpList_append_own _ rfl _ _ 33 rfl w.heap.size 68 i0 (.agg #[.string ByteArray.empty, .int .u64 0, .int .u64 0]) 3 32 Tryd.underlying33 hi hz0 hz1 hz2 rfl (by decide) _ _ _ rfl (World.ownsRow_made w #[] 0 (Nat.le_refl _) (Nat.zero_le _) rfl) ⟨g0, 0, none⟩ cs.length c (flatC cs) rfl (flatC_len cs) F.out (flatC_oneA cs) (by unfold maxLen; omega) (by omega) (by simp) ?_; intro v1 w1 hown hgrow _; have O1 := Lib.hid (own0A hown); have B1 := Lib.hid (Below.grown ((Below.refl w.heap.size w).alloc (Nat.le_refl _) _) hgrow (by simp) (fun j hj => by cases hj; exact Nat.le_refl _)); have P1 := Lib.hid (PE.out.below B1.out); obtain ⟨x0, x1, x2, x3, x4⟩ := P1.out; clear hown hgrow p0 p1 p2 p3 p4) | (go_at_call 62; refine (FN.out _ (cardsIn_below CC.out B1.out)).mono ?_; rintro e w2 ⟨rfl, hB⟩; have O2 := Lib.hid (ownCards_kept O1.out hB); have B2 := Lib.hid (B1.out.trans (Below.mono hB B1.out.size)); have P2 := Lib.hid (P1.out.below hB); obtain ⟨y0, y1, y2, y3, y4⟩ := P2.out; clear hB x0 x1 x2 x3 x4))
  go_returns
  exact ⟨_, _, rfl, sa_none B2.out, below_new B2.out _⟩

set_option maxRecDepth 100000 in
set_option maxHeartbeats 6400000 in
theorem sAp_lost3 (s : ByteArray) (h a b : Int) (g0 : Nat) (cs : List Cd) (c : Nat) (g o : Nat) (w : World) (hc : CardsIn w (some ⟨g0, 0, none⟩) cs) (hE : EdP w g o 3 s h a b) (hn : cs.length ≤ 80) (hf : findC cs s = -1) :
    Calls Tryd.prog 32 #[.slice (some ⟨g0, 0, none⟩) cs.length c, .pointer (some ⟨g, o, none⟩)] w (SaR [] 4 w) := by
  obtain ⟨i0, hi, hz0, hz1, hz2⟩ := info_parts info_card
  have F := Lib.hid (cellsC_flat (cellsC_below (fun i hi => (hc i hi).2) (below_new (Below.refl w.heap.size w) (.cells #[] 68))))
  have CC := Lib.hid hc
  have FN := Lib.hid fun W hs => sFind_any (some ⟨g0, 0, none⟩) cs c s W hs hn
  have PE := Lib.hid hE
  obtain ⟨p0, p1, p2, p3, p4⟩ := hE
  have tok1 : True := trivial
  rw [hf] at FN
  clear hf
  clear hc
  go_enter Tryd.func32, Tryd.ntmps32
  go_wp2_with (first | (at_builtin; have _t := tok1; clear _t tok1; refine wpList_append_own _ rfl _ _ 33 rfl w.heap.size 68 i0 (.agg #[.string ByteArray.empty, .int .u64 0, .int .u64 0]) 3 32 Tryd.underlying33 hi hz0 hz1 hz2 rfl (by decide) _ _ _ rfl (World.ownsRow_made w #[] 0 (Nat.le_refl _) (Nat.zero_le _) rfl) ⟨g0, 0, none⟩ cs.length c (flatC cs) rfl (flatC_len cs) F.out (flatC_oneA cs) (by unfold maxLen; omega) (by omega) (by simp) ?_; intro v1 w1 hown hgrow _; have O1 := Lib.hid (own0A hown); have B1 := Lib.hid (Below.grown ((Below.refl w.heap.size w).alloc (Nat.le_refl _) _) hgrow (by simp) (fun j hj => by cases hj; exact Nat.le_refl _)); have P1 := Lib.hid (PE.out.below B1.out); obtain ⟨x0, x1, x2, x3, x4⟩ := P1.out; clear hown hgrow p0 p1 p2 p3 p4) | (go_at_call 62; refine (FN.out _ (cardsIn_below CC.out B1.out)).mono ?_; rintro e w2 ⟨rfl, hB⟩; have O2 := Lib.hid (ownCards_kept O1.out hB); have B2 := Lib.hid (B1.out.trans (Below.mono hB B1.out.size)); have P2 := Lib.hid (P1.out.below hB); obtain ⟨y0, y1, y2, y3, y4⟩ := P2.out; clear hB x0 x1 x2 x3 x4))
  go_returns
  exact ⟨_, _, rfl, sa_none B2.out, below_new B2.out _⟩

set_option maxRecDepth 100000 in
set_option maxHeartbeats 6400000 in
theorem sAp_lost4 (s : ByteArray) (h a b : Int) (g0 : Nat) (cs : List Cd) (c : Nat) (g o : Nat) (w : World) (hc : CardsIn w (some ⟨g0, 0, none⟩) cs) (hE : EdP w g o 4 s h a b) (hn : cs.length ≤ 80) (hf : findC cs s = -1) :
    Calls Tryd.prog 32 #[.slice (some ⟨g0, 0, none⟩) cs.length c, .pointer (some ⟨g, o, none⟩)] w (SaR [] 4 w) := by
  obtain ⟨i0, hi, hz0, hz1, hz2⟩ := info_parts info_card
  have F := Lib.hid (cellsC_flat (cellsC_below (fun i hi => (hc i hi).2) (below_new (Below.refl w.heap.size w) (.cells #[] 68))))
  have CC := Lib.hid hc
  have FN := Lib.hid fun W hs => sFind_any (some ⟨g0, 0, none⟩) cs c s W hs hn
  have PE := Lib.hid hE
  obtain ⟨p0, p1, p2, p3, p4⟩ := hE
  have tok1 : True := trivial
  rw [hf] at FN
  clear hf
  clear hc
  go_enter Tryd.func32, Tryd.ntmps32
  go_wp2_with (first | (at_builtin; have _t := tok1; clear _t tok1; refine wpList_append_own _ rfl _ _ 33 rfl w.heap.size 68 i0 (.agg #[.string ByteArray.empty, .int .u64 0, .int .u64 0]) 3 32 Tryd.underlying33 hi hz0 hz1 hz2 rfl (by decide) _ _ _ rfl (World.ownsRow_made w #[] 0 (Nat.le_refl _) (Nat.zero_le _) rfl) ⟨g0, 0, none⟩ cs.length c (flatC cs) rfl (flatC_len cs) F.out (flatC_oneA cs) (by unfold maxLen; omega) (by omega) (by simp) ?_; intro v1 w1 hown hgrow _; have O1 := Lib.hid (own0A hown); have B1 := Lib.hid (Below.grown ((Below.refl w.heap.size w).alloc (Nat.le_refl _) _) hgrow (by simp) (fun j hj => by cases hj; exact Nat.le_refl _)); have P1 := Lib.hid (PE.out.below B1.out); obtain ⟨x0, x1, x2, x3, x4⟩ := P1.out; clear hown hgrow p0 p1 p2 p3 p4) | (go_at_call 62; refine (FN.out _ (cardsIn_below CC.out B1.out)).mono ?_; rintro e w2 ⟨rfl, hB⟩; have O2 := Lib.hid (ownCards_kept O1.out hB); have B2 := Lib.hid (B1.out.trans (Below.mono hB B1.out.size)); have P2 := Lib.hid (P1.out.below hB); obtain ⟨y0, y1, y2, y3, y4⟩ := P2.out; clear hB x0 x1 x2 x3 x4))
  go_returns
  exact ⟨_, _, rfl, sa_none B2.out, below_new B2.out _⟩

set_option maxRecDepth 100000 in
set_option maxHeartbeats 6400000 in
theorem sAp_add (s : ByteArray) (h a b : Int) (g0 : Nat) (cs : List Cd) (c : Nat) (g o : Nat) (w : World) (hc : CardsIn w (some ⟨g0, 0, none⟩) cs) (hE : EdP w g o 1 s h a b) (hn : cs.length ≤ 80) (h80 : ¬ cs.length = 80) (hf : findC cs s = -1) :
    Calls Tryd.prog 32 #[.slice (some ⟨g0, 0, none⟩) cs.length c, .pointer (some ⟨g, o, none⟩)] w (SaR (cs ++ [⟨s, a, b⟩]) 0 w) := by
  obtain ⟨i0, hi, hz0, hz1, hz2⟩ := info_parts info_card
  have F := Lib.hid (cellsC_flat (cellsC_below (fun i hi => (hc i hi).2) (below_new (Below.refl w.heap.size w) (.cells #[] 68))))
  have CC := Lib.hid hc
  have FN := Lib.hid fun W hs => sFind_any (some ⟨g0, 0, none⟩) cs c s W hs hn
  have PE := Lib.hid hE
  obtain ⟨p0, p1, p2, p3, p4⟩ := hE
  have tok1 : True := trivial
  have d80 : ((cs.length : Int) == 80) = false := beq_eq_false_iff_ne.2 (by omega)
  rw [hf] at FN
  clear hf h80
  clear hc
  go_enter Tryd.func32, Tryd.ntmps32
  go_wp2_with (first | (at_builtin; have _t := tok1; clear _t tok1; refine wpList_append_own _ rfl _ _ 33 rfl w.heap.size 68 i0 (.agg #[.string ByteArray.empty, .int .u64 0, .int .u64 0]) 3 32 Tryd.underlying33 hi hz0 hz1 hz2 rfl (by decide) _ _ _ rfl (World.ownsRow_made w #[] 0 (Nat.le_refl _) (Nat.zero_le _) rfl) ⟨g0, 0, none⟩ cs.length c (flatC cs) rfl (flatC_len cs) F.out (flatC_oneA cs) (by unfold maxLen; omega) (by omega) (by simp) ?_; intro v1 w1 hown hgrow _; have O1 := Lib.hid (own0A hown); have B1 := Lib.hid (Below.grown ((Below.refl w.heap.size w).alloc (Nat.le_refl _) _) hgrow (by simp) (fun j hj => by cases hj; exact Nat.le_refl _)); have P1 := Lib.hid (PE.out.below B1.out); obtain ⟨x0, x1, x2, x3, x4⟩ := P1.out; clear hown hgrow p0 p1 p2 p3 p4) | (go_at_call 62; refine (FN.out _ (cardsIn_below CC.out B1.out)).mono ?_; rintro e w2 ⟨rfl, hB⟩; have O2 := Lib.hid (ownCards_kept O1.out hB); have B2 := Lib.hid (B1.out.trans (Below.mono hB B1.out.size)); have P2 := Lib.hid (P1.out.below hB); obtain ⟨y0, y1, y2, y3, y4⟩ := P2.out; clear hB x0 x1 x2 x3 x4))
  go_region_law (refine step_append_lies _ (by rfl) _ _ 33 (by rfl) w.heap.size 68 i0 (.agg #[.string ByteArray.empty, .int .u64 0, .int .u64 0]) 3 32 Tryd.underlying33 hi hz0 hz1 hz2 rfl (by decide) _ _ _ (by rfl) (World.ownsRow.drew (World.ownsRow.alloc O2.out _)) ⟨w2.heap.size, 0, none⟩ 1 1 [.string s, .int .u64 a, .int .u64 b] (by rfl) rfl (fun j u h => new3S w2 _ _ _ _ j u h) (fun x hx => by simp at hx; rcases hx with rfl | rfl | rfl <;> rfl) (by omega) (by unfold maxLen; omega) (by omega) (by simp; have := B2.out.size; omega) _ rfl ?_; intro gg cap2 w7 hown hgrow _ _; have P := Lib.hid (own_joinA (ys := [⟨s, a, b⟩]) hown); have G := Lib.hid hgrow; clear hown hgrow)
  all_goals go_wp2
  all_goals go_returns
  all_goals exact saR_of (by simp) rfl P.out (Below.grown (below_drewA (below_new B2.out _)) G.out (by simp; have := B2.out.size; omega) (fun k hk => (World.ownsRow.lt O2.out k hk).1))

set_option maxRecDepth 100000 in
set_option maxHeartbeats 6400000 in
theorem sAp_mis2 (s : ByteArray) (h a b : Int) (g0 : Nat) (cs : List Cd) (c : Nat) (g o : Nat) (w : World) (hc : CardsIn w (some ⟨g0, 0, none⟩) cs) (hE : EdP w g o 2 s h a b) (hn : cs.length ≤ 80) (i : Nat) (hi' : i < cs.length) (hf : findC cs s = (i : Int)) (hne : ((cdAt cs i).a == a && (cdAt cs i).b == b) = false) :
    Calls Tryd.prog 32 #[.slice (some ⟨g0, 0, none⟩) cs.length c, .pointer (some ⟨g, o, none⟩)] w (SaR [] 4 w) := by
  obtain ⟨i0, hi, hz0, hz1, hz2⟩ := info_parts info_card
  have F := Lib.hid (cellsC_flat (cellsC_below (fun i hi => (hc i hi).2) (below_new (Below.refl w.heap.size w) (.cells #[] 68))))
  have CC := Lib.hid hc
  have FN := Lib.hid fun W hs => sFind_any (some ⟨g0, 0, none⟩) cs c s W hs hn
  have PE := Lib.hid hE
  obtain ⟨p0, p1, p2, p3, p4⟩ := hE
  have tok1 : True := trivial
  obtain ⟨⟨_, u1, u2⟩, b1', o1', he1, hb1', q0, q1, q2⟩ := hc i hi'
  cases he1
  simp only [Nat.zero_add] at q0 q1 q2
  have hpos : 0 < cs.length := by omega
  have i1 : (0 : Int) ≤ (i : Int) := by omega
  have i2 : (i : Int) < (cs.length : Int) := by omega
  have di : decide ((i : Int) < 0) = false := by simp
  have Q1 := Lib.hid q1
  have Q2 := Lib.hid q2
  have QL := Lib.hid hb1'
  have LT := Lib.hid (cardsIn_lt hc hpos)
  rw [hf] at FN
  generalize hxa : (cdAt cs i).a = xa at *
  generalize hxb : (cdAt cs i).b = xb at *
  clear hf q0 q1 q2 hb1'
  clear hc
  have he := eq_mask
  have hbw := cell_bw
  go_enter Tryd.func32, Tryd.ntmps32
  go_wp2_with (first | (at_builtin; have _t := tok1; clear _t tok1; refine wpList_append_own _ rfl _ _ 33 rfl w.heap.size 68 i0 (.agg #[.string ByteArray.empty, .int .u64 0, .int .u64 0]) 3 32 Tryd.underlying33 hi hz0 hz1 hz2 rfl (by decide) _ _ _ rfl (World.ownsRow_made w #[] 0 (Nat.le_refl _) (Nat.zero_le _) rfl) ⟨g0, 0, none⟩ cs.length c (flatC cs) rfl (flatC_len cs) F.out (flatC_oneA cs) (by unfold maxLen; omega) (by omega) (by simp) ?_; intro v1 w1 hown hgrow _; obtain ⟨g1, cap1, hv, hB1, hcap1⟩ := own_formA (own0A hown) hpos; subst hv; have O1 := Lib.hid (own0A hown); have GB := Lib.hid hB1; have B1 := Lib.hid (Below.grown ((Below.refl w.heap.size w).alloc (Nat.le_refl _) _) hgrow (by simp) (fun j hj => by cases hj; exact Nat.le_refl _)); have P1 := Lib.hid (PE.out.below B1.out); obtain ⟨x0, x1, x2, x3, x4⟩ := P1.out; clear hown hgrow p0 p1 p2 p3 p4) | (go_at_call 62; refine (FN.out _ (cardsIn_below CC.out B1.out)).mono ?_; rintro e w2 ⟨rfl, hB⟩; have O2 := Lib.hid (ownCards_kept O1.out hB); have B2 := Lib.hid (B1.out.trans (Below.mono hB B1.out.size)); have P2 := Lib.hid (P1.out.below hB); obtain ⟨y0, y1, y2, y3, y4⟩ := P2.out; have c1 := (B2.out.cell (p := ⟨g0, i * 3 + 1, none⟩) QL.out).trans Q1.out; have c2 := (B2.out.cell (p := ⟨g0, i * 3 + 2, none⟩) QL.out).trans Q2.out; have l0 := Nat.lt_of_lt_of_le QL.out B2.out.size; have le := P2.out.lt; clear hB x0 x1 x2 x3 x4))
  refine region_bw (by kernel_rfl) (by kernel_rfl) ?_
  repeat (go_big_quiet_step (fail))
  refine wpQuiet_nil ?_; intro wq hq; replace hq := below_of_bw hq; obtain ⟨qc, qf, qz⟩ := bcell hq
  go_wp2
  go_returns
  exact ⟨_, _, rfl, sa_none (B2.out.trans (Below.mono hq B2.out.size)), below_new (B2.out.trans (Below.mono hq B2.out.size)) _⟩

set_option maxRecDepth 100000 in
set_option maxHeartbeats 6400000 in
theorem sAp_drop (s : ByteArray) (h a b : Int) (g0 : Nat) (cs : List Cd) (c : Nat) (g o : Nat) (w : World) (hc : CardsIn w (some ⟨g0, 0, none⟩) cs) (hE : EdP w g o 2 s h a b) (hn : cs.length ≤ 80) (i : Nat) (hi' : i < cs.length) (hf : findC cs s = (i : Int)) (ha : (cdAt cs i).a = a) (hb : (cdAt cs i).b = b) (cl : cs.length ≤ c) :
    Calls Tryd.prog 32 #[.slice (some ⟨g0, 0, none⟩) cs.length c, .pointer (some ⟨g, o, none⟩)] w (SaR (cs.take i ++ cs.drop (i + 1)) 0 w) := by
  obtain ⟨i0, hi, hz0, hz1, hz2⟩ := info_parts info_card
  have F := Lib.hid (cellsC_flat (cellsC_below (fun i hi => (hc i hi).2) (below_new (Below.refl w.heap.size w) (.cells #[] 68))))
  have CC := Lib.hid hc
  have FN := Lib.hid fun W hs => sFind_any (some ⟨g0, 0, none⟩) cs c s W hs hn
  have PE := Lib.hid hE
  obtain ⟨p0, p1, p2, p3, p4⟩ := hE
  have tok1 : True := trivial
  obtain ⟨⟨_, u1, u2⟩, b1', o1', he1, hb1', q0, q1, q2⟩ := hc i hi'
  cases he1
  simp only [Nat.zero_add] at q0 q1 q2
  have hpos : 0 < cs.length := by omega
  have i1 : (0 : Int) ≤ (i : Int) := by omega
  have i2 : (i : Int) < (cs.length : Int) := by omega
  have di : decide ((i : Int) < 0) = false := by simp
  have Q1 := Lib.hid q1
  have Q2 := Lib.hid q2
  have QL := Lib.hid hb1'
  have LT := Lib.hid (cardsIn_lt hc hpos)
  rw [hf] at FN
  rw [ha] at Q1
  rw [hb] at Q2
  have CD := Lib.hid (fun (W : World) (hB : Below w.heap.size w W) => cellsC_flat (cellsC_drop (cellsC_below (fun i hi => (hc i hi).2) hB) (i + 1)))
  have ld : (cs.drop (i + 1)).length = cs.length - (i + 1) := List.length_drop ..
  have lt : (cs.take i).length = i := by rw [List.length_take]; omega
  have LD := Lib.hid ld
  have LK := Lib.hid lt
  have FD := Lib.hid (show (flatC (cs.drop (i + 1))).length = (cs.length - (i + 1)) * 3 by rw [flatC_len, ld])
  clear ha hb hf ld lt q0 q1 q2 u1 u2 hb1'
  clear hc
  have he := eq_mask
  have hbw := cell_bw
  go_enter Tryd.func32, Tryd.ntmps32
  go_wp2_with (first | (at_builtin; have _t := tok1; clear _t tok1; refine wpList_append_own _ rfl _ _ 33 rfl w.heap.size 68 i0 (.agg #[.string ByteArray.empty, .int .u64 0, .int .u64 0]) 3 32 Tryd.underlying33 hi hz0 hz1 hz2 rfl (by decide) _ _ _ rfl (World.ownsRow_made w #[] 0 (Nat.le_refl _) (Nat.zero_le _) rfl) ⟨g0, 0, none⟩ cs.length c (flatC cs) rfl (flatC_len cs) F.out (flatC_oneA cs) (by unfold maxLen; omega) (by omega) (by simp) ?_; intro v1 w1 hown hgrow _; obtain ⟨g1, cap1, hv, hB1, hcap1⟩ := own_formA (own0A hown) hpos; subst hv; have O1 := Lib.hid (own0A hown); have GB := Lib.hid hB1; have B1 := Lib.hid (Below.grown ((Below.refl w.heap.size w).alloc (Nat.le_refl _) _) hgrow (by simp) (fun j hj => by cases hj; exact Nat.le_refl _)); have P1 := Lib.hid (PE.out.below B1.out); obtain ⟨x0, x1, x2, x3, x4⟩ := P1.out; clear hown hgrow p0 p1 p2 p3 p4) | (go_at_call 62; refine (FN.out _ (cardsIn_below CC.out B1.out)).mono ?_; rintro e w2 ⟨rfl, hB⟩; have O2 := Lib.hid (ownCards_kept O1.out hB); have B2 := Lib.hid (B1.out.trans (Below.mono hB B1.out.size)); have P2 := Lib.hid (P1.out.below hB); obtain ⟨y0, y1, y2, y3, y4⟩ := P2.out; have c1 := (B2.out.cell (p := ⟨g0, i * 3 + 1, none⟩) QL.out).trans Q1.out; have c2 := (B2.out.cell (p := ⟨g0, i * 3 + 2, none⟩) QL.out).trans Q2.out; have l0 := Nat.lt_of_lt_of_le QL.out B2.out.size; have le := P2.out.lt; clear hB x0 x1 x2 x3 x4))
  refine region_bw (by kernel_rfl) (by kernel_rfl) ?_
  repeat (go_big_quiet_step (fail))
  refine wpQuiet_nil ?_; intro wq hq; replace hq := below_of_bw hq; obtain ⟨qc, qf, qz⟩ := bcell hq
  have B3 := Lib.hid (B2.out.trans (Below.mono hq B2.out.size))
  have TK := own_takeA (k := i) (ownCards_kept O2.out hq) (Nat.le_of_lt hi')
  unfold OwnCards at TK
  rw [LK.out] at TK
  have TK := Lib.hid TK
  have NW := CD.out wq B3.out
  rw [Nat.zero_add] at NW
  have NW := Lib.hid NW
  have s3 := B3.out.size
  have i3 : i ≤ cap1 := by omega
  have wi : IntKind.i64.wrap ((i : Int) + 1) = (i : Int) + 1 := IntWalk.i64_in _ (by omega)
  have ti : ((i : Int) + 1).toNat = i + 1 := by omega
  have p1' : (0 : Int) ≤ (i : Int) + 1 := by omega
  have p2' : (i : Int) + 1 ≤ (cs.length : Int) := by omega
  obtain ⟨ft, hft⟩ : ∃ ft, flatC (cs.take i) = ft := ⟨_, rfl⟩
  obtain ⟨fd, hfd⟩ : ∃ fd, flatC (cs.drop (i + 1)) = fd := ⟨_, rfl⟩
  have HF := Lib.hid (And.intro hft hfd)
  rw [hft] at TK
  rw [hfd] at NW FD
  have FO := Lib.hid (show ∀ u ∈ fd, u.oneCell' = true by rw [← hfd]; exact flatC_oneA _)
  have TK6 := Lib.hid (fun W (h : Ab wq W) => (show W.ownsRow w.heap.size 68 3 (.slice (some ⟨g1, 0, none⟩) i cap1) i ft from ownsRow_below TK.out h))
  have NW6 := Lib.hid (fun W (h : Ab wq W) => fun j u hj => (Below.cell h (World.block_lt_of_cell? _ _ (NW.out j u hj))).trans (NW.out j u hj))
  clear hft hfd hq qc qf qz c1 c2
  by_cases hcc : c = i + 1
  · go_wp2
    refine wp_region_store 7 (by kernel_rfl) rfl rfl rfl (by kernel_rfl) (by kernel_rfl) rfl ?_
    simp only [Nat.reduceAdd, List.take_succ_cons, List.take_zero, List.drop_succ_cons, List.drop_zero]
    intro w5 h5
    repeat (go_big_quiet_step (fail))
    refine wpQuiet_nil ?_
    intro w6 h6
    have B6 := Lib.hid (B3.out.trans (Below.mono h6 B3.out.size))
    refine yld_append _ _ _ 33 (by rfl) w.heap.size 68 i0 (.agg #[.string ByteArray.empty, .int .u64 0, .int .u64 0]) 3 32 Tryd.underlying33 hi hz0 hz1 hz2 rfl (by decide) _ _ _ (by rfl) (TK6.out _ h6) ⟨g0, 0, none⟩ (cs.length - (i + 1)) _ fd (by rfl) FD.out (fun j u hj => absurd hj (by rw [List.length_eq_zero_iff.1 (show fd.length = 0 by rw [FD.out]; omega)]; simp)) FO.out (by unfold maxLen; omega) (by omega) B6.out.size ?_
    intro v7 w7 hown hgrow hat
    have P := Lib.hid hown
    have G := Lib.hid hgrow
    obtain ⟨g7, c7, rfl⟩ := own_form0 hown (hat.elim (fun e => ⟨g1, e⟩) (fun e => ⟨_, e⟩))
    clear hown hgrow hat
    simp only [pureRun, pureVal, Act.put, Act.eval, List.setIfInBounds_toArray, List.set_cons_succ, List.set_cons_zero]
    clear hbw
    go_wp2
    go_returns
    exact saR_of (by rw [List.length_append, LK.out, LD.out]) rfl (own_joinA (by rw [LK.out, LD.out, HF.out.1, HF.out.2]; exact P.out)) (Below.grown B6.out G.out B6.out.size (fun k hk => by cases hk; exact GB.out))
  · go_wp2
    refine wp_region_store 7 (by kernel_rfl) rfl rfl rfl (by kernel_rfl) (by kernel_rfl) rfl ?_
    simp only [Nat.reduceAdd, List.take_succ_cons, List.take_zero, List.drop_succ_cons, List.drop_zero]
    intro w5 h5
    repeat (go_big_quiet_step (fail))
    refine wpQuiet_nil ?_
    intro w6 h6
    have B6 := Lib.hid (B3.out.trans (Below.mono h6 B3.out.size))
    refine yld_append _ _ _ 33 (by rfl) w.heap.size 68 i0 (.agg #[.string ByteArray.empty, .int .u64 0, .int .u64 0]) 3 32 Tryd.underlying33 hi hz0 hz1 hz2 rfl (by decide) _ _ _ (by rfl) (TK6.out _ h6) ⟨g0, (i + 1) * 3, none⟩ (cs.length - (i + 1)) (c - (i + 1)) fd (by rfl) FD.out (NW6.out _ h6) FO.out (by unfold maxLen; omega) (by omega) B6.out.size ?_
    intro v7 w7 hown hgrow hat
    have P := Lib.hid hown
    have G := Lib.hid hgrow
    obtain ⟨g7, c7, rfl⟩ := own_form0 hown (hat.elim (fun e => ⟨g1, e⟩) (fun e => ⟨_, e⟩))
    clear hown hgrow hat
    simp only [pureRun, pureVal, Act.put, Act.eval, List.setIfInBounds_toArray, List.set_cons_succ, List.set_cons_zero]
    clear hbw
    go_wp2
    go_returns
    exact saR_of (by rw [List.length_append, LK.out, LD.out]) rfl (own_joinA (by rw [LK.out, LD.out, HF.out.1, HF.out.2]; exact P.out)) (Below.grown B6.out G.out B6.out.size (fun k hk => by cases hk; exact GB.out))

set_option maxRecDepth 100000 in
set_option maxHeartbeats 6400000 in
theorem sAp_mis3 (s : ByteArray) (h a b : Int) (g0 : Nat) (cs : List Cd) (c : Nat) (g o : Nat) (w : World) (hc : CardsIn w (some ⟨g0, 0, none⟩) cs) (hE : EdP w g o 3 s h a b) (hn : cs.length ≤ 80) (i : Nat) (hi' : i < cs.length) (hf : findC cs s = (i : Int)) (h0 : 0 ≤ h) (h1 : h ≤ 95) (hz : allIn (b0 h) (b1 h) (cdAt cs i).a (cdAt cs i).b = true) :
    Calls Tryd.prog 32 #[.slice (some ⟨g0, 0, none⟩) cs.length c, .pointer (some ⟨g, o, none⟩)] w (SaR [] 4 w) := by
  obtain ⟨i0, hi, hz0, hz1, hz2⟩ := info_parts info_card
  have F := Lib.hid (cellsC_flat (cellsC_below (fun i hi => (hc i hi).2) (below_new (Below.refl w.heap.size w) (.cells #[] 68))))
  have CC := Lib.hid hc
  have FN := Lib.hid fun W hs => sFind_any (some ⟨g0, 0, none⟩) cs c s W hs hn
  have PE := Lib.hid hE
  obtain ⟨p0, p1, p2, p3, p4⟩ := hE
  have tok1 : True := trivial
  obtain ⟨⟨_, u1, u2⟩, b1', o1', he1, hb1', q0, q1, q2⟩ := hc i hi'
  cases he1
  simp only [Nat.zero_add] at q0 q1 q2
  have hpos : 0 < cs.length := by omega
  have i1 : (0 : Int) ≤ (i : Int) := by omega
  have i2 : (i : Int) < (cs.length : Int) := by omega
  have di : decide ((i : Int) < 0) = false := by simp
  have Q1 := Lib.hid q1
  have Q2 := Lib.hid q2
  have QL := Lib.hid hb1'
  have LT := Lib.hid (cardsIn_lt hc hpos)
  rw [hf] at FN
  have IW := sIsWithin_is (u64_b0 h h0) (u64_b1 h h1) u1 u2 hz
  have BT := Lib.hid fun W => sBit_any h h0 h1 W
  have FG := Lib.hid (flatC_get cs i hi')
  have F2 := Lib.hid (flatC_set2 cs i)
  have hw : IntKind.i64.wrap h = h := IntWalk.i64_in _ (by omega)
  clear hz u1 u2
  generalize hxa : (cdAt cs i).a = xa at *
  generalize hxb : (cdAt cs i).b = xb at *
  clear hf q0 q1 q2 hb1'
  clear hc
  generalize b0 h = p at *
  generalize b1 h = q at *
  clear h0 h1
  go_enter Tryd.func32, Tryd.ntmps32
  go_upto_region 15 with (first | (at_builtin; have _t := tok1; clear _t tok1; refine wpList_append_own _ rfl _ _ 33 rfl w.heap.size 68 i0 (.agg #[.string ByteArray.empty, .int .u64 0, .int .u64 0]) 3 32 Tryd.underlying33 hi hz0 hz1 hz2 rfl (by decide) _ _ _ rfl (World.ownsRow_made w #[] 0 (Nat.le_refl _) (Nat.zero_le _) rfl) ⟨g0, 0, none⟩ cs.length c (flatC cs) rfl (flatC_len cs) F.out (flatC_oneA cs) (by unfold maxLen; omega) (by omega) (by simp) ?_; intro v1 w1 hown hgrow _; obtain ⟨g1, cap1, hv, hB1, hcap1⟩ := own_formA (own0A hown) hpos; subst hv; have O1 := Lib.hid (own0A hown); have GB := Lib.hid hB1; have B1 := Lib.hid (Below.grown ((Below.refl w.heap.size w).alloc (Nat.le_refl _) _) hgrow (by simp) (fun j hj => by cases hj; exact Nat.le_refl _)); have P1 := Lib.hid (PE.out.below B1.out); obtain ⟨x0, x1, x2, x3, x4⟩ := P1.out; clear hown hgrow p0 p1 p2 p3 p4) | (go_at_call 62; refine (FN.out _ (cardsIn_below CC.out B1.out)).mono ?_; rintro e w2 ⟨rfl, hB⟩; have O2 := Lib.hid (ownCards_kept O1.out hB); have B2 := Lib.hid (B1.out.trans (Below.mono hB B1.out.size)); have P2 := Lib.hid (P1.out.below hB); obtain ⟨y0, y1, y2, y3, y4⟩ := P2.out; have c1 := (B2.out.cell (p := ⟨g0, i * 3 + 1, none⟩) QL.out).trans Q1.out; have c2 := (B2.out.cell (p := ⟨g0, i * 3 + 2, none⟩) QL.out).trans Q2.out; have l0 := Nat.lt_of_lt_of_le QL.out B2.out.size; have le := P2.out.lt; clear hB x0 x1 x2 x3 x4) | (go_at_call 63; refine (BT.out _).mono ?_; rintro e w3 ⟨rfl, hB⟩; have O3 := Lib.hid (ownCards_kept O2.out hB); have B3 := Lib.hid (B2.out.trans (Below.mono hB B2.out.size)); have P3 := Lib.hid (P2.out.below hB); have E1 := (hB.cell (p := ⟨g0, i * 3 + 1, none⟩) l0).trans c1; have E2 := (hB.cell (p := ⟨g0, i * 3 + 2, none⟩) l0).trans c2; have L3 := Lib.hid (Nat.lt_of_lt_of_le l0 hB.size); clear hB y0 y1 y2 y3 y4 c1 c2 l0 le))
  have X4 := block_alloc w3 (.cells #[.int .u64 p, .int .u64 q] 35)
  have O4 := Lib.hid (ownCards_kept O3.out (below_new (Below.refl w3.heap.size w3) (.cells #[.int .u64 p, .int .u64 q] 35)))
  have B4 := Lib.hid (below_new B3.out (.cells #[.int .u64 p, .int .u64 q] 35))
  have P4 := Lib.hid (P3.out.below (below_new (Below.refl w3.heap.size w3) (.cells #[.int .u64 p, .int .u64 q] 35)))
  have c1 := ((below_new (Below.refl w3.heap.size w3) (.cells #[.int .u64 p, .int .u64 q] 35)).cell (p := ⟨g0, i * 3 + 1, none⟩) L3.out).trans E1
  have c2 := ((below_new (Below.refl w3.heap.size w3) (.cells #[.int .u64 p, .int .u64 q] 35)).cell (p := ⟨g0, i * 3 + 2, none⟩) L3.out).trans E2
  have GL := Lib.hid (World.ownsRow.lt O3.out g1 rfl).2
  clear E1 E2
  generalize hw4 : w3.alloc (.cells #[.int .u64 p, .int .u64 q] 35) = w4 at *
  have l0 : g0 < w4.heap.size := World.block_lt_of_cell? _ _ c1
  generalize hb4 : w3.heap.size = b4 at *
  clear hw4 hb4
  obtain ⟨y0, y1, y2, y3, y4⟩ := P4.out
  have le := P4.out.lt
  have x4 := cell_of_block X4
  have lx := lt_of_block X4
  have XX := Lib.hid X4
  clear X4
  have hbw := cell_bw
  refine region_bw (by kernel_rfl) (by kernel_rfl) ?_
  repeat (go_big_quiet_step (first | (go_at_call 64; exact calls_bw (IW.out _))))
  refine wpQuiet_nil ?_; intro wq hq; replace hq := below_of_bw hq; obtain ⟨qc, qf, qz⟩ := bcell hq
  have B5 := Lib.hid (B4.out.trans (Below.mono hq B4.out.size))
  go_wp2
  go_returns
  exact ⟨_, _, rfl, sa_none B5.out, below_new B5.out _⟩

set_option maxRecDepth 100000 in
set_option maxHeartbeats 6400000 in
theorem sAp_hole3 (s : ByteArray) (h a b : Int) (g0 : Nat) (cs : List Cd) (c : Nat) (g o : Nat) (w : World) (hc : CardsIn w (some ⟨g0, 0, none⟩) cs) (hE : EdP w g o 3 s h a b) (hn : cs.length ≤ 80) (i : Nat) (hi' : i < cs.length) (hf : findC cs s = (i : Int)) (h0 : 0 ≤ h) (h1 : h ≤ 95) (hz : allIn (b0 h) (b1 h) (cdAt cs i).a (cdAt cs i).b = false) :
    Calls Tryd.prog 32 #[.slice (some ⟨g0, 0, none⟩) cs.length c, .pointer (some ⟨g, o, none⟩)] w (SaR (cs.set i ⟨(cdAt cs i).s, bits .or .u64 (cdAt cs i).a (b0 h), bits .or .u64 (cdAt cs i).b (b1 h)⟩) 0 w) := by
  obtain ⟨i0, hi, hz0, hz1, hz2⟩ := info_parts info_card
  have F := Lib.hid (cellsC_flat (cellsC_below (fun i hi => (hc i hi).2) (below_new (Below.refl w.heap.size w) (.cells #[] 68))))
  have CC := Lib.hid hc
  have FN := Lib.hid fun W hs => sFind_any (some ⟨g0, 0, none⟩) cs c s W hs hn
  have PE := Lib.hid hE
  obtain ⟨p0, p1, p2, p3, p4⟩ := hE
  have tok1 : True := trivial
  obtain ⟨⟨_, u1, u2⟩, b1', o1', he1, hb1', q0, q1, q2⟩ := hc i hi'
  cases he1
  simp only [Nat.zero_add] at q0 q1 q2
  have hpos : 0 < cs.length := by omega
  have i1 : (0 : Int) ≤ (i : Int) := by omega
  have i2 : (i : Int) < (cs.length : Int) := by omega
  have di : decide ((i : Int) < 0) = false := by simp
  have Q1 := Lib.hid q1
  have Q2 := Lib.hid q2
  have QL := Lib.hid hb1'
  have LT := Lib.hid (cardsIn_lt hc hpos)
  rw [hf] at FN
  have IW := sIsWithin_is (u64_b0 h h0) (u64_b1 h h1) u1 u2 hz
  have BT := Lib.hid fun W => sBit_any h h0 h1 W
  have FG := Lib.hid (flatC_get cs i hi')
  have F2 := Lib.hid (flatC_set2 cs i)
  have hw : IntKind.i64.wrap h = h := IntWalk.i64_in _ (by omega)
  clear hz u1 u2
  generalize hxa : (cdAt cs i).a = xa at *
  generalize hxb : (cdAt cs i).b = xb at *
  clear hf q0 q1 q2 hb1'
  clear hc
  generalize b0 h = p at *
  generalize b1 h = q at *
  clear h0 h1
  go_enter Tryd.func32, Tryd.ntmps32
  go_upto_region 15 with (first | (at_builtin; have _t := tok1; clear _t tok1; refine wpList_append_own _ rfl _ _ 33 rfl w.heap.size 68 i0 (.agg #[.string ByteArray.empty, .int .u64 0, .int .u64 0]) 3 32 Tryd.underlying33 hi hz0 hz1 hz2 rfl (by decide) _ _ _ rfl (World.ownsRow_made w #[] 0 (Nat.le_refl _) (Nat.zero_le _) rfl) ⟨g0, 0, none⟩ cs.length c (flatC cs) rfl (flatC_len cs) F.out (flatC_oneA cs) (by unfold maxLen; omega) (by omega) (by simp) ?_; intro v1 w1 hown hgrow _; obtain ⟨g1, cap1, hv, hB1, hcap1⟩ := own_formA (own0A hown) hpos; subst hv; have O1 := Lib.hid (own0A hown); have GB := Lib.hid hB1; have B1 := Lib.hid (Below.grown ((Below.refl w.heap.size w).alloc (Nat.le_refl _) _) hgrow (by simp) (fun j hj => by cases hj; exact Nat.le_refl _)); have P1 := Lib.hid (PE.out.below B1.out); obtain ⟨x0, x1, x2, x3, x4⟩ := P1.out; clear hown hgrow p0 p1 p2 p3 p4) | (go_at_call 62; refine (FN.out _ (cardsIn_below CC.out B1.out)).mono ?_; rintro e w2 ⟨rfl, hB⟩; have O2 := Lib.hid (ownCards_kept O1.out hB); have B2 := Lib.hid (B1.out.trans (Below.mono hB B1.out.size)); have P2 := Lib.hid (P1.out.below hB); obtain ⟨y0, y1, y2, y3, y4⟩ := P2.out; have c1 := (B2.out.cell (p := ⟨g0, i * 3 + 1, none⟩) QL.out).trans Q1.out; have c2 := (B2.out.cell (p := ⟨g0, i * 3 + 2, none⟩) QL.out).trans Q2.out; have l0 := Nat.lt_of_lt_of_le QL.out B2.out.size; have le := P2.out.lt; clear hB x0 x1 x2 x3 x4) | (go_at_call 63; refine (BT.out _).mono ?_; rintro e w3 ⟨rfl, hB⟩; have O3 := Lib.hid (ownCards_kept O2.out hB); have B3 := Lib.hid (B2.out.trans (Below.mono hB B2.out.size)); have P3 := Lib.hid (P2.out.below hB); have E1 := (hB.cell (p := ⟨g0, i * 3 + 1, none⟩) l0).trans c1; have E2 := (hB.cell (p := ⟨g0, i * 3 + 2, none⟩) l0).trans c2; have L3 := Lib.hid (Nat.lt_of_lt_of_le l0 hB.size); clear hB y0 y1 y2 y3 y4 c1 c2 l0 le))
  have X4 := block_alloc w3 (.cells #[.int .u64 p, .int .u64 q] 35)
  have O4 := Lib.hid (ownCards_kept O3.out (below_new (Below.refl w3.heap.size w3) (.cells #[.int .u64 p, .int .u64 q] 35)))
  have B4 := Lib.hid (below_new B3.out (.cells #[.int .u64 p, .int .u64 q] 35))
  have P4 := Lib.hid (P3.out.below (below_new (Below.refl w3.heap.size w3) (.cells #[.int .u64 p, .int .u64 q] 35)))
  have c1 := ((below_new (Below.refl w3.heap.size w3) (.cells #[.int .u64 p, .int .u64 q] 35)).cell (p := ⟨g0, i * 3 + 1, none⟩) L3.out).trans E1
  have c2 := ((below_new (Below.refl w3.heap.size w3) (.cells #[.int .u64 p, .int .u64 q] 35)).cell (p := ⟨g0, i * 3 + 2, none⟩) L3.out).trans E2
  have GL := Lib.hid (World.ownsRow.lt O3.out g1 rfl).2
  clear E1 E2
  generalize hw4 : w3.alloc (.cells #[.int .u64 p, .int .u64 q] 35) = w4 at *
  have l0 : g0 < w4.heap.size := World.block_lt_of_cell? _ _ c1
  generalize hb4 : w3.heap.size = b4 at *
  clear hw4 hb4
  obtain ⟨y0, y1, y2, y3, y4⟩ := P4.out
  have le := P4.out.lt
  have x4 := cell_of_block X4
  have lx := lt_of_block X4
  have XX := Lib.hid X4
  clear X4
  have hbw := cell_bw
  refine region_bw (by kernel_rfl) (by kernel_rfl) ?_
  repeat (go_big_quiet_step (first | (go_at_call 64; exact calls_bw (IW.out _))))
  refine wpQuiet_nil ?_; intro wq hq; replace hq := below_of_bw hq; obtain ⟨qc, qf, qz⟩ := bcell hq
  have B5 := Lib.hid (B4.out.trans (Below.mono hq B4.out.size))
  have O5 := Lib.hid (ownCards_kept O4.out hq)
  have X5 := Lib.hid (Ab.block hq XX.out)
  have P5 := Lib.hid (P4.out.below hq)
  have G5 := Lib.hid (Nat.lt_of_lt_of_le (Nat.lt_of_lt_of_le GL.out (Nat.le_of_lt lx)) hq.size)
  clear hq qc qf qz c1 c2 x4 lx y0 y1 y2 y3 y4 l0 le XX
  have z0 := P5.out.1
  go_wp2
  clear z0 hbw
  have JM := Lib.hid fun W => sJoin_below xa xb p q W
  have hbw := cell_bw
  generalize bits .or .u64 xa p = m0 at *
  generalize bits .or .u64 xb q = m1 at *
  refine wp_region_last 11 (by kernel_rfl) rfl rfl (by kernel_rfl) (by kernel_rfl) rfl ?_
  simp only [List.take_succ_cons, List.take_zero]
  intro w6 h6
  have O6 := ownCards_kept O5.out h6
  have r1 := (World.ownsRow.cellAt O6 (i * 3 + 1) (by omega)).trans FG.out.2.1
  have r2 := (World.ownsRow.cellAt O6 (i * 3 + 2) (by omega)).trans FG.out.2.2
  have g6 := (World.ownsRow.lt O6 g1 rfl).2
  have x6 := cell_of_block (Ab.block h6 X5.out)
  have lx6 := lt_of_block (Ab.block h6 X5.out)
  clear O6
  repeat (go_big_quiet_step (first | (go_at_call 66; exact calls_bw (JM.out _))))
  refine wpQuiet_nil ?_
  intro w7 h7
  clear r1 r2 g6 x6 lx6 hbw
  have O7 := ownCards_kept O5.out h7
  have s1 := (World.ownsRow.cellAt O7 (i * 3 + 1) (by omega)).trans FG.out.2.1
  have s2 := (World.ownsRow.cellAt O7 (i * 3 + 2) (by omega)).trans FG.out.2.2
  have f7 := fun j => World.ownsRow.frozenAt O7 j
  have t1 := (World.ownsRow.stored O7 (i * 3 + 1) (.int .u64 m0)).1
  have t2 := (World.ownsRow.stored t1 (i * 3 + 2) (.int .u64 m1)).1
  rw [F2.out m0 m1] at t2
  have T2 := Lib.hid t2
  have B7 := Lib.hid (B5.out.trans (Below.mono h7 B5.out.size))
  clear O7 t1 t2
  go_simp
  simp only [Yld]
  go_wp2
  go_returns
  exact saR_of List.length_set rfl (by unfold OwnCards; rw [List.length_set]; exact T2.out) ((B7.out.setCell GB.out _).setCell GB.out _)

set_option maxRecDepth 100000 in
set_option maxHeartbeats 6400000 in
theorem sAp_mis4 (s : ByteArray) (h a b : Int) (g0 : Nat) (cs : List Cd) (c : Nat) (g o : Nat) (w : World) (hc : CardsIn w (some ⟨g0, 0, none⟩) cs) (hE : EdP w g o 4 s h a b) (hn : cs.length ≤ 80) (i : Nat) (hi' : i < cs.length) (hf : findC cs s = (i : Int)) (h0 : 0 ≤ h) (h1 : h ≤ 95) (hz : allIn (b0 h) (b1 h) (cdAt cs i).a (cdAt cs i).b = false) :
    Calls Tryd.prog 32 #[.slice (some ⟨g0, 0, none⟩) cs.length c, .pointer (some ⟨g, o, none⟩)] w (SaR [] 4 w) := by
  obtain ⟨i0, hi, hz0, hz1, hz2⟩ := info_parts info_card
  have F := Lib.hid (cellsC_flat (cellsC_below (fun i hi => (hc i hi).2) (below_new (Below.refl w.heap.size w) (.cells #[] 68))))
  have CC := Lib.hid hc
  have FN := Lib.hid fun W hs => sFind_any (some ⟨g0, 0, none⟩) cs c s W hs hn
  have PE := Lib.hid hE
  obtain ⟨p0, p1, p2, p3, p4⟩ := hE
  have tok1 : True := trivial
  obtain ⟨⟨_, u1, u2⟩, b1', o1', he1, hb1', q0, q1, q2⟩ := hc i hi'
  cases he1
  simp only [Nat.zero_add] at q0 q1 q2
  have hpos : 0 < cs.length := by omega
  have i1 : (0 : Int) ≤ (i : Int) := by omega
  have i2 : (i : Int) < (cs.length : Int) := by omega
  have di : decide ((i : Int) < 0) = false := by simp
  have Q1 := Lib.hid q1
  have Q2 := Lib.hid q2
  have QL := Lib.hid hb1'
  have LT := Lib.hid (cardsIn_lt hc hpos)
  rw [hf] at FN
  have IW := sIsWithin_is (u64_b0 h h0) (u64_b1 h h1) u1 u2 hz
  have BT := Lib.hid fun W => sBit_any h h0 h1 W
  have FG := Lib.hid (flatC_get cs i hi')
  have F2 := Lib.hid (flatC_set2 cs i)
  have hw : IntKind.i64.wrap h = h := IntWalk.i64_in _ (by omega)
  clear hz u1 u2
  generalize hxa : (cdAt cs i).a = xa at *
  generalize hxb : (cdAt cs i).b = xb at *
  clear hf q0 q1 q2 hb1'
  clear hc
  generalize b0 h = p at *
  generalize b1 h = q at *
  clear h0 h1
  go_enter Tryd.func32, Tryd.ntmps32
  go_upto_region 15 with (first | (at_builtin; have _t := tok1; clear _t tok1; refine wpList_append_own _ rfl _ _ 33 rfl w.heap.size 68 i0 (.agg #[.string ByteArray.empty, .int .u64 0, .int .u64 0]) 3 32 Tryd.underlying33 hi hz0 hz1 hz2 rfl (by decide) _ _ _ rfl (World.ownsRow_made w #[] 0 (Nat.le_refl _) (Nat.zero_le _) rfl) ⟨g0, 0, none⟩ cs.length c (flatC cs) rfl (flatC_len cs) F.out (flatC_oneA cs) (by unfold maxLen; omega) (by omega) (by simp) ?_; intro v1 w1 hown hgrow _; obtain ⟨g1, cap1, hv, hB1, hcap1⟩ := own_formA (own0A hown) hpos; subst hv; have O1 := Lib.hid (own0A hown); have GB := Lib.hid hB1; have B1 := Lib.hid (Below.grown ((Below.refl w.heap.size w).alloc (Nat.le_refl _) _) hgrow (by simp) (fun j hj => by cases hj; exact Nat.le_refl _)); have P1 := Lib.hid (PE.out.below B1.out); obtain ⟨x0, x1, x2, x3, x4⟩ := P1.out; clear hown hgrow p0 p1 p2 p3 p4) | (go_at_call 62; refine (FN.out _ (cardsIn_below CC.out B1.out)).mono ?_; rintro e w2 ⟨rfl, hB⟩; have O2 := Lib.hid (ownCards_kept O1.out hB); have B2 := Lib.hid (B1.out.trans (Below.mono hB B1.out.size)); have P2 := Lib.hid (P1.out.below hB); obtain ⟨y0, y1, y2, y3, y4⟩ := P2.out; have c1 := (B2.out.cell (p := ⟨g0, i * 3 + 1, none⟩) QL.out).trans Q1.out; have c2 := (B2.out.cell (p := ⟨g0, i * 3 + 2, none⟩) QL.out).trans Q2.out; have l0 := Nat.lt_of_lt_of_le QL.out B2.out.size; have le := P2.out.lt; clear hB x0 x1 x2 x3 x4) | (go_at_call 63; refine (BT.out _).mono ?_; rintro e w3 ⟨rfl, hB⟩; have O3 := Lib.hid (ownCards_kept O2.out hB); have B3 := Lib.hid (B2.out.trans (Below.mono hB B2.out.size)); have P3 := Lib.hid (P2.out.below hB); have E1 := (hB.cell (p := ⟨g0, i * 3 + 1, none⟩) l0).trans c1; have E2 := (hB.cell (p := ⟨g0, i * 3 + 2, none⟩) l0).trans c2; have L3 := Lib.hid (Nat.lt_of_lt_of_le l0 hB.size); clear hB y0 y1 y2 y3 y4 c1 c2 l0 le))
  have X4 := block_alloc w3 (.cells #[.int .u64 p, .int .u64 q] 35)
  have O4 := Lib.hid (ownCards_kept O3.out (below_new (Below.refl w3.heap.size w3) (.cells #[.int .u64 p, .int .u64 q] 35)))
  have B4 := Lib.hid (below_new B3.out (.cells #[.int .u64 p, .int .u64 q] 35))
  have P4 := Lib.hid (P3.out.below (below_new (Below.refl w3.heap.size w3) (.cells #[.int .u64 p, .int .u64 q] 35)))
  have c1 := ((below_new (Below.refl w3.heap.size w3) (.cells #[.int .u64 p, .int .u64 q] 35)).cell (p := ⟨g0, i * 3 + 1, none⟩) L3.out).trans E1
  have c2 := ((below_new (Below.refl w3.heap.size w3) (.cells #[.int .u64 p, .int .u64 q] 35)).cell (p := ⟨g0, i * 3 + 2, none⟩) L3.out).trans E2
  have GL := Lib.hid (World.ownsRow.lt O3.out g1 rfl).2
  clear E1 E2
  generalize hw4 : w3.alloc (.cells #[.int .u64 p, .int .u64 q] 35) = w4 at *
  have l0 : g0 < w4.heap.size := World.block_lt_of_cell? _ _ c1
  generalize hb4 : w3.heap.size = b4 at *
  clear hw4 hb4
  obtain ⟨y0, y1, y2, y3, y4⟩ := P4.out
  have le := P4.out.lt
  have x4 := cell_of_block X4
  have lx := lt_of_block X4
  have XX := Lib.hid X4
  clear X4
  have hbw := cell_bw
  refine region_bw (by kernel_rfl) (by kernel_rfl) ?_
  repeat (go_big_quiet_step (first | (go_at_call 64; exact calls_bw (IW.out _))))
  refine wpQuiet_nil ?_; intro wq hq; replace hq := below_of_bw hq; obtain ⟨qc, qf, qz⟩ := bcell hq
  have B5 := Lib.hid (B4.out.trans (Below.mono hq B4.out.size))
  go_wp2
  go_returns
  exact ⟨_, _, rfl, sa_none B5.out, below_new B5.out _⟩

set_option maxRecDepth 100000 in
set_option maxHeartbeats 6400000 in
theorem sAp_hole4 (s : ByteArray) (h a b : Int) (g0 : Nat) (cs : List Cd) (c : Nat) (g o : Nat) (w : World) (hc : CardsIn w (some ⟨g0, 0, none⟩) cs) (hE : EdP w g o 4 s h a b) (hn : cs.length ≤ 80) (i : Nat) (hi' : i < cs.length) (hf : findC cs s = (i : Int)) (h0 : 0 ≤ h) (h1 : h ≤ 95) (hz : allIn (b0 h) (b1 h) (cdAt cs i).a (cdAt cs i).b = true) :
    Calls Tryd.prog 32 #[.slice (some ⟨g0, 0, none⟩) cs.length c, .pointer (some ⟨g, o, none⟩)] w (SaR (cs.set i ⟨(cdAt cs i).s, bits .andNot .u64 (cdAt cs i).a (b0 h), bits .andNot .u64 (cdAt cs i).b (b1 h)⟩) 0 w) := by
  obtain ⟨i0, hi, hz0, hz1, hz2⟩ := info_parts info_card
  have F := Lib.hid (cellsC_flat (cellsC_below (fun i hi => (hc i hi).2) (below_new (Below.refl w.heap.size w) (.cells #[] 68))))
  have CC := Lib.hid hc
  have FN := Lib.hid fun W hs => sFind_any (some ⟨g0, 0, none⟩) cs c s W hs hn
  have PE := Lib.hid hE
  obtain ⟨p0, p1, p2, p3, p4⟩ := hE
  have tok1 : True := trivial
  obtain ⟨⟨_, u1, u2⟩, b1', o1', he1, hb1', q0, q1, q2⟩ := hc i hi'
  cases he1
  simp only [Nat.zero_add] at q0 q1 q2
  have hpos : 0 < cs.length := by omega
  have i1 : (0 : Int) ≤ (i : Int) := by omega
  have i2 : (i : Int) < (cs.length : Int) := by omega
  have di : decide ((i : Int) < 0) = false := by simp
  have Q1 := Lib.hid q1
  have Q2 := Lib.hid q2
  have QL := Lib.hid hb1'
  have LT := Lib.hid (cardsIn_lt hc hpos)
  rw [hf] at FN
  have IW := sIsWithin_is (u64_b0 h h0) (u64_b1 h h1) u1 u2 hz
  have BT := Lib.hid fun W => sBit_any h h0 h1 W
  have FG := Lib.hid (flatC_get cs i hi')
  have F2 := Lib.hid (flatC_set2 cs i)
  have hw : IntKind.i64.wrap h = h := IntWalk.i64_in _ (by omega)
  clear hz u1 u2
  generalize hxa : (cdAt cs i).a = xa at *
  generalize hxb : (cdAt cs i).b = xb at *
  clear hf q0 q1 q2 hb1'
  clear hc
  generalize b0 h = p at *
  generalize b1 h = q at *
  clear h0 h1
  go_enter Tryd.func32, Tryd.ntmps32
  go_upto_region 15 with (first | (at_builtin; have _t := tok1; clear _t tok1; refine wpList_append_own _ rfl _ _ 33 rfl w.heap.size 68 i0 (.agg #[.string ByteArray.empty, .int .u64 0, .int .u64 0]) 3 32 Tryd.underlying33 hi hz0 hz1 hz2 rfl (by decide) _ _ _ rfl (World.ownsRow_made w #[] 0 (Nat.le_refl _) (Nat.zero_le _) rfl) ⟨g0, 0, none⟩ cs.length c (flatC cs) rfl (flatC_len cs) F.out (flatC_oneA cs) (by unfold maxLen; omega) (by omega) (by simp) ?_; intro v1 w1 hown hgrow _; obtain ⟨g1, cap1, hv, hB1, hcap1⟩ := own_formA (own0A hown) hpos; subst hv; have O1 := Lib.hid (own0A hown); have GB := Lib.hid hB1; have B1 := Lib.hid (Below.grown ((Below.refl w.heap.size w).alloc (Nat.le_refl _) _) hgrow (by simp) (fun j hj => by cases hj; exact Nat.le_refl _)); have P1 := Lib.hid (PE.out.below B1.out); obtain ⟨x0, x1, x2, x3, x4⟩ := P1.out; clear hown hgrow p0 p1 p2 p3 p4) | (go_at_call 62; refine (FN.out _ (cardsIn_below CC.out B1.out)).mono ?_; rintro e w2 ⟨rfl, hB⟩; have O2 := Lib.hid (ownCards_kept O1.out hB); have B2 := Lib.hid (B1.out.trans (Below.mono hB B1.out.size)); have P2 := Lib.hid (P1.out.below hB); obtain ⟨y0, y1, y2, y3, y4⟩ := P2.out; have c1 := (B2.out.cell (p := ⟨g0, i * 3 + 1, none⟩) QL.out).trans Q1.out; have c2 := (B2.out.cell (p := ⟨g0, i * 3 + 2, none⟩) QL.out).trans Q2.out; have l0 := Nat.lt_of_lt_of_le QL.out B2.out.size; have le := P2.out.lt; clear hB x0 x1 x2 x3 x4) | (go_at_call 63; refine (BT.out _).mono ?_; rintro e w3 ⟨rfl, hB⟩; have O3 := Lib.hid (ownCards_kept O2.out hB); have B3 := Lib.hid (B2.out.trans (Below.mono hB B2.out.size)); have P3 := Lib.hid (P2.out.below hB); have E1 := (hB.cell (p := ⟨g0, i * 3 + 1, none⟩) l0).trans c1; have E2 := (hB.cell (p := ⟨g0, i * 3 + 2, none⟩) l0).trans c2; have L3 := Lib.hid (Nat.lt_of_lt_of_le l0 hB.size); clear hB y0 y1 y2 y3 y4 c1 c2 l0 le))
  have X4 := block_alloc w3 (.cells #[.int .u64 p, .int .u64 q] 35)
  have O4 := Lib.hid (ownCards_kept O3.out (below_new (Below.refl w3.heap.size w3) (.cells #[.int .u64 p, .int .u64 q] 35)))
  have B4 := Lib.hid (below_new B3.out (.cells #[.int .u64 p, .int .u64 q] 35))
  have P4 := Lib.hid (P3.out.below (below_new (Below.refl w3.heap.size w3) (.cells #[.int .u64 p, .int .u64 q] 35)))
  have c1 := ((below_new (Below.refl w3.heap.size w3) (.cells #[.int .u64 p, .int .u64 q] 35)).cell (p := ⟨g0, i * 3 + 1, none⟩) L3.out).trans E1
  have c2 := ((below_new (Below.refl w3.heap.size w3) (.cells #[.int .u64 p, .int .u64 q] 35)).cell (p := ⟨g0, i * 3 + 2, none⟩) L3.out).trans E2
  have GL := Lib.hid (World.ownsRow.lt O3.out g1 rfl).2
  clear E1 E2
  generalize hw4 : w3.alloc (.cells #[.int .u64 p, .int .u64 q] 35) = w4 at *
  have l0 : g0 < w4.heap.size := World.block_lt_of_cell? _ _ c1
  generalize hb4 : w3.heap.size = b4 at *
  clear hw4 hb4
  obtain ⟨y0, y1, y2, y3, y4⟩ := P4.out
  have le := P4.out.lt
  have x4 := cell_of_block X4
  have lx := lt_of_block X4
  have XX := Lib.hid X4
  clear X4
  have hbw := cell_bw
  refine region_bw (by kernel_rfl) (by kernel_rfl) ?_
  repeat (go_big_quiet_step (first | (go_at_call 64; exact calls_bw (IW.out _))))
  refine wpQuiet_nil ?_; intro wq hq; replace hq := below_of_bw hq; obtain ⟨qc, qf, qz⟩ := bcell hq
  have B5 := Lib.hid (B4.out.trans (Below.mono hq B4.out.size))
  have O5 := Lib.hid (ownCards_kept O4.out hq)
  have X5 := Lib.hid (Ab.block hq XX.out)
  have P5 := Lib.hid (P4.out.below hq)
  have G5 := Lib.hid (Nat.lt_of_lt_of_le (Nat.lt_of_lt_of_le GL.out (Nat.le_of_lt lx)) hq.size)
  clear hq qc qf qz c1 c2 x4 lx y0 y1 y2 y3 y4 l0 le XX
  have z0 := P5.out.1
  go_wp2
  clear z0 hbw
  have JM := Lib.hid fun W => sLess_below xa xb p q W
  have hbw := cell_bw
  generalize bits .andNot .u64 xa p = m0 at *
  generalize bits .andNot .u64 xb q = m1 at *
  refine wp_region_last 11 (by kernel_rfl) rfl rfl (by kernel_rfl) (by kernel_rfl) rfl ?_
  simp only [List.take_succ_cons, List.take_zero]
  intro w6 h6
  have O6 := ownCards_kept O5.out h6
  have r1 := (World.ownsRow.cellAt O6 (i * 3 + 1) (by omega)).trans FG.out.2.1
  have r2 := (World.ownsRow.cellAt O6 (i * 3 + 2) (by omega)).trans FG.out.2.2
  have g6 := (World.ownsRow.lt O6 g1 rfl).2
  have x6 := cell_of_block (Ab.block h6 X5.out)
  have lx6 := lt_of_block (Ab.block h6 X5.out)
  clear O6
  repeat (go_big_quiet_step (first | (go_at_call 65; exact calls_bw (JM.out _))))
  refine wpQuiet_nil ?_
  intro w7 h7
  clear r1 r2 g6 x6 lx6 hbw
  have O7 := ownCards_kept O5.out h7
  have s1 := (World.ownsRow.cellAt O7 (i * 3 + 1) (by omega)).trans FG.out.2.1
  have s2 := (World.ownsRow.cellAt O7 (i * 3 + 2) (by omega)).trans FG.out.2.2
  have f7 := fun j => World.ownsRow.frozenAt O7 j
  have t1 := (World.ownsRow.stored O7 (i * 3 + 1) (.int .u64 m0)).1
  have t2 := (World.ownsRow.stored t1 (i * 3 + 2) (.int .u64 m1)).1
  rw [F2.out m0 m1] at t2
  have T2 := Lib.hid t2
  have B7 := Lib.hid (B5.out.trans (Below.mono h7 B5.out.size))
  clear O7 t1 t2
  go_simp
  simp only [Yld]
  go_wp2
  go_returns
  exact saR_of List.length_set rfl (by unfold OwnCards; rw [List.length_set]; exact T2.out) ((B7.out.setCell GB.out _).setCell GB.out _)

end Go.Proofs.YtpgonfeobfefaaaDoor

namespace Go.Proofs.YtpgonfeobfefaaaDoor
open Go.ChangeShapes Go.WideShapes Go.ChangeAt Go.RowKit

/-- Three boxes of the call's own. -/
def A3 (w : World) (o p q : Obj) (W : World) : Prop := W.heap[w.heap.size]? = some o ∧ W.heap[w.heap.size + 1]? = some p ∧ W.heap[w.heap.size + 2]? = some q ∧ Below w.heap.size w W
theorem A3.mk (w : World) (o p q : Obj) : A3 w o p q (((w.alloc o).alloc p).alloc q) := by
  have h := wblock_three w o p q
  exact ⟨h.1, h.2.1, h.2.2, below_new (below_new (below_new (Below.refl _ _) _) _) _⟩
theorem A3.ab {w W W' : World} {o p q : Obj} (h : A3 w o p q W) (k : Ab W W') : A3 w o p q W' := ⟨k.block h.1, k.block h.2.1, k.block h.2.2.1, h.2.2.2.trans (Below.mono k h.2.2.2.size)⟩

theorem eq_mask8 (a b c d : Int) (w : World) : (Op.equalIn 9999 35 (.agg #[.int .u64 a, .int .u64 b]) (.agg #[.int .u64 c, .int .u64 d])).run Tryd.prog w = .ok (a == c && b == d) w := by
  have u3 := Tryd.underlying22
  have a3 := Tryd.isAgg22
  have z3 := Tryd.sizeOf22
  rw [show (9999 : Nat) = 9998 + 1 from rfl, Op.equalIn]
  simp only [Sem.run_bind, run_underlying Tryd.underlying35, Result.andThen_ok]
  simp only [Std.Legacy.Range.forIn_eq_forIn_range', Std.Legacy.Range.size, Nat.sub_zero, Nat.add_sub_cancel, Nat.div_one, List.range'_succ, List.range'_zero, List.forIn_cons, List.forIn_nil]
  go_simp
  by_cases h1 : a = c <;> by_cases h2 : b = d <;> simp [h1, h2]
theorem eq_state (t u : Bool) (a b c d : Int) (w : World) : (Op.equalIn 10000 73 (.agg #[.bool t, .int .u64 a, .int .u64 b]) (.agg #[.bool u, .int .u64 c, .int .u64 d])).run Tryd.prog w = .ok (t == u && (a == c && b == d)) w := by
  have us := Tryd.underlying4
  have ag := Tryd.isAgg4
  have zs := Tryd.sizeOf4
  have am := Tryd.isAgg35
  have zm := Tryd.sizeOf35
  have em := eq_mask8
  have hS : Tryd.prog.underlying 73 = some (.struct (Tryd.prog.fieldsOf 73)) := by kernel_rfl
  rw [show (10000 : Nat) = 9999 + 1 from rfl, run_equalIn_struct w 9999 73 _ _ hS (by kernel_rfl)]
  simp only [Program.fieldsOf, Tryd.underlying73]
  go_simp
  cases t <;> cases u <;> by_cases h1 : a = c <;> by_cases h2 : b = d <;> simp [h1, h2]

theorem iAfter_1 (k : Int) (s : ByteArray) (h a b : Int) (t : Bool) (u v : Int) (w : World) :
    Calls Tryd.prog 166 #[.agg #[.int .i8 k, .string s, .int .i16 h, .int .u64 a, .int .u64 b], .agg #[.bool t, .int .u64 u, .int .u64 v]] w fun e w' => e = .returned (.tuple #[.agg #[.bool true, .int .u64 a, .int .u64 b], .bool (!t)]) ∧ Below w.heap.size w w' := by
  have R := Lib.hid (A3.mk w (.cells #[.int .i8 k, .string s, .int .i16 h, .int .u64 a, .int .u64 b] 151) (.cells #[.bool t, .int .u64 u, .int .u64 v] 73) (.cells #[.bool false, .int .u64 0, .int .u64 0] 73))
  go_enter Tryd.func166, Tryd.ntmps166
  go_wp2
  go_region
  all_goals go_wp2
  all_goals go_returns
  all_goals exact ⟨rfl, (by repeat' (first | (with_reducible exact Below.refl _ _) | (with_reducible assumption) | (with_reducible refine below_drewN ?_ _) | (with_reducible refine Below.drew ?_) | (with_reducible refine below_new ?_ _) | (with_reducible refine below_next ?_ (by with_reducible assumption)) | (with_reducible refine Below.setCell ?_ ?_ _) | go_size))⟩
theorem iAfter_2 (k : Int) (s : ByteArray) (h a b : Int) (t : Bool) (u v : Int) (w : World) :
    Calls Tryd.prog 168 #[.agg #[.int .i8 k, .string s, .int .i16 h, .int .u64 a, .int .u64 b], .agg #[.bool t, .int .u64 u, .int .u64 v]] w fun e w' => e = .returned (.tuple #[.agg #[.bool false, .int .u64 0, .int .u64 0], .bool (t && (u == a && v == b))]) ∧ Below w.heap.size w w' := by
  have R := Lib.hid (A3.mk w (.cells #[.int .i8 k, .string s, .int .i16 h, .int .u64 a, .int .u64 b] 152) (.cells #[.bool t, .int .u64 u, .int .u64 v] 73) (.cells #[.bool false, .int .u64 0, .int .u64 0] 73))
  have es := eq_state
  go_enter Tryd.func168, Tryd.ntmps168
  go_wp2
  go_region
  all_goals go_wp2
  all_goals go_returns
  all_goals exact ⟨by cases t <;> rfl, (by repeat' (first | (with_reducible exact Below.refl _ _) | (with_reducible assumption) | (with_reducible refine below_drewN ?_ _) | (with_reducible refine Below.drew ?_) | (with_reducible refine below_new ?_ _) | (with_reducible refine below_next ?_ (by with_reducible assumption)) | (with_reducible refine Below.setCell ?_ ?_ _) | go_size))⟩

set_option maxRecDepth 100000 in
set_option maxHeartbeats 1600000 in
theorem iAfter_3 (k : Int) (s : ByteArray) (h a b : Int) (h0 : 0 ≤ h) (h1 : h ≤ 95) (t : Bool) (u v : Int) (w : World) :
    Calls Tryd.prog 170 #[.agg #[.int .i8 k, .string s, .int .i16 h, .int .u64 a, .int .u64 b], .agg #[.bool t, .int .u64 u, .int .u64 v]] w fun e w' => e = .returned (.tuple #[.agg #[.bool t, .int .u64 (bits .or .u64 u (b0 h)), .int .u64 (bits .or .u64 v (b1 h))], .bool (t && !allIn (b0 h) (b1 h) u v)]) ∧ Below w.heap.size w w' := by
  have R := Lib.hid (A3.mk w (.cells #[.int .i8 k, .string s, .int .i16 h, .int .u64 a, .int .u64 b] 153) (.cells #[.bool t, .int .u64 u, .int .u64 v] 73) (.cells #[.bool false, .int .u64 0, .int .u64 0] 73))
  have O := Lib.hid fun W => iOne_any h h0 h1 W
  have I := Lib.hid fun W => iWithin_any (b0 h) (b1 h) u v W
  have J := Lib.hid fun W => iJoin_below u v (b0 h) (b1 h) W
  have hw : IntKind.i64.wrap h = h := IntWalk.i64_in _ (by omega)
  have ew : allIn (b0 h) (b1 h) u v = (bits .and .u64 (b0 h) u == b0 h && bits .and .u64 (b1 h) v == b1 h) := rfl
  rw [ew]
  clear h0 h1 ew
  generalize (bits .or .u64 u (b0 h)) = m at *
  generalize (bits .or .u64 v (b1 h)) = n at *
  generalize (bits .and .u64 (b0 h) u == b0 h && bits .and .u64 (b1 h) v == b1 h) = z at *
  generalize b0 h = p at *
  generalize b1 h = q at *
  cases t
  · go_enter Tryd.func170, Tryd.ntmps170
    go_wp2_with (first | (go_at_call 172; refine (O.out _).mono ?_; rintro e w1 ⟨rfl, hB⟩; have r1 := Lib.hid (R.out.ab hB); have c1 := cell_of_block r1.out.2.1; have s1 := lt_of_block r1.out.2.1; clear hB) | (go_at_call 174; refine (J.out _).mono ?_; rintro e w3 ⟨rfl, hB⟩; have r3 := Lib.hid ((r1.out.ab (below_new (Below.refl _ _) _)).ab hB); clear hB c1 s1; have c3 := cell_of_block r3.out.2.1; have f3 := free_of_block r3.out.2.1; have c4 := cell_of_block r3.out.2.2.1; have f4 := free_of_block r3.out.2.2.1))
    refine bodyPost_ret (by simp [results, Tryd.results170, go_sem, c4]; try rfl) rfl ?_
    exact ⟨by simp, ((((r3.out.2.2.2.setCell (by first | omega | (simp; done) | (simp; omega)) _).setCell (by first | omega | (simp; done) | (simp; omega)) _).setCell (by first | omega | (simp; done) | (simp; omega)) _).setCell (by first | omega | (simp; done) | (simp; omega)) _).setCell (by first | omega | (simp; done) | (simp; omega)) _⟩
  · go_enter Tryd.func170, Tryd.ntmps170
    go_wp2_with (first | (go_at_call 172; refine (O.out _).mono ?_; rintro e w1 ⟨rfl, hB⟩; have r1 := Lib.hid (R.out.ab hB); have c1 := cell_of_block r1.out.2.1; have s1 := lt_of_block r1.out.2.1; clear hB) | (go_at_call 173; refine (I.out _).mono ?_; rintro e w2 ⟨rfl, hB⟩; have r2 := Lib.hid ((r1.out.ab (below_new (Below.refl _ _) _)).ab hB); have x2 := Lib.hid (Ab.block hB (block_alloc w1 (.cells #[.int .u64 p, .int .u64 q] 35))); clear hB c1 s1; have c2 := cell_of_block r2.out.2.1; have d2 := cell_of_block x2.out) | (go_at_call 174; refine (J.out _).mono ?_; rintro e w3 ⟨rfl, hB⟩; have r3 := Lib.hid (r2.out.ab hB); clear hB c2 d2; have c3 := cell_of_block r3.out.2.1; have f3 := free_of_block r3.out.2.1; have c4 := cell_of_block r3.out.2.2.1; have f4 := free_of_block r3.out.2.2.1))
    refine bodyPost_ret (by simp [results, Tryd.results170, go_sem, c4]; try rfl) rfl ?_
    exact ⟨by simp, ((((r3.out.2.2.2.setCell (by first | omega | (simp; done) | (simp; omega)) _).setCell (by first | omega | (simp; done) | (simp; omega)) _).setCell (by first | omega | (simp; done) | (simp; omega)) _).setCell (by first | omega | (simp; done) | (simp; omega)) _).setCell (by first | omega | (simp; done) | (simp; omega)) _⟩
set_option maxRecDepth 100000 in
set_option maxHeartbeats 1600000 in
theorem iAfter_4 (k : Int) (s : ByteArray) (h a b : Int) (h0 : 0 ≤ h) (h1 : h ≤ 95) (t : Bool) (u v : Int) (w : World) :
    Calls Tryd.prog 177 #[.agg #[.int .i8 k, .string s, .int .i16 h, .int .u64 a, .int .u64 b], .agg #[.bool t, .int .u64 u, .int .u64 v]] w fun e w' => e = .returned (.tuple #[.agg #[.bool t, .int .u64 (bits .andNot .u64 u (b0 h)), .int .u64 (bits .andNot .u64 v (b1 h))], .bool (t && allIn (b0 h) (b1 h) u v)]) ∧ Below w.heap.size w w' := by
  have R := Lib.hid (A3.mk w (.cells #[.int .i8 k, .string s, .int .i16 h, .int .u64 a, .int .u64 b] 154) (.cells #[.bool t, .int .u64 u, .int .u64 v] 73) (.cells #[.bool false, .int .u64 0, .int .u64 0] 73))
  have O := Lib.hid fun W => iOne_any h h0 h1 W
  have I := Lib.hid fun W => iWithin_any (b0 h) (b1 h) u v W
  have J := Lib.hid fun W => iLess_below u v (b0 h) (b1 h) W
  have hw : IntKind.i64.wrap h = h := IntWalk.i64_in _ (by omega)
  have ew : allIn (b0 h) (b1 h) u v = (bits .and .u64 (b0 h) u == b0 h && bits .and .u64 (b1 h) v == b1 h) := rfl
  rw [ew]
  clear h0 h1 ew
  generalize (bits .andNot .u64 u (b0 h)) = m at *
  generalize (bits .andNot .u64 v (b1 h)) = n at *
  generalize (bits .and .u64 (b0 h) u == b0 h && bits .and .u64 (b1 h) v == b1 h) = z at *
  generalize b0 h = p at *
  generalize b1 h = q at *
  cases t
  · go_enter Tryd.func177, Tryd.ntmps177
    go_wp2_with (first | (go_at_call 172; refine (O.out _).mono ?_; rintro e w1 ⟨rfl, hB⟩; have r1 := Lib.hid (R.out.ab hB); have c1 := cell_of_block r1.out.2.1; have s1 := lt_of_block r1.out.2.1; clear hB) | (go_at_call 179; refine (J.out _).mono ?_; rintro e w3 ⟨rfl, hB⟩; have r3 := Lib.hid ((r1.out.ab (below_new (Below.refl _ _) _)).ab hB); clear hB c1 s1; have c3 := cell_of_block r3.out.2.1; have f3 := free_of_block r3.out.2.1; have c4 := cell_of_block r3.out.2.2.1; have f4 := free_of_block r3.out.2.2.1))
    refine bodyPost_ret (by simp [results, Tryd.results177, go_sem, c4]; try rfl) rfl ?_
    exact ⟨by simp, ((((r3.out.2.2.2.setCell (by first | omega | (simp; done) | (simp; omega)) _).setCell (by first | omega | (simp; done) | (simp; omega)) _).setCell (by first | omega | (simp; done) | (simp; omega)) _).setCell (by first | omega | (simp; done) | (simp; omega)) _).setCell (by first | omega | (simp; done) | (simp; omega)) _⟩
  · go_enter Tryd.func177, Tryd.ntmps177
    go_wp2_with (first | (go_at_call 172; refine (O.out _).mono ?_; rintro e w1 ⟨rfl, hB⟩; have r1 := Lib.hid (R.out.ab hB); have c1 := cell_of_block r1.out.2.1; have s1 := lt_of_block r1.out.2.1; clear hB) | (go_at_call 173; refine (I.out _).mono ?_; rintro e w2 ⟨rfl, hB⟩; have r2 := Lib.hid ((r1.out.ab (below_new (Below.refl _ _) _)).ab hB); have x2 := Lib.hid (Ab.block hB (block_alloc w1 (.cells #[.int .u64 p, .int .u64 q] 35))); clear hB c1 s1; have c2 := cell_of_block r2.out.2.1; have d2 := cell_of_block x2.out) | (go_at_call 179; refine (J.out _).mono ?_; rintro e w3 ⟨rfl, hB⟩; have r3 := Lib.hid (r2.out.ab hB); clear hB c2 d2; have c3 := cell_of_block r3.out.2.1; have f3 := free_of_block r3.out.2.1; have c4 := cell_of_block r3.out.2.2.1; have f4 := free_of_block r3.out.2.2.1))
    refine bodyPost_ret (by simp [results, Tryd.results177, go_sem, c4]; try rfl) rfl ?_
    exact ⟨by simp, ((((r3.out.2.2.2.setCell (by first | omega | (simp; done) | (simp; omega)) _).setCell (by first | omega | (simp; done) | (simp; omega)) _).setCell (by first | omega | (simp; done) | (simp; omega)) _).setCell (by first | omega | (simp; done) | (simp; omega)) _).setCell (by first | omega | (simp; done) | (simp; omega)) _⟩
end Go.Proofs.YtpgonfeobfefaaaDoor

namespace Go.Proofs.YtpgonfeobfefaaaDoor
open Go.ChangeShapes Go.WideShapes Go.ChangeAt Go.RowKit

def kS (s : ByteArray) : Lit := .string s.data.toList
theorem kS_inj {s t : ByteArray} (h : kS s = kS t) : s = t := by
  unfold kS at h
  injection h with h
  obtain ⟨⟨s⟩⟩ := s
  obtain ⟨⟨t⟩⟩ := t
  simp only at h
  subst h
  rfl
theorem kS_lit (s : ByteArray) : WideAt.IsKeyLit (kS s) := trivial
def dSt (cs : List Cd) : Nat → DataW Unit
  | 0 => .map []
  | n + 1 => (dSt cs n).put (kS (cdAt cs n).s) (stD ⟨true, (cdAt cs n).a, (cdAt cs n).b⟩)
theorem dSt_tidy (cs : List Cd) : ∀ n, Maps.Tidy (dSt cs n)
  | 0 => Maps.tidy_empty
  | n + 1 => (dSt_tidy cs n).put (kS_lit _) _
theorem dSt_at (cs : List Cd) (s : ByteArray) : ∀ n, (dSt cs n).atKey (kS s) (stD st0) = stD (stTo cs s n)
  | 0 => rfl
  | n + 1 => by
    unfold dSt stTo
    cases e : ((cdAt cs n).s == s)
    · rw [Maps.atKey_put_other (fun h => bytes_ne e (kS_inj h).symm), dSt_at cs s n]; rfl
    · rw [bytes_eq e, Maps.atKey_put_same (dSt_tidy cs n).isMap (kS_lit _)]; rfl
theorem dSt_has (cs : List Cd) (s : ByteArray) : ∀ n, Maps.has (dSt cs n) (kS s) = (stTo cs s n).t
  | 0 => rfl
  | n + 1 => by
    unfold dSt stTo
    cases e : ((cdAt cs n).s == s)
    · rw [Maps.has_put_other (fun h => bytes_ne e (kS_inj h).symm), dSt_has cs s n]; rfl
    · rw [bytes_eq e, Maps.has_put_same (dSt_tidy cs n).isMap (kS_lit _)]; rfl
theorem okTo_pred {cs : List Cd} {n : Nat} (h : okTo cs (n + 1) = true) : okTo cs n = true := by
  unfold okTo at h
  rw [Bool.and_eq_true] at h
  exact h.1
theorem dSt_size (cs : List Cd) : ∀ n, okTo cs n = true → Maps.size (dSt cs n) = n
  | 0, _ => rfl
  | n + 1, h => by
    unfold dSt
    rw [Maps.size_put (dSt_tidy cs n), dSt_has, st_none n (fun k hk => okTo_uniq h hk (Nat.lt_succ_self n)), dSt_size cs n (okTo_pred h)]
    rfl
theorem st_at {cs : List Cd} (h : deckOk cs = true) {i : Nat} (hi : i < cs.length) : stOf cs (cdAt cs i).s = ⟨true, (cdAt cs i).a, (cdAt cs i).b⟩ := by
  rcases st_find h (cdAt cs i).s with ⟨_, _, hn⟩ | ⟨k, hk, _, hs, he, _⟩
  · exact absurd rfl (hn i hi)
  · obtain rfl := deckOk_uniq h hk hi hs
    exact he

/-- A map of the call's own with the states of all cards. -/
def StsO (w : World) (b : Nat) (cs : List Cd) : Prop := w.ownsMap Tryd.prog 9 stR b cs.length (dSt cs cs.length)
theorem StsO.below {w w' : World} {b : Nat} {cs : List Cd} (h : StsO w b cs) (hb : Below w.heap.size w w') : StsO w' b cs := by
  have hl := Go.World.ownsMap.lt h
  obtain ⟨es, clock, hc, F, hs, hD⟩ := h
  exact ⟨es, clock, (hb.block b hl).trans hc, F, hs, hD⟩
def StO (cs : List Cd) (w : World) (e : Ending) (w' : World) : Prop := ∃ b, e = .returned (.map (some b)) ∧ StsO w' b cs ∧ Below w.heap.size w w'

theorem zero_state (w : World) : (zeroValue 73).run Tryd.prog w = .ok (stV st0) w := by kernel_rfl

set_option maxRecDepth 100000 in
set_option maxHeartbeats 1600000 in
theorem iStates_any (ad : Option Addr) (cs : List Cd) (c : Nat) (w : World) (hc : CardsIn w ad cs) (hn : cs.length ≤ 1048576) :
    Calls Tryd.prog 74 #[.slice ad cs.length c] w (StO cs w) := by
  have C := Lib.hid hc
  have N := Lib.hid hn
  clear hc
  have hmm := fun n W => run_makeMapN Tryd.underlying119 n W
  go_enter Tryd.func74, Tryd.ntmps74
  go_wp2
  go_loopw [11] (fun i wr => ∃ j : Nat, j ≤ cs.length ∧ i = .int .i64 j ∧ wr.ownsMap Tryd.prog 9 stR w.heap.size j (dSt cs j) ∧ Below w.heap.size w wr) (fun i _ => cs.length - (intOf i).toNat)
  case atStart => exact ⟨0, Nat.zero_le _, rfl, World.ownsMap_made _ _ _ _, below_new (Below.refl _ _) _⟩
  case round =>
    obtain ⟨j, hj, rfl, hM, hB⟩ := hrel
    have BB := Lib.hid hB
    have M := Lib.hid hM
    clear hM hmm
    by_cases hjl : j < cs.length
    · have hd : decide ((j : Int) < (cs.length : Int)) = true := by simpa using hjl
      obtain ⟨⟨hfit, _⟩, b1, o1, rfl, hb1, p0, p1, p2⟩ := C.out j hjl
      have d0 := (hB.cell (p := ⟨b1, o1 + j * 3, none⟩) hb1).trans p0
      have d1 := (hB.cell (p := ⟨b1, o1 + j * 3 + 1, none⟩) hb1).trans p1
      have d2 := (hB.cell (p := ⟨b1, o1 + j * 3 + 2, none⟩) hb1).trans p2
      have y1 : b1 < wr.heap.size := Nat.lt_of_lt_of_le hb1 hB.size
      have i1 : (0 : Int) ≤ (j : Int) := by omega
      have i2 : (j : Int) < (cs.length : Int) := by omega
      have F := Lib.hid hfit
      have J := Lib.hid (show j < maxLen by have := N.out; unfold maxLen; omega)
      clear hB p0 p1 p2 hfit
      obtain ⟨w3, U, M3, G3⟩ := Go.World.ownsMap.update (M.out.alloc (.cells #[.string (cdAt cs j).s, .int .u64 (cdAt cs j).a, .int .u64 (cdAt cs j).b] 68)) (Maps.string_keyed Tryd.underlying9) Tryd.underlying119 J.out (show keyOf Tryd.prog 9 (.string (cdAt cs j).s) = some (kS (cdAt cs j).s) from Go.WideMaps.keyOf_string_mk Tryd.underlying9 F.out) (show stR (.agg #[.bool true, .int .u64 (cdAt cs j).a, .int .u64 (cdAt cs j).b]) = some (stD ⟨true, (cdAt cs j).a, (cdAt cs j).b⟩, []) from rfl)
      have M3 := Lib.hid M3
      have B1 := below_new BB.out (.cells #[.string (cdAt cs j).s, .int .u64 (cdAt cs j).a, .int .u64 (cdAt cs j).b] 68)
      have B3 := Lib.hid (Below.grown B1 G3 B1.size (fun k hk => by cases hk; exact Nat.le_refl _))
      clear G3 B1
      go_wp2
      exact ⟨⟨j + 1, hjl, by rw [Int.natCast_succ], M3.out, B3.out⟩, by (simp [intOf]) <;> omega⟩
    · have e : j = cs.length := by omega
      subst e
      have hd : decide ((cs.length : Int) < (cs.length : Int)) = false := by simp
      clear hB
      go_wp2
      go_ret
      exact ⟨w.heap.size, rfl, M.out, BB.out⟩
end Go.Proofs.YtpgonfeobfefaaaDoor

namespace Go.Proofs.YtpgonfeobfefaaaDoor
open Go.ChangeShapes Go.WideShapes Go.ChangeAt Go.RowKit

theorem below_drewS {B : Nat} {w W : World} (h : Below B w W) : Below B w W.drew := ⟨h.os, h.tape, h.output, h.size, h.block⟩
/-- A state of a name, asked of the map. -/
theorem st_lookS {w : World} {b : Nat} {cs : List Cd} (h : StsO w b cs) {s : ByteArray} (hs : s.size ≤ maxLen) : (Instr.lookup 119 (.map (some b)) (.string s) false).run Tryd.prog w = .ok (stV (stOf cs s)) w := by
  obtain ⟨v, ps, hr, hv⟩ := Go.World.ownsMap.lookup h (Maps.string_keyed Tryd.underlying9) Tryd.underlying119 (zero_state w) (stR_of st0) (show keyOf Tryd.prog 9 (.string s) = some (kS s) from Go.WideMaps.keyOf_string_mk Tryd.underlying9 hs)
  rw [dSt_at] at hv
  obtain rfl := stR_inv hv
  exact hr
/-- A step, and what refuses one. -/
def spV (n m : St) : Value := .agg #[.bool n.t, .int .u64 n.a, .int .u64 n.b, .bool m.t, .int .u64 m.a, .int .u64 m.b]
def misV (x : Ed) : Value := .iface 123 (edV x)
def ovV (n : Int) : Value := .iface 118 (.int .i64 n)
/-- What stepOf answers to an edit that a full deck does not refuse. -/
def stepR (z : Bool) (x : Ed) (n m : St) : Value := if z then .tuple #[spV n m, .nilIface] else .tuple #[spV st0 st0, misV x]

theorem iStep_full (s : ByteArray) (h a b : Int) (ad : Option Addr) (n c : Nat) (w : World) (h80 : n = 80) :
    Calls Tryd.prog 38 #[.slice ad n c, .agg #[.int .i8 1, .string s, .int .i16 h, .int .u64 a, .int .u64 b]] w fun e w' => e = .returned (.tuple #[spV st0 st0, ovV 81]) ∧ Below w.heap.size w w' := by
  subst h80
  go_enter Tryd.func38, Tryd.ntmps38
  go_wp2
  go_returns
  exact ⟨rfl, (by repeat' (first | (with_reducible exact Below.refl _ _) | (with_reducible assumption) | (with_reducible refine below_drewN ?_ _) | (with_reducible refine Below.drew ?_) | (with_reducible refine below_new ?_ _) | (with_reducible refine below_next ?_ (by with_reducible assumption)) | (with_reducible refine Below.setCell ?_ ?_ _) | go_size))⟩

set_option maxRecDepth 100000 in
set_option maxHeartbeats 6400000 in
theorem iStep_1 (s : ByteArray) (h a b : Int) (hs : s.size ≤ maxLen) (ad : Option Addr) (cs : List Cd) (c : Nat) (w : World) (hc : CardsIn w ad cs) (hn : cs.length ≤ 1048576) (hd : ¬ cs.length = 80) (t : Bool) (u v : Int) (hst : stOf cs s = ⟨t, u, v⟩) :
    Calls Tryd.prog 38 #[.slice ad cs.length c, .agg #[.int .i8 1, .string s, .int .i16 h, .int .u64 a, .int .u64 b]] w fun e w' => e = .returned (stepR (!t) ⟨1, s, h, a, b⟩ ⟨t, u, v⟩ ⟨true, a, b⟩) ∧ Below w.heap.size w w' := by
  have HB := Lib.hid (block_alloc2 w (.cells #[.int .i8 1, .string s, .int .i16 h, .int .u64 a, .int .u64 b] 37) (.cells #[.bool false, .int .u64 0, .int .u64 0, .bool false, .int .u64 0, .int .u64 0] 75))
  have BB := Lib.hid (below_new (below_new (Below.refl w.heap.size w) (.cells #[.int .i8 1, .string s, .int .i16 h, .int .u64 a, .int .u64 b] 37)) (.cells #[.bool false, .int .u64 0, .int .u64 0, .bool false, .int .u64 0, .int .u64 0] 75))
  have C := Lib.hid (cardsIn_below hc BB.out)
  have S := Lib.hid fun W h => iStates_any ad cs c W h hn
  have AF := Lib.hid fun W => iAfter_1 1 s h a b t u v W
  have CH := Lib.hid fun W => iChange_1 s h a b W
  have HS := Lib.hid hs
  have ST := Lib.hid hst
  have dd : ((cs.length : Int) == 80) = false := beq_eq_false_iff_ne.2 (by omega)
  clear hc hs hst hd
  generalize (!t) = z at *
  have e6 : stepR z ⟨1, s, h, a, b⟩ ⟨t, u, v⟩ ⟨true, a, b⟩ = stepR z ⟨1, s, h, a, b⟩ ⟨t, u, v⟩ ⟨true, a, b⟩ := rfl
  clear e6
  go_enter Tryd.func38, Tryd.ntmps38
  go_upto_region 3 with fail
  generalize hw0 : (w.alloc (.cells #[.int .i8 1, .string s, .int .i16 h, .int .u64 a, .int .u64 b] 37)).alloc (.cells #[.bool false, .int .u64 0, .int .u64 0, .bool false, .int .u64 0, .int .u64 0] 75) = w0 at *
  refine D2.wp_region_aft_at (X := Nat) (Y := Unit) 1 2 0 (fun x W => StsO W x cs) (fun _ _ => True) (fun _ _ _ h hb => h.below hb) (fun _ _ _ _ _ => trivial) (fun x => .map (some x)) (fun _ => stV ⟨t, u, v⟩) (.cells #[.bool false, .int .u64 0, .int .u64 0] 73) (fun _ => .cells #[.bool t, .int .u64 u, .int .u64 v] 73) (by kernel_rfl) rfl rfl rfl rfl (by kernel_rfl) rfl rfl rfl rfl (fun _ _ => by kernel_rfl) 0 () ?_
  simp only [Nat.reduceAdd, List.take_succ_cons, List.take_zero, List.drop_succ_cons, List.drop_zero]
  have hbw := cell_bw
  intro v1 hv1
  repeat (go_big_quiet_step (fail))
  refine wpQuiet_nil ?_
  refine ⟨?_, ?_⟩
  · intro v2 hv2
    go_simp
    simp only [Yld]
    refine ⟨trivial, (S.out v2 (cardsIn_below C.out hv2)).mono ?_⟩
    rintro e v3 ⟨b, rfl, hO, hb⟩
    exact ⟨_, rfl, b, rfl, hb, hO⟩
  intro y v2 hv2
  simp only [Act.put, List.setIfInBounds_toArray, List.set_cons_succ, List.set_cons_zero]
  have c0 := cell_of_block (hv2.block HB.out.1)
  have z0 := lt_of_block (hv2.block HB.out.1)
  repeat (go_big_quiet_step (fail))
  refine wpQuiet_nil ?_
  clear c0 z0
  refine ⟨?_, ?_⟩
  · intro v3 hv3 hx
    have lk := st_lookS hx HS.out
    rw [ST.out] at lk
    go_simp
    simp only [Yld]
    exact ⟨trivial, Ab.refl _⟩
  intro _
  simp only [List.setIfInBounds_toArray, List.set_cons_succ, List.set_cons_zero, stV]
  intro b1 hb1
  refine ⟨?_, ?_⟩
  · intro w3 h3 _ hb3
    have f0 := cell_of_block hb3
    have f1 := free_of_block hb3
    go_simp
    exact ⟨((h3.setCell _ hb1).setCell _ hb1).setCell _ hb1, block_setCell _ (block_setCell _ (block_setCell _ hb3))⟩
  simp only [List.setIfInBounds_toArray, List.set_cons_succ, List.set_cons_zero]
  intro v4 hv4 _ hx4
  have H4 := Lib.hid hv4
  have X4 := Lib.hid hx4
  have E4 := Lib.hid (hv4.block HB.out.1)
  have R4 := Lib.hid (hv4.block HB.out.2)
  clear hv1 hv2 hv4 hx4 hbw
  go_wp2
  refine wp_region_at 7 0 (.cells #[.bool false, .int .u64 0, .int .u64 0] 73) (.cells #[.bool true, .int .u64 a, .int .u64 b] 73) (by kernel_rfl) rfl rfl rfl (by kernel_rfl) rfl rfl (fun _ _ => by kernel_rfl) ?_
  simp only [Nat.reduceAdd, List.take_succ_cons, List.take_zero, List.drop_succ_cons, List.drop_zero]
  have hbw := cell_bw
  intro v5 h5
  have c0 := cell_of_block (h5.block E4.out)
  have c1 := cell_of_block (h5.block X4.out)
  have z0 := lt_of_block (h5.block E4.out)
  have z1 := lt_of_block (h5.block X4.out)
  repeat (go_big_quiet_step (first | (go_at_call 69; exact calls_bw (CH.out _))))
  refine BigFrame.wpQuiet_want (by rfl) fun K hK => ⟨.tuple #[.agg #[.bool true, .int .u64 a, .int .u64 b], .bool z], ?_, hK _ ?_⟩
  · rintro w' ⟨p, rfl⟩
    unfold Oper.quietAt
    go_simp
    first | exact ⟨trivial, calls_bw (AF.out _)⟩ | exact ⟨rfl, calls_bw (AF.out _)⟩ | exact calls_bw (AF.out _)
  clear hK K
  simp only [Act.put, List.setIfInBounds_toArray, List.set_cons_succ, List.set_cons_zero]
  repeat (go_big_quiet_step (fail))
  refine wpQuiet_nil ?_
  clear c0 c1 z0 z1
  intro b2 hb2 v6 h6
  refine wpQuiet_nil ?_
  refine ⟨?_, ?_⟩
  · intro w3 h3 hb3
    have f0 := cell_of_block hb3
    have f1 := free_of_block hb3
    go_simp
    exact ⟨((h3.setCell _ hb2).setCell _ hb2).setCell _ hb2, block_setCell _ (block_setCell _ (block_setCell _ hb3))⟩
  intro v7 h7
  simp only [List.setIfInBounds_toArray, List.set_cons_succ, List.set_cons_zero]
  repeat (go_big_quiet_step (fail))
  refine wpQuiet_nil ?_
  intro v8 hv8 hx8
  have X8 := Lib.hid hx8
  have Y8 := Lib.hid (hv8.block X4.out)
  have E8 := Lib.hid (hv8.block E4.out)
  have R8 := Lib.hid (hv8.block R4.out)
  have B8 := Lib.hid (BB.out.trans (Below.mono (H4.out.trans hv8) BB.out.size))
  clear h5 hv8 hx8 hbw h6 h7
  cases z
  · have c0 := cell_of_block E8.out
    have c2 := cell_of_block R8.out
    have f2 := free_of_block R8.out
    go_wp2
    go_region
    all_goals go_wp2
    all_goals refine bodyPost_ret (by simp [results, Tryd.results38, go_sem, c2]; try rfl) rfl ?_
    all_goals exact ⟨rfl, below_drewS <| (((((B8.out.setCell (by first | omega | (simp; done) | (simp; omega)) _).setCell (by first | omega | (simp; done) | (simp; omega)) _).setCell (by first | omega | (simp; done) | (simp; omega)) _).setCell (by first | omega | (simp; done) | (simp; omega)) _).setCell (by first | omega | (simp; done) | (simp; omega)) _).setCell (by first | omega | (simp; done) | (simp; omega)) _⟩
  · have c0 := cell_of_block X8.out
    have c1 := cell_of_block Y8.out
    have c2 := cell_of_block R8.out
    have f2 := free_of_block R8.out
    go_wp2
    refine bodyPost_ret (by simp [results, Tryd.results38, go_sem, c2]; try rfl) rfl ?_
    exact ⟨rfl, (((((B8.out.setCell (by first | omega | (simp; done) | (simp; omega)) _).setCell (by first | omega | (simp; done) | (simp; omega)) _).setCell (by first | omega | (simp; done) | (simp; omega)) _).setCell (by first | omega | (simp; done) | (simp; omega)) _).setCell (by first | omega | (simp; done) | (simp; omega)) _).setCell (by first | omega | (simp; done) | (simp; omega)) _⟩

set_option maxRecDepth 100000 in
set_option maxHeartbeats 6400000 in
theorem iStep_2 (s : ByteArray) (h a b : Int) (hs : s.size ≤ maxLen) (ad : Option Addr) (cs : List Cd) (c : Nat) (w : World) (hc : CardsIn w ad cs) (hn : cs.length ≤ 1048576) (t : Bool) (u v : Int) (hst : stOf cs s = ⟨t, u, v⟩) :
    Calls Tryd.prog 38 #[.slice ad cs.length c, .agg #[.int .i8 2, .string s, .int .i16 h, .int .u64 a, .int .u64 b]] w fun e w' => e = .returned (stepR (t && (u == a && v == b)) ⟨2, s, h, a, b⟩ ⟨t, u, v⟩ st0) ∧ Below w.heap.size w w' := by
  have HB := Lib.hid (block_alloc2 w (.cells #[.int .i8 2, .string s, .int .i16 h, .int .u64 a, .int .u64 b] 37) (.cells #[.bool false, .int .u64 0, .int .u64 0, .bool false, .int .u64 0, .int .u64 0] 75))
  have BB := Lib.hid (below_new (below_new (Below.refl w.heap.size w) (.cells #[.int .i8 2, .string s, .int .i16 h, .int .u64 a, .int .u64 b] 37)) (.cells #[.bool false, .int .u64 0, .int .u64 0, .bool false, .int .u64 0, .int .u64 0] 75))
  have C := Lib.hid (cardsIn_below hc BB.out)
  have S := Lib.hid fun W h => iStates_any ad cs c W h hn
  have AF := Lib.hid fun W => iAfter_2 2 s h a b t u v W
  have CH := Lib.hid fun W => iChange_2 s h a b W
  have HS := Lib.hid hs
  have ST := Lib.hid hst
  skip
  clear hc hs hst
  generalize (t && (u == a && v == b)) = z at *
  have e6 : stepR z ⟨2, s, h, a, b⟩ ⟨t, u, v⟩ st0 = stepR z ⟨2, s, h, a, b⟩ ⟨t, u, v⟩ st0 := rfl
  clear e6
  go_enter Tryd.func38, Tryd.ntmps38
  go_upto_region 3 with fail
  generalize hw0 : (w.alloc (.cells #[.int .i8 2, .string s, .int .i16 h, .int .u64 a, .int .u64 b] 37)).alloc (.cells #[.bool false, .int .u64 0, .int .u64 0, .bool false, .int .u64 0, .int .u64 0] 75) = w0 at *
  refine D2.wp_region_aft_at (X := Nat) (Y := Unit) 1 2 0 (fun x W => StsO W x cs) (fun _ _ => True) (fun _ _ _ h hb => h.below hb) (fun _ _ _ _ _ => trivial) (fun x => .map (some x)) (fun _ => stV ⟨t, u, v⟩) (.cells #[.bool false, .int .u64 0, .int .u64 0] 73) (fun _ => .cells #[.bool t, .int .u64 u, .int .u64 v] 73) (by kernel_rfl) rfl rfl rfl rfl (by kernel_rfl) rfl rfl rfl rfl (fun _ _ => by kernel_rfl) 0 () ?_
  simp only [Nat.reduceAdd, List.take_succ_cons, List.take_zero, List.drop_succ_cons, List.drop_zero]
  have hbw := cell_bw
  intro v1 hv1
  repeat (go_big_quiet_step (fail))
  refine wpQuiet_nil ?_
  refine ⟨?_, ?_⟩
  · intro v2 hv2
    go_simp
    simp only [Yld]
    refine ⟨trivial, (S.out v2 (cardsIn_below C.out hv2)).mono ?_⟩
    rintro e v3 ⟨b, rfl, hO, hb⟩
    exact ⟨_, rfl, b, rfl, hb, hO⟩
  intro y v2 hv2
  simp only [Act.put, List.setIfInBounds_toArray, List.set_cons_succ, List.set_cons_zero]
  have c0 := cell_of_block (hv2.block HB.out.1)
  have z0 := lt_of_block (hv2.block HB.out.1)
  repeat (go_big_quiet_step (fail))
  refine wpQuiet_nil ?_
  clear c0 z0
  refine ⟨?_, ?_⟩
  · intro v3 hv3 hx
    have lk := st_lookS hx HS.out
    rw [ST.out] at lk
    go_simp
    simp only [Yld]
    exact ⟨trivial, Ab.refl _⟩
  intro _
  simp only [List.setIfInBounds_toArray, List.set_cons_succ, List.set_cons_zero, stV]
  intro b1 hb1
  refine ⟨?_, ?_⟩
  · intro w3 h3 _ hb3
    have f0 := cell_of_block hb3
    have f1 := free_of_block hb3
    go_simp
    exact ⟨((h3.setCell _ hb1).setCell _ hb1).setCell _ hb1, block_setCell _ (block_setCell _ (block_setCell _ hb3))⟩
  simp only [List.setIfInBounds_toArray, List.set_cons_succ, List.set_cons_zero]
  intro v4 hv4 _ hx4
  have H4 := Lib.hid hv4
  have X4 := Lib.hid hx4
  have E4 := Lib.hid (hv4.block HB.out.1)
  have R4 := Lib.hid (hv4.block HB.out.2)
  clear hv1 hv2 hv4 hx4 hbw
  go_wp2
  refine wp_region_at 7 0 (.cells #[.bool false, .int .u64 0, .int .u64 0] 73) (.cells #[.bool false, .int .u64 0, .int .u64 0] 73) (by kernel_rfl) rfl rfl rfl (by kernel_rfl) rfl rfl (fun _ _ => by kernel_rfl) ?_
  simp only [Nat.reduceAdd, List.take_succ_cons, List.take_zero, List.drop_succ_cons, List.drop_zero]
  have hbw := cell_bw
  intro v5 h5
  have c0 := cell_of_block (h5.block E4.out)
  have c1 := cell_of_block (h5.block X4.out)
  have z0 := lt_of_block (h5.block E4.out)
  have z1 := lt_of_block (h5.block X4.out)
  repeat (go_big_quiet_step (first | (go_at_call 69; exact calls_bw (CH.out _))))
  refine BigFrame.wpQuiet_want (by rfl) fun K hK => ⟨.tuple #[.agg #[.bool false, .int .u64 0, .int .u64 0], .bool z], ?_, hK _ ?_⟩
  · rintro w' ⟨p, rfl⟩
    unfold Oper.quietAt
    go_simp
    first | exact ⟨trivial, calls_bw (AF.out _)⟩ | exact ⟨rfl, calls_bw (AF.out _)⟩ | exact calls_bw (AF.out _)
  clear hK K
  simp only [Act.put, List.setIfInBounds_toArray, List.set_cons_succ, List.set_cons_zero]
  repeat (go_big_quiet_step (fail))
  refine wpQuiet_nil ?_
  clear c0 c1 z0 z1
  intro b2 hb2 v6 h6
  refine wpQuiet_nil ?_
  refine ⟨?_, ?_⟩
  · intro w3 h3 hb3
    have f0 := cell_of_block hb3
    have f1 := free_of_block hb3
    go_simp
    exact ⟨((h3.setCell _ hb2).setCell _ hb2).setCell _ hb2, block_setCell _ (block_setCell _ (block_setCell _ hb3))⟩
  intro v7 h7
  simp only [List.setIfInBounds_toArray, List.set_cons_succ, List.set_cons_zero]
  repeat (go_big_quiet_step (fail))
  refine wpQuiet_nil ?_
  intro v8 hv8 hx8
  have X8 := Lib.hid hx8
  have Y8 := Lib.hid (hv8.block X4.out)
  have E8 := Lib.hid (hv8.block E4.out)
  have R8 := Lib.hid (hv8.block R4.out)
  have B8 := Lib.hid (BB.out.trans (Below.mono (H4.out.trans hv8) BB.out.size))
  clear h5 hv8 hx8 hbw h6 h7
  cases z
  · have c0 := cell_of_block E8.out
    have c2 := cell_of_block R8.out
    have f2 := free_of_block R8.out
    go_wp2
    go_region
    all_goals go_wp2
    all_goals refine bodyPost_ret (by simp [results, Tryd.results38, go_sem, c2]; try rfl) rfl ?_
    all_goals exact ⟨rfl, below_drewS <| (((((B8.out.setCell (by first | omega | (simp; done) | (simp; omega)) _).setCell (by first | omega | (simp; done) | (simp; omega)) _).setCell (by first | omega | (simp; done) | (simp; omega)) _).setCell (by first | omega | (simp; done) | (simp; omega)) _).setCell (by first | omega | (simp; done) | (simp; omega)) _).setCell (by first | omega | (simp; done) | (simp; omega)) _⟩
  · have c0 := cell_of_block X8.out
    have c1 := cell_of_block Y8.out
    have c2 := cell_of_block R8.out
    have f2 := free_of_block R8.out
    go_wp2
    refine bodyPost_ret (by simp [results, Tryd.results38, go_sem, c2]; try rfl) rfl ?_
    exact ⟨rfl, (((((B8.out.setCell (by first | omega | (simp; done) | (simp; omega)) _).setCell (by first | omega | (simp; done) | (simp; omega)) _).setCell (by first | omega | (simp; done) | (simp; omega)) _).setCell (by first | omega | (simp; done) | (simp; omega)) _).setCell (by first | omega | (simp; done) | (simp; omega)) _).setCell (by first | omega | (simp; done) | (simp; omega)) _⟩

set_option maxRecDepth 100000 in
set_option maxHeartbeats 6400000 in
theorem iStep_3 (s : ByteArray) (h a b : Int) (h0 : 0 ≤ h) (h1 : h ≤ 95) (hs : s.size ≤ maxLen) (ad : Option Addr) (cs : List Cd) (c : Nat) (w : World) (hc : CardsIn w ad cs) (hn : cs.length ≤ 1048576) (t : Bool) (u v : Int) (hst : stOf cs s = ⟨t, u, v⟩) :
    Calls Tryd.prog 38 #[.slice ad cs.length c, .agg #[.int .i8 3, .string s, .int .i16 h, .int .u64 a, .int .u64 b]] w fun e w' => e = .returned (stepR (t && !allIn (b0 h) (b1 h) u v) ⟨3, s, h, a, b⟩ ⟨t, u, v⟩ ⟨t, bits .or .u64 u (b0 h), bits .or .u64 v (b1 h)⟩) ∧ Below w.heap.size w w' := by
  have HB := Lib.hid (block_alloc2 w (.cells #[.int .i8 3, .string s, .int .i16 h, .int .u64 a, .int .u64 b] 37) (.cells #[.bool false, .int .u64 0, .int .u64 0, .bool false, .int .u64 0, .int .u64 0] 75))
  have BB := Lib.hid (below_new (below_new (Below.refl w.heap.size w) (.cells #[.int .i8 3, .string s, .int .i16 h, .int .u64 a, .int .u64 b] 37)) (.cells #[.bool false, .int .u64 0, .int .u64 0, .bool false, .int .u64 0, .int .u64 0] 75))
  have C := Lib.hid (cardsIn_below hc BB.out)
  have S := Lib.hid fun W h => iStates_any ad cs c W h hn
  have AF := Lib.hid fun W => iAfter_3 3 s h a b h0 h1 t u v W
  have CH := Lib.hid fun W => iChange_3 s h a b W
  have HS := Lib.hid hs
  have ST := Lib.hid hst
  skip
  clear hc hs hst
  generalize (t && !allIn (b0 h) (b1 h) u v) = z at *
  have e6 : stepR z ⟨3, s, h, a, b⟩ ⟨t, u, v⟩ ⟨t, bits .or .u64 u (b0 h), bits .or .u64 v (b1 h)⟩ = stepR z ⟨3, s, h, a, b⟩ ⟨t, u, v⟩ ⟨t, bits .or .u64 u (b0 h), bits .or .u64 v (b1 h)⟩ := rfl
  clear e6
  generalize (bits .or .u64 u (b0 h)) = m at *
  generalize (bits .or .u64 v (b1 h)) = q at *
  go_enter Tryd.func38, Tryd.ntmps38
  go_upto_region 3 with fail
  generalize hw0 : (w.alloc (.cells #[.int .i8 3, .string s, .int .i16 h, .int .u64 a, .int .u64 b] 37)).alloc (.cells #[.bool false, .int .u64 0, .int .u64 0, .bool false, .int .u64 0, .int .u64 0] 75) = w0 at *
  refine D2.wp_region_aft_at (X := Nat) (Y := Unit) 1 2 0 (fun x W => StsO W x cs) (fun _ _ => True) (fun _ _ _ h hb => h.below hb) (fun _ _ _ _ _ => trivial) (fun x => .map (some x)) (fun _ => stV ⟨t, u, v⟩) (.cells #[.bool false, .int .u64 0, .int .u64 0] 73) (fun _ => .cells #[.bool t, .int .u64 u, .int .u64 v] 73) (by kernel_rfl) rfl rfl rfl rfl (by kernel_rfl) rfl rfl rfl rfl (fun _ _ => by kernel_rfl) 0 () ?_
  simp only [Nat.reduceAdd, List.take_succ_cons, List.take_zero, List.drop_succ_cons, List.drop_zero]
  have hbw := cell_bw
  intro v1 hv1
  repeat (go_big_quiet_step (fail))
  refine wpQuiet_nil ?_
  refine ⟨?_, ?_⟩
  · intro v2 hv2
    go_simp
    simp only [Yld]
    refine ⟨trivial, (S.out v2 (cardsIn_below C.out hv2)).mono ?_⟩
    rintro e v3 ⟨b, rfl, hO, hb⟩
    exact ⟨_, rfl, b, rfl, hb, hO⟩
  intro y v2 hv2
  simp only [Act.put, List.setIfInBounds_toArray, List.set_cons_succ, List.set_cons_zero]
  have c0 := cell_of_block (hv2.block HB.out.1)
  have z0 := lt_of_block (hv2.block HB.out.1)
  repeat (go_big_quiet_step (fail))
  refine wpQuiet_nil ?_
  clear c0 z0
  refine ⟨?_, ?_⟩
  · intro v3 hv3 hx
    have lk := st_lookS hx HS.out
    rw [ST.out] at lk
    go_simp
    simp only [Yld]
    exact ⟨trivial, Ab.refl _⟩
  intro _
  simp only [List.setIfInBounds_toArray, List.set_cons_succ, List.set_cons_zero, stV]
  intro b1 hb1
  refine ⟨?_, ?_⟩
  · intro w3 h3 _ hb3
    have f0 := cell_of_block hb3
    have f1 := free_of_block hb3
    go_simp
    exact ⟨((h3.setCell _ hb1).setCell _ hb1).setCell _ hb1, block_setCell _ (block_setCell _ (block_setCell _ hb3))⟩
  simp only [List.setIfInBounds_toArray, List.set_cons_succ, List.set_cons_zero]
  intro v4 hv4 _ hx4
  have H4 := Lib.hid hv4
  have X4 := Lib.hid hx4
  have E4 := Lib.hid (hv4.block HB.out.1)
  have R4 := Lib.hid (hv4.block HB.out.2)
  clear hv1 hv2 hv4 hx4 hbw
  go_wp2
  refine wp_region_at 7 0 (.cells #[.bool false, .int .u64 0, .int .u64 0] 73) (.cells #[.bool t, .int .u64 m, .int .u64 q] 73) (by kernel_rfl) rfl rfl rfl (by kernel_rfl) rfl rfl (fun _ _ => by kernel_rfl) ?_
  simp only [Nat.reduceAdd, List.take_succ_cons, List.take_zero, List.drop_succ_cons, List.drop_zero]
  have hbw := cell_bw
  intro v5 h5
  have c0 := cell_of_block (h5.block E4.out)
  have c1 := cell_of_block (h5.block X4.out)
  have z0 := lt_of_block (h5.block E4.out)
  have z1 := lt_of_block (h5.block X4.out)
  repeat (go_big_quiet_step (first | (go_at_call 69; exact calls_bw (CH.out _))))
  refine BigFrame.wpQuiet_want (by rfl) fun K hK => ⟨.tuple #[.agg #[.bool t, .int .u64 m, .int .u64 q], .bool z], ?_, hK _ ?_⟩
  · rintro w' ⟨p, rfl⟩
    unfold Oper.quietAt
    go_simp
    first | exact ⟨trivial, calls_bw (AF.out _)⟩ | exact ⟨rfl, calls_bw (AF.out _)⟩ | exact calls_bw (AF.out _)
  clear hK K
  simp only [Act.put, List.setIfInBounds_toArray, List.set_cons_succ, List.set_cons_zero]
  repeat (go_big_quiet_step (fail))
  refine wpQuiet_nil ?_
  clear c0 c1 z0 z1
  intro b2 hb2 v6 h6
  refine wpQuiet_nil ?_
  refine ⟨?_, ?_⟩
  · intro w3 h3 hb3
    have f0 := cell_of_block hb3
    have f1 := free_of_block hb3
    go_simp
    exact ⟨((h3.setCell _ hb2).setCell _ hb2).setCell _ hb2, block_setCell _ (block_setCell _ (block_setCell _ hb3))⟩
  intro v7 h7
  simp only [List.setIfInBounds_toArray, List.set_cons_succ, List.set_cons_zero]
  repeat (go_big_quiet_step (fail))
  refine wpQuiet_nil ?_
  intro v8 hv8 hx8
  have X8 := Lib.hid hx8
  have Y8 := Lib.hid (hv8.block X4.out)
  have E8 := Lib.hid (hv8.block E4.out)
  have R8 := Lib.hid (hv8.block R4.out)
  have B8 := Lib.hid (BB.out.trans (Below.mono (H4.out.trans hv8) BB.out.size))
  clear h5 hv8 hx8 hbw h6 h7
  cases z
  · have c0 := cell_of_block E8.out
    have c2 := cell_of_block R8.out
    have f2 := free_of_block R8.out
    go_wp2
    go_region
    all_goals go_wp2
    all_goals refine bodyPost_ret (by simp [results, Tryd.results38, go_sem, c2]; try rfl) rfl ?_
    all_goals exact ⟨rfl, below_drewS <| (((((B8.out.setCell (by first | omega | (simp; done) | (simp; omega)) _).setCell (by first | omega | (simp; done) | (simp; omega)) _).setCell (by first | omega | (simp; done) | (simp; omega)) _).setCell (by first | omega | (simp; done) | (simp; omega)) _).setCell (by first | omega | (simp; done) | (simp; omega)) _).setCell (by first | omega | (simp; done) | (simp; omega)) _⟩
  · have c0 := cell_of_block X8.out
    have c1 := cell_of_block Y8.out
    have c2 := cell_of_block R8.out
    have f2 := free_of_block R8.out
    go_wp2
    refine bodyPost_ret (by simp [results, Tryd.results38, go_sem, c2]; try rfl) rfl ?_
    exact ⟨rfl, (((((B8.out.setCell (by first | omega | (simp; done) | (simp; omega)) _).setCell (by first | omega | (simp; done) | (simp; omega)) _).setCell (by first | omega | (simp; done) | (simp; omega)) _).setCell (by first | omega | (simp; done) | (simp; omega)) _).setCell (by first | omega | (simp; done) | (simp; omega)) _).setCell (by first | omega | (simp; done) | (simp; omega)) _⟩

set_option maxRecDepth 100000 in
set_option maxHeartbeats 6400000 in
theorem iStep_4 (s : ByteArray) (h a b : Int) (h0 : 0 ≤ h) (h1 : h ≤ 95) (hs : s.size ≤ maxLen) (ad : Option Addr) (cs : List Cd) (c : Nat) (w : World) (hc : CardsIn w ad cs) (hn : cs.length ≤ 1048576) (t : Bool) (u v : Int) (hst : stOf cs s = ⟨t, u, v⟩) :
    Calls Tryd.prog 38 #[.slice ad cs.length c, .agg #[.int .i8 4, .string s, .int .i16 h, .int .u64 a, .int .u64 b]] w fun e w' => e = .returned (stepR (t && allIn (b0 h) (b1 h) u v) ⟨4, s, h, a, b⟩ ⟨t, u, v⟩ ⟨t, bits .andNot .u64 u (b0 h), bits .andNot .u64 v (b1 h)⟩) ∧ Below w.heap.size w w' := by
  have HB := Lib.hid (block_alloc2 w (.cells #[.int .i8 4, .string s, .int .i16 h, .int .u64 a, .int .u64 b] 37) (.cells #[.bool false, .int .u64 0, .int .u64 0, .bool false, .int .u64 0, .int .u64 0] 75))
  have BB := Lib.hid (below_new (below_new (Below.refl w.heap.size w) (.cells #[.int .i8 4, .string s, .int .i16 h, .int .u64 a, .int .u64 b] 37)) (.cells #[.bool false, .int .u64 0, .int .u64 0, .bool false, .int .u64 0, .int .u64 0] 75))
  have C := Lib.hid (cardsIn_below hc BB.out)
  have S := Lib.hid fun W h => iStates_any ad cs c W h hn
  have AF := Lib.hid fun W => iAfter_4 4 s h a b h0 h1 t u v W
  have CH := Lib.hid fun W => iChange_4 s h a b W
  have HS := Lib.hid hs
  have ST := Lib.hid hst
  skip
  clear hc hs hst
  generalize (t && allIn (b0 h) (b1 h) u v) = z at *
  have e6 : stepR z ⟨4, s, h, a, b⟩ ⟨t, u, v⟩ ⟨t, bits .andNot .u64 u (b0 h), bits .andNot .u64 v (b1 h)⟩ = stepR z ⟨4, s, h, a, b⟩ ⟨t, u, v⟩ ⟨t, bits .andNot .u64 u (b0 h), bits .andNot .u64 v (b1 h)⟩ := rfl
  clear e6
  generalize (bits .andNot .u64 u (b0 h)) = m at *
  generalize (bits .andNot .u64 v (b1 h)) = q at *
  go_enter Tryd.func38, Tryd.ntmps38
  go_upto_region 3 with fail
  generalize hw0 : (w.alloc (.cells #[.int .i8 4, .string s, .int .i16 h, .int .u64 a, .int .u64 b] 37)).alloc (.cells #[.bool false, .int .u64 0, .int .u64 0, .bool false, .int .u64 0, .int .u64 0] 75) = w0 at *
  refine D2.wp_region_aft_at (X := Nat) (Y := Unit) 1 2 0 (fun x W => StsO W x cs) (fun _ _ => True) (fun _ _ _ h hb => h.below hb) (fun _ _ _ _ _ => trivial) (fun x => .map (some x)) (fun _ => stV ⟨t, u, v⟩) (.cells #[.bool false, .int .u64 0, .int .u64 0] 73) (fun _ => .cells #[.bool t, .int .u64 u, .int .u64 v] 73) (by kernel_rfl) rfl rfl rfl rfl (by kernel_rfl) rfl rfl rfl rfl (fun _ _ => by kernel_rfl) 0 () ?_
  simp only [Nat.reduceAdd, List.take_succ_cons, List.take_zero, List.drop_succ_cons, List.drop_zero]
  have hbw := cell_bw
  intro v1 hv1
  repeat (go_big_quiet_step (fail))
  refine wpQuiet_nil ?_
  refine ⟨?_, ?_⟩
  · intro v2 hv2
    go_simp
    simp only [Yld]
    refine ⟨trivial, (S.out v2 (cardsIn_below C.out hv2)).mono ?_⟩
    rintro e v3 ⟨b, rfl, hO, hb⟩
    exact ⟨_, rfl, b, rfl, hb, hO⟩
  intro y v2 hv2
  simp only [Act.put, List.setIfInBounds_toArray, List.set_cons_succ, List.set_cons_zero]
  have c0 := cell_of_block (hv2.block HB.out.1)
  have z0 := lt_of_block (hv2.block HB.out.1)
  repeat (go_big_quiet_step (fail))
  refine wpQuiet_nil ?_
  clear c0 z0
  refine ⟨?_, ?_⟩
  · intro v3 hv3 hx
    have lk := st_lookS hx HS.out
    rw [ST.out] at lk
    go_simp
    simp only [Yld]
    exact ⟨trivial, Ab.refl _⟩
  intro _
  simp only [List.setIfInBounds_toArray, List.set_cons_succ, List.set_cons_zero, stV]
  intro b1 hb1
  refine ⟨?_, ?_⟩
  · intro w3 h3 _ hb3
    have f0 := cell_of_block hb3
    have f1 := free_of_block hb3
    go_simp
    exact ⟨((h3.setCell _ hb1).setCell _ hb1).setCell _ hb1, block_setCell _ (block_setCell _ (block_setCell _ hb3))⟩
  simp only [List.setIfInBounds_toArray, List.set_cons_succ, List.set_cons_zero]
  intro v4 hv4 _ hx4
  have H4 := Lib.hid hv4
  have X4 := Lib.hid hx4
  have E4 := Lib.hid (hv4.block HB.out.1)
  have R4 := Lib.hid (hv4.block HB.out.2)
  clear hv1 hv2 hv4 hx4 hbw
  go_wp2
  refine wp_region_at 7 0 (.cells #[.bool false, .int .u64 0, .int .u64 0] 73) (.cells #[.bool t, .int .u64 m, .int .u64 q] 73) (by kernel_rfl) rfl rfl rfl (by kernel_rfl) rfl rfl (fun _ _ => by kernel_rfl) ?_
  simp only [Nat.reduceAdd, List.take_succ_cons, List.take_zero, List.drop_succ_cons, List.drop_zero]
  have hbw := cell_bw
  intro v5 h5
  have c0 := cell_of_block (h5.block E4.out)
  have c1 := cell_of_block (h5.block X4.out)
  have z0 := lt_of_block (h5.block E4.out)
  have z1 := lt_of_block (h5.block X4.out)
  repeat (go_big_quiet_step (first | (go_at_call 69; exact calls_bw (CH.out _))))
  refine BigFrame.wpQuiet_want (by rfl) fun K hK => ⟨.tuple #[.agg #[.bool t, .int .u64 m, .int .u64 q], .bool z], ?_, hK _ ?_⟩
  · rintro w' ⟨p, rfl⟩
    unfold Oper.quietAt
    go_simp
    first | exact ⟨trivial, calls_bw (AF.out _)⟩ | exact ⟨rfl, calls_bw (AF.out _)⟩ | exact calls_bw (AF.out _)
  clear hK K
  simp only [Act.put, List.setIfInBounds_toArray, List.set_cons_succ, List.set_cons_zero]
  repeat (go_big_quiet_step (fail))
  refine wpQuiet_nil ?_
  clear c0 c1 z0 z1
  intro b2 hb2 v6 h6
  refine wpQuiet_nil ?_
  refine ⟨?_, ?_⟩
  · intro w3 h3 hb3
    have f0 := cell_of_block hb3
    have f1 := free_of_block hb3
    go_simp
    exact ⟨((h3.setCell _ hb2).setCell _ hb2).setCell _ hb2, block_setCell _ (block_setCell _ (block_setCell _ hb3))⟩
  intro v7 h7
  simp only [List.setIfInBounds_toArray, List.set_cons_succ, List.set_cons_zero]
  repeat (go_big_quiet_step (fail))
  refine wpQuiet_nil ?_
  intro v8 hv8 hx8
  have X8 := Lib.hid hx8
  have Y8 := Lib.hid (hv8.block X4.out)
  have E8 := Lib.hid (hv8.block E4.out)
  have R8 := Lib.hid (hv8.block R4.out)
  have B8 := Lib.hid (BB.out.trans (Below.mono (H4.out.trans hv8) BB.out.size))
  clear h5 hv8 hx8 hbw h6 h7
  cases z
  · have c0 := cell_of_block E8.out
    have c2 := cell_of_block R8.out
    have f2 := free_of_block R8.out
    go_wp2
    go_region
    all_goals go_wp2
    all_goals refine bodyPost_ret (by simp [results, Tryd.results38, go_sem, c2]; try rfl) rfl ?_
    all_goals exact ⟨rfl, below_drewS <| (((((B8.out.setCell (by first | omega | (simp; done) | (simp; omega)) _).setCell (by first | omega | (simp; done) | (simp; omega)) _).setCell (by first | omega | (simp; done) | (simp; omega)) _).setCell (by first | omega | (simp; done) | (simp; omega)) _).setCell (by first | omega | (simp; done) | (simp; omega)) _).setCell (by first | omega | (simp; done) | (simp; omega)) _⟩
  · have c0 := cell_of_block X8.out
    have c1 := cell_of_block Y8.out
    have c2 := cell_of_block R8.out
    have f2 := free_of_block R8.out
    go_wp2
    refine bodyPost_ret (by simp [results, Tryd.results38, go_sem, c2]; try rfl) rfl ?_
    exact ⟨rfl, (((((B8.out.setCell (by first | omega | (simp; done) | (simp; omega)) _).setCell (by first | omega | (simp; done) | (simp; omega)) _).setCell (by first | omega | (simp; done) | (simp; omega)) _).setCell (by first | omega | (simp; done) | (simp; omega)) _).setCell (by first | omega | (simp; done) | (simp; omega)) _).setCell (by first | omega | (simp; done) | (simp; omega)) _⟩

end Go.Proofs.YtpgonfeobfefaaaDoor

namespace Go.Proofs.YtpgonfeobfefaaaDoor
open Go.ChangeShapes Go.WideShapes Go.ChangeAt Go.RowKit

/-- What refuses an edit of a deck. -/
def errV (cs : List Cd) (x : Ed) : Value := if x.k = 1 ∧ cs.length = 80 then ovV 81 else if apF x (stOf cs x.s) then .nilIface else misV x
def stepA (cs : List Cd) (x : Ed) : Value := if x.k = 1 ∧ cs.length = 80 then .tuple #[spV st0 st0, ovV 81] else stepR (apF x (stOf cs x.s)) x (stOf cs x.s) (apS x (stOf cs x.s))
theorem edOk_kindA {x : Ed} (h : edOk x = true) : x.k = 1 ∨ x.k = 2 ∨ x.k = 3 ∨ x.k = 4 := by
  by_cases e : x.k = 1 ∨ x.k = 2 ∨ x.k = 3 ∨ x.k = 4
  · exact e
  · rw [edOk_none e] at h; cases h
theorem iStep_any (x : Ed) (hx : x.fits) (hok : edOk x = true) (ad : Option Addr) (cs : List Cd) (c : Nat) (w : World) (hc : CardsIn w ad cs) (hn : cs.length ≤ 1048576) :
    Calls Tryd.prog 38 #[.slice ad cs.length c, edV x] w fun e w' => e = .returned (stepA cs x) ∧ Below w.heap.size w w' := by
  obtain ⟨k, s, h, a, b⟩ := x
  obtain ⟨_, hs, _⟩ := hx
  unfold stepA edV
  generalize hst : stOf cs s = n
  obtain ⟨t, u, v⟩ := n
  have hh : k = 3 ∨ k = 4 → 0 ≤ h ∧ h ≤ 95 := fun hk => by
    rw [edOk_hole (show (Ed.mk k s h a b).k = 3 ∨ (Ed.mk k s h a b).k = 4 from hk)] at hok
    simp only [Bool.and_eq_true, decide_eq_true_eq] at hok
    exact hok.2.1
  rcases edOk_kindA hok with e | e | e | e <;> simp only at e <;> subst e
  · by_cases h80 : cs.length = 80
    · rw [if_pos ⟨rfl, h80⟩]
      exact iStep_full s h a b ad cs.length c w h80
    · rw [if_neg (fun q => h80 q.2)]
      exact iStep_1 s h a b hs ad cs c w hc hn h80 t u v hst
  · rw [if_neg (fun q => absurd (show (2 : Int) = 1 from q.1) (by decide))]
    exact iStep_2 s h a b hs ad cs c w hc hn t u v hst
  · rw [if_neg (fun q => absurd (show (3 : Int) = 1 from q.1) (by decide))]
    exact iStep_3 s h a b (hh (.inl rfl)).1 (hh (.inl rfl)).2 hs ad cs c w hc hn t u v hst
  · rw [if_neg (fun q => absurd (show (4 : Int) = 1 from q.1) (by decide))]
    exact iStep_4 s h a b (hh (.inr rfl)).1 (hh (.inr rfl)).2 hs ad cs c w hc hn t u v hst

theorem iCard_any (t : Bool) (a b : Int) (s : ByteArray) (w : World) :
    Calls Tryd.prog 76 #[.agg #[.bool t, .int .u64 a, .int .u64 b], .string s] w fun e w' => e = .returned (.agg #[.string s, .int .u64 a, .int .u64 b]) ∧ Below w.heap.size w w' := by
  go_enter Tryd.func76, Tryd.ntmps76
  go_wp2
  go_returns
  exact ⟨rfl, (by repeat' (first | (with_reducible exact Below.refl _ _) | (with_reducible assumption) | (with_reducible refine below_drewN ?_ _) | (with_reducible refine Below.drew ?_) | (with_reducible refine below_new ?_ _) | (with_reducible refine below_next ?_ (by with_reducible assumption)) | (with_reducible refine Below.setCell ?_ ?_ _) | go_size))⟩

theorem block_old1 {w : World} {k : Nat} {o : Obj} (h : w.heap[k]? = some o) (p : Obj) : (w.alloc p).heap[k]? = some o := (Below.heap_alloc _ _ _ (lt_of_block h)).trans h
theorem own_pushA {B : Nat} {L : List Cd} {x : Cd} {v : Value} {w : World} (h : w.ownsRow B 68 3 v (L.length + 1) (flatC L ++ [.string x.s, .int .u64 x.a, .int .u64 x.b])) : OwnCards B (L ++ [x]) v w := by
  unfold OwnCards; rw [flatC_app, List.length_append]; exact h
theorem new3A (w : World) (x0 x1 x2 : Value) (t : TypeId) : ∀ j u, [x0, x1, x2][j]? = some u → (w.alloc (.cells #[x0, x1, x2] t)).cell? ((⟨w.heap.size, 0, none⟩ : Addr).add j) = some u := by
  intro j u h
  match j, h with
  | 0, h => simp at h; subst h; simp [Addr.add]
  | 1, h => simp at h; subst h; simp [Addr.add]
  | 2, h => simp at h; subst h; simp [Addr.add]
/-- The answer of afterEdit. -/
def AeR (v : Value) (xs : List Cd) (w : World) (e : Ending) (w' : World) : Prop := ∃ u, e = .returned (.tuple #[u, v]) ∧ OwnCards w.heap.size xs u w' ∧ Below w.heap.size w w'
theorem ownC_nil (w : World) (B : Nat) : OwnCards B [] (.slice none 0 0) w := World.ownsRow_nil w B _ 3

theorem iAE_bad (T : TypeId) (V : Value) (k : Int) (s : ByteArray) (h a b : Int) (ad : Option Addr) (n c : Nat) (w : World)
    (hS : ∀ W, Below w.heap.size w W → Calls Tryd.prog 38 #[.slice ad n c, .agg #[.int .i8 k, .string s, .int .i16 h, .int .u64 a, .int .u64 b]] W fun e w' => e = .returned (.tuple #[.agg #[.bool false, .int .u64 0, .int .u64 0, .bool false, .int .u64 0, .int .u64 0], .iface T V]) ∧ Below W.heap.size W w') :
    Calls Tryd.prog 42 #[.slice ad n c, .agg #[.int .i8 k, .string s, .int .i16 h, .int .u64 a, .int .u64 b]] w (AeR (.iface T V) [] w) := by
  have S := Lib.hid (hS _ (below_new (Below.refl w.heap.size w) (.cells #[.int .i8 k, .string s, .int .i16 h, .int .u64 a, .int .u64 b] 37)))
  clear hS
  go_enter Tryd.func42, Tryd.ntmps42
  go_wp2_with (go_at_call 38; refine S.out.mono ?_; rintro e w1 ⟨rfl, hB⟩; have b1 := Lib.hid ((below_new (Below.refl w.heap.size w) _).trans (Below.mono hB (by simp))); clear hB)
  go_returns
  exact ⟨_, rfl, ownC_nil _ _, below_new b1.out _⟩

set_option maxRecDepth 100000 in
set_option maxHeartbeats 6400000 in
theorem iAE_ok (k : Int) (s : ByteArray) (h a b : Int) (ad : Option Addr) (cs : List Cd) (c : Nat) (w : World) (hc : CardsIn w ad cs) (hn : cs.length ≤ 80) (t : Bool) (u v : Int) (m : St)
    (hS : ∀ W, Below w.heap.size w W → Calls Tryd.prog 38 #[.slice ad cs.length c, .agg #[.int .i8 k, .string s, .int .i16 h, .int .u64 a, .int .u64 b]] W fun e w' => e = .returned (.tuple #[.agg #[.bool t, .int .u64 u, .int .u64 v, .bool m.t, .int .u64 m.a, .int .u64 m.b], .nilIface]) ∧ Below W.heap.size W w') :
    Calls Tryd.prog 42 #[.slice ad cs.length c, .agg #[.int .i8 k, .string s, .int .i16 h, .int .u64 a, .int .u64 b]] w (AeR .nilIface (apL cs s m cs.length ++ adI t ⟨s, m.a, m.b⟩) w) := by
  obtain ⟨i0, hi, hz0, hz1, hz2⟩ := info_parts info_card
  have S := Lib.hid (hS _ (below_new (Below.refl w.heap.size w) (.cells #[.int .i8 k, .string s, .int .i16 h, .int .u64 a, .int .u64 b] 37)))
  have C := Lib.hid hc
  have CV := Lib.hid fun W => iCard_any m.t m.a m.b s W
  have E0 := Lib.hid (block_alloc w (.cells #[.int .i8 k, .string s, .int .i16 h, .int .u64 a, .int .u64 b] 37))
  have AL := Lib.hid fun j => apL_len cs s m j
  have NN := Lib.hid fun (j : Nat) (e : ((cdAt cs j).s == s) = false) => show apL cs s m (j + 1) = apL cs s m j ++ [cdAt cs j] by rw [apL, if_neg (by rw [e]; simp)]
  have NY := Lib.hid fun (j : Nat) (e : ((cdAt cs j).s == s) = true) (hm : m.t = true) => show apL cs s m (j + 1) = apL cs s m j ++ [⟨s, m.a, m.b⟩] by rw [apL, if_pos e, if_pos hm]
  have NZ := Lib.hid fun (j : Nat) (e : ((cdAt cs j).s == s) = true) (hm : m.t = false) => show apL cs s m (j + 1) = apL cs s m j by rw [apL, if_pos e, if_neg (by rw [hm]; simp)]
  clear hS hc
  obtain ⟨mt, ma, mb⟩ := m
  simp only at NY NZ CV S ⊢
  go_enter Tryd.func42, Tryd.ntmps42
  go_upto_region 4 with (go_at_call 38; refine S.out.mono ?_; rintro e w1 ⟨rfl, hB⟩; have b1 := Lib.hid (below_new ((below_new (Below.refl w.heap.size w) _).trans (Below.mono hB (by simp))) (.cells #[.bool t, .int .u64 u, .int .u64 v, .bool mt, .int .u64 ma, .int .u64 mb] 75)); have E1 := Lib.hid (block_old1 (Ab.block hB E0.out) (.cells #[.bool t, .int .u64 u, .int .u64 v, .bool mt, .int .u64 ma, .int .u64 mb] 75)); have S1 := Lib.hid (block_alloc w1 (.cells #[.bool t, .int .u64 u, .int .u64 v, .bool mt, .int .u64 ma, .int .u64 mb] 75)); clear hB)
  generalize hW0 : w1.alloc (.cells #[.bool t, .int .u64 u, .int .u64 v, .bool mt, .int .u64 ma, .int .u64 mb] 75) = w0 at *
  have lt1 := Lib.hid (lt_of_block S1.out)
  have lt0 := Lib.hid (lt_of_block E1.out)
  generalize hg1 : w1.heap.size = g1 at *
  clear hW0 hg1
  go_wp2_with (at_make; refine wpList_make_own _ rfl _ _ 33 rfl w0.heap.size 68 i0 (.agg #[.string ByteArray.empty, .int .u64 0, .int .u64 0]) 3 Tryd.underlying33 hi hz0 hz1 .i64 .i64 _ (cs.length + 1) rfl rfl rfl (by rw [hz2]; omega) (by unfold maxLen; omega) (Nat.le_refl _) ?_; intro w2 hown hgrow; have M := Lib.hid hown; have G := Lib.hid hgrow; clear hown hgrow)
  have BZ := Lib.hid (Below.grown (Below.refl w0.heap.size w0) G.out (Nat.le_refl _) (fun j hj => by cases hj))
  go_loopw [8, 26] (fun q i wr => ∃ j : Nat, j ≤ cs.length ∧ i = .int .i64 (j : Int) ∧ OwnCards w0.heap.size (apL cs s ⟨mt, ma, mb⟩ j) q wr ∧ Below w0.heap.size w0 wr) (fun _ i _ => cs.length - (intOf i).toNat)
  case atStart => exact ⟨0, Nat.zero_le _, rfl, M.out, BZ.out⟩
  case round =>
    obtain ⟨j, hj, rfl, hO, hB⟩ := hrel
    have OO := Lib.hid hO
    have BB := Lib.hid hB
    have BW := Lib.hid (b1.out.trans (Below.mono hB b1.out.size))
    have er := hB.block _ lt0.out |>.trans E1.out
    have sr := hB.block _ lt1.out |>.trans S1.out
    have x0 := cell_of_block er
    have x1 := cell_of_block sr
    have y0 := lt_of_block er
    have y1 := lt_of_block sr
    clear hO hB
    by_cases hjl : j < cs.length
    · have hd : decide ((j : Int) < (cs.length : Int)) = true := by simpa using hjl
      obtain ⟨⟨fs, u1, u2⟩, b1', o1, rfl, hb1, p0, p1, p2⟩ := C.out j hjl
      have d0 := (BW.out.cell (p := ⟨b1', o1 + j * 3, none⟩) hb1).trans p0
      have d1 := (BW.out.cell (p := ⟨b1', o1 + j * 3 + 1, none⟩) hb1).trans p1
      have d2 := (BW.out.cell (p := ⟨b1', o1 + j * 3 + 2, none⟩) hb1).trans p2
      have i1 : (0 : Int) ≤ (j : Int) := by omega
      have i2 : (j : Int) < (cs.length : Int) := by omega
      have al := AL.out j
      have nn := Lib.hid (NN.out j)
      have ny := Lib.hid (NY.out j)
      have nz := Lib.hid (NZ.out j)
      clear p0 p1 p2
      cases hx : ((cdAt cs j).s == s)
      · have ht : ((cdAt cs j).s.toList == s.toList) = false := by rw [← beq_toListBytes]; exact hx
        have NX := Lib.hid (nn.out hx)
        clear nn ny nz hx
        generalize apL cs s ⟨mt, ma, mb⟩ j = es at *
        generalize cdAt cs j = cc at *
        obtain ⟨sc, xa, xb⟩ := cc
        simp only at d0 d1 d2 NX ht
        go_wp2_with (at_builtin; refine wpList_append_lies _ rfl _ _ 33 rfl w0.heap.size 68 i0 (.agg #[.string ByteArray.empty, .int .u64 0, .int .u64 0]) 3 32 Tryd.underlying33 hi hz0 hz1 hz2 rfl (by decide) _ _ _ rfl (World.ownsRow.alloc (World.ownsRow.alloc OO.out _) _) ⟨wr.heap.size + 1, 0, none⟩ 1 1 [.string sc, .int .u64 xa, .int .u64 xb] rfl rfl (by have h := new3A (wr.alloc (.cells #[.string sc, .int .u64 xa, .int .u64 xb] 68)) (.string sc) (.int .u64 xa) (.int .u64 xb) 68; simpa using h) (fun x hx => by simp at hx; rcases hx with rfl | rfl | rfl <;> rfl) (by omega) (by unfold maxLen; omega) (by omega) (by simp; have := BB.out.size; omega) _ rfl ?_; intro gg cap2 w5 hown hgrow _ _; have P := Lib.hid (own_pushA (x := ⟨sc, xa, xb⟩) hown); have G5 := Lib.hid hgrow; clear hown hgrow)
        refine ⟨⟨j + 1, hjl, by rw [Int.natCast_succ], by rw [NX.out]; exact P.out, ?_⟩, by (simp [intOf]) <;> omega⟩
        exact Below.grown (below_new (below_new BB.out _) _) G5.out (by simp; have := BB.out.size; omega) (fun k hk => (World.ownsRow.lt OO.out k hk).1)
      · have ht : ((cdAt cs j).s.toList == s.toList) = true := by rw [← beq_toListBytes]; exact hx
        cases mt
        · have NX := Lib.hid (nz.out hx rfl)
          clear nn ny nz hx
          generalize cdAt cs j = cc at *
          obtain ⟨sc, xa, xb⟩ := cc
          simp only at d0 d1 d2 NX ht
          go_wp2
          exact ⟨⟨j + 1, hjl, by rw [Int.natCast_succ], by rw [NX.out]; exact World.ownsRow.alloc OO.out _, below_new BB.out _⟩, by (simp [intOf]) <;> omega⟩
        · have NX := Lib.hid (ny.out hx rfl)
          clear nn ny nz hx
          generalize apL cs s ⟨true, ma, mb⟩ j = es at *
          generalize cdAt cs j = cc at *
          obtain ⟨sc, xa, xb⟩ := cc
          simp only at d0 d1 d2 NX ht
          go_wp2_with (first | (go_at_call 76; refine (CV.out _).mono ?_; rintro e w5 ⟨rfl, hB⟩; have b5 := Lib.hid ((below_new (Below.refl wr.heap.size wr) (.cells #[.string sc, .int .u64 xa, .int .u64 xb] 68)).trans (Below.mono hB (by simp))); clear hB) | (at_builtin; refine wpList_append_lies _ rfl _ _ 33 rfl w0.heap.size 68 i0 (.agg #[.string ByteArray.empty, .int .u64 0, .int .u64 0]) 3 32 Tryd.underlying33 hi hz0 hz1 hz2 rfl (by decide) _ _ _ rfl (World.ownsRow.alloc (ownCards_kept OO.out b5.out) _) ⟨w5.heap.size, 0, none⟩ 1 1 [.string s, .int .u64 ma, .int .u64 mb] rfl rfl (new3A w5 _ _ _ _) (fun x hx => by simp at hx; rcases hx with rfl | rfl | rfl <;> rfl) (by omega) (by unfold maxLen; omega) (by omega) (by simp; have := BB.out.size; have := b5.out.size; omega) _ rfl ?_; intro gg cap2 w6 hown hgrow _ _; have P := Lib.hid (own_pushA (x := ⟨s, ma, mb⟩) hown); have G5 := Lib.hid hgrow; clear hown hgrow))
          refine ⟨⟨j + 1, hjl, by rw [Int.natCast_succ], by rw [NX.out]; exact P.out, ?_⟩, by (simp [intOf]) <;> omega⟩
          exact Below.grown (below_new (BB.out.trans (Below.mono b5.out BB.out.size)) _) G5.out (by simp; have := BB.out.size; have := b5.out.size; omega) (fun k hk => (World.ownsRow.lt OO.out k hk).1)
    · have e : j = cs.length := by omega
      subst e
      have hd : decide ((cs.length : Int) < (cs.length : Int)) = false := by simp
      cases t
      · have al := AL.out cs.length
        generalize apL cs s ⟨mt, ma, mb⟩ cs.length = es at *
        go_wp2_with (first | (go_at_call 76; refine (CV.out _).mono ?_; rintro e w5 ⟨rfl, hB⟩; have b5 := Lib.hid (hB); clear hB) | (at_builtin; refine wpList_append_lies _ rfl _ _ 33 rfl w0.heap.size 68 i0 (.agg #[.string ByteArray.empty, .int .u64 0, .int .u64 0]) 3 32 Tryd.underlying33 hi hz0 hz1 hz2 rfl (by decide) _ _ _ rfl (World.ownsRow.alloc (ownCards_kept OO.out b5.out) _) ⟨w5.heap.size, 0, none⟩ 1 1 [.string s, .int .u64 ma, .int .u64 mb] rfl rfl (new3A w5 _ _ _ _) (fun x hx => by simp at hx; rcases hx with rfl | rfl | rfl <;> rfl) (by omega) (by unfold maxLen; omega) (by omega) (by simp; have := BB.out.size; have := b5.out.size; omega) _ rfl ?_; intro gg cap2 w6 hown hgrow _ _; have P := Lib.hid (own_pushA (x := ⟨s, ma, mb⟩) hown); have G5 := Lib.hid hgrow; clear hown hgrow))
        go_returns
        exact ⟨_, rfl, ownCards_weaken P.out b1.out.size, b1.out.trans (Below.mono (Below.grown (below_new (BB.out.trans (Below.mono b5.out BB.out.size)) _) G5.out (by simp; have := BB.out.size; have := b5.out.size; omega) (fun k hk => (World.ownsRow.lt OO.out k hk).1)) b1.out.size)⟩
      · go_wp2
        go_returns
        exact ⟨_, rfl, by show OwnCards _ (_ ++ []) _ _; rw [List.append_nil]; exact ownCards_weaken OO.out b1.out.size, BW.out⟩
end Go.Proofs.YtpgonfeobfefaaaDoor

namespace Go.Proofs.YtpgonfeobfefaaaDoor
open Go.ChangeShapes Go.WideShapes Go.ChangeAt Go.RowKit

/-- The library's variable 'errorType'. -/
def EtIn (w : World) : Prop := w.cell? ⟨0, 0, none⟩ = some (.iface 178 (.agg #[.pointer (some ⟨4, 77, none⟩)]))
theorem EtIn.below {w W : World} (h : EtIn w) (hb : Below w.heap.size w W) : EtIn W := (hb.cell (p := ⟨0, 0, none⟩) (World.block_lt_of_cell? _ _ h)).trans h
theorem EtIn.three {w : World} (h : EtIn w) (o p q : Obj) : EtIn (((w.alloc o).alloc p).alloc q) := h.below (below_new (below_new (below_new (Below.refl _ _) _) _) _)

set_option maxRecDepth 100000 in
set_option maxHeartbeats 3200000 in
theorem iRefusal_nil (w : World) :
    Calls Tryd.prog 39 #[.nilIface] w fun e w' => e = .returned (.int .i64 0) ∧ Below w.heap.size w w' := by
  go_enter Tryd.func39, Tryd.ntmps39
  go_wp2_with (go_at_call 75; refine (as_nil _ _).mono ?_; rintro e w1 ⟨rfl, rfl⟩)
  go_returns
  exact ⟨rfl, (by repeat' (first | (with_reducible exact Below.refl _ _) | (with_reducible assumption) | (with_reducible refine below_drewN ?_ _) | (with_reducible refine Below.drew ?_) | (with_reducible refine below_new ?_ _) | (with_reducible refine below_next ?_ (by with_reducible assumption)) | (with_reducible refine Below.setCell ?_ ?_ _) | go_size))⟩
set_option maxRecDepth 100000 in
set_option maxHeartbeats 3200000 in
theorem iRefusal_mis (x : Ed) (w : World) (hE : EtIn w) :
    Calls Tryd.prog 39 #[misV x] w fun e w' => e = .returned (.int .i64 4) ∧ Below w.heap.size w w' := by
  obtain ⟨k, s, h, a, b⟩ := x
  have R := Lib.hid (A3.mk w (.cells #[.int .i8 0, .string ⟨#[]⟩, .int .i16 0, .int .u64 0, .int .u64 0] 123) (.cells #[.int .i64 0] 118) (.cells #[.slice none 0 0] 124))
  have H := Lib.hid (as_hitM k s h a b w.heap.size _ _ _ _ _ _ (hE.three _ _ _) R.out.1)
  clear hE
  unfold misV edV
  go_enter Tryd.func39, Tryd.ntmps39
  go_wp2_with (go_at_call 75; refine H.out.mono ?_; rintro e w1 ⟨rfl, hB⟩; have b1 := Lib.hid (R.out.2.2.2.trans hB); clear hB)
  go_returns
  exact ⟨rfl, b1.out⟩
set_option maxRecDepth 100000 in
set_option maxHeartbeats 3200000 in
theorem iRefusal_ov (n : Int) (w : World) (hE : EtIn w) :
    Calls Tryd.prog 39 #[ovV n] w fun e w' => e = .returned (.int .i64 3) ∧ Below w.heap.size w w' := by
  have R := Lib.hid (A3.mk w (.cells #[.int .i8 0, .string ⟨#[]⟩, .int .i16 0, .int .u64 0, .int .u64 0] 123) (.cells #[.int .i64 0] 118) (.cells #[.slice none 0 0] 124))
  have E3 := Lib.hid (hE.three (.cells #[.int .i8 0, .string ⟨#[]⟩, .int .i16 0, .int .u64 0, .int .u64 0] 123) (.cells #[.int .i64 0] 118) (.cells #[.slice none 0 0] 124))
  have M := Lib.hid (as_miss n w.heap.size _ _ E3.out R.out.1)
  clear hE
  generalize hW : (((w.alloc (.cells #[.int .i8 0, .string ⟨#[]⟩, .int .i16 0, .int .u64 0, .int .u64 0] 123)).alloc (.cells #[.int .i64 0] 118)).alloc (.cells #[.slice none 0 0] 124)) = W0 at R E3 M
  unfold ovV
  go_enter Tryd.func39, Tryd.ntmps39
  go_upto_region 4 with fail
  clear hW
  have tok1 : True := trivial
  go_wp2_with (first
    | (go_at_call 75; have _t := tok1; clear _t tok1; refine M.out.mono ?_; rintro e w1 ⟨rfl, hB⟩; have r1 := Lib.hid (R.out.ab hB); have e1 := Lib.hid (E3.out.below hB); clear hB)
    | (go_at_call 75; refine (as_hitO n (w.heap.size + 1) _ _ e1.out r1.out.2.1).mono ?_; rintro e w2 ⟨rfl, hB⟩; have b2 := Lib.hid (r1.out.2.2.2.trans (Below.mono hB (Nat.le_succ _))); clear hB))
  go_returns
  exact ⟨rfl, b2.out⟩
end Go.Proofs.YtpgonfeobfefaaaDoor

namespace Go.Proofs.YtpgonfeobfefaaaDoor
open Go.ChangeShapes Go.WideShapes Go.ChangeAt Go.RowKit

/-- The deck behind an edit, none if it is refused. -/
def apA (cs : List Cd) (x : Ed) : List Cd := if apC cs x = 0 then apD cs x else []
theorem apA_no {cs : List Cd} {x : Ed} {k : Int} (h : apC cs x = k) (hk : k ≠ 0) : apA cs x = [] := by unfold apA; rw [h, if_neg hk]
theorem apA_yes {cs : List Cd} {x : Ed} (h : apC cs x = 0) : apA cs x = apD cs x := by unfold apA; rw [if_pos h]
theorem hole_in {k : Int} {s : ByteArray} {h a b : Int} (hok : edOk ⟨k, s, h, a, b⟩ = true) (hk : k = 3 ∨ k = 4) : 0 ≤ h ∧ h ≤ 95 := by
  rw [edOk_hole (show (Ed.mk k s h a b).k = 3 ∨ (Ed.mk k s h a b).k = 4 from hk)] at hok
  simp only [Bool.and_eq_true, decide_eq_true_eq] at hok
  exact hok.2.1
theorem set_parts {cs : List Cd} {i : Nat} (hi : i < cs.length) (x : Cd) : cs.take i ++ ([x] ++ cs.drop (i + 1)) = cs.set i x := by
  rw [List.set_eq_take_append_cons_drop, if_pos hi]; rfl

theorem sAp_any (x : Ed) (hok : edOk x = true) (g0 : Nat) (cs : List Cd) (c : Nat) (g o : Nat) (w : World) (hc : CardsIn w (some ⟨g0, 0, none⟩) cs) (hE : EdP w g o x.k x.s x.h x.a x.b) (hd : deckOk cs = true) (cl : cs.length ≤ c) :
    Calls Tryd.prog 32 #[.slice (some ⟨g0, 0, none⟩) cs.length c, .pointer (some ⟨g, o, none⟩)] w (SaR (apA cs x) (apC cs x) w) := by
  have hn := deckOk_80 hd
  have hh := fun k s h a b (e : x = ⟨k, s, h, a, b⟩) (hk : k = 3 ∨ k = 4) => hole_in (e ▸ hok) hk
  have hkind := edOk_kindA hok
  rcases st_find hd x.s with ⟨hf, e0, h0⟩ | ⟨i, hi, hf, he, e0, hu⟩
  · obtain ⟨k, s, h, a, b⟩ := x
    simp only at hf e0 hE hkind h0
    rcases hkind with rfl | rfl | rfl | rfl
    · by_cases h80 : cs.length = 80
      · have hq := apC_full (cs := cs) (x := ⟨1, s, h, a, b⟩) ⟨rfl, h80⟩
        rw [apA_no hq (by decide), hq]
        exact sAp_full 1 rfl s h a b _ cs.length c g o w hE h80
      · have hq := apC_fit (cs := cs) (x := ⟨1, s, h, a, b⟩) (fun q => h80 q.2) (by rw [e0]; rfl)
        rw [apA_yes hq, hq, apD_add rfl h0]
        exact sAp_add s h a b g0 cs c g o w hc hE hn h80 hf
    · have hq := apC_mis (cs := cs) (x := ⟨2, s, h, a, b⟩) (fun q => absurd (show (2 : Int) = 1 from q.1) (by decide)) (by rw [e0]; rfl)
      rw [apA_no hq (by decide), hq]
      exact sAp_lost2 s h a b g0 cs c g o w hc hE hn hf
    · have hq := apC_mis (cs := cs) (x := ⟨3, s, h, a, b⟩) (fun q => absurd (show (3 : Int) = 1 from q.1) (by decide)) (by rw [e0]; rfl)
      rw [apA_no hq (by decide), hq]
      exact sAp_lost3 s h a b g0 cs c g o w hc hE hn hf
    · have hq := apC_mis (cs := cs) (x := ⟨4, s, h, a, b⟩) (fun q => absurd (show (4 : Int) = 1 from q.1) (by decide)) (by rw [e0]; rfl)
      rw [apA_no hq (by decide), hq]
      exact sAp_lost4 s h a b g0 cs c g o w hc hE hn hf
  · have ht : (stOf cs x.s).t = true := by rw [e0]
    have hD := apD_at hi he hu ht
    obtain ⟨k, s, h, a, b⟩ := x
    simp only at hf e0 hE hkind he hu ht
    rcases hkind with rfl | rfl | rfl | rfl
    · by_cases h80 : cs.length = 80
      · have hq := apC_full (cs := cs) (x := ⟨1, s, h, a, b⟩) ⟨rfl, h80⟩
        rw [apA_no hq (by decide), hq]
        exact sAp_full 1 rfl s h a b _ cs.length c g o w hE h80
      · have hq := apC_mis (cs := cs) (x := ⟨1, s, h, a, b⟩) (fun q => h80 q.2) (by rw [e0]; rfl)
        rw [apA_no hq (by decide), hq]
        exact sAp_found s h a b g0 cs c g o w hc hE hn h80 i hf
    · have nf : ¬ ((2 : Int) = 1 ∧ cs.length = 80) := fun q => absurd q.1 (by decide)
      cases hz : ((cdAt cs i).a == a && (cdAt cs i).b == b)
      · have hq := apC_mis (cs := cs) (x := ⟨2, s, h, a, b⟩) nf (by rw [e0]; exact hz)
        rw [apA_no hq (by decide), hq]
        exact sAp_mis2 s h a b g0 cs c g o w hc hE hn i hi hf hz
      · have hq := apC_fit (cs := cs) (x := ⟨2, s, h, a, b⟩) nf (by rw [e0]; exact hz)
        rw [apA_yes hq, hq, hD]
        rw [Bool.and_eq_true] at hz
        exact sAp_drop s h a b g0 cs c g o w hc hE hn i hi hf (eq_of_beq hz.1) (eq_of_beq hz.2) cl
    · have nf : ¬ ((3 : Int) = 1 ∧ cs.length = 80) := fun q => absurd q.1 (by decide)
      have hb := hh 3 s h a b rfl (.inl rfl)
      cases hz : allIn (b0 h) (b1 h) (cdAt cs i).a (cdAt cs i).b
      · have hq := apC_fit (cs := cs) (x := ⟨3, s, h, a, b⟩) nf (by rw [e0]; show (true && !allIn (b0 h) (b1 h) (cdAt cs i).a (cdAt cs i).b) = true; rw [hz]; rfl)
        rw [apA_yes hq, hq, hD, e0, ← he]
        have := sAp_hole3 s h a b g0 cs c g o w hc hE hn i hi hf hb.1 hb.2 hz
        rw [← set_parts hi] at this
        exact this
      · have hq := apC_mis (cs := cs) (x := ⟨3, s, h, a, b⟩) nf (by rw [e0]; show (true && !allIn (b0 h) (b1 h) (cdAt cs i).a (cdAt cs i).b) = false; rw [hz]; rfl)
        rw [apA_no hq (by decide), hq]
        exact sAp_mis3 s h a b g0 cs c g o w hc hE hn i hi hf hb.1 hb.2 hz
    · have nf : ¬ ((4 : Int) = 1 ∧ cs.length = 80) := fun q => absurd q.1 (by decide)
      have hb := hh 4 s h a b rfl (.inr rfl)
      cases hz : allIn (b0 h) (b1 h) (cdAt cs i).a (cdAt cs i).b
      · have hq := apC_mis (cs := cs) (x := ⟨4, s, h, a, b⟩) nf (by rw [e0]; show (true && allIn (b0 h) (b1 h) (cdAt cs i).a (cdAt cs i).b) = false; rw [hz]; rfl)
        rw [apA_no hq (by decide), hq]
        exact sAp_mis4 s h a b g0 cs c g o w hc hE hn i hi hf hb.1 hb.2 hz
      · have hq := apC_fit (cs := cs) (x := ⟨4, s, h, a, b⟩) nf (by rw [e0]; show (true && allIn (b0 h) (b1 h) (cdAt cs i).a (cdAt cs i).b) = true; rw [hz]; rfl)
        rw [apA_yes hq, hq, hD, e0, ← he]
        have := sAp_hole4 s h a b g0 cs c g o w hc hE hn i hi hf hb.1 hb.2 hz
        rw [← set_parts hi] at this
        exact this

theorem iAE_any (x : Ed) (hx : x.fits) (hok : edOk x = true) (ad : Option Addr) (cs : List Cd) (c : Nat) (w : World) (hc : CardsIn w ad cs) (hn : cs.length ≤ 80) :
    Calls Tryd.prog 42 #[.slice ad cs.length c, edV x] w (AeR (errV cs x) (apA cs x) w) := by
  have S := fun W (hB : Below w.heap.size w W) => iStep_any x hx hok ad cs c W (cardsIn_below hc hB) (by omega)
  obtain ⟨k, s, h, a, b⟩ := x
  unfold stepA at S
  unfold errV
  by_cases hF : (Ed.mk k s h a b).k = 1 ∧ cs.length = 80
  · have hq := apC_full hF
    rw [apA_no hq (by decide), if_pos hF]
    simp only [if_pos hF] at S
    exact iAE_bad _ _ k s h a b ad cs.length c w S
  · simp only [if_neg hF] at S ⊢
    cases hz : apF (Ed.mk k s h a b) (stOf cs s)
    · have hq := apC_mis hF hz
      rw [apA_no hq (by decide)]
      simp only [hz] at S ⊢
      exact iAE_bad _ _ k s h a b ad cs.length c w S
    · have hq := apC_fit hF hz
      rw [apA_yes hq]
      simp only [hz] at S ⊢
      unfold apD
      simp only
      generalize apS ⟨k, s, h, a, b⟩ (stOf cs s) = m at *
      generalize stOf cs s = n at *
      obtain ⟨t, u, v⟩ := n
      exact iAE_ok k s h a b ad cs c w hc hn t u v m S

theorem iRef_any (cs : List Cd) (x : Ed) (w : World) (hE : EtIn w) :
    Calls Tryd.prog 39 #[errV cs x] w fun e w' => e = .returned (.int .i64 (apC cs x)) ∧ Below w.heap.size w w' := by
  unfold errV apC
  split
  · exact iRefusal_ov 81 w hE
  · split
    · exact iRefusal_nil w
    · exact iRefusal_mis x w hE
end Go.Proofs.YtpgonfeobfefaaaDoor

namespace Go.Proofs.YtpgonfeobfefaaaDoor
open Go.ChangeShapes Go.WideShapes Go.ChangeAt Go.RowKit

def hxS (h v : Int) : Int := IntKind.u64.wrap (bits .xor .u64 h v * 1099511628211)
def hx0 : Int := 14695981039346656037
def hxN (s : ByteArray) : Nat → Int
  | 0 => hx0
  | k + 1 => hxS (hxN s k) (ckB s k)
/-- The hash of a card. -/
def hxC (s : ByteArray) (a b : Int) : Int := hxS (hxS (hxN s s.size) a) b
theorem hx_next {s : ByteArray} {k : Nat} (h : k < s.size) : hxN s (k + 1) = IntKind.u64.wrap (bits .xor .u64 (hxN s k) (s[k].toNat : Int) * 1099511628211) := by rw [hxN, ckB_lt h]; rfl
theorem hx_done (s : ByteArray) (a b : Int) : IntKind.u64.wrap (bits .xor .u64 (IntKind.u64.wrap (bits .xor .u64 (hxN s s.size) a * 1099511628211)) b * 1099511628211) = hxC s a b := rfl
theorem ret_u64 {x y : Int} (h : x = y) : Ending.returned (.int .u64 x) = .returned (.int .u64 y) := by rw [h]

set_option maxHeartbeats 1600000 in
theorem iHash_any (s : ByteArray) (a b : Int) (hs : s.size ≤ maxLen) (w : World) :
    Calls Tryd.prog 77 #[.agg #[.string s, .int .u64 a, .int .u64 b]] w fun e w' => e = .returned (.int .u64 (hxC s a b)) ∧ Below w.heap.size w w' := by
  unfold maxLen at hs
  have D := Lib.hid (hx_done s a b)
  go_enter Tryd.func77, Tryd.ntmps77
  go_wp2
  go_loop [3, 10] (fun h i => ∃ k : Nat, k ≤ s.size ∧ i = .int .i64 (k : Int) ∧ h = .int .u64 (hxN s k)) (fun _ i => s.size - (intOf i).toNat)
  case atStart => exact ⟨0, Nat.zero_le _, rfl, rfl⟩
  case round =>
    obtain ⟨k, hk, rfl, rfl⟩ := hrel
    by_cases hlt : k < s.size
    · have H := Lib.hid (hx_next hlt)
      have hw : IntKind.u64.wrap (s[k].toNat : Int) = (s[k].toNat : Int) := IntWalk.u64_in _ (by have := s[k].toNat_lt; omega)
      generalize hxN s k = c at *
      go_wp2
      go_round
      case rel => exact ⟨k + 1, by omega, by go_num, by rw [H.out]; try rfl⟩
      case measure => simp [intOf]; omega
    · obtain rfl : k = s.size := by omega
      have x0 : ∀ w : World, (Instr.index 35 (.agg #[.int .u64 a, .int .u64 b]) (.int .i64 0)).run Tryd.prog w = .ok (.int .u64 a) w := fun _ => by kernel_rfl
      have x1 : ∀ w : World, (Instr.index 35 (.agg #[.int .u64 a, .int .u64 b]) (.int .i64 1)).run Tryd.prog w = .ok (.int .u64 b) w := fun _ => by kernel_rfl
      generalize hxN s s.size = c at *
      go_wp2
      refine wp_loop_rounds 3 ?_
      rw [rounds_succ]; go_wp2
      rw [rounds_succ]; go_wp2
      rw [rounds_succ]; go_wp2
      go_returns
      exact ⟨ret_u64 D.out, (by repeat' (first | (with_reducible exact Below.refl _ _) | (with_reducible assumption) | (with_reducible refine below_drewN ?_ _) | (with_reducible refine Below.drew ?_) | (with_reducible refine below_new ?_ _) | (with_reducible refine below_next ?_ (by with_reducible assumption)) | (with_reducible refine Below.setCell ?_ ?_ _) | go_size))⟩

set_option maxHeartbeats 1600000 in
theorem sHash_any (s : ByteArray) (a b : Int) (hs : s.size ≤ maxLen) (g o : Nat) (w : World) (h0 : w.cell? ⟨g, o, none⟩ = some (.string s)) (h1 : w.cell? ⟨g, o + 1, none⟩ = some (.int .u64 a)) (h2 : w.cell? ⟨g, o + 2, none⟩ = some (.int .u64 b)) :
    Calls Tryd.prog 67 #[.pointer (some ⟨g, o, none⟩)] w fun e w' => e = .returned (.int .u64 (hxC s a b)) ∧ Below w.heap.size w w' := by
  unfold maxLen at hs
  have D := Lib.hid (hx_done s a b)
  go_enter Tryd.func67, Tryd.ntmps67
  go_wp2
  go_loop [3, 4] (fun h i => ∃ k : Nat, k ≤ s.size ∧ i = .int .i64 (k : Int) ∧ h = .int .u64 (hxN s k)) (fun _ i => s.size - (intOf i).toNat)
  case atStart => exact ⟨0, Nat.zero_le _, rfl, rfl⟩
  case round =>
    obtain ⟨k, hk, rfl, rfl⟩ := hrel
    by_cases hlt : k < s.size
    · have H := Lib.hid (hx_next hlt)
      have hw : IntKind.u64.wrap (s[k].toNat : Int) = (s[k].toNat : Int) := IntWalk.u64_in _ (by have := s[k].toNat_lt; omega)
      generalize hxN s k = c at *
      go_wp2
      go_round
      case rel => exact ⟨k + 1, by omega, by go_num, by rw [H.out]; try rfl⟩
      case measure => simp [intOf]; omega
    · obtain rfl : k = s.size := by omega
      generalize hxN s s.size = c at *
      go_wp2
      refine wp_loop_rounds 3 ?_
      rw [rounds_succ]; go_wp2
      rw [rounds_succ]; go_wp2
      rw [rounds_succ]; go_wp2
      go_returns
      exact ⟨ret_u64 D.out, (by repeat' (first | (with_reducible exact Below.refl _ _) | (with_reducible assumption) | (with_reducible refine below_drewN ?_ _) | (with_reducible refine Below.drew ?_) | (with_reducible refine below_new ?_ _) | (with_reducible refine below_next ?_ (by with_reducible assumption)) | (with_reducible refine Below.setCell ?_ ?_ _) | go_size))⟩
/-- A hash and OK, or nothing and ErrInvalid. -/
def hcV (ok : Bool) (h : Int) : Value := .tuple #[.int .u64 (if ok then h else 0), .int .i64 (if ok then 0 else 1)]
theorem hcV_no (h : Int) : .tuple #[.int .u64 0, .int .i64 1] = hcV false h := rfl
theorem hcV_yes (h : Int) : .tuple #[.int .u64 h, .int .i64 0] = hcV true h := rfl
theorem hcV_parts (ok : Bool) (h : Int) : ∃ x c : Int, hcV ok h = .tuple #[.int .u64 x, .int .i64 c] := ⟨_, _, rfl⟩

end Go.Proofs.YtpgonfeobfefaaaDoor

namespace Go.Proofs.YtpgonfeobfefaaaDoor
open Go.ChangeShapes Go.WideShapes Go.ChangeAt Go.RowKit

theorem u64_orA {x y : Int} (hx : U64 x) (hy : U64 y) : U64 (bits .or .u64 x y) := by
  obtain ⟨a, rfl⟩ := Int.eq_ofNat_of_zero_le hx.1
  obtain ⟨b, rfl⟩ := Int.eq_ofNat_of_zero_le hy.1
  have ha : a < 18446744073709551616 := by have := hx.2; omega
  have hb : b < 18446744073709551616 := by have := hy.2; omega
  rw [Go.u64_or_nat a b ha hb]
  have : a ||| b < 2 ^ 64 := Nat.or_lt_two_pow (by omega) (by omega)
  exact ⟨by omega, by omega⟩
theorem u64_lessA {a c : Int} (ha : U64 a) (hc : U64 c) : U64 (bits .andNot .u64 a c) := by
  obtain ⟨x, rfl⟩ := Int.eq_ofNat_of_zero_le ha.1
  obtain ⟨y, rfl⟩ := Int.eq_ofNat_of_zero_le hc.1
  have hx : x < 18446744073709551616 := by have := ha.2; omega
  have hy : y < 18446744073709551616 := by have := hc.2; omega
  rw [Go.u64_andNot_nat x y hx hy]
  have : x &&& (18446744073709551615 - y) ≤ x := Nat.and_le_left
  exact ⟨by omega, by omega⟩
theorem st_u64 {cs : List Cd} (hf : ∀ i, i < cs.length → (cdAt cs i).fits) (s : ByteArray) : ∀ n, n ≤ cs.length → U64 (stTo cs s n).a ∧ U64 (stTo cs s n).b
  | 0, _ => (show U64 0 ∧ U64 0 from ⟨⟨by decide, by decide⟩, ⟨by decide, by decide⟩⟩)
  | n + 1, hn => by
    unfold stTo
    split
    · exact (hf n (by omega)).2
    · exact st_u64 hf s n (by omega)
theorem apS_u64 {x : Ed} {n : St} (hx : x.fits) (hh : x.k = 3 ∨ x.k = 4 → 0 ≤ x.h ∧ x.h ≤ 95) (hk : x.k = 1 ∨ x.k = 2 ∨ x.k = 3 ∨ x.k = 4) (hn : U64 n.a ∧ U64 n.b) : U64 (apS x n).a ∧ U64 (apS x n).b := by
  unfold apS
  split
  · exact ⟨hx.2.2.2.1, hx.2.2.2.2⟩
  · split
    · exact (show U64 0 ∧ U64 0 from ⟨⟨by decide, by decide⟩, ⟨by decide, by decide⟩⟩)
    · rename_i h1 h2
      have hb := hh (by omega)
      have p := u64_b0 x.h hb.1
      have q := u64_b1 x.h hb.2
      split
      · exact ⟨u64_orA hn.1 p, u64_orA hn.2 q⟩
      · exact ⟨u64_lessA hn.1 p, u64_lessA hn.2 q⟩
theorem apL_all {cs : List Cd} {s : ByteArray} {m : St} {p : Cd → Prop} (hc : ∀ i, i < cs.length → p (cdAt cs i)) (hx : p ⟨s, m.a, m.b⟩) : ∀ n, n ≤ cs.length → ∀ y ∈ apL cs s m n, p y
  | 0, _ => fun y hy => by cases hy
  | n + 1, hn => fun y hy => by
    have ih := apL_all hc hx n (by omega)
    unfold apL at hy
    split at hy
    · split at hy
      · rcases List.mem_append.1 hy with e | e
        · exact ih y e
        · simp at e; subst e; exact hx
      · exact ih y hy
    · rcases List.mem_append.1 hy with e | e
      · exact ih y e
      · simp at e; subst e; exact hc n (by omega)
theorem apD_all {cs : List Cd} {x : Ed} {p : Cd → Prop} (hc : ∀ i, i < cs.length → p (cdAt cs i)) (hx : p ⟨x.s, (apS x (stOf cs x.s)).a, (apS x (stOf cs x.s)).b⟩) : ∀ y ∈ apD cs x, p y := fun y hy => by
  unfold apD adI at hy
  rcases List.mem_append.1 hy with e | e
  · exact apL_all hc hx _ (Nat.le_refl _) y e
  · split at e
    · cases e
    · simp at e; subst e; exact hx
theorem cdAt_mem {cs : List Cd} {i : Nat} (hi : i < cs.length) : cdAt cs i ∈ cs := by
  unfold cdAt
  rw [List.getD, List.getElem?_eq_getElem hi]
  exact List.getElem_mem _
theorem apA_fits {cs : List Cd} {x : Ed} (hc : ∀ i, i < cs.length → (cdAt cs i).fits) (hx : x.fits) (hok : edOk x = true) : ∀ i, i < (apA cs x).length → (cdAt (apA cs x) i).fits := fun i hi => by
  have hm := cdAt_mem hi
  have hb : x.k = 3 ∨ x.k = 4 → 0 ≤ x.h ∧ x.h ≤ 95 := fun hk => by obtain ⟨k, s, h, a, b⟩ := x; exact hole_in hok hk
  have hu := apS_u64 hx hb (edOk_kindA hok) (st_u64 hc x.s cs.length (Nat.le_refl _))
  generalize cdAt (apA cs x) i = y at *
  unfold apA at hm
  split at hm
  · exact apD_all (p := Cd.fits) hc ⟨hx.2.1, hu⟩ y hm
  · cases hm
theorem apA_len {cs : List Cd} {x : Ed} (hd : deckOk cs = true) : (apA cs x).length ≤ 80 := by
  unfold apA
  split
  · rename_i h; exact apD_len hd h
  · exact Nat.zero_le _

/-- What the card with a name adds to a check. -/
def ownH (cs : List Cd) (s : ByteArray) : Int := if findC cs s < 0 then 0 else hxC (cdAt cs (findC cs s).toNat).s (cdAt cs (findC cs s).toNat).a (cdAt cs (findC cs s).toNat).b
theorem find_parts {cs : List Cd} {s : ByteArray} : ∀ f j, findFrom cs s f j = -1 ∨ ∃ k, j ≤ k ∧ k < j + f ∧ findFrom cs s f j = (k : Int)
  | 0, j => .inl rfl
  | f + 1, j => by
    unfold findFrom
    split
    · exact .inr ⟨j, Nat.le_refl _, by omega, rfl⟩
    · rcases find_parts f (j + 1) with h | ⟨k, h1, h2, h3⟩
      · exact .inl h
      · exact .inr ⟨k, by omega, by omega, h3⟩
theorem ownH_none {cs : List Cd} {s : ByteArray} (h : ∀ k, k < cs.length → (cdAt cs k).s ≠ s) : ownH cs s = 0 := by
  unfold ownH
  rw [show findC cs s = -1 from findFrom_none _ _ (fun k _ h2 => h k (by omega)), if_pos (by decide)]
theorem ownH_at {cs : List Cd} {s : ByteArray} {i : Nat} (hi : i < cs.length) (he : (cdAt cs i).s = s) (hu : ∀ j, j < i → (cdAt cs j).s ≠ s) : ownH cs s = hxC s (cdAt cs i).a (cdAt cs i).b := by
  unfold ownH
  rw [show findC cs s = (i : Int) from findFrom_hit he _ _ (Nat.zero_le _) (by omega) (fun j _ h2 => hu j h2), if_neg (by omega), Int.toNat_natCast, he]
theorem cdAt_app1 {xs ys : List Cd} {i : Nat} (h : i < xs.length) : cdAt (xs ++ ys) i = cdAt xs i := by unfold cdAt; rw [List.getD, List.getD, List.getElem?_append_left h]
theorem cdAt_app2 {xs ys : List Cd} {i : Nat} (h : xs.length ≤ i) : cdAt (xs ++ ys) i = cdAt ys (i - xs.length) := by unfold cdAt; rw [List.getD, List.getD, List.getElem?_append_right h]
theorem cdAt_take {xs : List Cd} {i k : Nat} (h : i < k) : cdAt (xs.take k) i = cdAt xs i := by unfold cdAt; rw [List.getD, List.getD, List.getElem?_take, if_pos h]
theorem cdAt_drop {xs : List Cd} {i k : Nat} : cdAt (xs.drop k) i = cdAt xs (k + i) := by unfold cdAt; rw [List.getD, List.getD, List.getElem?_drop]
/-- A deck's own card, by its state. -/
theorem ownH_st {cs : List Cd} (hd : deckOk cs = true) (s : ByteArray) : ownH cs s = (if (stOf cs s).t then hxC s (stOf cs s).a (stOf cs s).b else 0) := by
  rcases st_find hd s with ⟨_, e0, h0⟩ | ⟨i, hi, _, he, e0, hu⟩
  · rw [ownH_none h0, e0]; exact (if_neg (by simp [st0])).symm
  · rw [ownH_at hi he (fun j hj => hu j (by omega) (by omega)), e0]; exact (if_pos rfl).symm
/-- The card's state behind an edit. -/
theorem ownH_ap {cs : List Cd} {x : Ed} (hd : deckOk cs = true) (_hok : edOk x = true) (hq : apC cs x = 0) : ownH (apD cs x) x.s = (if (apS x (stOf cs x.s)).t then hxC x.s (apS x (stOf cs x.s)).a (apS x (stOf cs x.s)).b else 0) := by
  have hF : ¬ (x.k = 1 ∧ cs.length = 80) := fun q => by rw [apC_full q] at hq; cases hq
  have hz : apF x (stOf cs x.s) = true := by
    cases e : apF x (stOf cs x.s)
    · rw [apC_mis hF e] at hq; cases hq
    · rfl
  rcases st_find hd x.s with ⟨_, e0, h0⟩ | ⟨i, hi, _, he, e0, hu⟩
  · have k1 : x.k = 1 := by
      unfold apF at hz
      rw [e0] at hz
      split at hz
      · assumption
      · split at hz
        · simp [st0] at hz
        · split at hz <;> simp [st0] at hz
    rw [apD_add k1 h0]
    have hS : apS x (stOf cs x.s) = ⟨true, x.a, x.b⟩ := by unfold apS; rw [if_pos k1]
    rw [hS]
    have h1 : cdAt (cs ++ [⟨x.s, x.a, x.b⟩]) cs.length = ⟨x.s, x.a, x.b⟩ := by rw [cdAt_app2 (Nat.le_refl _), Nat.sub_self]; rfl
    rw [ownH_at (i := cs.length) (by simp) (by rw [h1]) (fun j hj => by rw [cdAt_app1 hj]; exact h0 j hj), h1]
    exact (if_pos rfl).symm
  · rw [apD_at hi he hu (by rw [e0])]
    have ht : (cs.take i).length = i := by rw [List.length_take]; omega
    cases hm : (apS x (stOf cs x.s)).t
    · refine ownH_none fun k hk => ?_
      simp only [Bool.false_eq_true, if_false, List.nil_append] at hk ⊢
      rw [List.length_append, ht, List.length_drop] at hk
      by_cases hki : k < i
      · rw [cdAt_app1 (by omega), cdAt_take hki]; exact hu k (by omega) (by omega)
      · rw [cdAt_app2 (by omega), ht, cdAt_drop]; exact hu _ (by omega) (by omega)
    · simp only [if_true]
      have h1 : cdAt (cs.take i ++ ([⟨x.s, (apS x (stOf cs x.s)).a, (apS x (stOf cs x.s)).b⟩] ++ cs.drop (i + 1))) i = ⟨x.s, (apS x (stOf cs x.s)).a, (apS x (stOf cs x.s)).b⟩ := by
        rw [cdAt_app2 (by omega), ht, Nat.sub_self]; rfl
      rw [ownH_at (i := i) (by simp; omega) (by rw [h1]) (fun j hj => by rw [cdAt_app1 (by omega), cdAt_take hj]; exact hu j (by omega) (by omega)), h1]
end Go.Proofs.YtpgonfeobfefaaaDoor

namespace Go.Proofs.YtpgonfeobfefaaaDoor
open Go.ChangeShapes Go.WideShapes Go.ChangeAt Go.RowKit

theorem hasN_no {cs : List Cd} {s : ByteArray} : ∀ n, (∀ k, k < n → (cdAt cs k).s ≠ s) → hasN (namesTo cs n) s = false
  | 0, _ => rfl
  | n + 1, h => by
    rw [hasN_next, hasN_no n (fun k hk => h k (by omega)), bytes_no (h n (Nat.lt_succ_self n))]; rfl
theorem okTo_cards {cs : List Cd} : ∀ {n : Nat}, okTo cs n = true → ∀ i, i < n → cardOk (cdAt cs i).s (cdAt cs i).b = true
  | 0, _, i, h => absurd h (Nat.not_lt_zero _)
  | n + 1, h, i, hi => by
    unfold okTo at h
    rw [Bool.and_eq_true, Bool.and_eq_true] at h
    by_cases e : i = n
    · subst e; exact h.2.1
    · exact okTo_cards h.1 i (by omega)
theorem okTo_of {cs : List Cd} : ∀ n, (∀ i, i < n → cardOk (cdAt cs i).s (cdAt cs i).b = true) → (∀ i j, i < j → j < n → (cdAt cs i).s ≠ (cdAt cs j).s) → okTo cs n = true
  | 0, _, _ => rfl
  | n + 1, h1, h2 => by
    unfold okTo
    rw [okTo_of n (fun i hi => h1 i (by omega)) (fun i j hij hj => h2 i j hij (by omega)), h1 n (Nat.lt_succ_self n), hasN_no n (fun k hk => h2 k n hk (Nat.lt_succ_self n))]
    rfl
theorem cdAt_get {cs : List Cd} {i : Nat} (hi : i < cs.length) : cdAt cs i = cs[i] := by unfold cdAt; rw [List.getD, List.getElem?_eq_getElem hi]; rfl
/-- Validity by lists. -/
def okP (cs : List Cd) : Prop := (∀ c ∈ cs, cardOk c.s c.b = true) ∧ (cs.map Cd.s).Pairwise (· ≠ ·)
theorem okP_of {cs : List Cd} (h : okTo cs cs.length = true) : okP cs := by
  refine ⟨fun c hc => ?_, ?_⟩
  · obtain ⟨i, hi, rfl⟩ := List.getElem_of_mem hc
    rw [← cdAt_get hi]
    exact okTo_cards h i hi
  · rw [List.pairwise_map, List.pairwise_iff_getElem]
    intro i j hi hj hij
    rw [← cdAt_get hi, ← cdAt_get hj]
    exact okTo_uniq h hij hj
theorem okP_to {cs : List Cd} (h : okP cs) : okTo cs cs.length = true := by
  refine okTo_of _ (fun i hi => h.1 _ (cdAt_mem hi)) fun i j hij hj => ?_
  have h2 := h.2
  rw [List.pairwise_map, List.pairwise_iff_getElem] at h2
  rw [cdAt_get (by omega), cdAt_get hj]
  exact h2 i j (by omega) hj hij
theorem maskOk_or {a b : Int} (ha : U64 a) (hb : U64 b) (h1 : maskOk a = true) (h2 : maskOk b = true) : maskOk (bits .or .u64 a b) = true := by
  obtain ⟨x, rfl⟩ := Int.eq_ofNat_of_zero_le ha.1
  obtain ⟨y, rfl⟩ := Int.eq_ofNat_of_zero_le hb.1
  have hx : x < 18446744073709551616 := by have := ha.2; omega
  have hy : y < 18446744073709551616 := by have := hb.2; omega
  rw [Go.u64_or_nat x y hx hy]
  unfold maskOk at *
  rw [beq_iff_eq] at *
  have : x ||| y < 2 ^ 32 := Nat.or_lt_two_pow (by omega) (by omega)
  omega
theorem maskOk_less {a b : Int} (ha : U64 a) (hb : U64 b) (h1 : maskOk a = true) : maskOk (bits .andNot .u64 a b) = true := by
  obtain ⟨x, rfl⟩ := Int.eq_ofNat_of_zero_le ha.1
  obtain ⟨y, rfl⟩ := Int.eq_ofNat_of_zero_le hb.1
  have hx : x < 18446744073709551616 := by have := ha.2; omega
  have hy : y < 18446744073709551616 := by have := hb.2; omega
  rw [Go.u64_andNot_nat x y hx hy]
  unfold maskOk at *
  rw [beq_iff_eq] at *
  have : x &&& (18446744073709551615 - y) ≤ x := Nat.and_le_left
  omega
theorem maskOk_b1 {h : Int} (h1 : h ≤ 95) : maskOk (b1 h) = true := by
  unfold maskOk b1
  rw [beq_iff_eq]
  split
  · rfl
  · obtain ⟨m, hm⟩ : ∃ m, (h - 64).toNat = m := ⟨_, rfl⟩
    rw [hm]
    have e : m < 32 := by omega
    have q : 2 ^ m < 2 ^ 32 := Nat.pow_lt_pow_right (by decide) e
    rw [show (2 : Int) ^ m = ((2 ^ m : Nat) : Int) by simp]
    generalize 2 ^ m = y at *
    omega
theorem edOk_name {x : Ed} (hok : edOk x = true) : nameOk x.s = true := by
  rcases edOk_kindA hok with e | e | e | e
  · rw [edOk_card (.inl e), Bool.and_eq_true] at hok; exact hok.1
  · rw [edOk_card (.inr e), Bool.and_eq_true] at hok; exact hok.1
  · rw [edOk_hole (.inl e), Bool.and_eq_true] at hok; exact hok.1
  · rw [edOk_hole (.inr e), Bool.and_eq_true] at hok; exact hok.1
theorem deckOk_ap {cs : List Cd} {x : Ed} (hf : ∀ i, i < cs.length → (cdAt cs i).fits) (hd : deckOk cs = true) (hx : x.fits) (hok : edOk x = true) (hq : apC cs x = 0) : deckOk (apD cs x) = true := by
  have hl := apD_len hd hq
  have hP := okP_of (deckOk_to hd)
  have hF : ¬ (x.k = 1 ∧ cs.length = 80) := fun q => by rw [apC_full q] at hq; cases hq
  have hz : apF x (stOf cs x.s) = true := by
    cases e : apF x (stOf cs x.s)
    · rw [apC_mis hF e] at hq; cases hq
    · rfl
  have key : okP (apD cs x) := by
    rcases st_find hd x.s with ⟨_, e0, h0⟩ | ⟨i, hi, _, he, e0, hu⟩
    · have k1 : x.k = 1 := by
        unfold apF at hz
        rw [e0] at hz
        split at hz
        · assumption
        · split at hz
          · simp [st0] at hz
          · split at hz <;> simp [st0] at hz
      rw [apD_add k1 h0]
      refine ⟨fun c hc => ?_, ?_⟩
      · rcases List.mem_append.1 hc with h | h
        · exact hP.1 c h
        · simp at h; subst h
          rw [edOk_card (.inl k1)] at hok
          simp only [Bool.and_eq_true] at hok
          unfold cardOk; rw [hok.1, hok.2.2]; rfl
      · rw [List.map_append, List.pairwise_append]
        refine ⟨hP.2, by simp, fun a ha b hb => ?_⟩
        simp at hb
        subst hb
        obtain ⟨c, hc, rfl⟩ := List.mem_map.1 ha
        obtain ⟨j, hj, rfl⟩ := List.getElem_of_mem hc
        rw [← cdAt_get hj]
        exact h0 j hj
    · rw [apD_at hi he hu (by rw [e0])]
      cases hm : (apS x (stOf cs x.s)).t
      · simp only [Bool.false_eq_true, if_false, List.nil_append]
        have hs : (cs.take i ++ cs.drop (i + 1)).Sublist cs := by
          have := List.take_append_drop i cs
          conv => rhs; rw [← this]
          exact List.Sublist.append (List.Sublist.refl _) (by rw [show i + 1 = i + 1 from rfl, ← List.drop_drop]; exact List.drop_sublist _ _)
        exact ⟨fun c hc => hP.1 c (hs.subset hc), hP.2.sublist (hs.map _)⟩
      · simp only [if_true]
        rw [set_parts hi]
        have hn : ⟨x.s, (apS x (stOf cs x.s)).a, (apS x (stOf cs x.s)).b⟩ = (⟨(cs[i]).s, (apS x (stOf cs x.s)).a, (apS x (stOf cs x.s)).b⟩ : Cd) := by rw [← cdAt_get hi, he]
        have hb : maskOk (apS x (stOf cs x.s)).b = true := by
          have hcd := hP.1 _ (cdAt_mem hi)
          unfold cardOk at hcd
          rw [Bool.and_eq_true] at hcd
          have hu2 := (hf i hi).2.2
          rw [e0] at hm ⊢
          unfold apS at hm ⊢
          split
          · rename_i k1
            rw [edOk_card (.inl k1)] at hok
            simp only [Bool.and_eq_true] at hok
            exact hok.2.2
          · rename_i k1
            rw [if_neg k1] at hm
            split
            · rename_i k2; rw [if_pos k2] at hm; cases hm
            · rename_i k2
              have hh : 0 ≤ x.h ∧ x.h ≤ 95 := by
                obtain ⟨k, s, h, a, b⟩ := x
                exact hole_in hok (by have := edOk_kindA hok; simp only at this k1 k2 ⊢; omega)
              split
              · exact maskOk_or hu2 (u64_b1 _ hh.2) hcd.2 (maskOk_b1 hh.2)
              · exact maskOk_less hu2 (u64_b1 _ hh.2) hcd.2
        refine ⟨fun c hc => ?_, ?_⟩
        · rcases List.mem_or_eq_of_mem_set hc with h | h
          · exact hP.1 c h
          · subst h; unfold cardOk; rw [edOk_name hok, hb]; rfl
        · rw [hn, List.map_set]
          have : (cs.map Cd.s).set i (cs[i]).s = cs.map Cd.s := by
            apply List.ext_getElem
            · simp
            · intro j h1 h2
              rw [List.getElem_set]
              split
              · rename_i e; subst e; simp
              · rfl
          simp only [this]
          exact hP.2
  unfold deckOk
  rw [okP_to key, decide_eq_true hl]
  rfl
end Go.Proofs.YtpgonfeobfefaaaDoor

namespace Go.Proofs.YtpgonfeobfefaaaDoor
open Go.ChangeShapes Go.WideShapes Go.ChangeAt Go.RowKit

theorem iValid_any (x : Ed) (hx : x.fits) (w : World) :
    Calls Tryd.prog 37 #[.agg #[.int .i8 x.k, .string x.s, .int .i16 x.h, .int .u64 x.a, .int .u64 x.b]] w fun e w' => e = .returned (.bool (edOk x)) ∧ Below w.heap.size w w' := by
  obtain ⟨k, s, h, a, b⟩ := x
  obtain ⟨_, hs, hh, _⟩ := hx
  simp only at hs hh ⊢
  by_cases h1 : k = 1
  · subst h1; rw [edOk_card (.inl rfl)]; exact iValidE_1 s h a b hs w
  by_cases h2 : k = 2
  · subst h2; rw [edOk_card (.inr rfl)]; exact iValidE_2 s h a b hs w
  by_cases h3 : k = 3
  · subst h3; rw [edOk_hole (.inl rfl)]; exact iValidE_3 s h a b hs hh w
  by_cases h4 : k = 4
  · subst h4; rw [edOk_hole (.inr rfl)]; exact iValidE_4 s h a b hs hh w
  · rw [edOk_none (by show ¬ (k = 1 ∨ k = 2 ∨ k = 3 ∨ k = 4); omega)]; exact iValidE_0 k s h a b w (by omega)

def inE (n lo hi : Int) : Bool := decide (lo ≤ n) && decide (n ≤ hi)
set_option maxHeartbeats 400000 in
theorem sInE (n lo hi : Int) (w : World) : Calls Tryd.prog 82 #[.int .i64 n, .int .i64 lo, .int .i64 hi] w fun e w' => e = .returned (.bool (inE n lo hi)) ∧ w = w' := by
  unfold inE
  by_cases h : lo ≤ n
  · rw [decide_eq_true h, Bool.true_and]
    by_cases h2 : n ≤ hi
    · have d := decide_eq_true h2
      rw [d]
      go_enter Tryd.func82, Tryd.ntmps82
      go_wp2
      go_returns
      exact ⟨rfl, rfl⟩
    · have d := decide_eq_false h2
      rw [d]
      go_enter Tryd.func82, Tryd.ntmps82
      go_wp2
      go_returns
      exact ⟨rfl, rfl⟩
  · have d := decide_eq_false h
    rw [d, Bool.false_and]
    go_enter Tryd.func82, Tryd.ntmps82
    go_wp2
    go_returns
    exact ⟨rfl, rfl⟩

theorem sHoleE {n : Int} {x : Bool} (h : hoE n = x) : Hid (∀ w : World, Calls Tryd.prog 61 #[.int .i64 n] w fun e w' => e = .returned (.bool x) ∧ w = w') := Lib.hid fun w => by
  have hx : inE n 0 95 = x := by rw [← h]; unfold inE hoE; by_cases h0 : 0 ≤ n <;> by_cases h1 : n ≤ 95 <;> simp [h0, h1]
  have I := Lib.hid fun W => sInE n 0 95 W
  rw [hx] at I
  clear h hx
  go_enter Tryd.func61, Tryd.ntmps61
  go_wp2_with (go_at_call 82; refine (I.out _).mono ?_; rintro e w1 ⟨rfl, rfl⟩)
  go_returns
  exact ⟨rfl, rfl⟩

set_option maxRecDepth 100000 in
set_option maxHeartbeats 1600000 in
theorem sEdit_1 (s : ByteArray) (h a b : Int) (hs : s.size ≤ maxLen) (g o : Nat) (w : World) (h0 : w.cell? ⟨g, o, none⟩ = some (.int .i8 1)) (h1 : w.cell? ⟨g, o + 1, none⟩ = some (.string s)) (h2 : w.cell? ⟨g, o + 2, none⟩ = some (.int .i16 h)) (h3 : w.cell? ⟨g, o + 3, none⟩ = some (.int .u64 a)) (h4 : w.cell? ⟨g, o + 4, none⟩ = some (.int .u64 b)) :
    Calls Tryd.prog 31 #[.pointer (some ⟨g, o, none⟩)] w fun e w' => e = .returned (.bool (nameOk s && (h == 0 && maskOk b))) ∧ Below w.heap.size w w' := by
  have N := Lib.hid fun W => sName_any s hs W
  clear hs
  cases hn : nameOk s
  · rw [hn] at N
    rw [Bool.false_and]
    clear hn
    go_enter Tryd.func31, Tryd.ntmps31
    go_wp2_with (go_at_call 59; refine (N.out _).mono ?_; rintro e w2 ⟨rfl, rfl⟩)
    go_returns
    exact ⟨rfl, Below.refl _ _⟩
  · rw [hn] at N
    rw [Bool.true_and]
    clear hn
    cases e0 : (h == 0)
    · rw [Bool.false_and]
      go_enter Tryd.func31, Tryd.ntmps31
      go_wp2_with (go_at_call 59; refine (N.out _).mono ?_; rintro e w2 ⟨rfl, rfl⟩)
      go_returns
      exact ⟨rfl, Below.refl _ _⟩
    · rw [Bool.true_and]
      unfold maskOk
      cases hm : (b / 4294967296 == 0)
      all_goals
        have M := sMask_is a hm
        clear hm
        go_enter Tryd.func31, Tryd.ntmps31
        go_wp2_with (first
          | (go_at_call 59; refine (N.out _).mono ?_; rintro e w2 ⟨rfl, rfl⟩)
          | (go_at_call 60; refine (M.out _).mono ?_; rintro e w4 ⟨rfl, hB⟩))
        go_returns
        exact ⟨rfl, hB⟩

set_option maxRecDepth 100000 in
set_option maxHeartbeats 1600000 in
theorem sEdit_2 (s : ByteArray) (h a b : Int) (hs : s.size ≤ maxLen) (g o : Nat) (w : World) (h0 : w.cell? ⟨g, o, none⟩ = some (.int .i8 2)) (h1 : w.cell? ⟨g, o + 1, none⟩ = some (.string s)) (h2 : w.cell? ⟨g, o + 2, none⟩ = some (.int .i16 h)) (h3 : w.cell? ⟨g, o + 3, none⟩ = some (.int .u64 a)) (h4 : w.cell? ⟨g, o + 4, none⟩ = some (.int .u64 b)) :
    Calls Tryd.prog 31 #[.pointer (some ⟨g, o, none⟩)] w fun e w' => e = .returned (.bool (nameOk s && (h == 0 && maskOk b))) ∧ Below w.heap.size w w' := by
  have N := Lib.hid fun W => sName_any s hs W
  clear hs
  cases hn : nameOk s
  · rw [hn] at N
    rw [Bool.false_and]
    clear hn
    go_enter Tryd.func31, Tryd.ntmps31
    go_wp2_with (go_at_call 59; refine (N.out _).mono ?_; rintro e w2 ⟨rfl, rfl⟩)
    go_returns
    exact ⟨rfl, Below.refl _ _⟩
  · rw [hn] at N
    rw [Bool.true_and]
    clear hn
    cases e0 : (h == 0)
    · rw [Bool.false_and]
      go_enter Tryd.func31, Tryd.ntmps31
      go_wp2_with (go_at_call 59; refine (N.out _).mono ?_; rintro e w2 ⟨rfl, rfl⟩)
      go_returns
      exact ⟨rfl, Below.refl _ _⟩
    · rw [Bool.true_and]
      unfold maskOk
      cases hm : (b / 4294967296 == 0)
      all_goals
        have M := sMask_is a hm
        clear hm
        go_enter Tryd.func31, Tryd.ntmps31
        go_wp2_with (first
          | (go_at_call 59; refine (N.out _).mono ?_; rintro e w2 ⟨rfl, rfl⟩)
          | (go_at_call 60; refine (M.out _).mono ?_; rintro e w4 ⟨rfl, hB⟩))
        go_returns
        exact ⟨rfl, hB⟩

set_option maxRecDepth 100000 in
set_option maxHeartbeats 1600000 in
theorem sEdit_3 (s : ByteArray) (h a b : Int) (hs : s.size ≤ maxLen) (hh : I16 h) (g o : Nat) (w : World) (h0 : w.cell? ⟨g, o, none⟩ = some (.int .i8 3)) (h1 : w.cell? ⟨g, o + 1, none⟩ = some (.string s)) (h2 : w.cell? ⟨g, o + 2, none⟩ = some (.int .i16 h)) (h3 : w.cell? ⟨g, o + 3, none⟩ = some (.int .u64 a)) (h4 : w.cell? ⟨g, o + 4, none⟩ = some (.int .u64 b)) :
    Calls Tryd.prog 31 #[.pointer (some ⟨g, o, none⟩)] w fun e w' => e = .returned (.bool (nameOk s && (hoE h && (a == 0 && b == 0)))) ∧ Below w.heap.size w w' := by
  have N := Lib.hid fun W => sName_any s hs W
  have eqm := eq_mask
  have x1 : IntKind.i64.wrap h = h := IntWalk.i64_in _ (by have := hh.1; have := hh.2; omega)
  clear hs hh
  cases hn : nameOk s
  · rw [hn] at N
    rw [Bool.false_and]
    clear hn
    go_enter Tryd.func31, Tryd.ntmps31
    go_wp2_with (go_at_call 59; refine (N.out _).mono ?_; rintro e w2 ⟨rfl, rfl⟩)
    go_returns
    exact ⟨rfl, Below.refl _ _⟩
  · rw [hn] at N
    rw [Bool.true_and]
    clear hn
    cases e0 : hoE h
    · have L := sHoleE e0
      rw [Bool.false_and]
      clear e0
      go_enter Tryd.func31, Tryd.ntmps31
      go_wp2_with (first
        | (go_at_call 59; refine (N.out _).mono ?_; rintro e w2 ⟨rfl, rfl⟩)
        | (go_at_call 61; refine (L.out _).mono ?_; rintro e w4 ⟨rfl, rfl⟩))
      go_returns
      exact ⟨rfl, Below.refl _ _⟩
    · have L := sHoleE e0
      rw [Bool.true_and]
      clear e0
      cases hm : (a == 0 && b == 0)
      all_goals
        go_enter Tryd.func31, Tryd.ntmps31
        go_wp2_with (first
          | (go_at_call 59; refine (N.out _).mono ?_; rintro e w2 ⟨rfl, rfl⟩)
          | (go_at_call 61; refine (L.out _).mono ?_; rintro e w4 ⟨rfl, rfl⟩))
        go_returns
        exact ⟨rfl, Below.refl _ _⟩

set_option maxRecDepth 100000 in
set_option maxHeartbeats 1600000 in
theorem sEdit_4 (s : ByteArray) (h a b : Int) (hs : s.size ≤ maxLen) (hh : I16 h) (g o : Nat) (w : World) (h0 : w.cell? ⟨g, o, none⟩ = some (.int .i8 4)) (h1 : w.cell? ⟨g, o + 1, none⟩ = some (.string s)) (h2 : w.cell? ⟨g, o + 2, none⟩ = some (.int .i16 h)) (h3 : w.cell? ⟨g, o + 3, none⟩ = some (.int .u64 a)) (h4 : w.cell? ⟨g, o + 4, none⟩ = some (.int .u64 b)) :
    Calls Tryd.prog 31 #[.pointer (some ⟨g, o, none⟩)] w fun e w' => e = .returned (.bool (nameOk s && (hoE h && (a == 0 && b == 0)))) ∧ Below w.heap.size w w' := by
  have N := Lib.hid fun W => sName_any s hs W
  have eqm := eq_mask
  have x1 : IntKind.i64.wrap h = h := IntWalk.i64_in _ (by have := hh.1; have := hh.2; omega)
  clear hs hh
  cases hn : nameOk s
  · rw [hn] at N
    rw [Bool.false_and]
    clear hn
    go_enter Tryd.func31, Tryd.ntmps31
    go_wp2_with (go_at_call 59; refine (N.out _).mono ?_; rintro e w2 ⟨rfl, rfl⟩)
    go_returns
    exact ⟨rfl, Below.refl _ _⟩
  · rw [hn] at N
    rw [Bool.true_and]
    clear hn
    cases e0 : hoE h
    · have L := sHoleE e0
      rw [Bool.false_and]
      clear e0
      go_enter Tryd.func31, Tryd.ntmps31
      go_wp2_with (first
        | (go_at_call 59; refine (N.out _).mono ?_; rintro e w2 ⟨rfl, rfl⟩)
        | (go_at_call 61; refine (L.out _).mono ?_; rintro e w4 ⟨rfl, rfl⟩))
      go_returns
      exact ⟨rfl, Below.refl _ _⟩
    · have L := sHoleE e0
      rw [Bool.true_and]
      clear e0
      cases hm : (a == 0 && b == 0)
      all_goals
        go_enter Tryd.func31, Tryd.ntmps31
        go_wp2_with (first
          | (go_at_call 59; refine (N.out _).mono ?_; rintro e w2 ⟨rfl, rfl⟩)
          | (go_at_call 61; refine (L.out _).mono ?_; rintro e w4 ⟨rfl, rfl⟩))
        go_returns
        exact ⟨rfl, Below.refl _ _⟩

set_option maxRecDepth 100000 in
set_option maxHeartbeats 1600000 in
theorem sEdit_0 (k : Int) (s : ByteArray) (h a b : Int) (hk : ¬ (k = 1 ∨ k = 2 ∨ k = 3 ∨ k = 4)) (g o : Nat) (w : World) (h0 : w.cell? ⟨g, o, none⟩ = some (.int .i8 k)) (_h1 : w.cell? ⟨g, o + 1, none⟩ = some (.string s)) (_h2 : w.cell? ⟨g, o + 2, none⟩ = some (.int .i16 h)) (_h3 : w.cell? ⟨g, o + 3, none⟩ = some (.int .u64 a)) (_h4 : w.cell? ⟨g, o + 4, none⟩ = some (.int .u64 b)) :
    Calls Tryd.prog 31 #[.pointer (some ⟨g, o, none⟩)] w fun e w' => e = .returned (.bool false) ∧ Below w.heap.size w w' := by
  have d1 : (k == 1) = false := beq_eq_false_iff_ne.2 (by omega)
  have d2 : (k == 2) = false := beq_eq_false_iff_ne.2 (by omega)
  have d3 : (k == 3) = false := beq_eq_false_iff_ne.2 (by omega)
  have d4 : (k == 4) = false := beq_eq_false_iff_ne.2 (by omega)
  clear hk _h1 _h2 _h3 _h4
  go_enter Tryd.func31, Tryd.ntmps31
  go_wp2
  go_returns
  exact ⟨rfl, Below.refl _ _⟩

theorem sEdit_any (x : Ed) (hx : x.fits) (g o : Nat) (w : World) (h0 : w.cell? ⟨g, o, none⟩ = some (.int .i8 x.k)) (h1 : w.cell? ⟨g, o + 1, none⟩ = some (.string x.s)) (h2 : w.cell? ⟨g, o + 2, none⟩ = some (.int .i16 x.h)) (h3 : w.cell? ⟨g, o + 3, none⟩ = some (.int .u64 x.a)) (h4 : w.cell? ⟨g, o + 4, none⟩ = some (.int .u64 x.b)) :
    Calls Tryd.prog 31 #[.pointer (some ⟨g, o, none⟩)] w fun e w' => e = .returned (.bool (edOk x)) ∧ Below w.heap.size w w' := by
  obtain ⟨k, s, h, a, b⟩ := x
  obtain ⟨_, hs, hh, _⟩ := hx
  simp only at hs hh h0 h1 h2 h3 h4 ⊢
  by_cases k1 : k = 1
  · subst k1; rw [edOk_card (.inl rfl)]; exact sEdit_1 s h a b hs g o w h0 h1 h2 h3 h4
  by_cases k2 : k = 2
  · subst k2; rw [edOk_card (.inr rfl)]; exact sEdit_2 s h a b hs g o w h0 h1 h2 h3 h4
  by_cases k3 : k = 3
  · subst k3; rw [edOk_hole (.inl rfl)]; exact sEdit_3 s h a b hs hh g o w h0 h1 h2 h3 h4
  by_cases k4 : k = 4
  · subst k4; rw [edOk_hole (.inr rfl)]; exact sEdit_4 s h a b hs hh g o w h0 h1 h2 h3 h4
  · rw [edOk_none (by show ¬ (k = 1 ∨ k = 2 ∨ k = 3 ∨ k = 4); omega)]; exact sEdit_0 k s h a b (by omega) g o w h0 h1 h2 h3 h4
end Go.Proofs.YtpgonfeobfefaaaDoor

namespace Go.Proofs.YtpgonfeobfefaaaDoor
open Go.ChangeShapes Go.WideShapes Go.ChangeAt Go.RowKit

/-- The answers. -/
def aeL (ok : Bool) (cs : List Cd) (x : Ed) : List Cd := if ok then apA cs x else []
def aeK (ok : Bool) (cs : List Cd) (x : Ed) : Int := if ok then apC cs x else 1
def ApR (xs : List Cd) (k : Int) (w : World) (e : Ending) (w' : World) : Prop := ∃ v, e = .returned (.tuple #[v, .int .i64 k]) ∧ OwnCards w.heap.size xs v w' ∧ Below w.heap.size w w'
theorem ap_next {w a b : World} (h : Below w.heap.size w a) (k : Below a.heap.size a b) : Below w.heap.size w b := h.trans (Below.mono k h.size)

set_option maxRecDepth 100000 in
set_option maxHeartbeats 3200000 in
theorem iApply_any (x : Ed) (hx : x.fits) (ad : Option Addr) (cs : List Cd) (c : Nat) (w : World) (hc : CardsIn w ad cs) (hE : EtIn w) :
    Calls Tryd.prog 16 #[.slice ad cs.length c, edV x] w (ApR (aeL (deckOk cs && edOk x) cs x) (aeK (deckOk cs && edOk x) cs x) w) := by
  have BB := Lib.hid (below_new (Below.refl w.heap.size w) (.cells #[.int .i8 x.k, .string x.s, .int .i16 x.h, .int .u64 x.a, .int .u64 x.b] 37))
  have HB := Lib.hid (block_alloc w (.cells #[.int .i8 x.k, .string x.s, .int .i16 x.h, .int .u64 x.a, .int .u64 x.b] 37))
  have C := Lib.hid hc
  have V := Lib.hid fun W h => iDeckOk_any ad cs c W h
  have VE := Lib.hid fun W => iValid_any x hx W
  have EE := Lib.hid (hE.below BB.out)
  unfold edV
  cases hd : deckOk cs
  · rw [hd] at V
    clear hd hx hc hE
    obtain ⟨k, s, h, a, b⟩ := x
    simp only at BB HB VE ⊢
    go_enter Tryd.func16, Tryd.ntmps16
    go_wp2_with (go_at_call 36; refine (V.out _ (cardsIn_below C.out BB.out)).mono ?_; rintro e w1 ⟨rfl, hB⟩; have b1 := Lib.hid (ap_next BB.out hB); clear hB)
    go_returns
    exact ⟨_, rfl, ownC_nil _ _, b1.out⟩
  · rw [hd] at V
    rw [Bool.true_and]
    cases ho : edOk x
    · rw [ho] at VE
      clear hd ho hx hc hE
      obtain ⟨k, s, h, a, b⟩ := x
      simp only at BB HB VE ⊢
      go_enter Tryd.func16, Tryd.ntmps16
      go_wp2_with (first
        | (go_at_call 36; refine (V.out _ (cardsIn_below C.out BB.out)).mono ?_; rintro e w1 ⟨rfl, hB⟩; have b1 := Lib.hid (ap_next BB.out hB); have h1 := Lib.hid (Ab.block hB HB.out); have c1 := cell_of_block h1.out; clear hB)
        | (go_at_call 37; refine (VE.out _).mono ?_; rintro e w2 ⟨rfl, hB⟩; have b2 := Lib.hid (ap_next b1.out hB); clear hB c1))
      go_returns
      exact ⟨_, rfl, ownC_nil _ _, b2.out⟩
    · rw [ho] at VE
      have A := Lib.hid fun W h => iAE_any x hx ho ad cs c W h (deckOk_80 hd)
      have RF := Lib.hid fun W h => iRef_any cs x W h
      unfold edV at A
      show Calls _ _ _ _ (ApR (apA cs x) (apC cs x) w)
      generalize errV cs x = er at *
      generalize apA cs x = xs at *
      generalize apC cs x = kk at *
      clear hd ho hx hc hE
      obtain ⟨k, s, h, a, b⟩ := x
      simp only at BB HB VE A ⊢
      go_enter Tryd.func16, Tryd.ntmps16
      go_wp2_with (first
        | (go_at_call 36; refine (V.out _ (cardsIn_below C.out BB.out)).mono ?_; rintro e w1 ⟨rfl, hB⟩; have b1 := Lib.hid (ap_next BB.out hB); have h1 := Lib.hid (Ab.block hB HB.out); have e1 := Lib.hid (EE.out.below hB); have c1 := cell_of_block h1.out; clear hB)
        | (go_at_call 37; refine (VE.out _).mono ?_; rintro e w2 ⟨rfl, hB⟩; have b2 := Lib.hid (ap_next b1.out hB); have h2 := Lib.hid (Ab.block hB h1.out); have e2 := Lib.hid (e1.out.below hB); clear hB c1; have c2 := cell_of_block h2.out)
        | (go_at_call 42; refine (A.out _ (cardsIn_below C.out b2.out)).mono ?_; rintro e w3 ⟨v, rfl, hO, hB⟩; have O3 := Lib.hid (ownCards_weaken hO b2.out.size); have b3 := Lib.hid (ap_next b2.out hB); have e3 := Lib.hid (e2.out.below hB); clear hB hO c2)
        | (go_at_call 39; refine (RF.out _ e3.out).mono ?_; rintro e w4 ⟨rfl, hB⟩; have O4 := Lib.hid (ownCards_kept O3.out hB); have b4 := Lib.hid (ap_next b3.out hB); clear hB))
      go_returns
      exact ⟨_, rfl, O4.out, b4.out⟩

theorem edP_box {W : World} {b : Nat} {k : Int} {s : ByteArray} {h a b' : Int} {t : TypeId} (hb : W.heap[b]? = some (.cells #[.int .i8 k, .string s, .int .i16 h, .int .u64 a, .int .u64 b'] t (0, 0))) : EdP W b 0 k s h a b' :=
  ⟨by simpa using cell_of_block hb 0, by simpa using cell_of_block hb 1, by simpa using cell_of_block hb 2, by simpa using cell_of_block hb 3, by simpa using cell_of_block hb 4⟩

set_option maxRecDepth 100000 in
set_option maxHeartbeats 3200000 in
theorem sApply_any (x : Ed) (hx : x.fits) (g0 : Nat) (cs : List Cd) (c : Nat) (w : World) (hc : CardsIn w (some ⟨g0, 0, none⟩) cs) (cl : cs.length ≤ c) :
    Calls Tryd.prog 15 #[.slice (some ⟨g0, 0, none⟩) cs.length c, edV x] w (SaR (aeL (deckOk cs && edOk x) cs x) (aeK (deckOk cs && edOk x) cs x) w) := by
  have BB := Lib.hid (below_new (Below.refl w.heap.size w) (.cells #[.int .i8 x.k, .string x.s, .int .i16 x.h, .int .u64 x.a, .int .u64 x.b] 37))
  have HB := Lib.hid (block_alloc w (.cells #[.int .i8 x.k, .string x.s, .int .i16 x.h, .int .u64 x.a, .int .u64 x.b] 37))
  have C := Lib.hid hc
  have V := Lib.hid fun W h => sDeckOk_any (some ⟨g0, 0, none⟩) cs c W h
  have VE := Lib.hid fun b W (h : EdP W b 0 x.k x.s x.h x.a x.b) => sEdit_any x hx b 0 W h.1 h.2.1 h.2.2.1 h.2.2.2.1 h.2.2.2.2
  unfold edV
  cases hd : deckOk cs
  · rw [hd] at V
    clear hd hx hc
    obtain ⟨k, s, h, a, b⟩ := x
    simp only at BB HB VE ⊢
    go_enter Tryd.func15, Tryd.ntmps15
    go_wp2_with (go_at_call 30; refine (V.out _ (cardsIn_below C.out BB.out)).mono ?_; rintro e w1 ⟨rfl, hB⟩; have b1 := Lib.hid (ap_next BB.out hB); clear hB)
    go_returns
    exact ⟨_, _, rfl, sa_none b1.out, below_new b1.out _⟩
  · rw [hd] at V
    rw [Bool.true_and]
    cases ho : edOk x
    · rw [ho] at VE
      clear hd ho hx hc
      obtain ⟨k, s, h, a, b⟩ := x
      simp only at BB HB VE ⊢
      go_enter Tryd.func15, Tryd.ntmps15
      go_wp2_with (first
        | (go_at_call 30; refine (V.out _ (cardsIn_below C.out BB.out)).mono ?_; rintro e w1 ⟨rfl, hB⟩; have b1 := Lib.hid (ap_next BB.out hB); have h1 := Lib.hid (Ab.block hB HB.out); clear hB)
        | (go_at_call 31; refine (VE.out _ _ (edP_box h1.out)).mono ?_; rintro e w2 ⟨rfl, hB⟩; have b2 := Lib.hid (ap_next b1.out hB); clear hB))
      go_returns
      exact ⟨_, _, rfl, sa_none b2.out, below_new b2.out _⟩
    · rw [ho] at VE
      have A := Lib.hid fun b W h hE => sAp_any x ho g0 cs c b 0 W h hE hd cl
      show Calls _ _ _ _ (SaR (apA cs x) (apC cs x) w)
      generalize apA cs x = xs at *
      generalize apC cs x = kk at *
      clear hd ho hx hc
      obtain ⟨k, s, h, a, b⟩ := x
      simp only at BB HB VE A ⊢
      go_enter Tryd.func15, Tryd.ntmps15
      go_wp2_with (first
        | (go_at_call 30; refine (V.out _ (cardsIn_below C.out BB.out)).mono ?_; rintro e w1 ⟨rfl, hB⟩; have b1 := Lib.hid (ap_next BB.out hB); have h1 := Lib.hid (Ab.block hB HB.out); clear hB)
        | (go_at_call 31; refine (VE.out _ _ (edP_box h1.out)).mono ?_; rintro e w2 ⟨rfl, hB⟩; have b2 := Lib.hid (ap_next b1.out hB); have h2 := Lib.hid (Ab.block hB h1.out); clear hB)
        | (go_at_call 32; refine (A.out _ _ (cardsIn_below C.out b2.out) (edP_box h2.out)).mono ?_; rintro e w3 ⟨g3, c3, rfl, hO, hB⟩; have O3 := Lib.hid (ownCards_weaken hO b2.out.size); have b3 := Lib.hid (ap_next b2.out hB); clear hB hO))
      go_returns
      exact ⟨_, _, rfl, O3.out, b3.out⟩
end Go.Proofs.YtpgonfeobfefaaaDoor

namespace Go.Proofs.YtpgonfeobfefaaaDoor
open Go.ChangeShapes Go.WideShapes Go.ChangeAt Go.RowKit

/-- Are the first n valid. -/
def edTil (cs : List Ed) : Nat → Bool
  | 0 => true
  | n + 1 => edTil cs n && edOk (edAt cs n)
theorem edTil_no {cs : List Ed} {j : Nat} (h : edOk (edAt cs j) = false) : ∀ n, j < n → edTil cs n = false
  | 0, hj => absurd hj (Nat.not_lt_zero _)
  | n + 1, hj => by
    unfold edTil
    by_cases e : j = n
    · subst e; rw [h, Bool.and_false]
    · rw [edTil_no h n (by omega), Bool.false_and]
theorem edTil_next {cs : List Ed} {j : Nat} (h : edTil cs j = true) (k : edOk (edAt cs j) = true) : edTil cs (j + 1) = true := by unfold edTil; rw [h, k]; rfl
theorem edTil_at {cs : List Ed} : ∀ {n j : Nat}, edTil cs n = true → j < n → edOk (edAt cs j) = true
  | 0, _, _, hj => absurd hj (Nat.not_lt_zero _)
  | n + 1, j, h, hj => by
    unfold edTil at h
    rw [Bool.and_eq_true] at h
    by_cases e : j = n
    · subst e; exact h.2
    · exact edTil_at h.1 (by omega)
/-- The code of what is wrong with several edits. -/
def edsC (cs : List Ed) : Int := if edTil cs cs.length then (if cs.length ≤ 200 then 0 else 3) else 1
theorem edsC_1 {cs : List Ed} (h : edTil cs cs.length = false) : edsC cs = 1 := by unfold edsC; rw [h]; rfl
theorem edsC_3 {cs : List Ed} (h : edTil cs cs.length = true) (k : ¬ cs.length ≤ 200) : edsC cs = 3 := by unfold edsC; rw [if_pos h, if_neg k]
theorem edsC_0 {cs : List Ed} (h : edTil cs cs.length = true) (k : cs.length ≤ 200) : edsC cs = 0 := by unfold edsC; rw [if_pos h, if_pos k]

set_option maxRecDepth 100000 in
set_option maxHeartbeats 3200000 in
theorem iChk_any (ad : Option Addr) (cs : List Ed) (c : Nat) (w : World) (hc : EditsIn w ad cs) (hn : cs.length ≤ 1048576) :
    Calls Tryd.prog 45 #[.slice ad cs.length c] w fun e w' => e = .returned (.int .i64 (edsC cs)) ∧ Below w.heap.size w w' := by
  have C := Lib.hid hc
  clear hc
  go_enter Tryd.func45, Tryd.ntmps45
  go_wp2
  go_loopw [7] (fun i wr => ∃ j : Nat, j ≤ cs.length ∧ i = .int .i64 j ∧ edTil cs j = true ∧ Below w.heap.size w wr) (fun i _ => cs.length - (intOf i).toNat)
  case atStart => exact ⟨0, Nat.zero_le _, rfl, rfl, Below.refl _ _⟩
  case round =>
    obtain ⟨j, hj, rfl, hT, hB⟩ := hrel
    have BB := Lib.hid hB
    have TT := Lib.hid hT
    clear hT
    by_cases hjl : j < cs.length
    · have hd : decide ((j : Int) < (cs.length : Int)) = true := by simpa using hjl
      obtain ⟨hf, b1, o1, rfl, hb1, p0, p1, p2, p3, p4⟩ := C.out j hjl
      have d0 := (hB.cell (p := ⟨b1, o1 + j * 5, none⟩) hb1).trans p0
      have d1 := (hB.cell (p := ⟨b1, o1 + j * 5 + 1, none⟩) hb1).trans p1
      have d2 := (hB.cell (p := ⟨b1, o1 + j * 5 + 2, none⟩) hb1).trans p2
      have d3 := (hB.cell (p := ⟨b1, o1 + j * 5 + 3, none⟩) hb1).trans p3
      have d4 := (hB.cell (p := ⟨b1, o1 + j * 5 + 4, none⟩) hb1).trans p4
      have i1 : (0 : Int) ≤ (j : Int) := by omega
      have i2 : (j : Int) < (cs.length : Int) := by omega
      have K := fun W => iValid_any (edAt cs j) hf W
      have NO := Lib.hid fun h => edTil_no (cs := cs) (j := j) h cs.length hjl
      have YE := Lib.hid fun h => edTil_next TT.out (j := j) h
      have AA := Lib.hid (show Ab wr (wr.alloc (.cells #[.int .i8 (edAt cs j).k, .string (edAt cs j).s, .int .i16 (edAt cs j).h, .int .u64 (edAt cs j).a, .int .u64 (edAt cs j).b] 37)) from below_new (Below.refl _ _) _)
      clear hB p0 p1 p2 p3 p4 hf
      cases hk : edOk (edAt cs j)
      · rw [hk] at K
        have K := Lib.hid K
        have N := Lib.hid (edsC_1 (NO.out hk))
        clear hk YE NO
        generalize edAt cs j = x at *
        obtain ⟨k, s, h, a, b⟩ := x
        simp only at d0 d1 d2 d3 d4 K AA
        go_wp2_with (go_at_call 37; refine (K.out _).mono ?_; rintro e w3 ⟨rfl, hB3⟩; have B3 := Lib.hid (BB.out.trans (Below.mono (AA.out.trans hB3) BB.out.size)); clear hB3)
        go_returns
        exact ⟨by rw [N.out]; rfl, B3.out⟩
      · rw [hk] at K
        have K := Lib.hid K
        have Y := Lib.hid (YE.out hk)
        clear hk YE NO
        generalize edAt cs j = x at *
        obtain ⟨k, s, h, a, b⟩ := x
        simp only at d0 d1 d2 d3 d4 K AA
        go_wp2_with (go_at_call 37; refine (K.out _).mono ?_; rintro e w3 ⟨rfl, hB3⟩; have B3 := Lib.hid (BB.out.trans (Below.mono (AA.out.trans hB3) BB.out.size)); clear hB3)
        exact ⟨⟨j + 1, hjl, by rw [Int.natCast_succ], Y.out, B3.out⟩, by (simp [intOf]) <;> omega⟩
    · have e : j = cs.length := by omega
      subst e
      have hd : decide ((cs.length : Int) < (cs.length : Int)) = false := by simp
      clear hB
      by_cases hl : cs.length ≤ 200
      · have E0 := Lib.hid (edsC_0 TT.out hl)
        have dl : decide ((200 : Int) < (cs.length : Int)) = false := by simp; omega
        go_wp2
        go_returns
        exact ⟨by rw [E0.out]; rfl, BB.out⟩
      · have E0 := Lib.hid (edsC_3 TT.out hl)
        have dl : decide ((200 : Int) < (cs.length : Int)) = true := by simp; omega
        go_wp2
        go_returns
        exact ⟨by rw [E0.out]; rfl, BB.out⟩

set_option maxRecDepth 100000 in
set_option maxHeartbeats 3200000 in
theorem sChk_any (ad : Option Addr) (cs : List Ed) (c : Nat) (w : World) (hc : EditsIn w ad cs) (hn : cs.length ≤ 1048576) :
    Calls Tryd.prog 44 #[.slice ad cs.length c] w fun e w' => e = .returned (.bool (edTil cs cs.length)) ∧ Below w.heap.size w w' := by
  have C := Lib.hid hc
  clear hc
  go_enter Tryd.func44, Tryd.ntmps44
  go_wp2
  go_loopw [3] (fun i wr => ∃ j : Nat, j ≤ cs.length ∧ i = .int .i64 j ∧ edTil cs j = true ∧ Below w.heap.size w wr) (fun i _ => cs.length - (intOf i).toNat)
  case atStart => exact ⟨0, Nat.zero_le _, rfl, rfl, Below.refl _ _⟩
  case round =>
    obtain ⟨j, hj, rfl, hT, hB⟩ := hrel
    have BB := Lib.hid hB
    have TT := Lib.hid hT
    clear hT
    by_cases hjl : j < cs.length
    · have hd : decide ((j : Int) < (cs.length : Int)) = true := by simpa using hjl
      obtain ⟨hf, b1, o1, rfl, hb1, p0, p1, p2, p3, p4⟩ := C.out j hjl
      have d0 := (hB.cell (p := ⟨b1, o1 + j * 5, none⟩) hb1).trans p0
      have d1 := (hB.cell (p := ⟨b1, o1 + j * 5 + 1, none⟩) hb1).trans p1
      have d2 := (hB.cell (p := ⟨b1, o1 + j * 5 + 2, none⟩) hb1).trans p2
      have d3 := (hB.cell (p := ⟨b1, o1 + j * 5 + 3, none⟩) hb1).trans p3
      have d4 := (hB.cell (p := ⟨b1, o1 + j * 5 + 4, none⟩) hb1).trans p4
      have i1 : (0 : Int) ≤ (j : Int) := by omega
      have i2 : (j : Int) < (cs.length : Int) := by omega
      have z1 : b1 < wr.heap.size := Nat.lt_of_lt_of_le hb1 hB.size
      have K := sEdit_any (edAt cs j) hf b1 (o1 + j * 5) wr d0 d1 d2 d3 d4
      have NO := Lib.hid fun h => edTil_no (cs := cs) (j := j) h cs.length hjl
      have YE := Lib.hid fun h => edTil_next TT.out (j := j) h
      clear hB p0 p1 p2 p3 p4 hf d0 d1 d2 d3 d4
      cases hk : edOk (edAt cs j)
      · rw [hk] at K
        have K := Lib.hid K
        have N := Lib.hid (NO.out hk)
        clear hk YE NO
        go_wp2_with (go_at_call 31; refine K.out.mono ?_; rintro e w3 ⟨rfl, hB3⟩; have B3 := Lib.hid (BB.out.trans (Below.mono hB3 BB.out.size)); clear hB3)
        go_returns
        exact ⟨by rw [N.out]; rfl, B3.out⟩
      · rw [hk] at K
        have K := Lib.hid K
        have Y := Lib.hid (YE.out hk)
        clear hk YE NO
        go_wp2_with (go_at_call 31; refine K.out.mono ?_; rintro e w3 ⟨rfl, hB3⟩; have B3 := Lib.hid (BB.out.trans (Below.mono hB3 BB.out.size)); clear hB3)
        exact ⟨⟨j + 1, hjl, by rw [Int.natCast_succ], Y.out, B3.out⟩, by (simp [intOf]) <;> omega⟩
    · have e : j = cs.length := by omega
      subst e
      have hd : decide ((cs.length : Int) < (cs.length : Int)) = false := by simp
      clear hB
      go_wp2
      go_returns
      exact ⟨by rw [TT.out]; rfl, BB.out⟩
end Go.Proofs.YtpgonfeobfefaaaDoor

namespace Go.Proofs.YtpgonfeobfefaaaDoor
open Go.ChangeShapes Go.WideShapes Go.ChangeAt Go.RowKit

/-- The edits from number j on, f of them. -/
def apFrom (es : List Ed) : Nat → Nat → List Cd → List Cd × Int
  | 0, _, cs => (cs, 0)
  | f + 1, j, cs => if apC cs (edAt es j) = 0 then apFrom es f (j + 1) (apD cs (edAt es j)) else ([], apC cs (edAt es j))
theorem apFrom_end {es : List Ed} {j : Nat} {cs : List Cd} {R : List Cd × Int} (h : apFrom es (es.length - j) j cs = R) (hj : j = es.length) : R = (cs, 0) := by
  subst hj; rw [Nat.sub_self] at h; exact h.symm
theorem apFrom_go {es : List Ed} {j : Nat} {cs : List Cd} {R : List Cd × Int} (h : apFrom es (es.length - j) j cs = R) (hj : j < es.length) (hq : apC cs (edAt es j) = 0) : apFrom es (es.length - (j + 1)) (j + 1) (apA cs (edAt es j)) = R := by
  rw [show es.length - j = (es.length - (j + 1)) + 1 by omega, apFrom, if_pos hq] at h
  rw [apA_yes hq]; exact h
theorem apFrom_bad {es : List Ed} {j : Nat} {cs : List Cd} {R : List Cd × Int} (h : apFrom es (es.length - j) j cs = R) (hj : j < es.length) (hq : ¬ apC cs (edAt es j) = 0) : R = ([], apC cs (edAt es j)) := by
  rw [show es.length - j = (es.length - (j + 1)) + 1 by omega, apFrom, if_neg hq] at h
  exact h.symm
theorem errV_ok {cs : List Cd} {x : Ed} (h : apC cs x = 0) : errV cs x = .nilIface := by
  unfold errV
  by_cases hF : x.k = 1 ∧ cs.length = 80
  · rw [apC_full hF] at h; cases h
  · rw [if_neg hF]
    cases hz : apF x (stOf cs x.s)
    · rw [apC_mis hF hz] at h; cases h
    · rfl
theorem errV_no {cs : List Cd} {x : Ed} (h : ¬ apC cs x = 0) : ∃ T V, errV cs x = .iface T V := by
  unfold errV
  by_cases hF : x.k = 1 ∧ cs.length = 80
  · rw [if_pos hF]; exact ⟨_, _, rfl⟩
  · rw [if_neg hF]
    cases hz : apF x (stOf cs x.s)
    · exact ⟨_, _, rfl⟩
    · exact absurd (apC_fit hF hz) h
/-- The answer: the deck, how many edits, the code. -/
def axL (cs : List Cd) (es : List Ed) : List Cd := if deckOk cs && edsC es == 0 then (apFrom es es.length 0 cs).1 else []
def axK (cs : List Cd) (es : List Ed) : Int := if deckOk cs then (if edsC es = 0 then (apFrom es es.length 0 cs).2 else edsC es) else 1
def axN (cs : List Cd) (es : List Ed) : Int := if axK cs es = 0 then (es.length : Int) else 0
/-- How many edits were applied. -/
def nOf (k : Int) (n : Nat) : Int := if k = 0 then (n : Int) else 0
theorem nOf_0 (n : Nat) : nOf 0 n = (n : Int) := if_pos rfl
theorem nOf_no {k : Int} (n : Nat) (h : ¬ k = 0) : nOf k n = 0 := if_neg h
def AxR (xs : List Cd) (n k : Int) (w : World) (e : Ending) (w' : World) : Prop := ∃ v, e = .returned (.tuple #[v, .int .i64 n, .int .i64 k]) ∧ OwnCards w.heap.size xs v w' ∧ Below w.heap.size w w'
theorem ax_invalid {cs : List Cd} {es : List Ed} (h : deckOk cs = false) : axL cs es = [] ∧ axN cs es = 0 ∧ axK cs es = 1 := by
  have k : axK cs es = 1 := by unfold axK; rw [h]; rfl
  exact ⟨by unfold axL; rw [h]; rfl, by unfold axN; rw [k]; rfl, k⟩
theorem ax_edits {cs : List Cd} {es : List Ed} (h : deckOk cs = true) (he : ¬ edsC es = 0) : axL cs es = [] ∧ axN cs es = 0 ∧ axK cs es = edsC es := by
  have k : axK cs es = edsC es := by unfold axK; rw [h, if_pos rfl, if_neg he]
  exact ⟨by unfold axL; rw [h, beq_eq_false_iff_ne.2 he]; rfl, by unfold axN; rw [k, if_neg he], k⟩
theorem ax_run {cs : List Cd} {es : List Ed} {R : List Cd × Int} (h : deckOk cs = true) (he : edsC es = 0) (hR : apFrom es es.length 0 cs = R) : axL cs es = R.1 ∧ axN cs es = nOf R.2 es.length ∧ axK cs es = R.2 := by
  have k : axK cs es = R.2 := by unfold axK; rw [h, if_pos rfl, if_pos he, hR]
  exact ⟨by unfold axL; rw [h, he, hR]; rfl, by unfold axN nOf; rw [k], k⟩
theorem own_capA {B g n c : Nat} {xs : List Cd} {w : World} (h : OwnCards B xs (.slice (some ⟨g, 0, none⟩) n c) w) : xs.length ≤ c := by
  rcases h.2 with ⟨h2, _⟩ | ⟨g', cap, cur, he, _, _, hc, _⟩
  · cases h2
  · cases he; exact hc

set_option maxRecDepth 100000 in
set_option maxHeartbeats 1600000 in
theorem iCloneA_any (g0 : Nat) (cs : List Cd) (c : Nat) (w : World) (hc : CellsC w (some ⟨g0, 0, none⟩) cs) (hn : cs.length ≤ 1048576) :
    Calls Tryd.prog 46 #[.slice (some ⟨g0, 0, none⟩) cs.length c] w fun e w' => ∃ v, e = .returned v ∧ OwnCards w.heap.size cs v w' ∧ Below w.heap.size w w' := by
  obtain ⟨i0, hi, hz0, hz1, hz2⟩ := info_parts info_card
  have q : ∀ (w : World) (a : Option Addr) (n c : Nat), (binOp .eql 33 (.slice a n c) (.slice none 0 0)).run Tryd.prog w = .ok (.bool a.isNone) w := fun w a n c => Lib.run_eql_slice_nil w _ _ a n c 0 0 Tryd.underlying33
  have F := Lib.hid (cellsC_flat (cellsC_below hc (below_new (Below.refl w.heap.size w) (.cells #[] 68))))
  clear hc
  go_enter Tryd.func46, Tryd.ntmps46
  go_wp2_with (at_builtin; refine wpList_append_own _ rfl _ _ 33 rfl w.heap.size 68 i0 (.agg #[.string ByteArray.empty, .int .u64 0, .int .u64 0]) 3 32 Tryd.underlying33 hi hz0 hz1 hz2 rfl (by decide) _ _ _ rfl (World.ownsRow_made w #[] 0 (Nat.le_refl _) (Nat.zero_le _) rfl) ⟨g0, 0, none⟩ cs.length c (flatC cs) rfl (flatC_len cs) F.out (flatC_oneA cs) (by unfold maxLen; omega) (by omega) (by simp) ?_; intro v' w1 hown hgrow _; have P := Lib.hid (own0A hown); have G := Lib.hid (Below.grown ((Below.refl w.heap.size w).alloc (Nat.le_refl _) _) hgrow (by simp) (fun j hj => by cases hj; exact Nat.le_refl _)); clear hown hgrow)
  go_ret
  exact ⟨_, rfl, P.out, G.out⟩

set_option maxRecDepth 100000 in
set_option maxHeartbeats 6400000 in
theorem iApplyS_any (g0 : Nat) (cs : List Cd) (c : Nat) (ed : Option Addr) (es : List Ed) (c2 : Nat) (w : World) (hc : CardsIn w (some ⟨g0, 0, none⟩) cs) (he : EditsIn w ed es) (hn : es.length ≤ 1048576) (hE : EtIn w) :
    Calls Tryd.prog 22 #[.slice (some ⟨g0, 0, none⟩) cs.length c, .slice ed es.length c2] w (AxR (axL cs es) (axN cs es) (axK cs es) w) := by
  have C := Lib.hid hc
  have D := Lib.hid he
  have V := Lib.hid fun W h => iDeckOk_any (some ⟨g0, 0, none⟩) cs c W h
  have K := Lib.hid fun W h => iChk_any ed es c2 W h hn
  have EE := Lib.hid fun (W : World) (hB : Below w.heap.size w W) => hE.below hB
  cases hd : deckOk cs
  · rw [hd] at V
    obtain ⟨e1, e2, e3⟩ := ax_invalid (es := es) hd
    rw [e1, e2, e3]
    clear hd hc he hE e1 e2 e3
    go_enter Tryd.func22, Tryd.ntmps22
    go_wp2_with (go_at_call 36; refine (V.out _ C.out).mono ?_; rintro e w1 ⟨rfl, hB⟩; have b1 := Lib.hid hB; clear hB)
    go_returns
    exact ⟨_, rfl, ownC_nil _ _, b1.out⟩
  rw [hd] at V
  by_cases hk : edsC es = 0
  case neg =>
    obtain ⟨e1, e2, e3⟩ := ax_edits hd hk
    rw [e1, e2, e3]
    have kn : (edsC es != 0) = true := by simp [hk]
    clear hd hc he hE e1 e2 e3 hk
    generalize edsC es = kk at *
    go_enter Tryd.func22, Tryd.ntmps22
    go_wp2_with (first
      | (go_at_call 36; refine (V.out _ C.out).mono ?_; rintro e w1 ⟨rfl, hB⟩; have b1 := Lib.hid hB; clear hB)
      | (go_at_call 45; refine (K.out _ (editsIn_below D.out b1.out)).mono ?_; rintro e w2 ⟨rfl, hB⟩; have b2 := Lib.hid (ap_next b1.out hB); clear hB))
    go_returns
    exact ⟨_, rfl, ownC_nil _ _, b2.out⟩
  obtain ⟨R, hR⟩ : ∃ R, apFrom es es.length 0 cs = R := ⟨_, rfl⟩
  obtain ⟨e1, e2, e3⟩ := ax_run hd hk hR
  rw [e1, e2, e3]
  rw [hk] at K
  have h1 : edTil es es.length = true := by
    unfold edsC at hk
    split at hk
    · assumption
    · cases hk
  have EO := Lib.hid fun j (hj : j < es.length) => edTil_at h1 hj
  have CL := Lib.hid fun W h => iCloneA_any g0 cs c W h (by have := deckOk_80 hd; omega)
  have HD := Lib.hid hd
  have HF := Lib.hid fun i hi => (hc i hi).1
  clear hd hc he hE e1 e2 e3 hk h1
  go_enter Tryd.func22, Tryd.ntmps22
  go_wp2_with (first
    | (go_at_call 36; refine (V.out _ C.out).mono ?_; rintro e w1 ⟨rfl, hB⟩; have b1 := Lib.hid hB; clear hB)
    | (go_at_call 45; refine (K.out _ (editsIn_below D.out b1.out)).mono ?_; rintro e w2 ⟨rfl, hB⟩; have b2 := Lib.hid (ap_next b1.out hB); clear hB)
    | (go_at_call 46; refine (CL.out _ (fun i hi => (cardsIn_below C.out b2.out i hi).2)).mono ?_; rintro e w3 ⟨v3, rfl, hO, hB⟩; have O3 := Lib.hid (ownCards_weaken hO b2.out.size); have b3 := Lib.hid (ap_next b2.out hB); clear hB hO))
  go_loopw [8, 25] (fun v i wr => ∃ (j : Nat) (ds : List Cd), j ≤ es.length ∧ i = .int .i64 (j : Int) ∧ OwnCards w.heap.size ds v wr ∧ deckOk ds = true ∧ (∀ i, i < ds.length → (cdAt ds i).fits) ∧ apFrom es (es.length - j) j ds = R ∧ Below w.heap.size w wr) (fun _ i _ => es.length - (intOf i).toNat)
  case atStart => exact ⟨0, cs, Nat.zero_le _, rfl, O3.out, HD.out, HF.out, hR, b3.out⟩
  case round =>
    obtain ⟨j, ds, hj, rfl, hO, hdk, hft, hRj, hB⟩ := hrel
    have BB := Lib.hid hB
    have RJ := Lib.hid hRj
    have DK := Lib.hid hdk
    have FT := Lib.hid hft
    obtain ⟨a8, c8, rfl, hi8⟩ := ownCards_in hO
    have OO := Lib.hid hO
    have I8 := Lib.hid (cardsIn_of hi8 hft)
    clear hB hRj hdk hft hO hi8 hR
    by_cases hjl : j < es.length
    · have hd : decide ((j : Int) < (es.length : Int)) = true := by simpa using hjl
      have ho := EO.out j hjl
      obtain ⟨hx, b1', o1, rfl, hb1, p0, p1, p2, p3, p4⟩ := D.out j hjl
      have d0 := (BB.out.cell (p := ⟨b1', o1 + j * 5, none⟩) hb1).trans p0
      have d1 := (BB.out.cell (p := ⟨b1', o1 + j * 5 + 1, none⟩) hb1).trans p1
      have d2 := (BB.out.cell (p := ⟨b1', o1 + j * 5 + 2, none⟩) hb1).trans p2
      have d3 := (BB.out.cell (p := ⟨b1', o1 + j * 5 + 3, none⟩) hb1).trans p3
      have d4 := (BB.out.cell (p := ⟨b1', o1 + j * 5 + 4, none⟩) hb1).trans p4
      have i1 : (0 : Int) ≤ (j : Int) := by omega
      have i2 : (j : Int) < (es.length : Int) := by omega
      have A := fun W h => iAE_any (edAt es j) hx ho a8 ds c8 W h (deckOk_80 DK.out)
      by_cases hq : apC ds (edAt es j) = 0
      · have NX := Lib.hid (apFrom_go RJ.out hjl hq)
        have DN := Lib.hid (show deckOk (apA ds (edAt es j)) = true by rw [apA_yes hq]; exact deckOk_ap FT.out DK.out hx ho hq)
        have FN := Lib.hid (apA_fits FT.out hx ho)
        rw [errV_ok hq] at A
        unfold edV at A
        have A := Lib.hid A
        clear p0 p1 p2 p3 p4 hq ho hx
        generalize apA ds (edAt es j) = xs at *
        generalize edAt es j = x at *
        obtain ⟨k, s, h, a, b⟩ := x
        simp only at d0 d1 d2 d3 d4 A
        go_wp2_with (go_at_call 42; refine (A.out _ (cardsIn_below I8.out (below_new (Below.refl _ _) _))).mono ?_; rintro e w5 ⟨v5, rfl, hO5, hB5⟩; have B5 := Lib.hid ((below_new BB.out (.cells #[.int .i8 k, .string s, .int .i16 h, .int .u64 a, .int .u64 b] 37)).trans (Below.mono hB5 (by simp; have := BB.out.size; omega))); have O5 := Lib.hid (ownCards_weaken (B' := w.heap.size) hO5 (by simp; have := BB.out.size; omega)); clear hB5 hO5)
        exact ⟨⟨j + 1, xs, hjl, by rw [Int.natCast_succ], O5.out, DN.out, FN.out, NX.out, B5.out⟩, by (simp [intOf]) <;> omega⟩
      · have hRR := apFrom_bad RJ.out hjl hq
        obtain ⟨T, U, hTU⟩ := errV_no hq
        have RF := fun W h => iRef_any ds (edAt es j) W h
        rw [hTU] at A RF
        have nq : ¬ R.2 = 0 := by rw [hRR]; exact hq
        have hR1 : R.1 = [] := by rw [hRR]
        have hR2 : apC ds (edAt es j) = R.2 := by rw [hRR]
        rw [hR2] at RF
        rw [nOf_no _ nq, hR1]
        unfold edV at A
        have A := Lib.hid A
        have RF := Lib.hid RF
        generalize R.2 = kk at *
        clear p0 p1 p2 p3 p4 hq ho hx hRR hTU nq hR1 hR2 RJ
        generalize edAt es j = x at *
        obtain ⟨k, s, h, a, b⟩ := x
        simp only at d0 d1 d2 d3 d4 A
        generalize apA ds ⟨k, s, h, a, b⟩ = xs at *
        go_wp2_with (first
          | (go_at_call 42; refine (A.out _ (cardsIn_below I8.out (below_new (Below.refl _ _) _))).mono ?_; rintro e w5 ⟨v5, rfl, hO5, hB5⟩; have B5 := Lib.hid ((below_new BB.out (.cells #[.int .i8 k, .string s, .int .i16 h, .int .u64 a, .int .u64 b] 37)).trans (Below.mono hB5 (by simp; have := BB.out.size; omega))); clear hB5 hO5)
          | (go_at_call 39; refine (RF.out _ (EE.out _ B5.out)).mono ?_; rintro e w6 ⟨rfl, hB6⟩; have B6 := Lib.hid (ap_next B5.out hB6); clear hB6))
        go_returns
        exact ⟨_, rfl, ownC_nil _ _, B6.out⟩
    · have e : j = es.length := by omega
      have hRR := apFrom_end RJ.out e
      subst e
      have hd : decide ((es.length : Int) < (es.length : Int)) = false := by simp
      subst hRR
      clear RJ
      go_wp2
      go_returns
      exact ⟨_, rfl, OO.out, BB.out⟩
end Go.Proofs.YtpgonfeobfefaaaDoor

namespace Go.Proofs.YtpgonfeobfefaaaDoor
open Go.ChangeShapes Go.WideShapes Go.ChangeAt Go.RowKit

def AyR (xs : List Cd) (n k : Int) (w : World) (e : Ending) (w' : World) : Prop := ∃ g c, e = .returned (.tuple #[.slice (some ⟨g, 0, none⟩) xs.length c, .int .i64 n, .int .i64 k]) ∧ OwnCards w.heap.size xs (.slice (some ⟨g, 0, none⟩) xs.length c) w' ∧ Below w.heap.size w w'
theorem ay_none {w W : World} (n k : Int) (h : Below w.heap.size w W) : AyR [] n k w (.returned (.tuple #[.slice (some ⟨W.heap.size, 0, none⟩) 0 0, .int .i64 n, .int .i64 k])) (W.alloc (.cells #[] 68)) := ⟨_, _, rfl, sa_none h, below_new h _⟩

set_option maxRecDepth 100000 in
set_option maxHeartbeats 6400000 in
theorem sApplyS_any (g0 : Nat) (cs : List Cd) (c : Nat) (ed : Option Addr) (es : List Ed) (c2 : Nat) (w : World) (hc : CardsIn w (some ⟨g0, 0, none⟩) cs) (he : EditsIn w ed es) (hn : es.length ≤ 1048576) :
    Calls Tryd.prog 20 #[.slice (some ⟨g0, 0, none⟩) cs.length c, .slice ed es.length c2] w (AyR (axL cs es) (axN cs es) (axK cs es) w) := by
  obtain ⟨i0, hi, hz0, hz1, hz2⟩ := info_parts info_card
  have F := Lib.hid fun (W : World) (hB : Below w.heap.size w W) => cellsC_flat (cellsC_below (cellsC_below (fun i hi => (hc i hi).2) hB) (below_new (Below.refl W.heap.size W) (.cells #[] 68)))
  have C := Lib.hid hc
  have D := Lib.hid he
  have V := Lib.hid fun W h => sDeckOk_any (some ⟨g0, 0, none⟩) cs c W h
  have K := Lib.hid fun W h => sChk_any ed es c2 W h hn
  cases hd : deckOk cs
  · rw [hd] at V
    obtain ⟨e1, e2, e3⟩ := ax_invalid (es := es) hd
    rw [e1, e2, e3]
    clear hd hc he e1 e2 e3
    go_enter Tryd.func20, Tryd.ntmps20
    go_wp2_with (go_at_call 30; refine (V.out _ C.out).mono ?_; rintro e w1 ⟨rfl, hB⟩; have b1 := Lib.hid hB; clear hB)
    go_returns
    exact ay_none _ _ b1.out
  rw [hd] at V
  cases ht : edTil es es.length
  · have hk := edsC_1 ht
    obtain ⟨e1, e2, e3⟩ := ax_edits hd (by rw [hk]; decide)
    rw [e1, e2, e3, hk]
    rw [ht] at K
    clear hd hc he e1 e2 e3 hk ht
    go_enter Tryd.func20, Tryd.ntmps20
    go_wp2_with (first
      | (go_at_call 30; refine (V.out _ C.out).mono ?_; rintro e w1 ⟨rfl, hB⟩; have b1 := Lib.hid hB; clear hB)
      | (go_at_call 44; refine (K.out _ (editsIn_below D.out b1.out)).mono ?_; rintro e w2 ⟨rfl, hB⟩; have b2 := Lib.hid (ap_next b1.out hB); clear hB))
    go_returns
    exact ay_none _ _ b2.out
  rw [ht] at K
  by_cases hl : es.length ≤ 200
  case neg =>
    have hk := edsC_3 ht hl
    obtain ⟨e1, e2, e3⟩ := ax_edits hd (by rw [hk]; decide)
    rw [e1, e2, e3, hk]
    have dl : decide ((200 : Int) < (es.length : Int)) = true := by simp; omega
    clear hd hc he e1 e2 e3 hk ht
    go_enter Tryd.func20, Tryd.ntmps20
    go_wp2_with (first
      | (go_at_call 30; refine (V.out _ C.out).mono ?_; rintro e w1 ⟨rfl, hB⟩; have b1 := Lib.hid hB; clear hB)
      | (go_at_call 44; refine (K.out _ (editsIn_below D.out b1.out)).mono ?_; rintro e w2 ⟨rfl, hB⟩; have b2 := Lib.hid (ap_next b1.out hB); clear hB))
    go_returns
    exact ay_none _ _ b2.out
  have hk := edsC_0 ht hl
  obtain ⟨R, hR⟩ : ∃ R, apFrom es es.length 0 cs = R := ⟨_, rfl⟩
  obtain ⟨e1, e2, e3⟩ := ax_run hd hk hR
  rw [e1, e2, e3]
  have dl : decide ((200 : Int) < (es.length : Int)) = false := by simp; omega
  have EO := Lib.hid fun j (hj : j < es.length) => edTil_at ht hj
  have HD := Lib.hid hd
  have HF := Lib.hid fun i hi => (hc i hi).1
  have c80 := deckOk_80 hd
  clear hd hc he e1 e2 e3 hk ht
  go_enter Tryd.func20, Tryd.ntmps20
  go_wp2_with (first
    | (go_at_call 30; refine (V.out _ C.out).mono ?_; rintro e w1 ⟨rfl, hB⟩; have b1 := Lib.hid hB; clear hB)
    | (go_at_call 44; refine (K.out _ (editsIn_below D.out b1.out)).mono ?_; rintro e w2 ⟨rfl, hB⟩; have b2 := Lib.hid (ap_next b1.out hB); clear hB)
    | (at_builtin; refine wpList_append_own_at _ rfl _ _ 33 rfl w2.heap.size 68 i0 (.agg #[.string ByteArray.empty, .int .u64 0, .int .u64 0]) 3 32 Tryd.underlying33 hi hz0 hz1 hz2 rfl (by decide) _ _ _ rfl (World.ownsRow_made w2 #[] 0 (Nat.le_refl _) (Nat.zero_le _) rfl) ⟨g0, 0, none⟩ cs.length c (flatC cs) rfl (flatC_len cs) (F.out _ b2.out) (flatC_oneA cs) (by unfold maxLen; omega) (by omega) (by simp) ?_; intro v1 w3 hown hgrow _ hat; obtain ⟨g3, c3, rfl⟩ := own_form0 (own0A hown) (hat.elim (fun e => ⟨_, e.trans rfl⟩) (fun e => ⟨_, e⟩)); have O3 := Lib.hid (ownCards_weaken (own0A hown) b2.out.size); have b3 := Lib.hid (ap_next b2.out (Below.grown ((Below.refl w2.heap.size w2).alloc (Nat.le_refl _) _) hgrow (by simp) (fun j hj => by cases hj; exact Nat.le_refl _))); clear hown hgrow hat))
  go_loopw [7, 8] (fun v i wr => ∃ (j : Nat) (ds : List Cd) (g c' : Nat), j ≤ es.length ∧ i = .int .i64 (j : Int) ∧ v = .slice (some ⟨g, 0, none⟩) ds.length c' ∧ OwnCards w.heap.size ds (.slice (some ⟨g, 0, none⟩) ds.length c') wr ∧ deckOk ds = true ∧ (∀ i, i < ds.length → (cdAt ds i).fits) ∧ apFrom es (es.length - j) j ds = R ∧ Below w.heap.size w wr) (fun _ i _ => es.length - (intOf i).toNat)
  case atStart => exact ⟨0, cs, g3, c3, Nat.zero_le _, rfl, rfl, O3.out, HD.out, HF.out, hR, b3.out⟩
  case round =>
    obtain ⟨j, ds, g8, c8, hj, rfl, rfl, hO, hdk, hft, hRj, hB⟩ := hrel
    have BB := Lib.hid hB
    have RJ := Lib.hid hRj
    have DK := Lib.hid hdk
    have FT := Lib.hid hft
    obtain ⟨_, _, hv, hi8⟩ := ownCards_in hO
    cases hv
    have OO := Lib.hid hO
    have I8 := Lib.hid (cardsIn_of hi8 hft)
    have cap := own_capA hO
    clear hB hRj hdk hft hO hi8 hR
    by_cases hjl : j < es.length
    · have hd : decide ((j : Int) < (es.length : Int)) = true := by simpa using hjl
      have ho := EO.out j hjl
      obtain ⟨hx, b1', o1, rfl, hb1, p0, p1, p2, p3, p4⟩ := D.out j hjl
      have PE := Lib.hid (show EdP wr b1' (o1 + j * 5) (edAt es j).k (edAt es j).s (edAt es j).h (edAt es j).a (edAt es j).b from ⟨(BB.out.cell (p := ⟨b1', o1 + j * 5, none⟩) hb1).trans p0, (BB.out.cell (p := ⟨b1', o1 + j * 5 + 1, none⟩) hb1).trans p1, (BB.out.cell (p := ⟨b1', o1 + j * 5 + 2, none⟩) hb1).trans p2, (BB.out.cell (p := ⟨b1', o1 + j * 5 + 3, none⟩) hb1).trans p3, (BB.out.cell (p := ⟨b1', o1 + j * 5 + 4, none⟩) hb1).trans p4⟩)
      have i1 : (0 : Int) ≤ (j : Int) := by omega
      have i2 : (j : Int) < (es.length : Int) := by omega
      have A := fun W h hE => sAp_any (edAt es j) ho g8 ds c8 b1' (o1 + j * 5) W h hE DK.out cap
      by_cases hq : apC ds (edAt es j) = 0
      · have NX := Lib.hid (apFrom_go RJ.out hjl hq)
        have DN := Lib.hid (show deckOk (apA ds (edAt es j)) = true by rw [apA_yes hq]; exact deckOk_ap FT.out DK.out hx ho hq)
        have FN := Lib.hid (apA_fits FT.out hx ho)
        rw [hq] at A
        have A := Lib.hid A
        clear p0 p1 p2 p3 p4 hq ho hx cap
        generalize apA ds (edAt es j) = xs at *
        go_wp2_with (go_at_call 32; refine (A.out _ I8.out PE.out).mono ?_; rintro e w5 ⟨g5, c5, rfl, hO5, hB5⟩; have B5 := Lib.hid (ap_next BB.out hB5); have O5 := Lib.hid (ownCards_weaken hO5 BB.out.size); clear hB5 hO5)
        exact ⟨⟨j + 1, xs, g5, c5, hjl, by rw [Int.natCast_succ], rfl, O5.out, DN.out, FN.out, NX.out, B5.out⟩, by (simp [intOf]) <;> omega⟩
      · have hRR := apFrom_bad RJ.out hjl hq
        have kn : (apC ds (edAt es j) != 0) = true := by simp [hq]
        rw [apA_no rfl hq] at A
        have A := Lib.hid A
        subst hRR
        have nn := nOf_no es.length hq
        simp only
        rw [nn]
        clear p0 p1 p2 p3 p4 hq ho hx RJ cap nn
        generalize apC ds (edAt es j) = kk at *
        go_wp2_with (go_at_call 32; refine (A.out _ I8.out PE.out).mono ?_; rintro e w5 ⟨g5, c5, rfl, hO5, hB5⟩; have B5 := Lib.hid (ap_next BB.out hB5); clear hB5 hO5)
        go_returns
        exact ay_none _ _ B5.out
    · have e : j = es.length := by omega
      have hRR := apFrom_end RJ.out e
      subst e
      have hd : decide ((es.length : Int) < (es.length : Int)) = false := by simp
      subst hRR
      clear RJ
      go_wp2
      go_returns
      exact ⟨_, _, rfl, OO.out, BB.out⟩
end Go.Proofs.YtpgonfeobfefaaaDoor

namespace Go.Proofs.YtpgonfeobfefaaaDoor
open Go.ChangeShapes Go.WideShapes Go.RowKit

theorem et_g : Tryd.prog.globalNamed "errors.errorType" = some 0 := by kernel_rfl
theorem et_rt : (Tryd.prog.cutTypes.find? (·.1 == "internal/reflectlite.rtype")).map (·.2) = some 178 := by kernel_rfl
theorem et_one : ((List.range Tryd.prog.types.size).filter fun t => Tryd.prog.rowNamed t [101, 114, 114, 111, 114]) = [77] := by kernel_rfl
/-- What the condition gives a walk. -/
theorem et_of_laid {W : World} (h : laidMetH Tryd.prog [("errors.errorType", Rows.laid_errors_errorType)] W) : EtIn W := by
  have h' : laidMet Tryd.prog [] W ∧ handlesMet Tryd.prog [("errors.errorType", Rows.laid_errors_errorType)] W := h
  obtain ⟨name, u, ty, e1, e2, e3, e4, e5⟩ := h'.2 _ (List.mem_singleton.2 rfl)
  have en : name = [101, 114, 114, 111, 114] := (Option.some.inj e1).symm
  subst en
  obtain rfl := Option.some.inj (et_rt.symm.trans e2)
  have hm : ty ∈ (List.range Tryd.prog.types.size).filter fun t => Tryd.prog.rowNamed t [101, 114, 114, 111, 114] := List.mem_filter.2 ⟨List.mem_range.2 e3, e4⟩
  rw [et_one] at hm
  obtain rfl := List.mem_singleton.1 hm
  have hh : typeHandle Tryd.prog 77 = .pointer (some ⟨4, 77, none⟩) := by kernel_rfl
  rw [hh] at e5
  unfold EtIn
  simpa using World.var?_cell et_g e5 0
/-- A world that meets the condition. -/
noncomputable def etWorld (os : Os) : World :=
  let w0 := World.holding Tryd.prog os ⟨#[], #[], []⟩
  { w0 with heap := w0.heap.modify 0 fun
      | .cells _ t frozen => .cells #[.iface 178 (.agg #[.pointer (some ⟨4, 77, none⟩)])] t frozen
      | o => o }
theorem etWorld_met (os : Os) (args : Array Value) : laidMetH Tryd.prog [("errors.errorType", Rows.laid_errors_errorType)] ((etWorld os).forCall (fun _ _ => 0) ⟨#[], args, []⟩).memory :=
  laidMetH_of_parts (laidMet_nil _ _) (by kernel_rfl)
end Go.Proofs.YtpgonfeobfefaaaDoor
