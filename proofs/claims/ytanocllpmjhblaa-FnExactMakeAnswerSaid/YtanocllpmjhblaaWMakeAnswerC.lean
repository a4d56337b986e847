/- MakeAnswer answers, for every deck and every query, as its model does; its answer is memory of its own. No conditions. -/
import Derived.Test.YtanocllpmjhblaaMkX
import Derived.Test.YtanocllpmjhblaaAft
import Derived.Test.YtanocllpmjhblaaMark
import Derived.Test.YtanocllpmjhblaaDeck3
import Derived.Deep.DeepCutAuto
namespace Go.Proofs.Ytanocllpmjhblaa
open Go.ChangeShapes Go.WideShapes Go.ChangeAt Go.RowKit

theorem intsIn_up {B : Nat} {w w' : World} {a : Option Addr} {zs : List Int} (h : IntsIn w a zs) (hB : w.heap.size ≤ B) (hb : Below B w w') : IntsIn w' a zs := fun i hi => by
  obtain ⟨b, off, ha, hlt, hc⟩ := h i hi
  exact ⟨b, off, ha, Nat.lt_of_lt_of_le hlt hb.size, (hb.cell (Nat.lt_of_lt_of_le hlt hB)).trans hc⟩
theorem wr_cards {w : World} {g : Nat} {cs : List Cd} (h : CardsIn w (some ⟨g, 0, none⟩) cs) (hf : ∀ j, w.frozen? ⟨g, j, none⟩ = false) : Wb w g (cs.length * 3) := by
  refine ⟨fun j hj => ?_, fun j _ => hf j⟩
  obtain ⟨_, b, off, he, _, h0, h1, h2⟩ := h (j / 3) (by omega)
  cases he
  rcases (show j % 3 = 0 ∨ j % 3 = 1 ∨ j % 3 = 2 by omega) with e | e | e
  · exact ⟨.string (cdAt cs (j / 3)).s, by rw [show (⟨g, j, none⟩ : Addr) = ⟨g, 0 + j / 3 * 3, none⟩ from by congr 1; omega]; exact h0⟩
  · exact ⟨.int .u64 (cdAt cs (j / 3)).a, by rw [show (⟨g, j, none⟩ : Addr) = ⟨g, 0 + j / 3 * 3 + 1, none⟩ from by congr 1; omega]; exact h1⟩
  · exact ⟨.int .u64 (cdAt cs (j / 3)).b, by rw [show (⟨g, j, none⟩ : Addr) = ⟨g, 0 + j / 3 * 3 + 2, none⟩ from by congr 1; omega]; exact h2⟩

/-- The query's box of the law's own. -/
def QB (w W : World) (a b c d : Int) : Prop := W.heap[w.heap.size]? = some (.cells #[.int .u64 a, .int .u64 b, .int .u64 c, .int .u64 d] 52 (0, 0)) ∧ Below w.heap.size w W
theorem qB_start (w : World) (a b c d : Int) : QB w (w.alloc (.cells #[.int .u64 a, .int .u64 b, .int .u64 c, .int .u64 d] 52)) a b c d := ⟨block_alloc _ _, below_new (Below.refl _ _) _⟩
theorem QB.ab {w W W' : World} {a b c d : Int} (h : QB w W a b c d) (hb : Ab W W') : QB w W' a b c d := ⟨hb.block h.1, h.2.trans (Below.mono hb h.2.size)⟩
/-- One step behind a world whose own things stay. -/
theorem ch_next {B : Nat} {w a b : World} (h : Below B w a) (hB : B ≤ w.heap.size) (k : Below a.heap.size a b) : Below B w b := h.trans (Below.mono k (Nat.le_trans hB h.size))

/-- An answer in memory. -/
abbrev Ay := Option Addr × Nat × Option Addr × Nat
def AyIn (W : World) (p : Ay) (x : Aw) : Prop := IntsIn W p.1 x.zs ∧ WitsIn W p.2.2.1 x.ws
theorem AyIn.ab {W W' : World} {p : Ay} {x : Aw} (h : AyIn W p x) (hb : Ab W W') : AyIn W' p x := ⟨intsIn_below h.1 hb, witsIn_below h.2 hb⟩
def ayV (x : Aw) (p : Ay) : Value := .agg #[.int .u64 x.a, .int .u64 x.b, .int .u64 x.c, .int .u64 x.d, .slice p.1 x.zs.length p.2.1, .slice p.2.2.1 x.ws.length p.2.2.2]
def ayC (x : Aw) (p : Ay) : Obj := .cells #[.int .u64 x.a, .int .u64 x.b, .int .u64 x.c, .int .u64 x.d, .slice p.1 x.zs.length p.2.1, .slice p.2.2.1 x.ws.length p.2.2.2] 59 (0, 0)
def ayZ : Obj := .cells #[.int .u64 0, .int .u64 0, .int .u64 0, .int .u64 0, .slice none 0 0, .slice none 0 0] 59 (0, 0)
/-- Writing into a box in which there is no number of an answer. -/
theorem ayIn_box {W W' : World} {p : Ay} {x : Aw} {b : Nat} (h : AyIn W p x) (hb : W.heap[b]? = some ayZ) (ho : Oth b W W') : AyIn W' p x := by
  have cz : ∀ j u, W.cell? ⟨b, j, none⟩ = some u → u = .int .u64 0 ∨ u = .slice none 0 0 := fun j u hu => by
    rw [cell_of_block (show W.heap[b]? = some (.cells _ _ (0, 0)) from hb)] at hu
    have hj : j < 6 := by
      have := (Array.getElem?_eq_some_iff.1 hu).1
      simpa using this
    match j, hj with
    | 0, _ => simp at hu; exact .inl hu.symm
    | 1, _ => simp at hu; exact .inl hu.symm
    | 2, _ => simp at hu; exact .inl hu.symm
    | 3, _ => simp at hu; exact .inl hu.symm
    | 4, _ => simp at hu; exact .inr hu.symm
    | 5, _ => simp at hu; exact .inr hu.symm
  have keep : ∀ (c off : Nat) (u : Value), c < W.heap.size → W.cell? ⟨c, off, none⟩ = some u → u ≠ .int .u64 0 → u ≠ .slice none 0 0 → W'.cell? ⟨c, off, none⟩ = some u := fun c off u hc hu n1 n2 => by
    have hne : c ≠ b := fun e => by subst e; rcases cz _ _ hu with h | h <;> contradiction
    rw [← hu]
    exact World.cell?_of_block (ho.block c hne hc)
  refine ⟨fun i hi => ?_, fun i hi => ?_⟩
  · obtain ⟨c, off, ha, hlt, hc⟩ := h.1 i hi
    exact ⟨c, off, ha, Nat.lt_of_lt_of_le hlt ho.size, keep _ _ _ hlt hc (by simp) (by simp)⟩
  · obtain ⟨hf, c, off, ha, hlt, h0, h1⟩ := h.2 i hi
    exact ⟨hf, c, off, ha, Nat.lt_of_lt_of_le hlt ho.size, keep _ _ _ hlt h0 (by simp) (by simp), keep _ _ _ hlt h1 (by simp) (by simp)⟩
theorem mk_small (ok : Bool) (cs : List Cd) (a b c d : Int) : (mkW ok cs a b c d).zs.length ≤ cs.length ∧ (mkW ok cs a b c d).ws.length ≤ cs.length := by
  cases ok
  · exact ⟨Nat.zero_le _, Nat.zero_le _⟩
  · exact ⟨inK_len _ _, outK_len _ _ _⟩
theorem mk_fits (cs : List Cd) {a b c d : Int} (ha : U64 a) (hb : U64 b) (hc : U64 c) (hd : U64 d) (hf : ∀ i, i < cs.length → (cdAt cs i).fits) (hn : cs.length ≤ 1048576) : ∀ i, i < (mkW (deckOk cs && qOk a b c d) cs a b c d).ws.length → (wtAt (mkW (deckOk cs && qOk a b c d) cs a b c d).ws i).fits := by
  intro i hi
  cases hk : (deckOk cs && qOk a b c d)
  · rw [hk] at hi; exact absurd hi (Nat.not_lt_zero _)
  · rw [hk] at hi
    rw [Bool.and_eq_true] at hk
    rw [mk_yes] at hi ⊢
    have hm : wtAt (outK (drK cs a b c d) (loK cs a b c d) cs.length) i ∈ outK (drK cs a b c d) (loK cs a b c d) cs.length := by
      unfold wtAt
      have hi2 : i < (outK (drK cs a b c d) (loK cs a b c d) cs.length).length := hi
      simp only [List.getD, List.getElem?_eq_getElem hi2, Option.getD_some]
      exact List.getElem_mem _
    exact outK_fits hn (fun j hj hp => (card_keep ha hb hc hd hk.2 (hf j hj).2.1 (hf j hj).2.2 hp).1) _ hm

/-- The answer of the program's own, in its box. -/
structure Got (x : Aw) (p : Ay) (w3 : World) (B b9 : Nat) (W : World) : Prop where
  b3 : Ab w3 W
  i : OwnInts B x.zs (.slice p.1 x.zs.length p.2.1) W
  o : OwnWits B x.ws (.slice p.2.2.1 x.ws.length p.2.2.2) W
  box : W.heap[b9]? = some (ayC x p)
theorem Got.ab {x : Aw} {p : Ay} {w3 W W' : World} {B b9 : Nat} (h : Got x p w3 B b9 W) (k : Ab W W') : Got x p w3 B b9 W' := ⟨h.b3.trans k, ownInts_kept h.i k, ownWits_kept h.o k, k.block h.box⟩
theorem Got.oth {x : Aw} {p : Ay} {w3 W W' : World} {B b9 g : Nat} (h : Got x p w3 B b9 W) (k : Oth g W W') (h1 : w3.heap.size ≤ g) (h2 : g < B) (h3 : g < b9) (h4 : g ≤ W.heap.size) : Got x p w3 B b9 W' :=
  ⟨Below.trans h.b3 (Below.mono (k.below h4) h1), own_oth h.i k h2, ownWits_oth h.o k h2, (k.block b9 (by omega) (lt_of_block (show W.heap[b9]? = some (.cells _ _ (0, 0)) from h.box))).trans h.box⟩
theorem Got.in {x : Aw} {p : Ay} {w3 W : World} {B b9 : Nat} (h : Got x p w3 B b9 W) (hf : ∀ i, i < x.ws.length → (wtAt x.ws i).fits) : AyIn W p x := by
  obtain ⟨_, _, e1, hi⟩ := ownInts_in h.i
  obtain ⟨_, _, e2, hw⟩ := ownWits_in h.o
  cases e1; cases e2
  exact ⟨hi, witsIn_of hw hf⟩

set_option maxRecDepth 100000 in
set_option maxHeartbeats 6400000 in
theorem fnExactMakeAnswer_walk (a1 : Option Addr) (cs : List Cd) (c1 : Nat) (a b c d : Int) (ha : U64 a) (hb : U64 b) (hc : U64 c) (hd : U64 d) (w : World) (h1 : CardsIn w a1 cs) (l1 : cs.length ≤ maxLen) :
    Calls Try.prog 5 #[.slice a1 cs.length c1, .agg #[.int .u64 a, .int .u64 b, .int .u64 c, .int .u64 d]] w fun e w' => e = .returned (.bool true) ∧ Below w.heap.size w w' := by
  unfold maxLen at l1
  have B0 := Lib.hid (qB_start w a b c d)
  have H1 := Lib.hid (cardsIn_below h1 B0.out.2)
  have Z1 := Lib.hid fun W hs => szCardS_any a1 cs c1 1048576 W hs (by decide) (by decide) (by omega)
  clear l1
  have H0 := Lib.hid h1
  clear h1
  go_enter Try.func5, Try.ntmps5
  go_upto_region 3 with (go_at_call 19; refine (Z1.out _ H1.out).mono ?_; rintro e w1 ⟨z, rfl, z0, z1, z2, hB⟩; have B1 := Lib.hid (B0.out.ab hB); have c0 := cell_of_block B1.out.1; clear hB)
  by_cases hz0 : z < 0
  · have d1 : decide (z < 0) = true := decide_eq_true hz0
    go_wp2
    go_returns
    exact ⟨rfl, B1.out.2⟩
  have d1 : decide (z < 0) = false := decide_eq_false hz0
  have n1 : cs.length ≤ 1048576 := z2 (by omega)
  clear z0 z1 z2 hz0
  have T1 := Lib.hid fun W hs => toCardS_any a1 cs c1 W hs n1
  have TQ := Lib.hid fun W => toQuery_any a b c d W
  have E1 := Lib.hid fun a b c d W ha hb => eqCardS_same a b cs c d W ha hb n1
  have S := fun y c1 W hx => sMkA_any y cs c1 a b c d ha hb hc hd W hx
  have I := fun y c1 W hx => iMkA_any y cs c1 a b c d ha hb hc hd W hx
  have FT := Lib.hid (mk_fits cs ha hb hc hd (fun i hi => (H0.out i hi).1) n1)
  obtain ⟨g1, g2⟩ := mk_small (deckOk cs && qOk a b c d) cs a b c d
  have g3 : (mkW (deckOk cs && qOk a b c d) cs a b c d).zs.length ≤ 80 ∧ (mkW (deckOk cs && qOk a b c d) cs a b c d).ws.length ≤ 80 := by
    cases hk : deckOk cs
    · exact ⟨Nat.zero_le _, Nat.zero_le _⟩
    · have := deckOk_80 hk; rw [hk] at g1 g2; omega
  generalize mkW (deckOk cs && qOk a b c d) cs a b c d = x at *
  generalize anC (deckOk cs && qOk a b c d) = cd at *
  have EA := Lib.hid fun (p q : Ay) W (hp : AyIn W p x) (hq : AyIn W q x) => eqAnswer_same x p.1 p.2.1 p.2.2.1 p.2.2.2 q.1 q.2.1 q.2.2.1 q.2.2.2 W hp.1 hp.2 hq.1 hq.2 (by omega) (by omega)
  have MA := Lib.hid fun B (p : Ay) W hv hu hB hA => markAns_any B x.a x.b x.c x.d x.zs x.ws (.slice p.1 x.zs.length p.2.1) (.slice p.2.2.1 x.ws.length p.2.2.2) W hv hu hB hA (by omega)
  have HA := Lib.hid fun ds hds (p : Ay) W hv hu hM => heldAns_any x.a x.b x.c x.d x.zs.length x.ws.length ds hds p.1 p.2.2.1 p.2.1 p.2.2.2 W hv hu hM (by omega)
  have hk : 1 + 3 * cs.length ≤ 4000000 := by omega
  have S := Lib.hid S
  have I := Lib.hid I
  clear ha hb hc hd n1 g1 g2 g3
  obtain ⟨kk, hkk⟩ : ∃ kk : Nat, kk = 1 + 3 * cs.length := ⟨_, rfl⟩
  have MK := fun g W hW hg => markCards_any cs.length g 1 cs.length W hW hg hk
  rw [← hkk] at MK
  have MK := Lib.hid MK
  have k0 : decide ((kk : Int) < 0) = false := by simp
  obtain ⟨mm, hmm⟩ : ∃ mm : Nat, mm = 1 + x.zs.length + 2 * x.ws.length := ⟨_, rfl⟩
  rw [← hmm] at MA HA
  have n0 : decide ((mm : Int) < 0) = false := by simp
  have n3 : ((mm : Int) != (mm : Int)) = false := by simp
  have n2 : (cd != cd) = false := by simp
  clear hkk hk hmm
  go_upto_region 5 with fail
  clear c0
  refine D2.wp_region_aft_at (X := Option Addr) (Y := Ay) 1 2 3 (fun y W => CardsIn W y cs) (fun p W => AyIn W p x) (fun _ _ _ h hb => cardsIn_below h hb) (fun _ _ _ h hb => h.ab hb) (fun y => .slice y cs.length cs.length) (fun p => .tuple #[ayV x p, .int .i64 cd]) ayZ (ayC x) (by kernel_rfl) rfl rfl rfl rfl (by kernel_rfl) rfl rfl rfl rfl (fun _ _ => by kernel_rfl) none (none, 0, none, 0) ?_
  simp only [Nat.reduceAdd, List.take_succ_cons, List.take_zero, List.drop_succ_cons, List.drop_zero]
  have hbw := cell_bw
  intro v1 hv1
  repeat (go_big_quiet_step (fail))
  refine wpQuiet_nil ?_
  refine ⟨?_, ?_⟩
  · intro v2 hv2
    go_simp
    simp only [Yld]
    refine ⟨trivial, (T1.out v2 (cardsIn_below H0.out (B1.out.2.trans (Below.mono hv2 B1.out.2.size)))).mono ?_⟩
    rintro e v3 ⟨v, rfl, ⟨g, rfl, _, _, hc, _⟩, hb⟩
    exact ⟨_, rfl, _, rfl, hb, hc⟩
  intro y v2 hv2
  simp only [Act.put, List.setIfInBounds_toArray, List.set_cons_succ, List.set_cons_zero]
  have c0 := cell_of_block (B1.out.ab hv2).1
  have z0 := lt_of_block (B1.out.ab hv2).1
  repeat (go_big_quiet_step (first | (go_at_call 29; exact calls_bw (TQ.out _))))
  refine wpQuiet_nil ?_
  clear c0 z0
  refine ⟨?_, ?_⟩
  · intro v3 hv3 hx
    go_simp
    simp only [Yld]
    refine ⟨trivial, (S.out y cs.length v3 hx).mono ?_⟩
    rintro e v4 ⟨v, u, rfl, hO, hW, hA, hb⟩
    obtain ⟨ai, ci, rfl, hi⟩ := ownInts_in hO
    obtain ⟨aw, cw, rfl, hw⟩ := ownWits_in hW
    exact ⟨_, rfl, ai, ci, aw, cw, rfl, hb, hi, witsIn_of hw FT.out⟩
  intro p
  simp only [List.setIfInBounds_toArray, List.set_cons_succ, List.set_cons_zero]
  refine ⟨rfl, _, fun _ => rfl, ?_⟩
  simp only [Act.put, List.setIfInBounds_toArray, List.set_cons_succ, List.set_cons_zero]
  refine ⟨rfl, _, fun _ => rfl, ?_⟩
  simp only [Act.put, List.setIfInBounds_toArray, List.set_cons_succ, List.set_cons_zero]
  refine ⟨rfl, _, fun _ => rfl, ?_⟩
  simp only [Act.put, List.setIfInBounds_toArray, List.set_cons_succ, List.set_cons_zero]
  intro b6 hb6
  refine ⟨?_, ?_⟩
  · intro w3 h3 hj hb3
    have f0 := cell_of_block (show w3.heap[b6]? = some (.cells _ _ (0, 0)) from hb3)
    have f1 := free_of_block (show w3.heap[b6]? = some (.cells _ _ (0, 0)) from hb3)
    have hj := Lib.hid hj
    have hb3 := Lib.hid hb3
    unfold ayV
    simp only [List.setIfInBounds_toArray, List.set_cons_succ, List.set_cons_zero]
    go_simp
    exact ⟨(((((h3.setCell _ hb6).setCell _ hb6).setCell _ hb6).setCell _ hb6).setCell _ hb6).setCell _ hb6, ayIn_box hj.out hb3.out ((((((Oth.refl b6 w3).set 0 _).set 1 _).set 2 _).set 3 _).set 4 _ |>.set 5 _), block_setCell _ (block_setCell _ (block_setCell _ (block_setCell _ (block_setCell _ (block_setCell _ hb3.out)))))⟩
  refine ⟨rfl, _, fun _ => rfl, ?_⟩
  simp only [Act.put, List.setIfInBounds_toArray, List.set_cons_succ, List.set_cons_zero]
  intro w3 hw3 hy hx6
  have B3 := Lib.hid (B1.out.ab hw3)
  have S3 := Lib.hid hy
  have X6 := Lib.hid hx6
  have c0 := cell_of_block B3.out.1
  have zl := lt_of_block B3.out.1
  have l6 := Lib.hid (lt_of_block (show w3.heap[b6]? = some (.cells _ _ (0, 0)) from hx6))
  clear hw3 hv1 hv2 hbw hy hx6
  have tok1 : True := trivial
  go_upto_region 7 with (go_at_call 21; have _t := tok1; clear _t tok1; refine (T1.out _ (cardsIn_below H0.out B3.out.2)).mono ?_; rintro e w4 ⟨v, rfl, ⟨g4, rfl, hg4, hl4, hs4, hf4⟩, hB⟩; have C4 := Lib.hid hB; have G4 := Lib.hid hg4; have L4 := Lib.hid hl4; have X4 := Lib.hid hs4; have W4 := Lib.hid (wr_cards hs4 hf4); clear c0; have c0 := cell_of_block (B3.out.ab hB).1; clear hB hs4 hf4 hg4 hl4)
  go_upto_region 8 with (first
    | (go_at_call 29; refine (TQ.out _).mono ?_; rintro e w5 ⟨rfl, hB⟩; have C5 := Lib.hid (ch_next C4.out (Nat.le_refl _) hB); have D5 := Lib.hid hB; have X5 := Lib.hid (cardsIn_below X4.out hB); clear hB c0)
    | (go_at_call 30; refine (I.out _ _ _ X5.out).mono ?_; rintro e w6 ⟨v6, u6, rfl, hO, hW, hA, hB⟩; obtain ⟨av, cv, rfl, _⟩ := ownInts_in hO; obtain ⟨au, cu, rfl, _⟩ := ownWits_in hW; have O6 := Lib.hid hO; have U6 := Lib.hid hW; have A6 := Lib.hid hA; have C6 := Lib.hid (ch_next C5.out (Nat.le_refl _) hB); have D6 := Lib.hid (ch_next D5.out (Nat.le_refl _) hB); have S56 := Lib.hid hB.size; have X6c := Lib.hid (cardsIn_below X5.out hB); clear hB hO hW hA))
  have GO := Lib.hid (show Got x (av, cv, au, cu) w3 w5.heap.size w6.heap.size (w6.alloc (.cells #[.int .u64 x.a, .int .u64 x.b, .int .u64 x.c, .int .u64 x.d, .slice av x.zs.length cv, .slice au x.ws.length cu] 59)) from ⟨below_new C6.out _, ownInts_kept O6.out (below_new (Below.refl _ _) _), ownWits_kept U6.out (below_new (Below.refl _ _) _), block_alloc _ _⟩)
  have D7 := Lib.hid (below_new D6.out (.cells #[.int .u64 x.a, .int .u64 x.b, .int .u64 x.c, .int .u64 x.d, .slice av x.zs.length cv, .slice au x.ws.length cu] 59))
  have X7 := Lib.hid (cardsIn_below X6c.out (below_new (Below.refl w6.heap.size w6) (.cells #[.int .u64 x.a, .int .u64 x.b, .int .u64 x.c, .int .u64 x.d, .slice av x.zs.length cv, .slice au x.ws.length cu] 59)))
  have NV := Lib.hid fun j e => (World.ownsRow.lt O6.out j e).2
  have NU := Lib.hid fun j e => (World.ownsRow.lt U6.out j e).2
  have L5 := Lib.hid (Nat.lt_of_lt_of_le L4.out D5.out.size)
  have L9 := Lib.hid (Nat.lt_of_lt_of_le L4.out D6.out.size)
  have B5 := Lib.hid C5.out.size
  have Q7 := Lib.hid (show w5.heap.size ≤ (w6.alloc (.cells #[.int .u64 x.a, .int .u64 x.b, .int .u64 x.c, .int .u64 x.d, .slice av x.zs.length cv, .slice au x.ws.length cu] 59)).heap.size by have h5 : w5.heap.size ≤ w6.heap.size := S56.out; simp; omega)
  clear O6 U6 C6 D6 C5 X6c X5 C4
  generalize w6.alloc (.cells #[.int .u64 x.a, .int .u64 x.b, .int .u64 x.c, .int .u64 x.d, .slice av x.zs.length cv, .slice au x.ws.length cu] 59) = V9 at *
  generalize w6.heap.size = b9 at *
  have c9 := cell_of_block (show V9.heap[b9]? = some (.cells _ _ (0, 0)) from GO.out.box)
  have c6 := cell_of_block (show V9.heap[b6]? = some (.cells _ _ (0, 0)) from GO.out.b3.block X6.out)
  have tok2 : True := trivial
  go_upto_region 17 with (first
    | (go_at_call 31; have _t := tok2; clear _t tok2; refine (EA.out (av, cv, au, cu) p _ (GO.out.in FT.out) (S3.out.ab GO.out.b3)).mono ?_; rintro e w7 ⟨rfl, hB⟩; have GO7 := Lib.hid (GO.out.ab hB); have D8 := Lib.hid (ch_next D7.out (Nat.le_refl _) hB); have X8 := Lib.hid (cardsIn_below X7.out hB); have Q8 := Lib.hid (Nat.le_trans Q7.out hB.size); clear hB c9 c6)
    | (go_at_call 21; refine (T1.out _ (cardsIn_below H0.out (B3.out.ab GO7.out.b3).2)).mono ?_; rintro e w8 ⟨v, rfl, ⟨g8, rfl, _, _, hs8, _⟩, hB⟩; have GO8 := Lib.hid (GO7.out.ab hB); have D9 := Lib.hid (ch_next D8.out (Nat.le_refl _) hB); have X9 := Lib.hid (cardsIn_below X8.out hB); have Q9 := Lib.hid (Nat.le_trans Q8.out hB.size); have Y9 := Lib.hid hs8; clear hB hs8)
    | (go_at_call 24; refine (E1.out _ _ _ _ _ X9.out Y9.out).mono ?_; rintro e w9 ⟨rfl, hB⟩; have GO9 := Lib.hid (GO8.out.ab hB); have D10 := Lib.hid (ch_next D9.out (Nat.le_refl _) hB); have Q10 := Lib.hid (Nat.le_trans Q9.out hB.size); clear hB)
    | (go_at_call 25; refine (MK.out _ _ (W4.out.below D10.out L4.out) (Nat.lt_of_lt_of_le L4.out D10.out.size)).mono ?_; rintro e w10 ⟨rfl, hO⟩; have GO10 := Lib.hid (GO9.out.oth hO G4.out L5.out L9.out (Nat.le_of_lt (Nat.lt_of_lt_of_le L4.out D10.out.size))); have Q11 := Lib.hid (Nat.le_trans Q10.out hO.size); have c9 := cell_of_block (show w10.heap[b9]? = some (.cells _ _ (0, 0)) from GO10.out.box); have c6 := cell_of_block (show w10.heap[b6]? = some (.cells _ _ (0, 0)) from GO10.out.b3.block X6.out); clear hO)
    | (go_at_call 31; refine (EA.out (av, cv, au, cu) p _ (GO10.out.in FT.out) (S3.out.ab GO10.out.b3)).mono ?_; rintro e w11 ⟨rfl, hB⟩; have GO11 := Lib.hid (GO10.out.ab hB); have Q12 := Lib.hid (Nat.le_trans Q11.out hB.size); clear hB c9 c6; have c9 := cell_of_block (show w11.heap[b9]? = some (.cells _ _ (0, 0)) from GO11.out.box)))
  go_upto_region 19 with (go_at_call 32; refine (MA.out w5.heap.size (av, cv, au, cu) _ GO11.out.i GO11.out.o Q12.out A6.out).mono ?_; rintro e w12 ⟨rfl, hI, ⟨ds, hds, hM, hO⟩, hBB, hN⟩; obtain ⟨am, cm, hv, hi⟩ := ownInts_in hI; rw [marks_len] at hv; cases hv; obtain ⟨am, cm, hv, hw⟩ := ownWits_in hO; rw [hds] at hv; cases hv; have B12 := Lib.hid (Below.trans GO11.out.b3 (hBB.mono B5.out)); have X12 := Lib.hid ((hN b9 (lt_of_block (show w11.heap[b9]? = some (.cells _ _ (0, 0)) from GO11.out.box)) (fun e => Nat.lt_irrefl _ (NV.out _ e)) (fun e => Nat.lt_irrefl _ (NU.out _ e))).trans GO11.out.box); have MI := Lib.hid hi; have MW := Lib.hid hw; have MM := Lib.hid hM; clear hI hM hO hBB hN hi hw c9; have c9 := cell_of_block (show w12.heap[b9]? = some (.cells _ _ (0, 0)) from X12.out))
  go_upto_region 24 with (go_at_call 33; refine (HA.out ds hds (av, cv, au, cu) _ MI.out MW.out MM.out).mono ?_; rintro e w13 ⟨rfl, hB⟩; have B13 := Lib.hid (Ab.trans B12.out hB); have X13 := Lib.hid (Ab.block hB X12.out); have I13 := Lib.hid (intsIn_below MI.out hB); have W13 := Lib.hid (cellswt_below MW.out hB); clear hB c9)
  have QB13 := Lib.hid (B3.out.ab B13.out)
  refine D2.wp_region_aft_at (X := Option Addr) (Y := Ay) 1 2 3 (fun y W => CardsIn W y cs) (fun p W => AyIn W p x) (fun _ _ _ h hb => cardsIn_below h hb) (fun _ _ _ h hb => h.ab hb) (fun y => .slice y cs.length cs.length) (fun p => .tuple #[ayV x p, .int .i64 cd]) ayZ (ayC x) (by kernel_rfl) rfl rfl rfl rfl (by kernel_rfl) rfl rfl rfl rfl (fun _ _ => by kernel_rfl) none (none, 0, none, 0) ?_
  simp only [Nat.reduceAdd, List.take_succ_cons, List.take_zero, List.drop_succ_cons, List.drop_zero]
  have hbw := cell_bw
  intro v1 hv1
  repeat (go_big_quiet_step (fail))
  refine wpQuiet_nil ?_
  refine ⟨?_, ?_⟩
  · intro v2 hv2
    go_simp
    simp only [Yld]
    refine ⟨trivial, (T1.out v2 (cardsIn_below H0.out (QB13.out.2.trans (Below.mono hv2 QB13.out.2.size)))).mono ?_⟩
    rintro e v3 ⟨v, rfl, ⟨g, rfl, _, _, hc, _⟩, hb⟩
    exact ⟨_, rfl, _, rfl, hb, hc⟩
  intro y v2 hv2
  simp only [Act.put, List.setIfInBounds_toArray, List.set_cons_succ, List.set_cons_zero]
  have c0 := cell_of_block (QB13.out.ab hv2).1
  have z0 := lt_of_block (QB13.out.ab hv2).1
  repeat (go_big_quiet_step (first | (go_at_call 29; exact calls_bw (TQ.out _))))
  refine wpQuiet_nil ?_
  clear c0 z0
  refine ⟨?_, ?_⟩
  · intro v3 hv3 hx
    go_simp
    simp only [Yld]
    refine ⟨trivial, (I.out y cs.length v3 hx).mono ?_⟩
    rintro e v4 ⟨v, u, rfl, hO, hW, hA, hb⟩
    obtain ⟨ai, ci, rfl, hi⟩ := ownInts_in hO
    obtain ⟨aw, cw, rfl, hw⟩ := ownWits_in hW
    exact ⟨_, rfl, ai, ci, aw, cw, rfl, hb, hi, witsIn_of hw FT.out⟩
  intro p14
  simp only [List.setIfInBounds_toArray, List.set_cons_succ, List.set_cons_zero]
  refine ⟨rfl, _, fun _ => rfl, ?_⟩
  simp only [Act.put, List.setIfInBounds_toArray, List.set_cons_succ, List.set_cons_zero]
  refine ⟨rfl, _, fun _ => rfl, ?_⟩
  simp only [Act.put, List.setIfInBounds_toArray, List.set_cons_succ, List.set_cons_zero]
  refine ⟨rfl, _, fun _ => rfl, ?_⟩
  simp only [Act.put, List.setIfInBounds_toArray, List.set_cons_succ, List.set_cons_zero]
  intro b14 hb14
  refine ⟨?_, ?_⟩
  · intro w3 h3 hj hb3
    have f0 := cell_of_block (show w3.heap[b14]? = some (.cells _ _ (0, 0)) from hb3)
    have f1 := free_of_block (show w3.heap[b14]? = some (.cells _ _ (0, 0)) from hb3)
    have hj := Lib.hid hj
    have hb3 := Lib.hid hb3
    unfold ayV
    simp only [List.setIfInBounds_toArray, List.set_cons_succ, List.set_cons_zero]
    go_simp
    exact ⟨(((((h3.setCell _ hb14).setCell _ hb14).setCell _ hb14).setCell _ hb14).setCell _ hb14).setCell _ hb14, ayIn_box hj.out hb3.out ((((((Oth.refl b14 w3).set 0 _).set 1 _).set 2 _).set 3 _).set 4 _ |>.set 5 _), block_setCell _ (block_setCell _ (block_setCell _ (block_setCell _ (block_setCell _ (block_setCell _ hb3.out)))))⟩
  refine ⟨rfl, _, fun _ => rfl, ?_⟩
  simp only [Act.put, List.setIfInBounds_toArray, List.set_cons_succ, List.set_cons_zero]
  intro w14 hw14 hy14 hx14
  have B14 := Lib.hid (Ab.trans B13.out hw14)
  have Y14 := Lib.hid hy14
  have I14 := Lib.hid (intsIn_below I13.out hw14)
  have W14 := Lib.hid (cellswt_below W13.out hw14)
  have X14 := Lib.hid (Ab.block hw14 X13.out)
  have c14 := cell_of_block (show w14.heap[b14]? = some (.cells _ _ (0, 0)) from hx14)
  have c6 := cell_of_block (show w14.heap[b6]? = some (.cells _ _ (0, 0)) from B14.out.block X6.out)
  clear hw14 hv1 hv2 hbw hy14 hx14
  go_wp2_with (first
    | (go_at_call 31; refine (EA.out p14 p _ Y14.out (S3.out.ab B14.out)).mono ?_; rintro e w15 ⟨rfl, hB⟩; have B15 := Lib.hid (Ab.trans B14.out hB); have I15 := Lib.hid (intsIn_below I14.out hB); have W15 := Lib.hid (cellswt_below W14.out hB); have X15 := Lib.hid (Ab.block hB X14.out); clear hB c14 c6; have c9 := cell_of_block (show w15.heap[b9]? = some (.cells _ _ (0, 0)) from X15.out))
    | (go_at_call 33; refine (HA.out ds hds (av, cv, au, cu) _ I15.out W15.out MM.out).mono ?_; rintro e w16 ⟨rfl, hB⟩; have B16 := Lib.hid (Ab.trans B15.out hB); clear hB c9))
  all_goals go_returns
  all_goals exact ⟨rfl, (B3.out.ab B16.out).2⟩
/-! ### The frame round the walk -/
section
set_option maxRecDepth 100000 in
theorem fnExactMakeAnswer_lifted (os : Os) (started : os.Started) (H : Type) (enc : TypeId × Value → H) :
    ReturnsInHanded {} Try.checked os 5 .any (Rows.fnExactMakeAnswerSpec.pre6 enc Try.prog Try.f5 Rows.fnExactMakeAnswerRow.domain false) (Rows.fnExactMakeAnswerSpec.post enc Try.prog Try.f5 false true false false) := by
  refine returnsInHanded_of_change_sized (C := Try.checked) own started (by kernel_rfl) Try.func5
    (ChangeSpec.witness6 (enc := enc) (C := Try.checked) false ⟨#[], #[.slice none 0 0, .agg #[.int .u64 0, .int .u64 0, .int .u64 0, .int .u64 0]], []⟩ 8 (by kernel_rfl) (by kernel_rfl) (by kernel_rfl) (by kernel_rfl)) ?_
  intro W base args ds gs before hval hW _ hsz _
  have hW' := hW
  obtain ⟨p, q, hA, hV, rfl, _, _⟩ := hW
  obtain ⟨rfl, rfl⟩ := trodVars_none hV
  have hlt : ∀ x ∈ p, x.block < W.heap.size := fun x hx => by simpa using hW'.lt x (by simpa using hx)
  rw [Try.params5] at hA hval hsz
  obtain ⟨v0, vs0, d0, ds0, p0, q0, hargs, rfl, rfl, h0, r0⟩ := trodAll_cons hA
  obtain ⟨v1, vs1, d1, ds1, p1, q1, rfl, rfl, rfl, h1, r1⟩ := trodAll_cons r0
  obtain ⟨rfl, rfl, rfl⟩ := trodAll_nil r1
  obtain rfl : args = #[v0, v1] := by cases args; simp_all
  obtain ⟨a0, cs0, c0, rfl, hz0, hl0⟩ := open_cards (u := 49) (e := 104) (by kernel_rfl) Try.underlying104 (by kernel_rfl) (by kernel_rfl) (by kernel_rfl) (by kernel_rfl) (by kernel_rfl) (by kernel_rfl) (by kernel_rfl) (by kernel_rfl) (by kernel_rfl) (hval 0 37 v0 rfl rfl) h0
  obtain ⟨a1, b1, c1, d1, rfl, ha1, hb1, hc1, hd1⟩ := open_query (e := 49) Try.underlying52 (by kernel_rfl) (by kernel_rfl) (by kernel_rfl) (hval 1 52 v1 rfl rfl)
  refine (fnExactMakeAnswer_walk a0 cs0 c0 a1 b1 c1 d1 ha1 hb1 hc1 hd1 W hz0 hl0).mono fun e W' ⟨he, hb⟩ => ?_
  subst he
  exact ⟨_, rfl, law_post laidOut rfl Try.underlying4 (of_all (by kernel_rfl)) rfl hW' rfl rfl rfl hb⟩

theorem fnExactMakeAnswer_over : Rows.fnExactMakeAnswerRow.holds Try.pinned (OpenSpec.ofChange Rows.fnExactMakeAnswerSpec) :=
  OpenClaim.holds_of_wide 5 Try.f5 rfl rfl rfl rfl rfl rfl rfl ⟨rfl, rfl, rfl, rfl, rfl⟩ rfl rfl rfl rfl rfl (by kernel_rfl) Try.func5 (by kernel_rfl)
    (of_decide_eq_true (by kernel_rfl)) (by unfold Func.isWrapper; rw [if_neg (of_decide_eq_false (by kernel_rfl))]; exact ⟨rfl, rfl⟩)
    (fun os started H enc _ => fnExactMakeAnswer_lifted os started H enc)

/-- The statement. -/
theorem fnExactMakeAnswer_holds : Rows.FnExactMakeAnswerSaid := fnExactMakeAnswer_over
end
end Go.Proofs.Ytanocllpmjhblaa
