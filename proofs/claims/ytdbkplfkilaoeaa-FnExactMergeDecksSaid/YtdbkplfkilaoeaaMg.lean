/- Two decks put together by a key: mathematics, and the program's contract. -/
import Derived.Test.YtdbkplfkilaoeaaSortI
import Derived.Test.YtdbkplfkilaoeaaSplit
import Derived.Deep.RegionLaw
import Derived.Deep.AppendLies
namespace Go.Proofs.Ytdbkplfkilaoeaa
open Go.ChangeShapes Go.WideShapes Go.ChangeAt Go.RowKit

/-- Two decks put together: the least key first; of equal ones that of the first deck. -/
def mrg (ky : Cd → Int) : List Cd → List Cd → List Cd
  | [], qs => qs
  | a :: ps, [] => a :: ps
  | a :: ps, b :: qs => if ky b < ky a then b :: mrg ky (a :: ps) qs else a :: mrg ky ps (b :: qs)
termination_by ps qs => ps.length + qs.length
theorem mrg_nl (ky : Cd → Int) (qs : List Cd) : mrg ky [] qs = qs := by rw [mrg]
theorem mrg_nr (ky : Cd → Int) (ps : List Cd) : mrg ky ps [] = ps := by cases ps <;> rw [mrg]
theorem mrg_b0 (ky : Cd → Int) (b : Cd) (qs : List Cd) : mrg ky [] (b :: qs) = b :: mrg ky [] qs := by rw [mrg_nl, mrg_nl]
theorem mrg_a0 (ky : Cd → Int) (a : Cd) (ps : List Cd) : mrg ky (a :: ps) [] = a :: mrg ky ps [] := by rw [mrg_nr, mrg_nr]
theorem mrg_b1 {ky : Cd → Int} {a b : Cd} {ps qs : List Cd} (h : ky b < ky a) : mrg ky (a :: ps) (b :: qs) = b :: mrg ky (a :: ps) qs := by rw [mrg, if_pos h]
theorem mrg_a1 {ky : Cd → Int} {a b : Cd} {ps qs : List Cd} (h : ¬ ky b < ky a) : mrg ky (a :: ps) (b :: qs) = a :: mrg ky ps (b :: qs) := by rw [mrg, if_neg h]
theorem mrg_len (ky : Cd → Int) : ∀ (n : Nat) (ps qs : List Cd), ps.length + qs.length = n → (mrg ky ps qs).length = n
  | n, [], qs, h => by rw [mrg_nl]; simpa using h
  | n, a :: ps, [], h => by rw [mrg_nr]; simpa using h
  | 0, a :: ps, b :: qs, h => by simp at h
  | n + 1, a :: ps, b :: qs, h => by
    by_cases e : ky b < ky a
    · rw [mrg_b1 e, List.length_cons, mrg_len ky n (a :: ps) qs (by simp only [List.length_cons] at h ⊢; omega)]
    · rw [mrg_a1 e, List.length_cons, mrg_len ky n ps (b :: qs) (by simp only [List.length_cons] at h ⊢; omega)]
theorem mrg_mem (ky : Cd → Int) : ∀ (n : Nat) (ps qs : List Cd), ps.length + qs.length = n → ∀ x ∈ mrg ky ps qs, x ∈ ps ∨ x ∈ qs
  | n, [], qs, h, x, hx => by rw [mrg_nl] at hx; exact .inr hx
  | n, a :: ps, [], h, x, hx => by rw [mrg_nr] at hx; exact .inl hx
  | 0, a :: ps, b :: qs, h, x, hx => by simp at h
  | n + 1, a :: ps, b :: qs, h, x, hx => by
    by_cases e : ky b < ky a
    · rw [mrg_b1 e] at hx
      rcases List.mem_cons.1 hx with rfl | hx
      · exact .inr (List.mem_cons_self ..)
      · exact (mrg_mem ky n (a :: ps) qs (by simp only [List.length_cons] at h ⊢; omega) x hx).imp id (List.mem_cons_of_mem _)
    · rw [mrg_a1 e] at hx
      rcases List.mem_cons.1 hx with rfl | hx
      · exact .inl (List.mem_cons_self ..)
      · exact (mrg_mem ky n ps (b :: qs) (by simp only [List.length_cons] at h ⊢; omega) x hx).imp (List.mem_cons_of_mem _) id
def kyC (k st sz : Int) (c : Cd) : Int := ((kv (hasB c.a c.b) (srt k st sz) : Nat) : Int)
/-- How long a slice is. -/
def slN : Value → Nat
  | .slice _ n _ => n
  | _ => 0
theorem cards_tl {w : World} {b o : Nat} {a : Cd} {ps : List Cd} (h : CardsIn w (some ⟨b, o, none⟩) (a :: ps)) : CardsIn w (some ⟨b, o + 3, none⟩) ps := fun i hi => by
  obtain ⟨hf, _, _, ha, hb, h0, h1, h2⟩ := h (i + 1) (by simp; omega)
  cases ha
  have o' : o + (i + 1) * 3 = o + 3 + i * 3 := by omega
  rw [o'] at h0 h1 h2
  exact ⟨hf, _, _, rfl, hb, h0, h1, h2⟩
theorem cards_none {w : World} {a : Option Addr} : CardsIn w a [] := fun i hi => absurd hi (Nat.not_lt_zero _)
theorem cards_hd {w : World} {ad : Option Addr} {a : Cd} {ps : List Cd} (h : CardsIn w ad (a :: ps)) : a.fits ∧ ∃ b o, ad = some ⟨b, o, none⟩ ∧ b < w.heap.size ∧ w.cell? ⟨b, o, none⟩ = some (.string a.s) ∧ w.cell? ⟨b, o + 1, none⟩ = some (.int .u64 a.a) ∧ w.cell? ⟨b, o + 2, none⟩ = some (.int .u64 a.b) := by
  obtain ⟨hf, b, off, ha, hb, h0, h1, h2⟩ := h 0 (by simp)
  simp only [Nat.zero_mul, Nat.add_zero] at h0 h1 h2
  exact ⟨hf, b, off, ha, hb, h0, h1, h2⟩
theorem own_pushC {B : Nat} {L : List Cd} {x : Cd} {v : Value} {w : World} (h : w.ownsRow B 50 3 v (L.length + 1) (flatC L ++ [.string x.s, .int .u64 x.a, .int .u64 x.b])) : OwnCards B (L ++ [x]) v w := by
  unfold OwnCards; rw [flatC_app, List.length_append]; exact h

set_option maxRecDepth 100000 in
set_option maxHeartbeats 6400000 in
theorem iMerge_any (s : ByteArray) (k st sz : Int) (hf : fieldOk s k st sz = true) (ad bd : Option Addr) (cs ds : List Cd) (c d : Nat) (w : World) (hc : CardsIn w ad cs) (hd : CardsIn w bd ds) (cl : cs.length ≤ c) (dl : ds.length ≤ d) (hn : cs.length + ds.length ≤ 80) :
    Calls Try.prog 40 #[.func (.func 39) #[.agg #[.string s, .int .i8 k, .int .i16 st, .int .i16 sz]] #[], .slice ad cs.length c, .slice bd ds.length d] w fun e w' => ∃ v, e = .returned v ∧ OwnCards w.heap.size (mrg (kyC k st sz) cs ds) v w' ∧ Below w.heap.size w w' := by
  obtain ⟨i0, hi, hz0, hz1, hz2⟩ := info_parts info_card
  have K := Lib.hid fun (x : Cd) (hx : x.fits) W => show Calls Try.prog 39 #[.agg #[.string s, .int .i8 k, .int .i16 st, .int .i16 sz], .agg #[.int .u64 x.a, .int .u64 x.b]] W fun e w' => e = .returned (.int .i64 (kyC k st sz x)) ∧ Below W.heap.size W w' from iKey_any s k st sz hf x.a x.b hx.2.1 hx.2.2 W
  have HC := Lib.hid hc
  have HD := Lib.hid hd
  have CL := Lib.hid cl
  have DL := Lib.hid dl
  have hbw := cell_bw
  clear hf hc hd cl dl
  go_enter Try.func40, Try.ntmps40
  go_wp2_with (at_make; refine wpList_make_own _ rfl _ _ 24 rfl w.heap.size 50 i0 (.agg #[.string ByteArray.empty, .int .u64 0, .int .u64 0]) 3 Try.underlying24 hi hz0 hz1 .i64 .i64 _ (cs.length + ds.length) rfl rfl rfl (by rw [hz2]; omega) (by unfold maxLen; omega) (Nat.le_refl _) ?_; intro w2 hown hgrow; have O2 := Lib.hid hown; have G2 := Lib.hid hgrow; clear hown hgrow)
  go_loopw [1, 2, 7] (fun ta tb mv wr => ∃ (ps qs L : List Cd) (aa ba : Option Addr) (ac bc : Nat), ta = .slice aa ps.length ac ∧ tb = .slice ba qs.length bc ∧ CardsIn w aa ps ∧ CardsIn w ba qs ∧ ps.length ≤ ac ∧ qs.length ≤ bc ∧ OwnCards w.heap.size L mv wr ∧ L ++ mrg (kyC k st sz) ps qs = mrg (kyC k st sz) cs ds ∧ ps.length + qs.length + L.length ≤ 80 ∧ Below w.heap.size w wr) (fun ta tb _ _ => slN ta + slN tb)
  case atStart => exact ⟨cs, ds, [], ad, bd, c, d, rfl, rfl, HC.out, HD.out, CL.out, DL.out, O2.out, rfl, by simpa using hn, Below.grown (Below.refl w.heap.size w) G2.out (Nat.le_refl _) (fun j hj => by cases hj)⟩
  case round =>
    obtain ⟨ps, qs, L, aa, ba, ac, bc, rfl, rfl, hp, hq, pl, ql, hO, hM, hT, hB⟩ := hrel
    have HP := Lib.hid hp
    have HQ := Lib.hid hq
    have OO := Lib.hid hO
    have MM := Lib.hid hM
    have BB := Lib.hid hB
    clear HC HD CL DL O2 G2 hp hq hM hn
    have j1 : ∀ n : Nat, (1 : Int) ≤ (n : Int) + 1 := fun n => by omega
    have j2 : ∀ n : Nat, ((n : Int) + 1 == 0) = false := fun n => by (simp) <;> omega
    have j3 : ∀ n : Nat, decide ((0 : Int) < (n : Int) + 1) = true := fun n => by (simp) <;> omega
    cases ps with
    | nil =>
      cases qs with
      | nil =>
        have M9 := MM.out
        rw [mrg_nl, List.append_nil] at M9
        have M9 := Lib.hid M9
        clear hO hB
        go_wp2
        go_ret
        exact ⟨_, rfl, M9.out ▸ OO.out, BB.out⟩
      | cons b qs =>
        obtain ⟨bf, b2, o2, rfl, y2, q0, q1, q2⟩ := cards_hd HQ.out
        have e0 := (hB.cell (p := ⟨b2, o2, none⟩) y2).trans q0
        have e1 := (hB.cell (p := ⟨b2, o2 + 1, none⟩) y2).trans q1
        have e2 := (hB.cell (p := ⟨b2, o2 + 2, none⟩) y2).trans q2
        have y3 := Nat.lt_of_lt_of_le y2 hB.size
        have TL := Lib.hid (cards_tl HQ.out)
        have MN := MM.out
        rw [mrg_b0] at MN
        have MN := Lib.hid ((List.append_assoc L [b] _).trans MN)
        simp only [List.length_cons, List.length_nil] at pl ql hT ⊢
        have u1 := j1 qs.length
        have v2 := j2 qs.length
        have x3 := j3 qs.length
        clear j1 j2 j3
        clear hB hO q0 q1 q2
        by_cases hz : bc = 1
        · have hy : qs = [] := List.length_eq_zero_iff.1 (by omega)
          subst hy
          subst hz
          simp only [List.length_nil] at pl ql hT ⊢
          go_wp2_with fail
          refine region_bw (by kernel_rfl) (by kernel_rfl) ?_
          repeat (go_big_quiet_step (fail))
          refine wpQuiet_nil ?_; intro wq hq; replace hq := below_of_bw hq; obtain ⟨qc, qf, qz⟩ := bcell hq
          have O3 := Lib.hid (ownCards_kept OO.out hq)
          have B3 := Lib.hid (BB.out.trans (hq.mono BB.out.size))
          have f0 := (Below.cell hq (p := ⟨b2, o2, none⟩) y3).trans e0
          have f1 := (Below.cell hq (p := ⟨b2, o2 + 1, none⟩) y3).trans e1
          have f2 := (Below.cell hq (p := ⟨b2, o2 + 2, none⟩) y3).trans e2
          have wl := B3.out.size
          clear hq qc qf qz e0 e1 e2
          go_wp2_with fail
          skip
          go_region_law (refine step_append_lies _ (by rfl) _ _ 24 (by rfl) w.heap.size 50 i0 (.agg #[.string ByteArray.empty, .int .u64 0, .int .u64 0]) 3 32 Try.underlying24 hi hz0 hz1 hz2 rfl (by decide) _ _ _ (by rfl) (World.ownsRow.drew (World.ownsRow.alloc O3.out _)) ⟨wq.heap.size, 0, none⟩ 1 1 [.string b.s, .int .u64 b.a, .int .u64 b.b] (by rfl) rfl (fun j u h => new3 wq _ _ _ _ j u h) (fun x hx => by simp at hx; rcases hx with rfl | rfl | rfl <;> rfl) (by omega) (by unfold maxLen; omega) (by omega) (by simp; omega) _ rfl ?_; intro gg cap w3 hown hgrow _ _; have P := Lib.hid (own_pushC hown); have G := Lib.hid hgrow; clear hown hgrow)
          all_goals go_wp2
          all_goals
            have hb4 := Below.grown (B3.out.alloc wl _).drew G.out (by simp; omega) (fun j hj => (World.ownsRow.lt O3.out j hj).1)
            first
            | exact ⟨⟨_, [], L ++ [b], _, some ⟨b2, o2, none⟩, ac, 0, rfl, rfl, HP.out, cards_none, by simp, by simp, P.out, MN.out, by simp only [List.length_append, List.length_cons, List.length_nil]; omega, hb4⟩, by simp only [slN, List.length_cons, List.length_nil]; omega⟩
            | (go_simp; exact ⟨⟨_, _, _, ⟨_, [], L ++ [b], _, some ⟨b2, o2, none⟩, ac, rfl, 0, rfl, HP.out, cards_none, by simp, by simp, P.out, MN.out, by simp only [List.length_append, List.length_cons, List.length_nil]; omega⟩, rfl, rfl, rfl⟩, by simp only [slN, List.length_cons, List.length_nil]; omega⟩)
            | (go_simp; exact ⟨⟨_, _, _, ⟨_, [], L ++ [b], _, some ⟨b2, o2, none⟩, ac, rfl, 0, rfl, HP.out, cards_none, by simp, by simp, P.out, MN.out, by simp only [List.length_append, List.length_cons, List.length_nil]; omega, hb4⟩, rfl, rfl, rfl⟩, by simp only [slN, List.length_cons, List.length_nil]; omega⟩)
        · go_wp2_with fail
          refine region_bw (by kernel_rfl) (by kernel_rfl) ?_
          repeat (go_big_quiet_step (fail))
          refine wpQuiet_nil ?_; intro wq hq; replace hq := below_of_bw hq; obtain ⟨qc, qf, qz⟩ := bcell hq
          have O3 := Lib.hid (ownCards_kept OO.out hq)
          have B3 := Lib.hid (BB.out.trans (hq.mono BB.out.size))
          have f0 := (Below.cell hq (p := ⟨b2, o2, none⟩) y3).trans e0
          have f1 := (Below.cell hq (p := ⟨b2, o2 + 1, none⟩) y3).trans e1
          have f2 := (Below.cell hq (p := ⟨b2, o2 + 2, none⟩) y3).trans e2
          have wl := B3.out.size
          clear hq qc qf qz e0 e1 e2
          go_wp2_with fail
          skip
          go_region_law (refine step_append_lies _ (by rfl) _ _ 24 (by rfl) w.heap.size 50 i0 (.agg #[.string ByteArray.empty, .int .u64 0, .int .u64 0]) 3 32 Try.underlying24 hi hz0 hz1 hz2 rfl (by decide) _ _ _ (by rfl) (World.ownsRow.drew (World.ownsRow.alloc O3.out _)) ⟨wq.heap.size, 0, none⟩ 1 1 [.string b.s, .int .u64 b.a, .int .u64 b.b] (by rfl) rfl (fun j u h => new3 wq _ _ _ _ j u h) (fun x hx => by simp at hx; rcases hx with rfl | rfl | rfl <;> rfl) (by omega) (by unfold maxLen; omega) (by omega) (by simp; omega) _ rfl ?_; intro gg cap w3 hown hgrow _ _; have P := Lib.hid (own_pushC hown); have G := Lib.hid hgrow; clear hown hgrow)
          all_goals go_wp2
          all_goals
            have hb4 := Below.grown (B3.out.alloc wl _).drew G.out (by simp; omega) (fun j hj => (World.ownsRow.lt O3.out j hj).1)
            first
            | exact ⟨⟨_, qs, L ++ [b], _, some ⟨b2, o2 + 3, none⟩, ac, bc - 1, rfl, rfl, HP.out, TL.out, by simp, by omega, P.out, MN.out, by simp only [List.length_append, List.length_cons, List.length_nil]; omega, hb4⟩, by simp only [slN, List.length_cons, List.length_nil]; omega⟩
            | (go_simp; exact ⟨⟨_, _, _, ⟨_, qs, L ++ [b], _, some ⟨b2, o2 + 3, none⟩, ac, rfl, bc - 1, rfl, HP.out, TL.out, by simp, by omega, P.out, MN.out, by simp only [List.length_append, List.length_cons, List.length_nil]; omega⟩, rfl, rfl, rfl⟩, by simp only [slN, List.length_cons, List.length_nil]; omega⟩)
            | (go_simp; exact ⟨⟨_, _, _, ⟨_, qs, L ++ [b], _, some ⟨b2, o2 + 3, none⟩, ac, rfl, bc - 1, rfl, HP.out, TL.out, by simp, by omega, P.out, MN.out, by simp only [List.length_append, List.length_cons, List.length_nil]; omega, hb4⟩, rfl, rfl, rfl⟩, by simp only [slN, List.length_cons, List.length_nil]; omega⟩)
    | cons a ps =>
      cases qs with
      | nil =>
        obtain ⟨bf, b2, o2, rfl, y2, q0, q1, q2⟩ := cards_hd HP.out
        have e0 := (hB.cell (p := ⟨b2, o2, none⟩) y2).trans q0
        have e1 := (hB.cell (p := ⟨b2, o2 + 1, none⟩) y2).trans q1
        have e2 := (hB.cell (p := ⟨b2, o2 + 2, none⟩) y2).trans q2
        have y3 := Nat.lt_of_lt_of_le y2 hB.size
        have TL := Lib.hid (cards_tl HP.out)
        have MN := MM.out
        rw [mrg_a0] at MN
        have MN := Lib.hid ((List.append_assoc L [a] _).trans MN)
        simp only [List.length_cons, List.length_nil] at pl ql hT ⊢
        have u1 := j1 ps.length
        have v2 := j2 ps.length
        have x3 := j3 ps.length
        clear j1 j2 j3
        clear hB hO q0 q1 q2
        by_cases hz : ac = 1
        · have hy : ps = [] := List.length_eq_zero_iff.1 (by omega)
          subst hy
          subst hz
          simp only [List.length_nil] at pl ql hT ⊢
          go_wp2_with fail
          refine region_bw (by kernel_rfl) (by kernel_rfl) ?_
          repeat (go_big_quiet_step (fail))
          refine wpQuiet_nil ?_; intro wq hq; replace hq := below_of_bw hq; obtain ⟨qc, qf, qz⟩ := bcell hq
          have O3 := Lib.hid (ownCards_kept OO.out hq)
          have B3 := Lib.hid (BB.out.trans (hq.mono BB.out.size))
          have f0 := (Below.cell hq (p := ⟨b2, o2, none⟩) y3).trans e0
          have f1 := (Below.cell hq (p := ⟨b2, o2 + 1, none⟩) y3).trans e1
          have f2 := (Below.cell hq (p := ⟨b2, o2 + 2, none⟩) y3).trans e2
          have wl := B3.out.size
          clear hq qc qf qz e0 e1 e2
          go_wp2_with fail
          skip
          go_region_law (refine step_append_lies _ (by rfl) _ _ 24 (by rfl) w.heap.size 50 i0 (.agg #[.string ByteArray.empty, .int .u64 0, .int .u64 0]) 3 32 Try.underlying24 hi hz0 hz1 hz2 rfl (by decide) _ _ _ (by rfl) (World.ownsRow.drew (World.ownsRow.alloc O3.out _)) ⟨wq.heap.size, 0, none⟩ 1 1 [.string a.s, .int .u64 a.a, .int .u64 a.b] (by rfl) rfl (fun j u h => new3 wq _ _ _ _ j u h) (fun x hx => by simp at hx; rcases hx with rfl | rfl | rfl <;> rfl) (by omega) (by unfold maxLen; omega) (by omega) (by simp; omega) _ rfl ?_; intro gg cap w3 hown hgrow _ _; have P := Lib.hid (own_pushC hown); have G := Lib.hid hgrow; clear hown hgrow)
          all_goals go_wp2
          all_goals
            have hb4 := Below.grown (B3.out.alloc wl _).drew G.out (by simp; omega) (fun j hj => (World.ownsRow.lt O3.out j hj).1)
            first
            | exact ⟨⟨[], _, L ++ [a], some ⟨b2, o2, none⟩, _, 0, bc, rfl, rfl, cards_none, HQ.out, by simp, by simp, P.out, MN.out, by simp only [List.length_append, List.length_cons, List.length_nil]; omega, hb4⟩, by simp only [slN, List.length_cons, List.length_nil]; omega⟩
            | (go_simp; exact ⟨⟨_, _, _, ⟨[], _, L ++ [a], some ⟨b2, o2, none⟩, _, 0, rfl, bc, rfl, cards_none, HQ.out, by simp, by simp, P.out, MN.out, by simp only [List.length_append, List.length_cons, List.length_nil]; omega⟩, rfl, rfl, rfl⟩, by simp only [slN, List.length_cons, List.length_nil]; omega⟩)
            | (go_simp; exact ⟨⟨_, _, _, ⟨[], _, L ++ [a], some ⟨b2, o2, none⟩, _, 0, rfl, bc, rfl, cards_none, HQ.out, by simp, by simp, P.out, MN.out, by simp only [List.length_append, List.length_cons, List.length_nil]; omega, hb4⟩, rfl, rfl, rfl⟩, by simp only [slN, List.length_cons, List.length_nil]; omega⟩)
        · go_wp2_with fail
          refine region_bw (by kernel_rfl) (by kernel_rfl) ?_
          repeat (go_big_quiet_step (fail))
          refine wpQuiet_nil ?_; intro wq hq; replace hq := below_of_bw hq; obtain ⟨qc, qf, qz⟩ := bcell hq
          have O3 := Lib.hid (ownCards_kept OO.out hq)
          have B3 := Lib.hid (BB.out.trans (hq.mono BB.out.size))
          have f0 := (Below.cell hq (p := ⟨b2, o2, none⟩) y3).trans e0
          have f1 := (Below.cell hq (p := ⟨b2, o2 + 1, none⟩) y3).trans e1
          have f2 := (Below.cell hq (p := ⟨b2, o2 + 2, none⟩) y3).trans e2
          have wl := B3.out.size
          clear hq qc qf qz e0 e1 e2
          go_wp2_with fail
          skip
          go_region_law (refine step_append_lies _ (by rfl) _ _ 24 (by rfl) w.heap.size 50 i0 (.agg #[.string ByteArray.empty, .int .u64 0, .int .u64 0]) 3 32 Try.underlying24 hi hz0 hz1 hz2 rfl (by decide) _ _ _ (by rfl) (World.ownsRow.drew (World.ownsRow.alloc O3.out _)) ⟨wq.heap.size, 0, none⟩ 1 1 [.string a.s, .int .u64 a.a, .int .u64 a.b] (by rfl) rfl (fun j u h => new3 wq _ _ _ _ j u h) (fun x hx => by simp at hx; rcases hx with rfl | rfl | rfl <;> rfl) (by omega) (by unfold maxLen; omega) (by omega) (by simp; omega) _ rfl ?_; intro gg cap w3 hown hgrow _ _; have P := Lib.hid (own_pushC hown); have G := Lib.hid hgrow; clear hown hgrow)
          all_goals go_wp2
          all_goals
            have hb4 := Below.grown (B3.out.alloc wl _).drew G.out (by simp; omega) (fun j hj => (World.ownsRow.lt O3.out j hj).1)
            first
            | exact ⟨⟨ps, _, L ++ [a], some ⟨b2, o2 + 3, none⟩, _, ac - 1, bc, rfl, rfl, TL.out, HQ.out, by omega, by simp, P.out, MN.out, by simp only [List.length_append, List.length_cons, List.length_nil]; omega, hb4⟩, by simp only [slN, List.length_cons, List.length_nil]; omega⟩
            | (go_simp; exact ⟨⟨_, _, _, ⟨ps, _, L ++ [a], some ⟨b2, o2 + 3, none⟩, _, ac - 1, rfl, bc, rfl, TL.out, HQ.out, by omega, by simp, P.out, MN.out, by simp only [List.length_append, List.length_cons, List.length_nil]; omega⟩, rfl, rfl, rfl⟩, by simp only [slN, List.length_cons, List.length_nil]; omega⟩)
            | (go_simp; exact ⟨⟨_, _, _, ⟨ps, _, L ++ [a], some ⟨b2, o2 + 3, none⟩, _, ac - 1, rfl, bc, rfl, TL.out, HQ.out, by omega, by simp, P.out, MN.out, by simp only [List.length_append, List.length_cons, List.length_nil]; omega, hb4⟩, rfl, rfl, rfl⟩, by simp only [slN, List.length_cons, List.length_nil]; omega⟩)
      | cons b qs =>
        by_cases hk : kyC k st sz b < kyC k st sz a
        · skip
          obtain ⟨bf, b2, o2, rfl, y2, q0, q1, q2⟩ := cards_hd HQ.out
          obtain ⟨cf, b4, o4, rfl, y4, r0, r1, r2⟩ := cards_hd HP.out
          have g0 := (hB.cell (p := ⟨b4, o4, none⟩) y4).trans r0
          have g1 := (hB.cell (p := ⟨b4, o4 + 1, none⟩) y4).trans r1
          have g2 := (hB.cell (p := ⟨b4, o4 + 2, none⟩) y4).trans r2
          have y5 := Nat.lt_of_lt_of_le y4 hB.size
          have KA := Lib.hid (K.out a cf)
          have KB := Lib.hid (K.out b bf)
          have e0 := (hB.cell (p := ⟨b2, o2, none⟩) y2).trans q0
          have e1 := (hB.cell (p := ⟨b2, o2 + 1, none⟩) y2).trans q1
          have e2 := (hB.cell (p := ⟨b2, o2 + 2, none⟩) y2).trans q2
          have y3 := Nat.lt_of_lt_of_le y2 hB.size
          have TL := Lib.hid (cards_tl HQ.out)
          have MN := MM.out
          rw [mrg_b1 hk] at MN
          have MN := Lib.hid ((List.append_assoc L [b] _).trans MN)
          have dk : decide (kyC k st sz b < kyC k st sz a) = true := decide_eq_true hk
          generalize kyC k st sz a = ka at dk KA
          generalize kyC k st sz b = kb at dk KB
          clear hk
          simp only [List.length_cons, List.length_nil] at pl ql hT ⊢
          have u1 := j1 ps.length
          have v2 := j2 ps.length
          have x3 := j3 ps.length
          have u4 := j1 qs.length
          have v5 := j2 qs.length
          have x6 := j3 qs.length
          clear j1 j2 j3
          clear hB hO q0 q1 q2 r0 r1 r2
          by_cases hz : bc = 1
          · have hy : qs = [] := List.length_eq_zero_iff.1 (by omega)
            subst hy
            subst hz
            simp only [List.length_nil] at pl ql hT ⊢
            go_wp2_with fail
            refine region_bw (by kernel_rfl) (by kernel_rfl) ?_
            repeat (go_big_quiet_step (first | (go_at_call_of 39 (Value.int IntKind.u64 a.a); exact calls_bw (KA.out _)) | (go_at_call_of 39 (Value.int IntKind.u64 b.a); exact calls_bw (KB.out _))))
            refine wpQuiet_nil ?_; intro wq hq; replace hq := below_of_bw hq; obtain ⟨qc, qf, qz⟩ := bcell hq
            have O3 := Lib.hid (ownCards_kept OO.out hq)
            have B3 := Lib.hid (BB.out.trans (hq.mono BB.out.size))
            have f0 := (Below.cell hq (p := ⟨b2, o2, none⟩) y3).trans e0
            have f1 := (Below.cell hq (p := ⟨b2, o2 + 1, none⟩) y3).trans e1
            have f2 := (Below.cell hq (p := ⟨b2, o2 + 2, none⟩) y3).trans e2
            have wl := B3.out.size
            clear hq qc qf qz e0 e1 e2
            go_wp2_with fail
            skip
            go_region_law (refine step_append_lies _ (by rfl) _ _ 24 (by rfl) w.heap.size 50 i0 (.agg #[.string ByteArray.empty, .int .u64 0, .int .u64 0]) 3 32 Try.underlying24 hi hz0 hz1 hz2 rfl (by decide) _ _ _ (by rfl) (World.ownsRow.drew (World.ownsRow.alloc O3.out _)) ⟨wq.heap.size, 0, none⟩ 1 1 [.string b.s, .int .u64 b.a, .int .u64 b.b] (by rfl) rfl (fun j u h => new3 wq _ _ _ _ j u h) (fun x hx => by simp at hx; rcases hx with rfl | rfl | rfl <;> rfl) (by omega) (by unfold maxLen; omega) (by omega) (by simp; omega) _ rfl ?_; intro gg cap w3 hown hgrow _ _; have P := Lib.hid (own_pushC hown); have G := Lib.hid hgrow; clear hown hgrow)
            all_goals go_wp2
            all_goals
              have hb4 := Below.grown (B3.out.alloc wl _).drew G.out (by simp; omega) (fun j hj => (World.ownsRow.lt O3.out j hj).1)
              first
              | exact ⟨⟨_, [], L ++ [b], _, some ⟨b2, o2, none⟩, ac, 0, rfl, rfl, HP.out, cards_none, by simpa using pl, by simp, P.out, MN.out, by simp only [List.length_append, List.length_cons, List.length_nil]; omega, hb4⟩, by simp only [slN, List.length_cons, List.length_nil]; omega⟩
              | (go_simp; exact ⟨⟨_, _, _, ⟨_, [], L ++ [b], _, some ⟨b2, o2, none⟩, ac, rfl, 0, rfl, HP.out, cards_none, by simpa using pl, by simp, P.out, MN.out, by simp only [List.length_append, List.length_cons, List.length_nil]; omega⟩, rfl, rfl, rfl⟩, by simp only [slN, List.length_cons, List.length_nil]; omega⟩)
              | (go_simp; exact ⟨⟨_, _, _, ⟨_, [], L ++ [b], _, some ⟨b2, o2, none⟩, ac, rfl, 0, rfl, HP.out, cards_none, by simpa using pl, by simp, P.out, MN.out, by simp only [List.length_append, List.length_cons, List.length_nil]; omega, hb4⟩, rfl, rfl, rfl⟩, by simp only [slN, List.length_cons, List.length_nil]; omega⟩)
          · go_wp2_with fail
            refine region_bw (by kernel_rfl) (by kernel_rfl) ?_
            repeat (go_big_quiet_step (first | (go_at_call_of 39 (Value.int IntKind.u64 a.a); exact calls_bw (KA.out _)) | (go_at_call_of 39 (Value.int IntKind.u64 b.a); exact calls_bw (KB.out _))))
            refine wpQuiet_nil ?_; intro wq hq; replace hq := below_of_bw hq; obtain ⟨qc, qf, qz⟩ := bcell hq
            have O3 := Lib.hid (ownCards_kept OO.out hq)
            have B3 := Lib.hid (BB.out.trans (hq.mono BB.out.size))
            have f0 := (Below.cell hq (p := ⟨b2, o2, none⟩) y3).trans e0
            have f1 := (Below.cell hq (p := ⟨b2, o2 + 1, none⟩) y3).trans e1
            have f2 := (Below.cell hq (p := ⟨b2, o2 + 2, none⟩) y3).trans e2
            have wl := B3.out.size
            clear hq qc qf qz e0 e1 e2
            go_wp2_with fail
            skip
            go_region_law (refine step_append_lies _ (by rfl) _ _ 24 (by rfl) w.heap.size 50 i0 (.agg #[.string ByteArray.empty, .int .u64 0, .int .u64 0]) 3 32 Try.underlying24 hi hz0 hz1 hz2 rfl (by decide) _ _ _ (by rfl) (World.ownsRow.drew (World.ownsRow.alloc O3.out _)) ⟨wq.heap.size, 0, none⟩ 1 1 [.string b.s, .int .u64 b.a, .int .u64 b.b] (by rfl) rfl (fun j u h => new3 wq _ _ _ _ j u h) (fun x hx => by simp at hx; rcases hx with rfl | rfl | rfl <;> rfl) (by omega) (by unfold maxLen; omega) (by omega) (by simp; omega) _ rfl ?_; intro gg cap w3 hown hgrow _ _; have P := Lib.hid (own_pushC hown); have G := Lib.hid hgrow; clear hown hgrow)
            all_goals go_wp2
            all_goals
              have hb4 := Below.grown (B3.out.alloc wl _).drew G.out (by simp; omega) (fun j hj => (World.ownsRow.lt O3.out j hj).1)
              first
              | exact ⟨⟨_, qs, L ++ [b], _, some ⟨b2, o2 + 3, none⟩, ac, bc - 1, rfl, rfl, HP.out, TL.out, by simpa using pl, by omega, P.out, MN.out, by simp only [List.length_append, List.length_cons, List.length_nil]; omega, hb4⟩, by simp only [slN, List.length_cons, List.length_nil]; omega⟩
              | (go_simp; exact ⟨⟨_, _, _, ⟨_, qs, L ++ [b], _, some ⟨b2, o2 + 3, none⟩, ac, rfl, bc - 1, rfl, HP.out, TL.out, by simpa using pl, by omega, P.out, MN.out, by simp only [List.length_append, List.length_cons, List.length_nil]; omega⟩, rfl, rfl, rfl⟩, by simp only [slN, List.length_cons, List.length_nil]; omega⟩)
              | (go_simp; exact ⟨⟨_, _, _, ⟨_, qs, L ++ [b], _, some ⟨b2, o2 + 3, none⟩, ac, rfl, bc - 1, rfl, HP.out, TL.out, by simpa using pl, by omega, P.out, MN.out, by simp only [List.length_append, List.length_cons, List.length_nil]; omega, hb4⟩, rfl, rfl, rfl⟩, by simp only [slN, List.length_cons, List.length_nil]; omega⟩)
        · skip
          obtain ⟨bf, b2, o2, rfl, y2, q0, q1, q2⟩ := cards_hd HP.out
          obtain ⟨cf, b4, o4, rfl, y4, r0, r1, r2⟩ := cards_hd HQ.out
          have g0 := (hB.cell (p := ⟨b4, o4, none⟩) y4).trans r0
          have g1 := (hB.cell (p := ⟨b4, o4 + 1, none⟩) y4).trans r1
          have g2 := (hB.cell (p := ⟨b4, o4 + 2, none⟩) y4).trans r2
          have y5 := Nat.lt_of_lt_of_le y4 hB.size
          have KA := Lib.hid (K.out a bf)
          have KB := Lib.hid (K.out b cf)
          have e0 := (hB.cell (p := ⟨b2, o2, none⟩) y2).trans q0
          have e1 := (hB.cell (p := ⟨b2, o2 + 1, none⟩) y2).trans q1
          have e2 := (hB.cell (p := ⟨b2, o2 + 2, none⟩) y2).trans q2
          have y3 := Nat.lt_of_lt_of_le y2 hB.size
          have TL := Lib.hid (cards_tl HP.out)
          have MN := MM.out
          rw [mrg_a1 hk] at MN
          have MN := Lib.hid ((List.append_assoc L [a] _).trans MN)
          have dk : decide (kyC k st sz b < kyC k st sz a) = false := decide_eq_false hk
          generalize kyC k st sz a = ka at dk KA
          generalize kyC k st sz b = kb at dk KB
          clear hk
          simp only [List.length_cons, List.length_nil] at pl ql hT ⊢
          have u1 := j1 ps.length
          have v2 := j2 ps.length
          have x3 := j3 ps.length
          have u4 := j1 qs.length
          have v5 := j2 qs.length
          have x6 := j3 qs.length
          clear j1 j2 j3
          clear hB hO q0 q1 q2 r0 r1 r2
          by_cases hz : ac = 1
          · have hy : ps = [] := List.length_eq_zero_iff.1 (by omega)
            subst hy
            subst hz
            simp only [List.length_nil] at pl ql hT ⊢
            go_wp2_with fail
            refine region_bw (by kernel_rfl) (by kernel_rfl) ?_
            repeat (go_big_quiet_step (first | (go_at_call_of 39 (Value.int IntKind.u64 a.a); exact calls_bw (KA.out _)) | (go_at_call_of 39 (Value.int IntKind.u64 b.a); exact calls_bw (KB.out _))))
            refine wpQuiet_nil ?_; intro wq hq; replace hq := below_of_bw hq; obtain ⟨qc, qf, qz⟩ := bcell hq
            have O3 := Lib.hid (ownCards_kept OO.out hq)
            have B3 := Lib.hid (BB.out.trans (hq.mono BB.out.size))
            have f0 := (Below.cell hq (p := ⟨b2, o2, none⟩) y3).trans e0
            have f1 := (Below.cell hq (p := ⟨b2, o2 + 1, none⟩) y3).trans e1
            have f2 := (Below.cell hq (p := ⟨b2, o2 + 2, none⟩) y3).trans e2
            have wl := B3.out.size
            clear hq qc qf qz e0 e1 e2
            go_wp2_with fail
            skip
            go_region_law (refine step_append_lies _ (by rfl) _ _ 24 (by rfl) w.heap.size 50 i0 (.agg #[.string ByteArray.empty, .int .u64 0, .int .u64 0]) 3 32 Try.underlying24 hi hz0 hz1 hz2 rfl (by decide) _ _ _ (by rfl) (World.ownsRow.drew (World.ownsRow.alloc O3.out _)) ⟨wq.heap.size, 0, none⟩ 1 1 [.string a.s, .int .u64 a.a, .int .u64 a.b] (by rfl) rfl (fun j u h => new3 wq _ _ _ _ j u h) (fun x hx => by simp at hx; rcases hx with rfl | rfl | rfl <;> rfl) (by omega) (by unfold maxLen; omega) (by omega) (by simp; omega) _ rfl ?_; intro gg cap w3 hown hgrow _ _; have P := Lib.hid (own_pushC hown); have G := Lib.hid hgrow; clear hown hgrow)
            all_goals go_wp2
            all_goals
              have hb4 := Below.grown (B3.out.alloc wl _).drew G.out (by simp; omega) (fun j hj => (World.ownsRow.lt O3.out j hj).1)
              first
              | exact ⟨⟨[], _, L ++ [a], some ⟨b2, o2, none⟩, _, 0, bc, rfl, rfl, cards_none, HQ.out, by simp, by simpa using ql, P.out, MN.out, by simp only [List.length_append, List.length_cons, List.length_nil]; omega, hb4⟩, by simp only [slN, List.length_cons, List.length_nil]; omega⟩
              | (go_simp; exact ⟨⟨_, _, _, ⟨[], _, L ++ [a], some ⟨b2, o2, none⟩, _, 0, rfl, bc, rfl, cards_none, HQ.out, by simp, by simpa using ql, P.out, MN.out, by simp only [List.length_append, List.length_cons, List.length_nil]; omega⟩, rfl, rfl, rfl⟩, by simp only [slN, List.length_cons, List.length_nil]; omega⟩)
              | (go_simp; exact ⟨⟨_, _, _, ⟨[], _, L ++ [a], some ⟨b2, o2, none⟩, _, 0, rfl, bc, rfl, cards_none, HQ.out, by simp, by simpa using ql, P.out, MN.out, by simp only [List.length_append, List.length_cons, List.length_nil]; omega, hb4⟩, rfl, rfl, rfl⟩, by simp only [slN, List.length_cons, List.length_nil]; omega⟩)
          · go_wp2_with fail
            refine region_bw (by kernel_rfl) (by kernel_rfl) ?_
            repeat (go_big_quiet_step (first | (go_at_call_of 39 (Value.int IntKind.u64 a.a); exact calls_bw (KA.out _)) | (go_at_call_of 39 (Value.int IntKind.u64 b.a); exact calls_bw (KB.out _))))
            refine wpQuiet_nil ?_; intro wq hq; replace hq := below_of_bw hq; obtain ⟨qc, qf, qz⟩ := bcell hq
            have O3 := Lib.hid (ownCards_kept OO.out hq)
            have B3 := Lib.hid (BB.out.trans (hq.mono BB.out.size))
            have f0 := (Below.cell hq (p := ⟨b2, o2, none⟩) y3).trans e0
            have f1 := (Below.cell hq (p := ⟨b2, o2 + 1, none⟩) y3).trans e1
            have f2 := (Below.cell hq (p := ⟨b2, o2 + 2, none⟩) y3).trans e2
            have wl := B3.out.size
            clear hq qc qf qz e0 e1 e2
            go_wp2_with fail
            skip
            go_region_law (refine step_append_lies _ (by rfl) _ _ 24 (by rfl) w.heap.size 50 i0 (.agg #[.string ByteArray.empty, .int .u64 0, .int .u64 0]) 3 32 Try.underlying24 hi hz0 hz1 hz2 rfl (by decide) _ _ _ (by rfl) (World.ownsRow.drew (World.ownsRow.alloc O3.out _)) ⟨wq.heap.size, 0, none⟩ 1 1 [.string a.s, .int .u64 a.a, .int .u64 a.b] (by rfl) rfl (fun j u h => new3 wq _ _ _ _ j u h) (fun x hx => by simp at hx; rcases hx with rfl | rfl | rfl <;> rfl) (by omega) (by unfold maxLen; omega) (by omega) (by simp; omega) _ rfl ?_; intro gg cap w3 hown hgrow _ _; have P := Lib.hid (own_pushC hown); have G := Lib.hid hgrow; clear hown hgrow)
            all_goals go_wp2
            all_goals
              have hb4 := Below.grown (B3.out.alloc wl _).drew G.out (by simp; omega) (fun j hj => (World.ownsRow.lt O3.out j hj).1)
              first
              | exact ⟨⟨ps, _, L ++ [a], some ⟨b2, o2 + 3, none⟩, _, ac - 1, bc, rfl, rfl, TL.out, HQ.out, by omega, by simpa using ql, P.out, MN.out, by simp only [List.length_append, List.length_cons, List.length_nil]; omega, hb4⟩, by simp only [slN, List.length_cons, List.length_nil]; omega⟩
              | (go_simp; exact ⟨⟨_, _, _, ⟨ps, _, L ++ [a], some ⟨b2, o2 + 3, none⟩, _, ac - 1, rfl, bc, rfl, TL.out, HQ.out, by omega, by simpa using ql, P.out, MN.out, by simp only [List.length_append, List.length_cons, List.length_nil]; omega⟩, rfl, rfl, rfl⟩, by simp only [slN, List.length_cons, List.length_nil]; omega⟩)
              | (go_simp; exact ⟨⟨_, _, _, ⟨ps, _, L ++ [a], some ⟨b2, o2 + 3, none⟩, _, ac - 1, rfl, bc, rfl, TL.out, HQ.out, by omega, by simpa using ql, P.out, MN.out, by simp only [List.length_append, List.length_cons, List.length_nil]; omega, hb4⟩, rfl, rfl, rfl⟩, by simp only [slN, List.length_cons, List.length_nil]; omega⟩)
end Go.Proofs.Ytdbkplfkilaoeaa
