/- One pass, the program's: what stays lies in front, what drops behind it. -/
import Derived.Test.YtdbkplfkilaoeaaPassS
import Derived.Test.YtdbkplfkilaoeaaAnsI
import Derived.Test.YtdbkplfkilaoeaaQuiet
import Derived.Test.YtdbkplfkilaoeaaBoxes
import Derived.ArgAppend
namespace Go.Proofs.Ytdbkplfkilaoeaa
open Go.ChangeShapes Go.WideShapes Go.ChangeAt Go.RowKit

theorem qd_bit (a b h : Int) (ha : U64 a) (hb : U64 b) (h0 : 0 ≤ h) (h1 : h ≤ 95) : qdrop (b0 h) (b1 h) 0 0 a b = hasB a b h := by
  unfold qdrop allIn meetZ
  rw [within_bit a b h ha hb h0 h1, and_zero_left a ha, and_zero_left b hb]
  simp

theorem wpList_append_at {P : Program} {w : World} {ops : Array Oper} {rest : List Oper} {o : Oper} {a : Act} {Q : Exit → Act → World → Prop} (hgd : o.guard = none) (s x : Operand) (t : TypeId)
    (ho : o.op = .call { callee := .builtin .append, args := #[s, x], argTypes := #[t, t] }) (e : TypeId) (i : TypeInfo) (size : Nat) (ht : P.underlying t = some (.slice e)) (hi : P.info? e = some i) (hz : i.size = size)
    (b off n cap : Nat) (hs : a.eval s = .slice (some ⟨b, off, none⟩) n cap) (ad : Addr) (m c : Nat) (news : List Value) (hx : a.eval x = .slice (some ad) m c) (hl : news.length = m * size) (hnews : ∀ j u, news[j]? = some u → w.cell? (ad.add j) = some u) (h1 : ∀ u ∈ news, u.oneCell' = true)
    (hroom : n + m ≤ cap) (o' : Nat) (ho' : off + n * size = o') (hc : ∀ j, j < news.length → (w.cell? ⟨b, o' + j, none⟩).isSome = true ∧ w.frozen? ⟨b, o' + j, none⟩ = false)
    (h : wpList P ops Q rest (a.put o.dst (.slice (some ⟨b, off, none⟩) (n + m) cap)) (w.setCells b o' news)) : wpList P ops Q (o :: rest) a w := by
  subst hz
  subst ho'
  refine wpList_plain hgd fun K hK => ?_
  have hrun := run_append_room_cells (P := P) w t o.type e i ht hi b off n cap ad m c news hl hnews h1 hroom (fun j hj => (hc j hj).1) (fun j hj => (hc j hj).2)
  unfold Oper.wp
  simp [execOp, ho, resolve, invoke, builtin, hs, hx, hrun, Result.andThen]
  exact hK _ _ h
theorem spare3 {B g n cap i : Nat} {L : List Value} {w : World} (h : w.ownsRow B 50 3 (.slice (some ⟨g, 0, none⟩) n cap) n L) (hi : i < n) (o : Obj) : ∀ j, j < 3 → ((w.alloc o).cell? ⟨g, i * 3 + j, none⟩).isSome = true ∧ (w.alloc o).frozen? ⟨g, i * 3 + j, none⟩ = false := fun j hj => by
  have h2 := World.ownsRow.alloc h o
  refine ⟨?_, h2.frozenAt _⟩
  rw [h2.cellAt (i * 3 + j) (by omega), List.getElem?_eq_getElem (by rw [h.1]; omega)]
  rfl

theorem heap_put {g : Nat} (w : World) (o : Nat) (x y z : Value) (n : Nat) (hne : n ≠ g) : (w.setCells g o [x, y, z]).heap[n]? = w.heap[n]? := (Below.heap_setCell _ _ _ _ hne).trans ((Below.heap_setCell _ _ _ _ hne).trans (Below.heap_setCell _ _ _ _ hne))
theorem len_both (h : Int) (cs : List Cd) : ∀ j, j ≤ cs.length → (stayTo h cs j).length + (dropTo h cs j).length = j
  | 0, _ => rfl
  | j + 1, hj => by
    have ih := len_both h cs j (by omega)
    cases e : hasB (cdAt cs j).a (cdAt cs j).b h
    · rw [(drop_no (by omega) e).1, (drop_no (by omega) e).2, List.length_append]; simp; omega
    · rw [(drop_yes (by omega) e).1, (drop_yes (by omega) e).2, List.length_append]; simp; omega
theorem stay_mono (h : Int) (cs : List Cd) {j k : Nat} (hj : j ≤ k) : (stayTo h cs j).length ≤ (stayTo h cs k).length := by
  unfold stayTo
  have e : cs.take j = (cs.take k).take j := by rw [List.take_take, Nat.min_eq_left hj]
  rw [e]
  exact ((List.take_sublist j (cs.take k)).filter _).length_le
theorem drop_mono (h : Int) (cs : List Cd) {j k : Nat} (hj : j ≤ k) : (dropTo h cs j).length ≤ (dropTo h cs k).length := by
  unfold dropTo
  have e : cs.take j = (cs.take k).take j := by rw [List.take_take, Nat.min_eq_left hj]
  rw [e]
  exact ((List.take_sublist j (cs.take k)).filter _).length_le
/-- The block with the first part of both decks in it. -/
def mixTo (xs ys : List Cd) (ns nd : Nat) : List Cd := xs ++ (List.replicate (ns - xs.length) default ++ (ys ++ List.replicate (nd - ys.length) default))
theorem mix_len {xs ys : List Cd} {ns nd : Nat} (h1 : xs.length ≤ ns) (h2 : ys.length ≤ nd) : (mixTo xs ys ns nd).length = ns + nd := by unfold mixTo; simp; omega
theorem mix_front {xs ys : List Cd} {ns nd : Nat} (x : Cd) (h1 : xs.length < ns) : (mixTo xs ys ns nd).set xs.length x = mixTo (xs ++ [x]) ys ns nd := by
  unfold mixTo
  rw [List.set_append_right _ _ (Nat.le_refl _), Nat.sub_self, show ns - xs.length = (ns - (xs ++ [x]).length) + 1 by simp; omega, List.replicate_succ, List.cons_append, List.set_cons_zero]
  simp
theorem mix_back {xs ys : List Cd} {ns nd : Nat} (x : Cd) (h0 : xs.length ≤ ns) (h1 : ys.length < nd) : (mixTo xs ys ns nd).set (ns + ys.length) x = mixTo xs (ys ++ [x]) ns nd := by
  unfold mixTo
  rw [List.set_append_right _ _ (by omega), List.set_append_right _ _ (by simp; omega), List.set_append_right _ _ (by simp; omega), show ns + ys.length - xs.length - (List.replicate (ns - xs.length) (default : Cd)).length - ys.length = 0 by simp; omega, show nd - ys.length = (nd - (ys ++ [x]).length) + 1 by simp; omega, List.replicate_succ, List.set_cons_zero]
  simp
theorem mix_start (ns nd : Nat) : mixTo [] [] ns nd = List.replicate (ns + nd) default := by
  unfold mixTo; simp
theorem mix_end {xs ys : List Cd} : mixTo xs ys xs.length ys.length = xs ++ ys := by unfold mixTo; simp
theorem flat_def (n : Nat) : (madeCells #[.string ByteArray.empty, .int .u64 0, .int .u64 0] (n * 3)).toList = flatC (List.replicate n default) := by
  have e := rowC_zero (List.replicate n default)
  rw [List.length_replicate] at e
  rw [e]
  apply List.ext_getElem?
  intro i
  by_cases hi : i < n * 3
  · rw [rowC_get _ _ _ (by simpa using hi), if_neg (Nat.not_lt_zero _)]
    have g := flatC_get (List.replicate n default) (i / 3) (by simp; omega)
    have d : cdAt (List.replicate n default) (i / 3) = default := by unfold cdAt; rw [List.getD, List.getElem?_replicate]; split <;> rfl
    rw [d] at g
    rcases (show i % 3 = 0 ∨ i % 3 = 1 ∨ i % 3 = 2 by omega) with r | r | r
    · rw [show i = i / 3 * 3 by omega, g.1]; simp; rfl
    · rw [show i = i / 3 * 3 + 1 by omega, g.2.1, show (i / 3 * 3 + 1) % 3 = 1 by omega]; rfl
    · rw [show i = i / 3 * 3 + 2 by omega, g.2.2, show (i / 3 * 3 + 2) % 3 = 2 by omega]; rfl
  · rw [List.getElem?_eq_none (by rw [rowC_len]; simpa using Nat.le_of_not_lt hi), List.getElem?_eq_none (by rw [flatC_len]; simpa using Nat.le_of_not_lt hi)]
/-- Three cells of a block of the call's own are written at once. -/
theorem own_put {B g n cap : Nat} {L : List Cd} {w : World} (h : w.ownsRow B 50 3 (.slice (some ⟨g, 0, none⟩) n cap) n (flatC L)) (i : Nat) (x : Cd) : (w.setCells g (i * 3) [.string x.s, .int .u64 x.a, .int .u64 x.b]).ownsRow B 50 3 (.slice (some ⟨g, 0, none⟩) n cap) n (flatC (L.set i x)) := by
  have s0 := h.stored (i * 3) (.string x.s)
  have s1 := s0.1.stored (i * 3 + 1) (.int .u64 x.a)
  have s2 := s1.1.stored (i * 3 + 2) (.int .u64 x.b)
  rw [← flatC_set]
  exact s2.1

set_option maxRecDepth 100000 in
set_option maxHeartbeats 3200000 in
theorem iPassOnce_any (ad : Option Addr) (cs : List Cd) (c : Nat) (h : Int) (h0 : 0 ≤ h) (h1 : h ≤ 95) (w : World) (hc : CardsIn w ad cs) (hn : cs.length ≤ 80) :
    Calls Try.prog 29 #[.slice ad cs.length c, .int .i64 h] w fun e w' => ∃ g, e = .returned (.tuple #[.slice (some ⟨g, 0, none⟩) cs.length cs.length, .int .i64 ((stayTo h cs cs.length).length : Int)]) ∧ OwnCards w.heap.size (stayTo h cs cs.length ++ dropTo h cs cs.length) (.slice (some ⟨g, 0, none⟩) cs.length cs.length) w' ∧ Below w.heap.size w w' := by
  obtain ⟨i0, hi, hz0, hz1, hz2⟩ := info_parts info_card
  have hmf : ∀ (fn : Fn) (first cap : Array Value) (w : World), (Instr.makeFunc fn first cap).run Try.prog w = .ok (.func fn first cap) w := fun _ _ _ _ => rfl
  have C := Lib.hid hc
  have ON := Lib.hid fun W => iOne_any h h0 h1 W
  have DF := Lib.hid fun W => iDropsFor_x (b0 h) (b1 h) 0 0 W
  have DR := Lib.hid fun (x : Cd) (hx : x.fits) (b : Nat) (W : World) (hW : W.heap[b]? = some (.cells #[.int .u64 (b0 h), .int .u64 (b1 h), .int .u64 0, .int .u64 0] 90 (0, 0))) => (iDrop_any (b0 h) (b1 h) 0 0 x.a x.b b 0 W (by simpa using cell_of_block hW 0) (by simpa using cell_of_block hW 1) (by simpa using cell_of_block hW 2) (by simpa using cell_of_block hW 3)).mono fun e w' hh => (⟨hh.1.trans (by rw [qd_bit x.a x.b h hx.2.1 hx.2.2 h0 h1]), hh.2⟩ : e = .returned (.bool (hasB x.a x.b h)) ∧ Below W.heap.size W w')
  clear hc
  generalize b0 h = B0 at *
  generalize b1 h = B1 at *
  go_enter Try.func29, Try.ntmps29
  go_wp2_with (first
    | (go_at_call 52; refine (ON.out _).mono ?_; rintro e w1 ⟨rfl, hB⟩; have A1 := Lib.hid hB; clear hB)
    | (go_at_call 51; refine (DF.out _).mono ?_; rintro e w2 ⟨rfl, hE⟩; subst hE; have Q2 := Lib.hid (block_alloc w1 (.cells #[.int .u64 B0, .int .u64 B1, .int .u64 0, .int .u64 0] 90)); have A2 := Lib.hid (below_new A1.out (.cells #[.int .u64 B0, .int .u64 B1, .int .u64 0, .int .u64 0] 90))))
  generalize w1.heap.size = bq at *
  generalize w1.alloc (.cells #[.int .u64 B0, .int .u64 B1, .int .u64 0, .int .u64 0] 90) = w2 at *
  go_loopw [7, 21] (fun st i wr => ∃ j : Nat, j ≤ cs.length ∧ i = .int .i64 j ∧ st = .int .i64 ((stayTo h cs j).length : Int) ∧ wr.heap[bq]? = some (.cells #[.int .u64 B0, .int .u64 B1, .int .u64 0, .int .u64 0] 90 (0, 0)) ∧ Below w.heap.size w wr) (fun _ i _ => cs.length - (intOf i).toNat)
  case atStart => exact ⟨0, Nat.zero_le _, rfl, rfl, Q2.out, A2.out⟩
  case round =>
    obtain ⟨j, hj, rfl, rfl, hQ, hB⟩ := hrel
    have QQ := Lib.hid hQ
    have BB := Lib.hid hB
    clear hQ
    by_cases hjl : j < cs.length
    · have hd : decide ((j : Int) < (cs.length : Int)) = true := by simpa using hjl
      obtain ⟨hf, b1, o1, rfl, hb1, p0, p1, p2⟩ := C.out j hjl
      have d0 := (hB.cell (p := ⟨b1, o1 + j * 3, none⟩) hb1).trans p0
      have d1 := (hB.cell (p := ⟨b1, o1 + j * 3 + 1, none⟩) hb1).trans p1
      have d2 := (hB.cell (p := ⟨b1, o1 + j * 3 + 2, none⟩) hb1).trans p2
      have i1 : (0 : Int) ≤ (j : Int) := by omega
      have i2 : (j : Int) < (cs.length : Int) := by omega
      have ls := stayTo_len h cs j
      have v1 : IntKind.i64.wrap (((stayTo h cs j).length : Int) + 1) = ((stayTo h cs j).length : Int) + 1 := IntWalk.i64_in _ (by omega)
      have D := DR.out (cdAt cs j) hf
      have yes := Lib.hid fun e => (drop_yes (h := h) hjl e).2
      have no := Lib.hid fun e => (drop_no (h := h) hjl e).2
      clear hB p0 p1 p2 hf
      cases hx : hasB (cdAt cs j).a (cdAt cs j).b h
      · rw [hx] at D
        have Y := Lib.hid (no.out hx)
        have D := Lib.hid D
        clear yes no hx
        generalize stayTo h cs j = xs at *
        generalize cdAt cs j = x at *
        obtain ⟨s, xa, xb⟩ := x
        simp only at d0 d1 d2 D Y
        go_wp2_with (go_at_call 70; refine (D.out _ _ (Ab.block (below_new (Below.refl _ _) _) QQ.out)).mono ?_; rintro e w3 ⟨rfl, hB⟩; have A3 := Lib.hid (Ab.trans (below_new (Below.refl wr.heap.size wr) _) hB); clear hB)
        exact ⟨⟨j + 1, hjl, by rw [Int.natCast_succ], by rw [Y.out]; simp, Ab.block A3.out QQ.out, BB.out.trans (Below.mono A3.out BB.out.size)⟩, by (simp [intOf]) <;> omega⟩
      · rw [hx] at D
        have Y := Lib.hid (yes.out hx)
        have D := Lib.hid D
        clear yes no hx
        generalize stayTo h cs j = xs at *
        generalize cdAt cs j = x at *
        obtain ⟨s, xa, xb⟩ := x
        simp only at d0 d1 d2 D Y
        go_wp2_with (go_at_call 70; refine (D.out _ _ (Ab.block (below_new (Below.refl _ _) _) QQ.out)).mono ?_; rintro e w3 ⟨rfl, hB⟩; have A3 := Lib.hid (Ab.trans (below_new (Below.refl wr.heap.size wr) _) hB); clear hB)
        exact ⟨⟨j + 1, hjl, by rw [Int.natCast_succ], by rw [Y.out], Ab.block A3.out QQ.out, BB.out.trans (Below.mono A3.out BB.out.size)⟩, by (simp [intOf]) <;> omega⟩
    · have e : j = cs.length := by omega
      subst e
      have hd : decide ((cs.length : Int) < (cs.length : Int)) = false := by simp
      have ls := stayTo_len h cs cs.length
      clear hB
      generalize hns : (stayTo h cs cs.length).length = ns at *
      go_upto_region 10 with (at_make; refine wpList_make_full _ rfl _ _ 24 rfl wr.heap.size 50 i0 (.agg #[.string ByteArray.empty, .int .u64 0, .int .u64 0]) 3 Try.underlying24 hi hz0 hz1 _ _ _ _ cs.length rfl rfl rfl rfl (by rw [hz2]; omega) (by unfold maxLen; omega) (Nat.le_refl _) ?_; intro w4 hown hgrow; have M := Lib.hid hown; have G := Lib.hid hgrow; clear hown hgrow)
      have B4 := Lib.hid (Below.grown (Below.refl wr.heap.size wr) G.out (Nat.le_refl _) (fun j hj => by cases hj))
      have Q4 := Lib.hid (Ab.block B4.out QQ.out)
      have n1 : (0 : Int) ≤ (ns : Int) := by omega
      have n2 : (ns : Int) ≤ (cs.length : Int) := by omega
      have hbw := cell_bw
      refine region_bw (by kernel_rfl) (by kernel_rfl) ?_
      repeat (go_big_quiet_step (fail))
      refine wpQuiet_nil ?_; intro wq hq; replace hq := below_of_bw hq; obtain ⟨qc, qf, qz⟩ := bcell hq
      have tot := len_both h cs cs.length (Nat.le_refl _)
      rw [hns] at tot
      obtain ⟨nd, hnd⟩ : ∃ nd, (dropTo h cs cs.length).length = nd := ⟨_, rfl⟩
      rw [hnd] at tot
      have NS := Lib.hid hns
      have ND := Lib.hid hnd
      have R0 : wq.ownsRow wr.heap.size 50 3 (.slice (some ⟨wr.heap.size, 0, none⟩) cs.length cs.length) cs.length (flatC (mixTo [] [] ns nd)) := by
        rw [mix_start, tot, ← flat_def]
        exact ownsRow_below M.out hq
      have R5 := Lib.hid R0
      have B5 := Lib.hid ((BB.out.trans (Below.mono B4.out BB.out.size)).trans (Below.mono hq (BB.out.trans (Below.mono B4.out BB.out.size)).size))
      have Q5 := Lib.hid (Ab.block hq Q4.out)
      have hbq : bq < wr.heap.size := lt_of_block QQ.out
      have hg0 : w.heap.size ≤ wr.heap.size := BB.out.size
      have hba : ns < cs.length → (if cs.length = ns then some (⟨wr.heap.size, 0, none⟩ : Addr) else some ⟨wr.heap.size, ns * 3, none⟩) = some ⟨wr.heap.size, ns * 3, none⟩ := fun e => if_neg (by omega)
      have HBA := Lib.hid hba
      clear hns hnd R0 M G B4 Q4 hba hq qc qf qz hbw n1 n2 QQ BB
      generalize (if cs.length = ns then some (⟨wr.heap.size, 0, none⟩ : Addr) else some ⟨wr.heap.size, ns * 3, none⟩) = ba0 at *
      generalize wr.heap.size = g at *
      go_wp2
      go_loopw [11, 12, 47] (fun f b i W => ∃ j : Nat, j ≤ cs.length ∧ i = .int .i64 j ∧ f = .slice (some ⟨g, 0, none⟩) (stayTo h cs j).length ns ∧ (∃ ba, b = .slice ba (dropTo h cs j).length (cs.length - ns) ∧ (ns < cs.length → ba = some ⟨g, ns * 3, none⟩)) ∧ W.ownsRow g 50 3 (.slice (some ⟨g, 0, none⟩) cs.length cs.length) cs.length (flatC (mixTo (stayTo h cs j) (dropTo h cs j) ns nd)) ∧ W.heap[bq]? = some (.cells #[.int .u64 B0, .int .u64 B1, .int .u64 0, .int .u64 0] 90 (0, 0)) ∧ Below w.heap.size w W) (fun _ _ i _ => cs.length - (intOf i).toNat)
      case atStart => exact ⟨0, Nat.zero_le _, rfl, rfl, ⟨ba0, rfl, HBA.out⟩, R5.out, Q5.out, B5.out⟩
      case round =>
        obtain ⟨j, hj, rfl, rfl, ⟨ba, rfl, hba⟩, hR, hQ, hB⟩ := hrel
        have QQ := Lib.hid hQ
        have BB := Lib.hid hB
        have RR := Lib.hid hR
        clear hQ hR
        by_cases hjl : j < cs.length
        · have hd : decide ((j : Int) < (cs.length : Int)) = true := by simpa using hjl
          obtain ⟨hf, b1, o1, rfl, hb1, p0, p1, p2⟩ := C.out j hjl
          have d0 := (hB.cell (p := ⟨b1, o1 + j * 3, none⟩) hb1).trans p0
          have d1 := (hB.cell (p := ⟨b1, o1 + j * 3 + 1, none⟩) hb1).trans p1
          have d2 := (hB.cell (p := ⟨b1, o1 + j * 3 + 2, none⟩) hb1).trans p2
          have i1 : (0 : Int) ≤ (j : Int) := by omega
          have i2 : (j : Int) < (cs.length : Int) := by omega
          have m1 := stay_mono h cs (show j + 1 ≤ cs.length by omega)
          have m2 := drop_mono h cs (show j + 1 ≤ cs.length by omega)
          have s1 := stay_mono h cs (show j ≤ cs.length by omega)
          have t1 := drop_mono h cs (show j ≤ cs.length by omega)
          rw [NS.out] at m1 s1
          rw [ND.out] at m2 t1
          have s2 : (stayTo h cs j).length ≤ ns := s1
          have D := DR.out (cdAt cs j) hf
          have yes := Lib.hid fun e => drop_yes (h := h) hjl e
          have no := Lib.hid fun e => drop_no (h := h) hjl e
          clear hB p0 p1 p2 hf
          cases hx : hasB (cdAt cs j).a (cdAt cs j).b h
          · rw [hx] at D
            have Y := Lib.hid (no.out hx)
            have D := Lib.hid D
            have hlt : (stayTo h cs j).length < ns := by rw [(no.out hx).2, List.length_append] at m1; simp at m1; omega
            skip
            clear yes no hx m1 m2 s1 t1
            generalize stayTo h cs j = xs at *
            generalize dropTo h cs j = ys at *
            generalize cdAt cs j = x at *
            obtain ⟨s, xa, xb⟩ := x
            simp only at d0 d1 d2 D Y
            go_wp2_with (first
              | (go_at_call 70; refine (D.out _ _ (Ab.block (below_new (Below.refl _ _) _) QQ.out)).mono ?_; rintro e w3 ⟨rfl, hB⟩; have A3 := Lib.hid (Ab.trans (below_new (Below.refl wr.heap.size wr) _) hB); have N3 := cell_of_block (Ab.block hB (block_alloc wr _)); have q3 := lt_of_block (Ab.block hB (block_alloc wr _)); have R3 := Lib.hid (ownsRow_below RR.out A3.out); have B3 := Lib.hid (BB.out.trans (Below.mono A3.out BB.out.size)); have Q3 := Lib.hid (Ab.block A3.out QQ.out); clear hB)
              | (at_builtin; refine wpList_append_at rfl _ _ 24 rfl 50 i0 3 Try.underlying24 hi hz1 g 0 xs.length ns rfl ⟨w3.heap.size, 0, none⟩ 1 1 [.string s, .int .u64 xa, .int .u64 xb] rfl rfl (new3 _ _ _ _ _) (fun x hx => by simp at hx; rcases hx with rfl | rfl | rfl <;> rfl) (by omega) (xs.length * 3) (by omega) (spare3 R3.out (by omega) _) ?_))
            have P := own_put (World.ownsRow.alloc R3.out (.cells #[.string s, .int .u64 xa, .int .u64 xb] 50)) xs.length ⟨s, xa, xb⟩
            rw [mix_front _ hlt] at P
            have L3 := lt_of_block Q3.out
            exact ⟨⟨j + 1, hjl, by rw [Int.natCast_succ], by rw [Y.out.2, List.length_append]; rfl, ⟨ba, by rw [Y.out.1], hba⟩, by rw [Y.out.1, Y.out.2]; exact P, (heap_put _ _ _ _ _ _ (Nat.ne_of_lt hbq)).trans ((Below.heap_alloc _ _ _ L3).trans Q3.out), (((below_new B3.out _).setCell hg0 _).setCell hg0 _).setCell hg0 _⟩, by (simp [intOf]) <;> omega⟩
          · rw [hx] at D
            have Y := Lib.hid (yes.out hx)
            have D := Lib.hid D
            have hlt : (dropTo h cs j).length < nd := by rw [(yes.out hx).1, List.length_append] at m2; simp at m2; omega
            obtain rfl := hba (by omega)
            clear yes no hx m1 m2 s1 t1
            generalize stayTo h cs j = xs at *
            generalize dropTo h cs j = ys at *
            generalize cdAt cs j = x at *
            obtain ⟨s, xa, xb⟩ := x
            simp only at d0 d1 d2 D Y
            go_wp2_with (first
              | (go_at_call 70; refine (D.out _ _ (Ab.block (below_new (Below.refl _ _) _) QQ.out)).mono ?_; rintro e w3 ⟨rfl, hB⟩; have A3 := Lib.hid (Ab.trans (below_new (Below.refl wr.heap.size wr) _) hB); have N3 := cell_of_block (Ab.block hB (block_alloc wr _)); have q3 := lt_of_block (Ab.block hB (block_alloc wr _)); have R3 := Lib.hid (ownsRow_below RR.out A3.out); have B3 := Lib.hid (BB.out.trans (Below.mono A3.out BB.out.size)); have Q3 := Lib.hid (Ab.block A3.out QQ.out); clear hB)
              | (at_builtin; refine wpList_append_at rfl _ _ 24 rfl 50 i0 3 Try.underlying24 hi hz1 g (ns * 3) ys.length (cs.length - ns) rfl ⟨w3.heap.size, 0, none⟩ 1 1 [.string s, .int .u64 xa, .int .u64 xb] rfl rfl (new3 _ _ _ _ _) (fun x hx => by simp at hx; rcases hx with rfl | rfl | rfl <;> rfl) (by omega) ((ns + ys.length) * 3) (by omega) (spare3 R3.out (by omega) _) ?_))
            have P := own_put (World.ownsRow.alloc R3.out (.cells #[.string s, .int .u64 xa, .int .u64 xb] 50)) (ns + ys.length) ⟨s, xa, xb⟩
            rw [mix_back _ s2 hlt] at P
            have L3 := lt_of_block Q3.out
            exact ⟨⟨j + 1, hjl, by rw [Int.natCast_succ], by rw [Y.out.2], ⟨_, by rw [Y.out.1, List.length_append]; rfl, fun _ => rfl⟩, by rw [Y.out.1, Y.out.2]; exact P, (heap_put _ _ _ _ _ _ (Nat.ne_of_lt hbq)).trans ((Below.heap_alloc _ _ _ L3).trans Q3.out), (((below_new B3.out _).setCell hg0 _).setCell hg0 _).setCell hg0 _⟩, by (simp [intOf]) <;> omega⟩
        · have e : j = cs.length := by omega
          subst e
          have hd : decide ((cs.length : Int) < (cs.length : Int)) = false := by simp
          clear hB
          have R9 := RR.out
          rw [← NS.out, ← ND.out, mix_end] at R9
          have L9 : cs.length = (stayTo h cs cs.length ++ dropTo h cs cs.length).length := by rw [List.length_append, NS.out, ND.out, tot]
          have O9 : OwnCards w.heap.size (stayTo h cs cs.length ++ dropTo h cs cs.length) (.slice (some ⟨g, 0, none⟩) cs.length cs.length) wr := by
            refine ownCards_weaken (B := g) ?_ hg0
            unfold OwnCards
            rw [← L9]
            exact R9
          have O9 := Lib.hid O9
          clear R9 L9
          go_wp2
          go_ret2
          exact ⟨g, by rw [NS.out]; rfl, O9.out, BB.out⟩
end Go.Proofs.Ytdbkplfkilaoeaa
