/- Contract: the program's UndoEdits. -/
import Derived.Test.YtpgonfeobfefaaaEdUR
import Derived.Shelf.Abstract
import Derived.Test.YtpgonfeobfefaaaInR
namespace Go.Proofs.Ytpgonfeobfefaaa
open Go.ChangeShapes Go.WideShapes Go.ChangeAt Go.RowKit
attribute [local go_sem] Oper.semAt_some

set_option maxRecDepth 100000 in
set_option maxHeartbeats 6400000 in
theorem iUndo_any (ad : Option Addr) (cs : List Ed) (c : Nat) (w : World) (hc : EditsIn w ad cs) (hn : cs.length ≤ 1048576) :
    Calls Try.prog 11 #[.slice ad cs.length c] w (UnR (unA cs) (edsC cs) w) := by
  obtain ⟨i0, hi, hz0, hz1, hz2⟩ := info_parts info_ed
  have C := Lib.hid hc
  have V := Lib.hid (iChk_any ad cs c w hc hn)
  clear hc
  by_cases h0 : edsC cs = 0
  case neg =>
    rw [unA_no h0]
    have d1 : (edsC cs != 0) = true := by simp [h0]
    clear h0
    generalize edsC cs = k at *
    go_enter Try.func11, Try.ntmps11
    go_wp2_with (go_at_call 51; refine V.out.mono ?_; rintro e w1 ⟨rfl, hB⟩; have b1 := Lib.hid hB; clear hB)
    go_returns
    exact ⟨_, rfl, ownEdits_nil _ _, b1.out⟩
  rw [unA_yes h0, h0]
  have h1 : edTil cs cs.length = true ∧ cs.length ≤ 200 := by
    unfold edsC at h0
    split at h0
    · rename_i h; split at h0
      · exact ⟨h, by assumption⟩
      · cases h0
    · cases h0
  rw [h0] at V
  have KI := Lib.hid fun j (hj : j < cs.length) => edOk_kind (edTil_at h1.1 hj)
  have hl := h1.2
  clear h0 h1
  refine (callsIn_wide (n := 0)).1 (callsIn_of_wp_marks Try.func11 rfl trivial ?_ rfl)
  simp only [Try.ntmps11, List.size_toArray, List.length_cons, List.length_nil, Nat.reduceAdd, Nat.reduceSub, Array.replicate_succ, Array.replicate_zero, List.push_toArray, List.append_toArray, List.nil_append, List.cons_append]
  refine wpIn_wide.2 ?_
  go_wp2_with (first
    | (go_at_call 51; refine V.out.mono ?_; rintro e w1 ⟨rfl, hB⟩; have b1 := Lib.hid hB; clear hB)
    | (at_make; refine wpList_make_own _ rfl _ _ 24 rfl w1.heap.size 86 i0 (.agg #[.int .i8 0, .string ByteArray.empty, .int .i16 0, .int .u64 0, .int .u64 0]) 5 Try.underlying24 hi hz0 hz1 .i64 .i64 _ cs.length rfl rfl rfl (by rw [hz2]; omega) (by unfold maxLen; omega) (Nat.le_refl _) ?_; intro w2 hown hgrow; have M := Lib.hid hown; have G := Lib.hid hgrow; clear hown hgrow)
    | (go_at_call 52; refine (backward_any _ _ _ _).mono ?_; rintro e w3 ⟨rfl, p1, hz, hB⟩; have P1 := Lib.hid p1; have BB := Lib.hid hB; have HZ := Lib.hid hz; clear p1 hB hz))
  have B2 : Below w.heap.size w w2 := Below.grown b1.out G.out b1.out.size (fun j hj => by cases hj)
  have W1 := b1.out.size
  have G2 := Lib.hid (World.ownsRow.lt M.out w1.heap.size rfl).2
  have B3 : Below w.heap.size w w3 := (below_new B2 _).trans (Below.mono BB.out (by simp; have := B2.size; omega))
  have S3 := B3.size
  have G2' := G2.out
  have H5 := Ab.block BB.out (block_alloc w2 (.cells #[.slice (some ⟨w1.heap.size, 0, none⟩) 0 cs.length] 24))
  have O3 : OwnEdits w1.heap.size [] (.slice (some ⟨w1.heap.size, 0, none⟩) 0 cs.length) w3 := ownEdits_kept (World.ownsRow.alloc M.out _) BB.out
  have sz3 : w3.heap.size = w2.heap.size + 2 := by rw [HZ.out]; simp
  have hq := backward_by _ ad cs c hn w3 (by rw [sz3]; simp) P1.out (editsIn_below C.out B3)
  simp only [World.size_alloc] at hq
  generalize hg5 : w2.heap.size = g5 at *
  clear P1 BB HZ M G B2
  have CI := Lib.hid (editsIn_below C.out B3)
  have GD := Lib.hid (show g5 + 1 < w3.heap.size by omega)
  refine wp_rangeA rfl (enters_of Try.func100 (by kernel_rfl) rfl) hq (fun _ => rfl) KpB.trans
    (fun A B hAB => ⟨hAB.size, hAB.block _ (by omega), fun b o e hb => hAB.block _ (by omega)⟩) (fun A B hAB k _ hk2 => hAB.block k hk2)
    (fun pre W => UndI w.heap.size w1.heap.size w3.heap.size g5 w (unL cs pre.length) W)
    (fun _ _ _ => False)
    ?i1 (fun _ _ _ _ h => h.elim) ?i3 ?i4 (fun _ _ _ _ _ _ _ _ _ h => h.elim) (fun _ _ _ => trivial) ⟨_, H5, O3, (fun j hj => by obtain rfl : w1.heap.size = j := Option.some.inj hj; omega), Nat.le_refl _, B3⟩
    (fun q => .cells #[.int .i8 (edAt cs q).k, .string (edAt cs q).s, .int .i16 (edAt cs q).h, .int .u64 (edAt cs q).a, .int .u64 (edAt cs q).b] 86 (0, 0))
    (fun q k => { tmps := #[.slice ad cs.length c, undef, .slice none 0 0, .int .i64 0, .int .i64 0, .pointer (some ⟨g5, 0, none⟩), undef, .pointer (some ⟨k, 0, none⟩), .slice ad cs.length c, .int .i64 0, .int .i64 0, .bool false, undef, .slice ad cs.length c, .int .i64 cs.length, .slice (some ⟨w1.heap.size, 0, none⟩) 0 cs.length, .slice ad cs.length c, .func (.func 100) #[] #[.pointer (some ⟨g5 + 1, 0, none⟩)], .int .i64 q, .agg #[.int .i8 (edAt cs q).k, .string (edAt cs q).s, .int .i16 (edAt cs q).h, .int .u64 (edAt cs q).a, .int .u64 (edAt cs q).b], undef, undef, undef, undef, undef, undef, undef], defers := [] }) ?assign ?body ?done (fun _ _ _ _ h => h.elim)
  case i1 =>
    rintro pre A B ⟨v, h1, h2, hn, h3, h4⟩ hs
    exact ⟨v, hs.block _ (lt_of_block h1) |>.trans h1, ownEdits_kept h2 hs, hn, Nat.le_trans h3 hs.size, h4.trans (hs.mono h4.size)⟩
  case i3 =>
    rintro pre A o hA ⟨v, h1, h2, hn, h3, h4⟩
    have hs := below_new (Below.refl A.heap.size A) o
    exact ⟨v, hs.block _ (lt_of_block h1) |>.trans h1, World.ownsRow.alloc h2 _, hn, Nat.le_trans h3 hs.size, h4.trans (hs.mono h4.size)⟩
  case i4 =>
    rintro pre A k o o' hk hl ho ⟨v, h1, h2, hn, h3, h4⟩
    have hs : Below w3.heap.size A (A.putObj k o') := below_put hk
    exact ⟨v, (hs.block _ (by omega)).trans h1, ownsRow_putObj h2 o' hl ho, hn, by simpa using h3, h4.trans (hs.mono (by omega))⟩
  case assign =>
    intro l x W K hK
    unfold bkE
    gi_wp2
    first | exact hK | (go_simp; exact hK) | (simp; exact hK) | (trace_state; sorry)
  case body =>
    rintro l pre x V k ⟨v, hb5, hO, hnq, hs, hB⟩ ⟨r, hr, rfl, rfl⟩ hlt hk hob
    obtain ⟨m, hm⟩ : ∃ m : Nat, cs.length - 1 - r = m := ⟨_, rfl⟩
    rw [hm] at hob ⊢
    have hml : m < cs.length := by omega
    have AD := Lib.hid (show ∀ b o, ad = some ⟨b, o, none⟩ → b < w.heap.size from fun b o e => by obtain ⟨_, b1', o1, ead, hb1, _⟩ := C.out m hml; rw [e] at ead; cases ead; exact hb1)
    have NQ := Lib.hid hnq
    have HT := Lib.hid hlt
    have ki := KI.out m hml
    have LL := Lib.hid (show (unL cs (bkw cs.length r).length).length = r by rw [unL_len, bkw_len])
    have RL := Lib.hid hr
    have NX := Lib.hid (show unL cs (bkw cs.length r ++ [m]).length = unL cs (bkw cs.length r).length ++ [unE (edAt cs m)] by rw [List.length_append, bkw_len, ← hm]; rfl)
    have H5 := Lib.hid hb5
    have h5d := Lib.hid (show V.drew.heap[g5]? = some (.cells #[v] 24 (0, 0)) from hb5)
    have OO := Lib.hid hO
    have SV := Lib.hid hs
    have SW := Lib.hid (show w1.heap.size ≤ w3.heap.size by have := G2.out; omega)
    have BV := Lib.hid hB
    have A0 := Lib.hid (show Below V.heap.size V V.drew from ⟨rfl, rfl, rfl, Nat.le_refl _, fun _ _ => rfl⟩)
    have c5 := cell_of_block hb5
    have l5 := lt_of_block hb5
    have c7 := cell_of_block hob
    have l7 := lt_of_block hob
    clear hq hb5 hO hs hB hob hm hnq hlt
    generalize unL cs (bkw cs.length r).length = es at *
    generalize edAt cs m = xe at *
    obtain ⟨k0, s, h, a, b⟩ := xe
    simp only at c7 ki NX ⊢
    gi_wp2
    rcases ki with rfl | rfl | rfl | rfl
    · have CH := Lib.hid fun W => iChange_1 s h a b W
      have UN := Lib.hid fun W => iUndone_addition 1 s h a b W
      refine wpIn_region_round (by kernel_rfl) (no_defer (by kernel_rfl)) (by rintro ⟨_, _, hh⟩; exact hh) ?_
      change wpAny _ _ _ _ _ _ _ (World.drew _)
      refine wpAny_ready (rs := [0, 1]) (by kernel_rfl) (by simp) ?_
      refine AllReady.cons rfl (fun K hK => ?_) (AllReady.cons rfl (fun K hK => ?_) AllReady.nil)
      · go_simp
        refine hK _ _ ?_
        clear hK K
        refine wpAny_ready (rs := [1]) (by kernel_rfl) (by simp) ?_
        refine AllReady.cons rfl (fun K hK => ?_) AllReady.nil
        go_simp
        refine hK _ _ ?_
        clear hK K
        refine wpAny_ready (rs := [2]) (by kernel_rfl) (by simp) ?_
        refine AllReady.cons rfl (fun K hK => ?_) AllReady.nil
        go_simp
        go_wp2_with (go_at_call 53; refine (CH.out _).mono ?_; rintro e w4 ⟨rfl, hB4⟩; have h54 := Lib.hid (Ab.block hB4 h5d.out); have c54 := cell_of_block h54.out; have l54 := lt_of_block h54.out; have A4 := Lib.hid (Ab.trans A0.out hB4); clear hB4)
        try (refine hK _ _ ?_; clear hK K)
        refine wpAny_ready (rs := [3]) (by kernel_rfl) (by simp) ?_
        refine AllReady.cons rfl (fun K hK => ?_) AllReady.nil
        go_simp
        go_wp2_with (go_at_call 192; refine (UN.out _).mono ?_; rintro e w5 ⟨rfl, hB5⟩; have h55 := Lib.hid (Ab.block hB5 h54.out); have c55 := cell_of_block h55.out; have l55 := lt_of_block h55.out; have A5 := Lib.hid (Ab.trans A4.out hB5); have O5 := Lib.hid (ownEdits_kept OO.out A5.out); have S5 := Lib.hid (Nat.le_trans SV.out A5.out.size); clear hB5)
        try (refine hK _ _ ?_; clear hK K)
        refine wpAny_ready (rs := [4]) (by kernel_rfl) (by simp) ?_
        refine AllReady.cons rfl (fun K hK => ?_) AllReady.nil
        go_simp
        refine hK _ _ ?_
        clear hK K
        refine wpAny_ready (rs := [5]) (by kernel_rfl) (by simp) ?_
        refine AllReady.cons rfl (fun K hK => ?_) AllReady.nil
        refine step_append_lies _ (by rfl) _ _ 24 (by rfl) w1.heap.size 86 i0 (.agg #[.int .i8 0, .string ByteArray.empty, .int .i16 0, .int .u64 0, .int .u64 0]) 5 48 Try.underlying24 hi hz0 hz1 hz2 rfl (by decide) _ _ _ (by rfl) (World.ownsRow.alloc O5.out _) ⟨w5.heap.size, 0, none⟩ 1 1 [.int .i8 2, .string s, .int .i16 h, .int .u64 a, .int .u64 b] (by rfl) rfl (fun j u h => new5u w5 _ _ _ _ _ _ j u h) (fun x hx => by simp at hx; rcases hx with rfl | rfl | rfl | rfl | rfl <;> rfl) (by omega) (by have := LL.out; unfold maxLen; omega) (by have := LL.out; omega) (by simp; have := S5.out; have := SW.out; omega) _ rfl ?_
        intro gg cap2 w6 hown hgrow hat _
        have P := Lib.hid (ownEdits_push hown)
        have G6 := Lib.hid hgrow
        have HAT := Lib.hid hat
        have h56 := Lib.hid ((hgrow.block g5 (by simp; have := l55; omega) (fun e => own_box OO.out H5.out e.symm)).trans ((block_oldU w5 _ l55).trans h55.out))
        have c56 := cell_of_block h56.out
        have f56 := free_of_block h56.out
        clear hown hgrow hat
        refine hK _ _ ?_
        clear hK K
        refine wpAny_ready (rs := [6]) (by kernel_rfl) (by simp) ?_
        refine AllReady.cons rfl (fun K hK => ?_) AllReady.nil
        go_simp
        refine hK _ _ ?_
        clear hK K
        refine wpAny_done (by kernel_rfl) ?_ _
        (have hh := undo_round W1 G2.out GD.out HT.out BV.out AD.out H5.out OO.out NQ.out A5.out G6.out P.out HAT.out; exact ⟨hh.1, hh.2.1, by show UndI _ _ _ _ _ (unL cs (bkw cs.length r ++ [m]).length) _; rw [NX.out]; exact hh.2.2⟩)
      · go_simp
        refine hK _ _ ?_
        clear hK K
        refine wpAny_ready (rs := [0, 2]) (by kernel_rfl) (by simp) ?_
        refine AllReady.cons rfl (fun K hK => ?_) (AllReady.cons rfl (fun K hK => ?_) AllReady.nil)
        · go_simp
          refine hK _ _ ?_
          clear hK K
          refine wpAny_ready (rs := [2]) (by kernel_rfl) (by simp) ?_
          refine AllReady.cons rfl (fun K hK => ?_) AllReady.nil
          go_simp
          go_wp2_with (go_at_call 53; refine (CH.out _).mono ?_; rintro e w4 ⟨rfl, hB4⟩; have h54 := Lib.hid (Ab.block hB4 h5d.out); have c54 := cell_of_block h54.out; have l54 := lt_of_block h54.out; have A4 := Lib.hid (Ab.trans A0.out hB4); clear hB4)
          try (refine hK _ _ ?_; clear hK K)
          refine wpAny_ready (rs := [3]) (by kernel_rfl) (by simp) ?_
          refine AllReady.cons rfl (fun K hK => ?_) AllReady.nil
          go_simp
          go_wp2_with (go_at_call 192; refine (UN.out _).mono ?_; rintro e w5 ⟨rfl, hB5⟩; have h55 := Lib.hid (Ab.block hB5 h54.out); have c55 := cell_of_block h55.out; have l55 := lt_of_block h55.out; have A5 := Lib.hid (Ab.trans A4.out hB5); have O5 := Lib.hid (ownEdits_kept OO.out A5.out); have S5 := Lib.hid (Nat.le_trans SV.out A5.out.size); clear hB5)
          try (refine hK _ _ ?_; clear hK K)
          refine wpAny_ready (rs := [4]) (by kernel_rfl) (by simp) ?_
          refine AllReady.cons rfl (fun K hK => ?_) AllReady.nil
          go_simp
          refine hK _ _ ?_
          clear hK K
          refine wpAny_ready (rs := [5]) (by kernel_rfl) (by simp) ?_
          refine AllReady.cons rfl (fun K hK => ?_) AllReady.nil
          refine step_append_lies _ (by rfl) _ _ 24 (by rfl) w1.heap.size 86 i0 (.agg #[.int .i8 0, .string ByteArray.empty, .int .i16 0, .int .u64 0, .int .u64 0]) 5 48 Try.underlying24 hi hz0 hz1 hz2 rfl (by decide) _ _ _ (by rfl) (World.ownsRow.alloc O5.out _) ⟨w5.heap.size, 0, none⟩ 1 1 [.int .i8 2, .string s, .int .i16 h, .int .u64 a, .int .u64 b] (by rfl) rfl (fun j u h => new5u w5 _ _ _ _ _ _ j u h) (fun x hx => by simp at hx; rcases hx with rfl | rfl | rfl | rfl | rfl <;> rfl) (by omega) (by have := LL.out; unfold maxLen; omega) (by have := LL.out; omega) (by simp; have := S5.out; have := SW.out; omega) _ rfl ?_
          intro gg cap2 w6 hown hgrow hat _
          have P := Lib.hid (ownEdits_push hown)
          have G6 := Lib.hid hgrow
          have HAT := Lib.hid hat
          have h56 := Lib.hid ((hgrow.block g5 (by simp; have := l55; omega) (fun e => own_box OO.out H5.out e.symm)).trans ((block_oldU w5 _ l55).trans h55.out))
          have c56 := cell_of_block h56.out
          have f56 := free_of_block h56.out
          clear hown hgrow hat
          refine hK _ _ ?_
          clear hK K
          refine wpAny_ready (rs := [6]) (by kernel_rfl) (by simp) ?_
          refine AllReady.cons rfl (fun K hK => ?_) AllReady.nil
          go_simp
          refine hK _ _ ?_
          clear hK K
          refine wpAny_done (by kernel_rfl) ?_ _
          (have hh := undo_round W1 G2.out GD.out HT.out BV.out AD.out H5.out OO.out NQ.out A5.out G6.out P.out HAT.out; exact ⟨hh.1, hh.2.1, by show UndI _ _ _ _ _ (unL cs (bkw cs.length r ++ [m]).length) _; rw [NX.out]; exact hh.2.2⟩)
        · go_simp
          go_wp2_with (go_at_call 53; refine (CH.out _).mono ?_; rintro e w4 ⟨rfl, hB4⟩; have h54 := Lib.hid (Ab.block hB4 h5d.out); have c54 := cell_of_block h54.out; have l54 := lt_of_block h54.out; have A4 := Lib.hid (Ab.trans A0.out hB4); clear hB4)
          try (refine hK _ _ ?_; clear hK K)
          refine wpAny_ready (rs := [0, 3]) (by kernel_rfl) (by simp) ?_
          refine AllReady.cons rfl (fun K hK => ?_) (AllReady.cons rfl (fun K hK => ?_) AllReady.nil)
          · go_simp
            refine hK _ _ ?_
            clear hK K
            refine wpAny_ready (rs := [3]) (by kernel_rfl) (by simp) ?_
            refine AllReady.cons rfl (fun K hK => ?_) AllReady.nil
            go_simp
            go_wp2_with (go_at_call 192; refine (UN.out _).mono ?_; rintro e w5 ⟨rfl, hB5⟩; have h55 := Lib.hid (Ab.block hB5 h54.out); have c55 := cell_of_block h55.out; have l55 := lt_of_block h55.out; have A5 := Lib.hid (Ab.trans A4.out hB5); have O5 := Lib.hid (ownEdits_kept OO.out A5.out); have S5 := Lib.hid (Nat.le_trans SV.out A5.out.size); clear hB5)
            try (refine hK _ _ ?_; clear hK K)
            refine wpAny_ready (rs := [4]) (by kernel_rfl) (by simp) ?_
            refine AllReady.cons rfl (fun K hK => ?_) AllReady.nil
            go_simp
            refine hK _ _ ?_
            clear hK K
            refine wpAny_ready (rs := [5]) (by kernel_rfl) (by simp) ?_
            refine AllReady.cons rfl (fun K hK => ?_) AllReady.nil
            refine step_append_lies _ (by rfl) _ _ 24 (by rfl) w1.heap.size 86 i0 (.agg #[.int .i8 0, .string ByteArray.empty, .int .i16 0, .int .u64 0, .int .u64 0]) 5 48 Try.underlying24 hi hz0 hz1 hz2 rfl (by decide) _ _ _ (by rfl) (World.ownsRow.alloc O5.out _) ⟨w5.heap.size, 0, none⟩ 1 1 [.int .i8 2, .string s, .int .i16 h, .int .u64 a, .int .u64 b] (by rfl) rfl (fun j u h => new5u w5 _ _ _ _ _ _ j u h) (fun x hx => by simp at hx; rcases hx with rfl | rfl | rfl | rfl | rfl <;> rfl) (by omega) (by have := LL.out; unfold maxLen; omega) (by have := LL.out; omega) (by simp; have := S5.out; have := SW.out; omega) _ rfl ?_
            intro gg cap2 w6 hown hgrow hat _
            have P := Lib.hid (ownEdits_push hown)
            have G6 := Lib.hid hgrow
            have HAT := Lib.hid hat
            have h56 := Lib.hid ((hgrow.block g5 (by simp; have := l55; omega) (fun e => own_box OO.out H5.out e.symm)).trans ((block_oldU w5 _ l55).trans h55.out))
            have c56 := cell_of_block h56.out
            have f56 := free_of_block h56.out
            clear hown hgrow hat
            refine hK _ _ ?_
            clear hK K
            refine wpAny_ready (rs := [6]) (by kernel_rfl) (by simp) ?_
            refine AllReady.cons rfl (fun K hK => ?_) AllReady.nil
            go_simp
            refine hK _ _ ?_
            clear hK K
            refine wpAny_done (by kernel_rfl) ?_ _
            (have hh := undo_round W1 G2.out GD.out HT.out BV.out AD.out H5.out OO.out NQ.out A5.out G6.out P.out HAT.out; exact ⟨hh.1, hh.2.1, by show UndI _ _ _ _ _ (unL cs (bkw cs.length r ++ [m]).length) _; rw [NX.out]; exact hh.2.2⟩)
          · go_simp
            go_wp2_with (go_at_call 192; refine (UN.out _).mono ?_; rintro e w5 ⟨rfl, hB5⟩; have h55 := Lib.hid (Ab.block hB5 h54.out); have c55 := cell_of_block h55.out; have l55 := lt_of_block h55.out; have A5 := Lib.hid (Ab.trans A4.out hB5); have O5 := Lib.hid (ownEdits_kept OO.out A5.out); have S5 := Lib.hid (Nat.le_trans SV.out A5.out.size); clear hB5)
            try (refine hK _ _ ?_; clear hK K)
            refine wpAny_ready (rs := [0, 4]) (by kernel_rfl) (by simp) ?_
            refine AllReady.cons rfl (fun K hK => ?_) (AllReady.cons rfl (fun K hK => ?_) AllReady.nil)
            · go_simp
              refine hK _ _ ?_
              clear hK K
              refine wpAny_ready (rs := [4]) (by kernel_rfl) (by simp) ?_
              refine AllReady.cons rfl (fun K hK => ?_) AllReady.nil
              go_simp
              refine hK _ _ ?_
              clear hK K
              refine wpAny_ready (rs := [5]) (by kernel_rfl) (by simp) ?_
              refine AllReady.cons rfl (fun K hK => ?_) AllReady.nil
              refine step_append_lies _ (by rfl) _ _ 24 (by rfl) w1.heap.size 86 i0 (.agg #[.int .i8 0, .string ByteArray.empty, .int .i16 0, .int .u64 0, .int .u64 0]) 5 48 Try.underlying24 hi hz0 hz1 hz2 rfl (by decide) _ _ _ (by rfl) (World.ownsRow.alloc O5.out _) ⟨w5.heap.size, 0, none⟩ 1 1 [.int .i8 2, .string s, .int .i16 h, .int .u64 a, .int .u64 b] (by rfl) rfl (fun j u h => new5u w5 _ _ _ _ _ _ j u h) (fun x hx => by simp at hx; rcases hx with rfl | rfl | rfl | rfl | rfl <;> rfl) (by omega) (by have := LL.out; unfold maxLen; omega) (by have := LL.out; omega) (by simp; have := S5.out; have := SW.out; omega) _ rfl ?_
              intro gg cap2 w6 hown hgrow hat _
              have P := Lib.hid (ownEdits_push hown)
              have G6 := Lib.hid hgrow
              have HAT := Lib.hid hat
              have h56 := Lib.hid ((hgrow.block g5 (by simp; have := l55; omega) (fun e => own_box OO.out H5.out e.symm)).trans ((block_oldU w5 _ l55).trans h55.out))
              have c56 := cell_of_block h56.out
              have f56 := free_of_block h56.out
              clear hown hgrow hat
              refine hK _ _ ?_
              clear hK K
              refine wpAny_ready (rs := [6]) (by kernel_rfl) (by simp) ?_
              refine AllReady.cons rfl (fun K hK => ?_) AllReady.nil
              go_simp
              refine hK _ _ ?_
              clear hK K
              refine wpAny_done (by kernel_rfl) ?_ _
              (have hh := undo_round W1 G2.out GD.out HT.out BV.out AD.out H5.out OO.out NQ.out A5.out G6.out P.out HAT.out; exact ⟨hh.1, hh.2.1, by show UndI _ _ _ _ _ (unL cs (bkw cs.length r ++ [m]).length) _; rw [NX.out]; exact hh.2.2⟩)
            · go_simp
              refine hK _ _ ?_
              clear hK K
              refine wpAny_ready (rs := [0]) (by kernel_rfl) (by simp) ?_
              refine AllReady.cons rfl (fun K hK => ?_) AllReady.nil
              go_simp
              refine hK _ _ ?_
              clear hK K
              refine wpAny_ready (rs := [5]) (by kernel_rfl) (by simp) ?_
              refine AllReady.cons rfl (fun K hK => ?_) AllReady.nil
              refine step_append_lies _ (by rfl) _ _ 24 (by rfl) w1.heap.size 86 i0 (.agg #[.int .i8 0, .string ByteArray.empty, .int .i16 0, .int .u64 0, .int .u64 0]) 5 48 Try.underlying24 hi hz0 hz1 hz2 rfl (by decide) _ _ _ (by rfl) (World.ownsRow.alloc O5.out _) ⟨w5.heap.size, 0, none⟩ 1 1 [.int .i8 2, .string s, .int .i16 h, .int .u64 a, .int .u64 b] (by rfl) rfl (fun j u h => new5u w5 _ _ _ _ _ _ j u h) (fun x hx => by simp at hx; rcases hx with rfl | rfl | rfl | rfl | rfl <;> rfl) (by omega) (by have := LL.out; unfold maxLen; omega) (by have := LL.out; omega) (by simp; have := S5.out; have := SW.out; omega) _ rfl ?_
              intro gg cap2 w6 hown hgrow hat _
              have P := Lib.hid (ownEdits_push hown)
              have G6 := Lib.hid hgrow
              have HAT := Lib.hid hat
              have h56 := Lib.hid ((hgrow.block g5 (by simp; have := l55; omega) (fun e => own_box OO.out H5.out e.symm)).trans ((block_oldU w5 _ l55).trans h55.out))
              have c56 := cell_of_block h56.out
              have f56 := free_of_block h56.out
              clear hown hgrow hat
              refine hK _ _ ?_
              clear hK K
              refine wpAny_ready (rs := [6]) (by kernel_rfl) (by simp) ?_
              refine AllReady.cons rfl (fun K hK => ?_) AllReady.nil
              go_simp
              refine hK _ _ ?_
              clear hK K
              refine wpAny_done (by kernel_rfl) ?_ _
              (have hh := undo_round W1 G2.out GD.out HT.out BV.out AD.out H5.out OO.out NQ.out A5.out G6.out P.out HAT.out; exact ⟨hh.1, hh.2.1, by show UndI _ _ _ _ _ (unL cs (bkw cs.length r ++ [m]).length) _; rw [NX.out]; exact hh.2.2⟩)
      all_goals done
    · have CH := Lib.hid fun W => iChange_2 s h a b W
      have UN := Lib.hid fun W => iUndone_removal 2 s h a b W
      refine wpIn_region_round (by kernel_rfl) (no_defer (by kernel_rfl)) (by rintro ⟨_, _, hh⟩; exact hh) ?_
      change wpAny _ _ _ _ _ _ _ (World.drew _)
      refine wpAny_ready (rs := [0, 1]) (by kernel_rfl) (by simp) ?_
      refine AllReady.cons rfl (fun K hK => ?_) (AllReady.cons rfl (fun K hK => ?_) AllReady.nil)
      · go_simp
        refine hK _ _ ?_
        clear hK K
        refine wpAny_ready (rs := [1]) (by kernel_rfl) (by simp) ?_
        refine AllReady.cons rfl (fun K hK => ?_) AllReady.nil
        go_simp
        refine hK _ _ ?_
        clear hK K
        refine wpAny_ready (rs := [2]) (by kernel_rfl) (by simp) ?_
        refine AllReady.cons rfl (fun K hK => ?_) AllReady.nil
        go_simp
        go_wp2_with (go_at_call 53; refine (CH.out _).mono ?_; rintro e w4 ⟨rfl, hB4⟩; have h54 := Lib.hid (Ab.block hB4 h5d.out); have c54 := cell_of_block h54.out; have l54 := lt_of_block h54.out; have A4 := Lib.hid (Ab.trans A0.out hB4); clear hB4)
        try (refine hK _ _ ?_; clear hK K)
        refine wpAny_ready (rs := [3]) (by kernel_rfl) (by simp) ?_
        refine AllReady.cons rfl (fun K hK => ?_) AllReady.nil
        go_simp
        go_wp2_with (go_at_call 195; refine (UN.out _).mono ?_; rintro e w5 ⟨rfl, hB5⟩; have h55 := Lib.hid (Ab.block hB5 h54.out); have c55 := cell_of_block h55.out; have l55 := lt_of_block h55.out; have A5 := Lib.hid (Ab.trans A4.out hB5); have O5 := Lib.hid (ownEdits_kept OO.out A5.out); have S5 := Lib.hid (Nat.le_trans SV.out A5.out.size); clear hB5)
        try (refine hK _ _ ?_; clear hK K)
        refine wpAny_ready (rs := [4]) (by kernel_rfl) (by simp) ?_
        refine AllReady.cons rfl (fun K hK => ?_) AllReady.nil
        go_simp
        refine hK _ _ ?_
        clear hK K
        refine wpAny_ready (rs := [5]) (by kernel_rfl) (by simp) ?_
        refine AllReady.cons rfl (fun K hK => ?_) AllReady.nil
        refine step_append_lies _ (by rfl) _ _ 24 (by rfl) w1.heap.size 86 i0 (.agg #[.int .i8 0, .string ByteArray.empty, .int .i16 0, .int .u64 0, .int .u64 0]) 5 48 Try.underlying24 hi hz0 hz1 hz2 rfl (by decide) _ _ _ (by rfl) (World.ownsRow.alloc O5.out _) ⟨w5.heap.size, 0, none⟩ 1 1 [.int .i8 1, .string s, .int .i16 h, .int .u64 a, .int .u64 b] (by rfl) rfl (fun j u h => new5u w5 _ _ _ _ _ _ j u h) (fun x hx => by simp at hx; rcases hx with rfl | rfl | rfl | rfl | rfl <;> rfl) (by omega) (by have := LL.out; unfold maxLen; omega) (by have := LL.out; omega) (by simp; have := S5.out; have := SW.out; omega) _ rfl ?_
        intro gg cap2 w6 hown hgrow hat _
        have P := Lib.hid (ownEdits_push hown)
        have G6 := Lib.hid hgrow
        have HAT := Lib.hid hat
        have h56 := Lib.hid ((hgrow.block g5 (by simp; have := l55; omega) (fun e => own_box OO.out H5.out e.symm)).trans ((block_oldU w5 _ l55).trans h55.out))
        have c56 := cell_of_block h56.out
        have f56 := free_of_block h56.out
        clear hown hgrow hat
        refine hK _ _ ?_
        clear hK K
        refine wpAny_ready (rs := [6]) (by kernel_rfl) (by simp) ?_
        refine AllReady.cons rfl (fun K hK => ?_) AllReady.nil
        go_simp
        refine hK _ _ ?_
        clear hK K
        refine wpAny_done (by kernel_rfl) ?_ _
        (have hh := undo_round W1 G2.out GD.out HT.out BV.out AD.out H5.out OO.out NQ.out A5.out G6.out P.out HAT.out; exact ⟨hh.1, hh.2.1, by show UndI _ _ _ _ _ (unL cs (bkw cs.length r ++ [m]).length) _; rw [NX.out]; exact hh.2.2⟩)
      · go_simp
        refine hK _ _ ?_
        clear hK K
        refine wpAny_ready (rs := [0, 2]) (by kernel_rfl) (by simp) ?_
        refine AllReady.cons rfl (fun K hK => ?_) (AllReady.cons rfl (fun K hK => ?_) AllReady.nil)
        · go_simp
          refine hK _ _ ?_
          clear hK K
          refine wpAny_ready (rs := [2]) (by kernel_rfl) (by simp) ?_
          refine AllReady.cons rfl (fun K hK => ?_) AllReady.nil
          go_simp
          go_wp2_with (go_at_call 53; refine (CH.out _).mono ?_; rintro e w4 ⟨rfl, hB4⟩; have h54 := Lib.hid (Ab.block hB4 h5d.out); have c54 := cell_of_block h54.out; have l54 := lt_of_block h54.out; have A4 := Lib.hid (Ab.trans A0.out hB4); clear hB4)
          try (refine hK _ _ ?_; clear hK K)
          refine wpAny_ready (rs := [3]) (by kernel_rfl) (by simp) ?_
          refine AllReady.cons rfl (fun K hK => ?_) AllReady.nil
          go_simp
          go_wp2_with (go_at_call 195; refine (UN.out _).mono ?_; rintro e w5 ⟨rfl, hB5⟩; have h55 := Lib.hid (Ab.block hB5 h54.out); have c55 := cell_of_block h55.out; have l55 := lt_of_block h55.out; have A5 := Lib.hid (Ab.trans A4.out hB5); have O5 := Lib.hid (ownEdits_kept OO.out A5.out); have S5 := Lib.hid (Nat.le_trans SV.out A5.out.size); clear hB5)
          try (refine hK _ _ ?_; clear hK K)
          refine wpAny_ready (rs := [4]) (by kernel_rfl) (by simp) ?_
          refine AllReady.cons rfl (fun K hK => ?_) AllReady.nil
          go_simp
          refine hK _ _ ?_
          clear hK K
          refine wpAny_ready (rs := [5]) (by kernel_rfl) (by simp) ?_
          refine AllReady.cons rfl (fun K hK => ?_) AllReady.nil
          refine step_append_lies _ (by rfl) _ _ 24 (by rfl) w1.heap.size 86 i0 (.agg #[.int .i8 0, .string ByteArray.empty, .int .i16 0, .int .u64 0, .int .u64 0]) 5 48 Try.underlying24 hi hz0 hz1 hz2 rfl (by decide) _ _ _ (by rfl) (World.ownsRow.alloc O5.out _) ⟨w5.heap.size, 0, none⟩ 1 1 [.int .i8 1, .string s, .int .i16 h, .int .u64 a, .int .u64 b] (by rfl) rfl (fun j u h => new5u w5 _ _ _ _ _ _ j u h) (fun x hx => by simp at hx; rcases hx with rfl | rfl | rfl | rfl | rfl <;> rfl) (by omega) (by have := LL.out; unfold maxLen; omega) (by have := LL.out; omega) (by simp; have := S5.out; have := SW.out; omega) _ rfl ?_
          intro gg cap2 w6 hown hgrow hat _
          have P := Lib.hid (ownEdits_push hown)
          have G6 := Lib.hid hgrow
          have HAT := Lib.hid hat
          have h56 := Lib.hid ((hgrow.block g5 (by simp; have := l55; omega) (fun e => own_box OO.out H5.out e.symm)).trans ((block_oldU w5 _ l55).trans h55.out))
          have c56 := cell_of_block h56.out
          have f56 := free_of_block h56.out
          clear hown hgrow hat
          refine hK _ _ ?_
          clear hK K
          refine wpAny_ready (rs := [6]) (by kernel_rfl) (by simp) ?_
          refine AllReady.cons rfl (fun K hK => ?_) AllReady.nil
          go_simp
          refine hK _ _ ?_
          clear hK K
          refine wpAny_done (by kernel_rfl) ?_ _
          (have hh := undo_round W1 G2.out GD.out HT.out BV.out AD.out H5.out OO.out NQ.out A5.out G6.out P.out HAT.out; exact ⟨hh.1, hh.2.1, by show UndI _ _ _ _ _ (unL cs (bkw cs.length r ++ [m]).length) _; rw [NX.out]; exact hh.2.2⟩)
        · go_simp
          go_wp2_with (go_at_call 53; refine (CH.out _).mono ?_; rintro e w4 ⟨rfl, hB4⟩; have h54 := Lib.hid (Ab.block hB4 h5d.out); have c54 := cell_of_block h54.out; have l54 := lt_of_block h54.out; have A4 := Lib.hid (Ab.trans A0.out hB4); clear hB4)
          try (refine hK _ _ ?_; clear hK K)
          refine wpAny_ready (rs := [0, 3]) (by kernel_rfl) (by simp) ?_
          refine AllReady.cons rfl (fun K hK => ?_) (AllReady.cons rfl (fun K hK => ?_) AllReady.nil)
          · go_simp
            refine hK _ _ ?_
            clear hK K
            refine wpAny_ready (rs := [3]) (by kernel_rfl) (by simp) ?_
            refine AllReady.cons rfl (fun K hK => ?_) AllReady.nil
            go_simp
            go_wp2_with (go_at_call 195; refine (UN.out _).mono ?_; rintro e w5 ⟨rfl, hB5⟩; have h55 := Lib.hid (Ab.block hB5 h54.out); have c55 := cell_of_block h55.out; have l55 := lt_of_block h55.out; have A5 := Lib.hid (Ab.trans A4.out hB5); have O5 := Lib.hid (ownEdits_kept OO.out A5.out); have S5 := Lib.hid (Nat.le_trans SV.out A5.out.size); clear hB5)
            try (refine hK _ _ ?_; clear hK K)
            refine wpAny_ready (rs := [4]) (by kernel_rfl) (by simp) ?_
            refine AllReady.cons rfl (fun K hK => ?_) AllReady.nil
            go_simp
            refine hK _ _ ?_
            clear hK K
            refine wpAny_ready (rs := [5]) (by kernel_rfl) (by simp) ?_
            refine AllReady.cons rfl (fun K hK => ?_) AllReady.nil
            refine step_append_lies _ (by rfl) _ _ 24 (by rfl) w1.heap.size 86 i0 (.agg #[.int .i8 0, .string ByteArray.empty, .int .i16 0, .int .u64 0, .int .u64 0]) 5 48 Try.underlying24 hi hz0 hz1 hz2 rfl (by decide) _ _ _ (by rfl) (World.ownsRow.alloc O5.out _) ⟨w5.heap.size, 0, none⟩ 1 1 [.int .i8 1, .string s, .int .i16 h, .int .u64 a, .int .u64 b] (by rfl) rfl (fun j u h => new5u w5 _ _ _ _ _ _ j u h) (fun x hx => by simp at hx; rcases hx with rfl | rfl | rfl | rfl | rfl <;> rfl) (by omega) (by have := LL.out; unfold maxLen; omega) (by have := LL.out; omega) (by simp; have := S5.out; have := SW.out; omega) _ rfl ?_
            intro gg cap2 w6 hown hgrow hat _
            have P := Lib.hid (ownEdits_push hown)
            have G6 := Lib.hid hgrow
            have HAT := Lib.hid hat
            have h56 := Lib.hid ((hgrow.block g5 (by simp; have := l55; omega) (fun e => own_box OO.out H5.out e.symm)).trans ((block_oldU w5 _ l55).trans h55.out))
            have c56 := cell_of_block h56.out
            have f56 := free_of_block h56.out
            clear hown hgrow hat
            refine hK _ _ ?_
            clear hK K
            refine wpAny_ready (rs := [6]) (by kernel_rfl) (by simp) ?_
            refine AllReady.cons rfl (fun K hK => ?_) AllReady.nil
            go_simp
            refine hK _ _ ?_
            clear hK K
            refine wpAny_done (by kernel_rfl) ?_ _
            (have hh := undo_round W1 G2.out GD.out HT.out BV.out AD.out H5.out OO.out NQ.out A5.out G6.out P.out HAT.out; exact ⟨hh.1, hh.2.1, by show UndI _ _ _ _ _ (unL cs (bkw cs.length r ++ [m]).length) _; rw [NX.out]; exact hh.2.2⟩)
          · go_simp
            go_wp2_with (go_at_call 195; refine (UN.out _).mono ?_; rintro e w5 ⟨rfl, hB5⟩; have h55 := Lib.hid (Ab.block hB5 h54.out); have c55 := cell_of_block h55.out; have l55 := lt_of_block h55.out; have A5 := Lib.hid (Ab.trans A4.out hB5); have O5 := Lib.hid (ownEdits_kept OO.out A5.out); have S5 := Lib.hid (Nat.le_trans SV.out A5.out.size); clear hB5)
            try (refine hK _ _ ?_; clear hK K)
            refine wpAny_ready (rs := [0, 4]) (by kernel_rfl) (by simp) ?_
            refine AllReady.cons rfl (fun K hK => ?_) (AllReady.cons rfl (fun K hK => ?_) AllReady.nil)
            · go_simp
              refine hK _ _ ?_
              clear hK K
              refine wpAny_ready (rs := [4]) (by kernel_rfl) (by simp) ?_
              refine AllReady.cons rfl (fun K hK => ?_) AllReady.nil
              go_simp
              refine hK _ _ ?_
              clear hK K
              refine wpAny_ready (rs := [5]) (by kernel_rfl) (by simp) ?_
              refine AllReady.cons rfl (fun K hK => ?_) AllReady.nil
              refine step_append_lies _ (by rfl) _ _ 24 (by rfl) w1.heap.size 86 i0 (.agg #[.int .i8 0, .string ByteArray.empty, .int .i16 0, .int .u64 0, .int .u64 0]) 5 48 Try.underlying24 hi hz0 hz1 hz2 rfl (by decide) _ _ _ (by rfl) (World.ownsRow.alloc O5.out _) ⟨w5.heap.size, 0, none⟩ 1 1 [.int .i8 1, .string s, .int .i16 h, .int .u64 a, .int .u64 b] (by rfl) rfl (fun j u h => new5u w5 _ _ _ _ _ _ j u h) (fun x hx => by simp at hx; rcases hx with rfl | rfl | rfl | rfl | rfl <;> rfl) (by omega) (by have := LL.out; unfold maxLen; omega) (by have := LL.out; omega) (by simp; have := S5.out; have := SW.out; omega) _ rfl ?_
              intro gg cap2 w6 hown hgrow hat _
              have P := Lib.hid (ownEdits_push hown)
              have G6 := Lib.hid hgrow
              have HAT := Lib.hid hat
              have h56 := Lib.hid ((hgrow.block g5 (by simp; have := l55; omega) (fun e => own_box OO.out H5.out e.symm)).trans ((block_oldU w5 _ l55).trans h55.out))
              have c56 := cell_of_block h56.out
              have f56 := free_of_block h56.out
              clear hown hgrow hat
              refine hK _ _ ?_
              clear hK K
              refine wpAny_ready (rs := [6]) (by kernel_rfl) (by simp) ?_
              refine AllReady.cons rfl (fun K hK => ?_) AllReady.nil
              go_simp
              refine hK _ _ ?_
              clear hK K
              refine wpAny_done (by kernel_rfl) ?_ _
              (have hh := undo_round W1 G2.out GD.out HT.out BV.out AD.out H5.out OO.out NQ.out A5.out G6.out P.out HAT.out; exact ⟨hh.1, hh.2.1, by show UndI _ _ _ _ _ (unL cs (bkw cs.length r ++ [m]).length) _; rw [NX.out]; exact hh.2.2⟩)
            · go_simp
              refine hK _ _ ?_
              clear hK K
              refine wpAny_ready (rs := [0]) (by kernel_rfl) (by simp) ?_
              refine AllReady.cons rfl (fun K hK => ?_) AllReady.nil
              go_simp
              refine hK _ _ ?_
              clear hK K
              refine wpAny_ready (rs := [5]) (by kernel_rfl) (by simp) ?_
              refine AllReady.cons rfl (fun K hK => ?_) AllReady.nil
              refine step_append_lies _ (by rfl) _ _ 24 (by rfl) w1.heap.size 86 i0 (.agg #[.int .i8 0, .string ByteArray.empty, .int .i16 0, .int .u64 0, .int .u64 0]) 5 48 Try.underlying24 hi hz0 hz1 hz2 rfl (by decide) _ _ _ (by rfl) (World.ownsRow.alloc O5.out _) ⟨w5.heap.size, 0, none⟩ 1 1 [.int .i8 1, .string s, .int .i16 h, .int .u64 a, .int .u64 b] (by rfl) rfl (fun j u h => new5u w5 _ _ _ _ _ _ j u h) (fun x hx => by simp at hx; rcases hx with rfl | rfl | rfl | rfl | rfl <;> rfl) (by omega) (by have := LL.out; unfold maxLen; omega) (by have := LL.out; omega) (by simp; have := S5.out; have := SW.out; omega) _ rfl ?_
              intro gg cap2 w6 hown hgrow hat _
              have P := Lib.hid (ownEdits_push hown)
              have G6 := Lib.hid hgrow
              have HAT := Lib.hid hat
              have h56 := Lib.hid ((hgrow.block g5 (by simp; have := l55; omega) (fun e => own_box OO.out H5.out e.symm)).trans ((block_oldU w5 _ l55).trans h55.out))
              have c56 := cell_of_block h56.out
              have f56 := free_of_block h56.out
              clear hown hgrow hat
              refine hK _ _ ?_
              clear hK K
              refine wpAny_ready (rs := [6]) (by kernel_rfl) (by simp) ?_
              refine AllReady.cons rfl (fun K hK => ?_) AllReady.nil
              go_simp
              refine hK _ _ ?_
              clear hK K
              refine wpAny_done (by kernel_rfl) ?_ _
              (have hh := undo_round W1 G2.out GD.out HT.out BV.out AD.out H5.out OO.out NQ.out A5.out G6.out P.out HAT.out; exact ⟨hh.1, hh.2.1, by show UndI _ _ _ _ _ (unL cs (bkw cs.length r ++ [m]).length) _; rw [NX.out]; exact hh.2.2⟩)
      all_goals done
    · have CH := Lib.hid fun W => iChange_3 s h a b W
      have UN := Lib.hid fun W => iUndone_notching 3 s h a b W
      refine wpIn_region_round (by kernel_rfl) (no_defer (by kernel_rfl)) (by rintro ⟨_, _, hh⟩; exact hh) ?_
      change wpAny _ _ _ _ _ _ _ (World.drew _)
      refine wpAny_ready (rs := [0, 1]) (by kernel_rfl) (by simp) ?_
      refine AllReady.cons rfl (fun K hK => ?_) (AllReady.cons rfl (fun K hK => ?_) AllReady.nil)
      · go_simp
        refine hK _ _ ?_
        clear hK K
        refine wpAny_ready (rs := [1]) (by kernel_rfl) (by simp) ?_
        refine AllReady.cons rfl (fun K hK => ?_) AllReady.nil
        go_simp
        refine hK _ _ ?_
        clear hK K
        refine wpAny_ready (rs := [2]) (by kernel_rfl) (by simp) ?_
        refine AllReady.cons rfl (fun K hK => ?_) AllReady.nil
        go_simp
        go_wp2_with (go_at_call 53; refine (CH.out _).mono ?_; rintro e w4 ⟨rfl, hB4⟩; have h54 := Lib.hid (Ab.block hB4 h5d.out); have c54 := cell_of_block h54.out; have l54 := lt_of_block h54.out; have A4 := Lib.hid (Ab.trans A0.out hB4); clear hB4)
        try (refine hK _ _ ?_; clear hK K)
        refine wpAny_ready (rs := [3]) (by kernel_rfl) (by simp) ?_
        refine AllReady.cons rfl (fun K hK => ?_) AllReady.nil
        go_simp
        go_wp2_with (go_at_call 197; refine (UN.out _).mono ?_; rintro e w5 ⟨rfl, hB5⟩; have h55 := Lib.hid (Ab.block hB5 h54.out); have c55 := cell_of_block h55.out; have l55 := lt_of_block h55.out; have A5 := Lib.hid (Ab.trans A4.out hB5); have O5 := Lib.hid (ownEdits_kept OO.out A5.out); have S5 := Lib.hid (Nat.le_trans SV.out A5.out.size); clear hB5)
        try (refine hK _ _ ?_; clear hK K)
        refine wpAny_ready (rs := [4]) (by kernel_rfl) (by simp) ?_
        refine AllReady.cons rfl (fun K hK => ?_) AllReady.nil
        go_simp
        refine hK _ _ ?_
        clear hK K
        refine wpAny_ready (rs := [5]) (by kernel_rfl) (by simp) ?_
        refine AllReady.cons rfl (fun K hK => ?_) AllReady.nil
        refine step_append_lies _ (by rfl) _ _ 24 (by rfl) w1.heap.size 86 i0 (.agg #[.int .i8 0, .string ByteArray.empty, .int .i16 0, .int .u64 0, .int .u64 0]) 5 48 Try.underlying24 hi hz0 hz1 hz2 rfl (by decide) _ _ _ (by rfl) (World.ownsRow.alloc O5.out _) ⟨w5.heap.size, 0, none⟩ 1 1 [.int .i8 4, .string s, .int .i16 h, .int .u64 a, .int .u64 b] (by rfl) rfl (fun j u h => new5u w5 _ _ _ _ _ _ j u h) (fun x hx => by simp at hx; rcases hx with rfl | rfl | rfl | rfl | rfl <;> rfl) (by omega) (by have := LL.out; unfold maxLen; omega) (by have := LL.out; omega) (by simp; have := S5.out; have := SW.out; omega) _ rfl ?_
        intro gg cap2 w6 hown hgrow hat _
        have P := Lib.hid (ownEdits_push hown)
        have G6 := Lib.hid hgrow
        have HAT := Lib.hid hat
        have h56 := Lib.hid ((hgrow.block g5 (by simp; have := l55; omega) (fun e => own_box OO.out H5.out e.symm)).trans ((block_oldU w5 _ l55).trans h55.out))
        have c56 := cell_of_block h56.out
        have f56 := free_of_block h56.out
        clear hown hgrow hat
        refine hK _ _ ?_
        clear hK K
        refine wpAny_ready (rs := [6]) (by kernel_rfl) (by simp) ?_
        refine AllReady.cons rfl (fun K hK => ?_) AllReady.nil
        go_simp
        refine hK _ _ ?_
        clear hK K
        refine wpAny_done (by kernel_rfl) ?_ _
        (have hh := undo_round W1 G2.out GD.out HT.out BV.out AD.out H5.out OO.out NQ.out A5.out G6.out P.out HAT.out; exact ⟨hh.1, hh.2.1, by show UndI _ _ _ _ _ (unL cs (bkw cs.length r ++ [m]).length) _; rw [NX.out]; exact hh.2.2⟩)
      · go_simp
        refine hK _ _ ?_
        clear hK K
        refine wpAny_ready (rs := [0, 2]) (by kernel_rfl) (by simp) ?_
        refine AllReady.cons rfl (fun K hK => ?_) (AllReady.cons rfl (fun K hK => ?_) AllReady.nil)
        · go_simp
          refine hK _ _ ?_
          clear hK K
          refine wpAny_ready (rs := [2]) (by kernel_rfl) (by simp) ?_
          refine AllReady.cons rfl (fun K hK => ?_) AllReady.nil
          go_simp
          go_wp2_with (go_at_call 53; refine (CH.out _).mono ?_; rintro e w4 ⟨rfl, hB4⟩; have h54 := Lib.hid (Ab.block hB4 h5d.out); have c54 := cell_of_block h54.out; have l54 := lt_of_block h54.out; have A4 := Lib.hid (Ab.trans A0.out hB4); clear hB4)
          try (refine hK _ _ ?_; clear hK K)
          refine wpAny_ready (rs := [3]) (by kernel_rfl) (by simp) ?_
          refine AllReady.cons rfl (fun K hK => ?_) AllReady.nil
          go_simp
          go_wp2_with (go_at_call 197; refine (UN.out _).mono ?_; rintro e w5 ⟨rfl, hB5⟩; have h55 := Lib.hid (Ab.block hB5 h54.out); have c55 := cell_of_block h55.out; have l55 := lt_of_block h55.out; have A5 := Lib.hid (Ab.trans A4.out hB5); have O5 := Lib.hid (ownEdits_kept OO.out A5.out); have S5 := Lib.hid (Nat.le_trans SV.out A5.out.size); clear hB5)
          try (refine hK _ _ ?_; clear hK K)
          refine wpAny_ready (rs := [4]) (by kernel_rfl) (by simp) ?_
          refine AllReady.cons rfl (fun K hK => ?_) AllReady.nil
          go_simp
          refine hK _ _ ?_
          clear hK K
          refine wpAny_ready (rs := [5]) (by kernel_rfl) (by simp) ?_
          refine AllReady.cons rfl (fun K hK => ?_) AllReady.nil
          refine step_append_lies _ (by rfl) _ _ 24 (by rfl) w1.heap.size 86 i0 (.agg #[.int .i8 0, .string ByteArray.empty, .int .i16 0, .int .u64 0, .int .u64 0]) 5 48 Try.underlying24 hi hz0 hz1 hz2 rfl (by decide) _ _ _ (by rfl) (World.ownsRow.alloc O5.out _) ⟨w5.heap.size, 0, none⟩ 1 1 [.int .i8 4, .string s, .int .i16 h, .int .u64 a, .int .u64 b] (by rfl) rfl (fun j u h => new5u w5 _ _ _ _ _ _ j u h) (fun x hx => by simp at hx; rcases hx with rfl | rfl | rfl | rfl | rfl <;> rfl) (by omega) (by have := LL.out; unfold maxLen; omega) (by have := LL.out; omega) (by simp; have := S5.out; have := SW.out; omega) _ rfl ?_
          intro gg cap2 w6 hown hgrow hat _
          have P := Lib.hid (ownEdits_push hown)
          have G6 := Lib.hid hgrow
          have HAT := Lib.hid hat
          have h56 := Lib.hid ((hgrow.block g5 (by simp; have := l55; omega) (fun e => own_box OO.out H5.out e.symm)).trans ((block_oldU w5 _ l55).trans h55.out))
          have c56 := cell_of_block h56.out
          have f56 := free_of_block h56.out
          clear hown hgrow hat
          refine hK _ _ ?_
          clear hK K
          refine wpAny_ready (rs := [6]) (by kernel_rfl) (by simp) ?_
          refine AllReady.cons rfl (fun K hK => ?_) AllReady.nil
          go_simp
          refine hK _ _ ?_
          clear hK K
          refine wpAny_done (by kernel_rfl) ?_ _
          (have hh := undo_round W1 G2.out GD.out HT.out BV.out AD.out H5.out OO.out NQ.out A5.out G6.out P.out HAT.out; exact ⟨hh.1, hh.2.1, by show UndI _ _ _ _ _ (unL cs (bkw cs.length r ++ [m]).length) _; rw [NX.out]; exact hh.2.2⟩)
        · go_simp
          go_wp2_with (go_at_call 53; refine (CH.out _).mono ?_; rintro e w4 ⟨rfl, hB4⟩; have h54 := Lib.hid (Ab.block hB4 h5d.out); have c54 := cell_of_block h54.out; have l54 := lt_of_block h54.out; have A4 := Lib.hid (Ab.trans A0.out hB4); clear hB4)
          try (refine hK _ _ ?_; clear hK K)
          refine wpAny_ready (rs := [0, 3]) (by kernel_rfl) (by simp) ?_
          refine AllReady.cons rfl (fun K hK => ?_) (AllReady.cons rfl (fun K hK => ?_) AllReady.nil)
          · go_simp
            refine hK _ _ ?_
            clear hK K
            refine wpAny_ready (rs := [3]) (by kernel_rfl) (by simp) ?_
            refine AllReady.cons rfl (fun K hK => ?_) AllReady.nil
            go_simp
            go_wp2_with (go_at_call 197; refine (UN.out _).mono ?_; rintro e w5 ⟨rfl, hB5⟩; have h55 := Lib.hid (Ab.block hB5 h54.out); have c55 := cell_of_block h55.out; have l55 := lt_of_block h55.out; have A5 := Lib.hid (Ab.trans A4.out hB5); have O5 := Lib.hid (ownEdits_kept OO.out A5.out); have S5 := Lib.hid (Nat.le_trans SV.out A5.out.size); clear hB5)
            try (refine hK _ _ ?_; clear hK K)
            refine wpAny_ready (rs := [4]) (by kernel_rfl) (by simp) ?_
            refine AllReady.cons rfl (fun K hK => ?_) AllReady.nil
            go_simp
            refine hK _ _ ?_
            clear hK K
            refine wpAny_ready (rs := [5]) (by kernel_rfl) (by simp) ?_
            refine AllReady.cons rfl (fun K hK => ?_) AllReady.nil
            refine step_append_lies _ (by rfl) _ _ 24 (by rfl) w1.heap.size 86 i0 (.agg #[.int .i8 0, .string ByteArray.empty, .int .i16 0, .int .u64 0, .int .u64 0]) 5 48 Try.underlying24 hi hz0 hz1 hz2 rfl (by decide) _ _ _ (by rfl) (World.ownsRow.alloc O5.out _) ⟨w5.heap.size, 0, none⟩ 1 1 [.int .i8 4, .string s, .int .i16 h, .int .u64 a, .int .u64 b] (by rfl) rfl (fun j u h => new5u w5 _ _ _ _ _ _ j u h) (fun x hx => by simp at hx; rcases hx with rfl | rfl | rfl | rfl | rfl <;> rfl) (by omega) (by have := LL.out; unfold maxLen; omega) (by have := LL.out; omega) (by simp; have := S5.out; have := SW.out; omega) _ rfl ?_
            intro gg cap2 w6 hown hgrow hat _
            have P := Lib.hid (ownEdits_push hown)
            have G6 := Lib.hid hgrow
            have HAT := Lib.hid hat
            have h56 := Lib.hid ((hgrow.block g5 (by simp; have := l55; omega) (fun e => own_box OO.out H5.out e.symm)).trans ((block_oldU w5 _ l55).trans h55.out))
            have c56 := cell_of_block h56.out
            have f56 := free_of_block h56.out
            clear hown hgrow hat
            refine hK _ _ ?_
            clear hK K
            refine wpAny_ready (rs := [6]) (by kernel_rfl) (by simp) ?_
            refine AllReady.cons rfl (fun K hK => ?_) AllReady.nil
            go_simp
            refine hK _ _ ?_
            clear hK K
            refine wpAny_done (by kernel_rfl) ?_ _
            (have hh := undo_round W1 G2.out GD.out HT.out BV.out AD.out H5.out OO.out NQ.out A5.out G6.out P.out HAT.out; exact ⟨hh.1, hh.2.1, by show UndI _ _ _ _ _ (unL cs (bkw cs.length r ++ [m]).length) _; rw [NX.out]; exact hh.2.2⟩)
          · go_simp
            go_wp2_with (go_at_call 197; refine (UN.out _).mono ?_; rintro e w5 ⟨rfl, hB5⟩; have h55 := Lib.hid (Ab.block hB5 h54.out); have c55 := cell_of_block h55.out; have l55 := lt_of_block h55.out; have A5 := Lib.hid (Ab.trans A4.out hB5); have O5 := Lib.hid (ownEdits_kept OO.out A5.out); have S5 := Lib.hid (Nat.le_trans SV.out A5.out.size); clear hB5)
            try (refine hK _ _ ?_; clear hK K)
            refine wpAny_ready (rs := [0, 4]) (by kernel_rfl) (by simp) ?_
            refine AllReady.cons rfl (fun K hK => ?_) (AllReady.cons rfl (fun K hK => ?_) AllReady.nil)
            · go_simp
              refine hK _ _ ?_
              clear hK K
              refine wpAny_ready (rs := [4]) (by kernel_rfl) (by simp) ?_
              refine AllReady.cons rfl (fun K hK => ?_) AllReady.nil
              go_simp
              refine hK _ _ ?_
              clear hK K
              refine wpAny_ready (rs := [5]) (by kernel_rfl) (by simp) ?_
              refine AllReady.cons rfl (fun K hK => ?_) AllReady.nil
              refine step_append_lies _ (by rfl) _ _ 24 (by rfl) w1.heap.size 86 i0 (.agg #[.int .i8 0, .string ByteArray.empty, .int .i16 0, .int .u64 0, .int .u64 0]) 5 48 Try.underlying24 hi hz0 hz1 hz2 rfl (by decide) _ _ _ (by rfl) (World.ownsRow.alloc O5.out _) ⟨w5.heap.size, 0, none⟩ 1 1 [.int .i8 4, .string s, .int .i16 h, .int .u64 a, .int .u64 b] (by rfl) rfl (fun j u h => new5u w5 _ _ _ _ _ _ j u h) (fun x hx => by simp at hx; rcases hx with rfl | rfl | rfl | rfl | rfl <;> rfl) (by omega) (by have := LL.out; unfold maxLen; omega) (by have := LL.out; omega) (by simp; have := S5.out; have := SW.out; omega) _ rfl ?_
              intro gg cap2 w6 hown hgrow hat _
              have P := Lib.hid (ownEdits_push hown)
              have G6 := Lib.hid hgrow
              have HAT := Lib.hid hat
              have h56 := Lib.hid ((hgrow.block g5 (by simp; have := l55; omega) (fun e => own_box OO.out H5.out e.symm)).trans ((block_oldU w5 _ l55).trans h55.out))
              have c56 := cell_of_block h56.out
              have f56 := free_of_block h56.out
              clear hown hgrow hat
              refine hK _ _ ?_
              clear hK K
              refine wpAny_ready (rs := [6]) (by kernel_rfl) (by simp) ?_
              refine AllReady.cons rfl (fun K hK => ?_) AllReady.nil
              go_simp
              refine hK _ _ ?_
              clear hK K
              refine wpAny_done (by kernel_rfl) ?_ _
              (have hh := undo_round W1 G2.out GD.out HT.out BV.out AD.out H5.out OO.out NQ.out A5.out G6.out P.out HAT.out; exact ⟨hh.1, hh.2.1, by show UndI _ _ _ _ _ (unL cs (bkw cs.length r ++ [m]).length) _; rw [NX.out]; exact hh.2.2⟩)
            · go_simp
              refine hK _ _ ?_
              clear hK K
              refine wpAny_ready (rs := [0]) (by kernel_rfl) (by simp) ?_
              refine AllReady.cons rfl (fun K hK => ?_) AllReady.nil
              go_simp
              refine hK _ _ ?_
              clear hK K
              refine wpAny_ready (rs := [5]) (by kernel_rfl) (by simp) ?_
              refine AllReady.cons rfl (fun K hK => ?_) AllReady.nil
              refine step_append_lies _ (by rfl) _ _ 24 (by rfl) w1.heap.size 86 i0 (.agg #[.int .i8 0, .string ByteArray.empty, .int .i16 0, .int .u64 0, .int .u64 0]) 5 48 Try.underlying24 hi hz0 hz1 hz2 rfl (by decide) _ _ _ (by rfl) (World.ownsRow.alloc O5.out _) ⟨w5.heap.size, 0, none⟩ 1 1 [.int .i8 4, .string s, .int .i16 h, .int .u64 a, .int .u64 b] (by rfl) rfl (fun j u h => new5u w5 _ _ _ _ _ _ j u h) (fun x hx => by simp at hx; rcases hx with rfl | rfl | rfl | rfl | rfl <;> rfl) (by omega) (by have := LL.out; unfold maxLen; omega) (by have := LL.out; omega) (by simp; have := S5.out; have := SW.out; omega) _ rfl ?_
              intro gg cap2 w6 hown hgrow hat _
              have P := Lib.hid (ownEdits_push hown)
              have G6 := Lib.hid hgrow
              have HAT := Lib.hid hat
              have h56 := Lib.hid ((hgrow.block g5 (by simp; have := l55; omega) (fun e => own_box OO.out H5.out e.symm)).trans ((block_oldU w5 _ l55).trans h55.out))
              have c56 := cell_of_block h56.out
              have f56 := free_of_block h56.out
              clear hown hgrow hat
              refine hK _ _ ?_
              clear hK K
              refine wpAny_ready (rs := [6]) (by kernel_rfl) (by simp) ?_
              refine AllReady.cons rfl (fun K hK => ?_) AllReady.nil
              go_simp
              refine hK _ _ ?_
              clear hK K
              refine wpAny_done (by kernel_rfl) ?_ _
              (have hh := undo_round W1 G2.out GD.out HT.out BV.out AD.out H5.out OO.out NQ.out A5.out G6.out P.out HAT.out; exact ⟨hh.1, hh.2.1, by show UndI _ _ _ _ _ (unL cs (bkw cs.length r ++ [m]).length) _; rw [NX.out]; exact hh.2.2⟩)
      all_goals done
    · have CH := Lib.hid fun W => iChange_4 s h a b W
      have UN := Lib.hid fun W => iUndone_filling 4 s h a b W
      refine wpIn_region_round (by kernel_rfl) (no_defer (by kernel_rfl)) (by rintro ⟨_, _, hh⟩; exact hh) ?_
      change wpAny _ _ _ _ _ _ _ (World.drew _)
      refine wpAny_ready (rs := [0, 1]) (by kernel_rfl) (by simp) ?_
      refine AllReady.cons rfl (fun K hK => ?_) (AllReady.cons rfl (fun K hK => ?_) AllReady.nil)
      · go_simp
        refine hK _ _ ?_
        clear hK K
        refine wpAny_ready (rs := [1]) (by kernel_rfl) (by simp) ?_
        refine AllReady.cons rfl (fun K hK => ?_) AllReady.nil
        go_simp
        refine hK _ _ ?_
        clear hK K
        refine wpAny_ready (rs := [2]) (by kernel_rfl) (by simp) ?_
        refine AllReady.cons rfl (fun K hK => ?_) AllReady.nil
        go_simp
        go_wp2_with (go_at_call 53; refine (CH.out _).mono ?_; rintro e w4 ⟨rfl, hB4⟩; have h54 := Lib.hid (Ab.block hB4 h5d.out); have c54 := cell_of_block h54.out; have l54 := lt_of_block h54.out; have A4 := Lib.hid (Ab.trans A0.out hB4); clear hB4)
        try (refine hK _ _ ?_; clear hK K)
        refine wpAny_ready (rs := [3]) (by kernel_rfl) (by simp) ?_
        refine AllReady.cons rfl (fun K hK => ?_) AllReady.nil
        go_simp
        go_wp2_with (go_at_call 199; refine (UN.out _).mono ?_; rintro e w5 ⟨rfl, hB5⟩; have h55 := Lib.hid (Ab.block hB5 h54.out); have c55 := cell_of_block h55.out; have l55 := lt_of_block h55.out; have A5 := Lib.hid (Ab.trans A4.out hB5); have O5 := Lib.hid (ownEdits_kept OO.out A5.out); have S5 := Lib.hid (Nat.le_trans SV.out A5.out.size); clear hB5)
        try (refine hK _ _ ?_; clear hK K)
        refine wpAny_ready (rs := [4]) (by kernel_rfl) (by simp) ?_
        refine AllReady.cons rfl (fun K hK => ?_) AllReady.nil
        go_simp
        refine hK _ _ ?_
        clear hK K
        refine wpAny_ready (rs := [5]) (by kernel_rfl) (by simp) ?_
        refine AllReady.cons rfl (fun K hK => ?_) AllReady.nil
        refine step_append_lies _ (by rfl) _ _ 24 (by rfl) w1.heap.size 86 i0 (.agg #[.int .i8 0, .string ByteArray.empty, .int .i16 0, .int .u64 0, .int .u64 0]) 5 48 Try.underlying24 hi hz0 hz1 hz2 rfl (by decide) _ _ _ (by rfl) (World.ownsRow.alloc O5.out _) ⟨w5.heap.size, 0, none⟩ 1 1 [.int .i8 3, .string s, .int .i16 h, .int .u64 a, .int .u64 b] (by rfl) rfl (fun j u h => new5u w5 _ _ _ _ _ _ j u h) (fun x hx => by simp at hx; rcases hx with rfl | rfl | rfl | rfl | rfl <;> rfl) (by omega) (by have := LL.out; unfold maxLen; omega) (by have := LL.out; omega) (by simp; have := S5.out; have := SW.out; omega) _ rfl ?_
        intro gg cap2 w6 hown hgrow hat _
        have P := Lib.hid (ownEdits_push hown)
        have G6 := Lib.hid hgrow
        have HAT := Lib.hid hat
        have h56 := Lib.hid ((hgrow.block g5 (by simp; have := l55; omega) (fun e => own_box OO.out H5.out e.symm)).trans ((block_oldU w5 _ l55).trans h55.out))
        have c56 := cell_of_block h56.out
        have f56 := free_of_block h56.out
        clear hown hgrow hat
        refine hK _ _ ?_
        clear hK K
        refine wpAny_ready (rs := [6]) (by kernel_rfl) (by simp) ?_
        refine AllReady.cons rfl (fun K hK => ?_) AllReady.nil
        go_simp
        refine hK _ _ ?_
        clear hK K
        refine wpAny_done (by kernel_rfl) ?_ _
        (have hh := undo_round W1 G2.out GD.out HT.out BV.out AD.out H5.out OO.out NQ.out A5.out G6.out P.out HAT.out; exact ⟨hh.1, hh.2.1, by show UndI _ _ _ _ _ (unL cs (bkw cs.length r ++ [m]).length) _; rw [NX.out]; exact hh.2.2⟩)
      · go_simp
        refine hK _ _ ?_
        clear hK K
        refine wpAny_ready (rs := [0, 2]) (by kernel_rfl) (by simp) ?_
        refine AllReady.cons rfl (fun K hK => ?_) (AllReady.cons rfl (fun K hK => ?_) AllReady.nil)
        · go_simp
          refine hK _ _ ?_
          clear hK K
          refine wpAny_ready (rs := [2]) (by kernel_rfl) (by simp) ?_
          refine AllReady.cons rfl (fun K hK => ?_) AllReady.nil
          go_simp
          go_wp2_with (go_at_call 53; refine (CH.out _).mono ?_; rintro e w4 ⟨rfl, hB4⟩; have h54 := Lib.hid (Ab.block hB4 h5d.out); have c54 := cell_of_block h54.out; have l54 := lt_of_block h54.out; have A4 := Lib.hid (Ab.trans A0.out hB4); clear hB4)
          try (refine hK _ _ ?_; clear hK K)
          refine wpAny_ready (rs := [3]) (by kernel_rfl) (by simp) ?_
          refine AllReady.cons rfl (fun K hK => ?_) AllReady.nil
          go_simp
          go_wp2_with (go_at_call 199; refine (UN.out _).mono ?_; rintro e w5 ⟨rfl, hB5⟩; have h55 := Lib.hid (Ab.block hB5 h54.out); have c55 := cell_of_block h55.out; have l55 := lt_of_block h55.out; have A5 := Lib.hid (Ab.trans A4.out hB5); have O5 := Lib.hid (ownEdits_kept OO.out A5.out); have S5 := Lib.hid (Nat.le_trans SV.out A5.out.size); clear hB5)
          try (refine hK _ _ ?_; clear hK K)
          refine wpAny_ready (rs := [4]) (by kernel_rfl) (by simp) ?_
          refine AllReady.cons rfl (fun K hK => ?_) AllReady.nil
          go_simp
          refine hK _ _ ?_
          clear hK K
          refine wpAny_ready (rs := [5]) (by kernel_rfl) (by simp) ?_
          refine AllReady.cons rfl (fun K hK => ?_) AllReady.nil
          refine step_append_lies _ (by rfl) _ _ 24 (by rfl) w1.heap.size 86 i0 (.agg #[.int .i8 0, .string ByteArray.empty, .int .i16 0, .int .u64 0, .int .u64 0]) 5 48 Try.underlying24 hi hz0 hz1 hz2 rfl (by decide) _ _ _ (by rfl) (World.ownsRow.alloc O5.out _) ⟨w5.heap.size, 0, none⟩ 1 1 [.int .i8 3, .string s, .int .i16 h, .int .u64 a, .int .u64 b] (by rfl) rfl (fun j u h => new5u w5 _ _ _ _ _ _ j u h) (fun x hx => by simp at hx; rcases hx with rfl | rfl | rfl | rfl | rfl <;> rfl) (by omega) (by have := LL.out; unfold maxLen; omega) (by have := LL.out; omega) (by simp; have := S5.out; have := SW.out; omega) _ rfl ?_
          intro gg cap2 w6 hown hgrow hat _
          have P := Lib.hid (ownEdits_push hown)
          have G6 := Lib.hid hgrow
          have HAT := Lib.hid hat
          have h56 := Lib.hid ((hgrow.block g5 (by simp; have := l55; omega) (fun e => own_box OO.out H5.out e.symm)).trans ((block_oldU w5 _ l55).trans h55.out))
          have c56 := cell_of_block h56.out
          have f56 := free_of_block h56.out
          clear hown hgrow hat
          refine hK _ _ ?_
          clear hK K
          refine wpAny_ready (rs := [6]) (by kernel_rfl) (by simp) ?_
          refine AllReady.cons rfl (fun K hK => ?_) AllReady.nil
          go_simp
          refine hK _ _ ?_
          clear hK K
          refine wpAny_done (by kernel_rfl) ?_ _
          (have hh := undo_round W1 G2.out GD.out HT.out BV.out AD.out H5.out OO.out NQ.out A5.out G6.out P.out HAT.out; exact ⟨hh.1, hh.2.1, by show UndI _ _ _ _ _ (unL cs (bkw cs.length r ++ [m]).length) _; rw [NX.out]; exact hh.2.2⟩)
        · go_simp
          go_wp2_with (go_at_call 53; refine (CH.out _).mono ?_; rintro e w4 ⟨rfl, hB4⟩; have h54 := Lib.hid (Ab.block hB4 h5d.out); have c54 := cell_of_block h54.out; have l54 := lt_of_block h54.out; have A4 := Lib.hid (Ab.trans A0.out hB4); clear hB4)
          try (refine hK _ _ ?_; clear hK K)
          refine wpAny_ready (rs := [0, 3]) (by kernel_rfl) (by simp) ?_
          refine AllReady.cons rfl (fun K hK => ?_) (AllReady.cons rfl (fun K hK => ?_) AllReady.nil)
          · go_simp
            refine hK _ _ ?_
            clear hK K
            refine wpAny_ready (rs := [3]) (by kernel_rfl) (by simp) ?_
            refine AllReady.cons rfl (fun K hK => ?_) AllReady.nil
            go_simp
            go_wp2_with (go_at_call 199; refine (UN.out _).mono ?_; rintro e w5 ⟨rfl, hB5⟩; have h55 := Lib.hid (Ab.block hB5 h54.out); have c55 := cell_of_block h55.out; have l55 := lt_of_block h55.out; have A5 := Lib.hid (Ab.trans A4.out hB5); have O5 := Lib.hid (ownEdits_kept OO.out A5.out); have S5 := Lib.hid (Nat.le_trans SV.out A5.out.size); clear hB5)
            try (refine hK _ _ ?_; clear hK K)
            refine wpAny_ready (rs := [4]) (by kernel_rfl) (by simp) ?_
            refine AllReady.cons rfl (fun K hK => ?_) AllReady.nil
            go_simp
            refine hK _ _ ?_
            clear hK K
            refine wpAny_ready (rs := [5]) (by kernel_rfl) (by simp) ?_
            refine AllReady.cons rfl (fun K hK => ?_) AllReady.nil
            refine step_append_lies _ (by rfl) _ _ 24 (by rfl) w1.heap.size 86 i0 (.agg #[.int .i8 0, .string ByteArray.empty, .int .i16 0, .int .u64 0, .int .u64 0]) 5 48 Try.underlying24 hi hz0 hz1 hz2 rfl (by decide) _ _ _ (by rfl) (World.ownsRow.alloc O5.out _) ⟨w5.heap.size, 0, none⟩ 1 1 [.int .i8 3, .string s, .int .i16 h, .int .u64 a, .int .u64 b] (by rfl) rfl (fun j u h => new5u w5 _ _ _ _ _ _ j u h) (fun x hx => by simp at hx; rcases hx with rfl | rfl | rfl | rfl | rfl <;> rfl) (by omega) (by have := LL.out; unfold maxLen; omega) (by have := LL.out; omega) (by simp; have := S5.out; have := SW.out; omega) _ rfl ?_
            intro gg cap2 w6 hown hgrow hat _
            have P := Lib.hid (ownEdits_push hown)
            have G6 := Lib.hid hgrow
            have HAT := Lib.hid hat
            have h56 := Lib.hid ((hgrow.block g5 (by simp; have := l55; omega) (fun e => own_box OO.out H5.out e.symm)).trans ((block_oldU w5 _ l55).trans h55.out))
            have c56 := cell_of_block h56.out
            have f56 := free_of_block h56.out
            clear hown hgrow hat
            refine hK _ _ ?_
            clear hK K
            refine wpAny_ready (rs := [6]) (by kernel_rfl) (by simp) ?_
            refine AllReady.cons rfl (fun K hK => ?_) AllReady.nil
            go_simp
            refine hK _ _ ?_
            clear hK K
            refine wpAny_done (by kernel_rfl) ?_ _
            (have hh := undo_round W1 G2.out GD.out HT.out BV.out AD.out H5.out OO.out NQ.out A5.out G6.out P.out HAT.out; exact ⟨hh.1, hh.2.1, by show UndI _ _ _ _ _ (unL cs (bkw cs.length r ++ [m]).length) _; rw [NX.out]; exact hh.2.2⟩)
          · go_simp
            go_wp2_with (go_at_call 199; refine (UN.out _).mono ?_; rintro e w5 ⟨rfl, hB5⟩; have h55 := Lib.hid (Ab.block hB5 h54.out); have c55 := cell_of_block h55.out; have l55 := lt_of_block h55.out; have A5 := Lib.hid (Ab.trans A4.out hB5); have O5 := Lib.hid (ownEdits_kept OO.out A5.out); have S5 := Lib.hid (Nat.le_trans SV.out A5.out.size); clear hB5)
            try (refine hK _ _ ?_; clear hK K)
            refine wpAny_ready (rs := [0, 4]) (by kernel_rfl) (by simp) ?_
            refine AllReady.cons rfl (fun K hK => ?_) (AllReady.cons rfl (fun K hK => ?_) AllReady.nil)
            · go_simp
              refine hK _ _ ?_
              clear hK K
              refine wpAny_ready (rs := [4]) (by kernel_rfl) (by simp) ?_
              refine AllReady.cons rfl (fun K hK => ?_) AllReady.nil
              go_simp
              refine hK _ _ ?_
              clear hK K
              refine wpAny_ready (rs := [5]) (by kernel_rfl) (by simp) ?_
              refine AllReady.cons rfl (fun K hK => ?_) AllReady.nil
              refine step_append_lies _ (by rfl) _ _ 24 (by rfl) w1.heap.size 86 i0 (.agg #[.int .i8 0, .string ByteArray.empty, .int .i16 0, .int .u64 0, .int .u64 0]) 5 48 Try.underlying24 hi hz0 hz1 hz2 rfl (by decide) _ _ _ (by rfl) (World.ownsRow.alloc O5.out _) ⟨w5.heap.size, 0, none⟩ 1 1 [.int .i8 3, .string s, .int .i16 h, .int .u64 a, .int .u64 b] (by rfl) rfl (fun j u h => new5u w5 _ _ _ _ _ _ j u h) (fun x hx => by simp at hx; rcases hx with rfl | rfl | rfl | rfl | rfl <;> rfl) (by omega) (by have := LL.out; unfold maxLen; omega) (by have := LL.out; omega) (by simp; have := S5.out; have := SW.out; omega) _ rfl ?_
              intro gg cap2 w6 hown hgrow hat _
              have P := Lib.hid (ownEdits_push hown)
              have G6 := Lib.hid hgrow
              have HAT := Lib.hid hat
              have h56 := Lib.hid ((hgrow.block g5 (by simp; have := l55; omega) (fun e => own_box OO.out H5.out e.symm)).trans ((block_oldU w5 _ l55).trans h55.out))
              have c56 := cell_of_block h56.out
              have f56 := free_of_block h56.out
              clear hown hgrow hat
              refine hK _ _ ?_
              clear hK K
              refine wpAny_ready (rs := [6]) (by kernel_rfl) (by simp) ?_
              refine AllReady.cons rfl (fun K hK => ?_) AllReady.nil
              go_simp
              refine hK _ _ ?_
              clear hK K
              refine wpAny_done (by kernel_rfl) ?_ _
              (have hh := undo_round W1 G2.out GD.out HT.out BV.out AD.out H5.out OO.out NQ.out A5.out G6.out P.out HAT.out; exact ⟨hh.1, hh.2.1, by show UndI _ _ _ _ _ (unL cs (bkw cs.length r ++ [m]).length) _; rw [NX.out]; exact hh.2.2⟩)
            · go_simp
              refine hK _ _ ?_
              clear hK K
              refine wpAny_ready (rs := [0]) (by kernel_rfl) (by simp) ?_
              refine AllReady.cons rfl (fun K hK => ?_) AllReady.nil
              go_simp
              refine hK _ _ ?_
              clear hK K
              refine wpAny_ready (rs := [5]) (by kernel_rfl) (by simp) ?_
              refine AllReady.cons rfl (fun K hK => ?_) AllReady.nil
              refine step_append_lies _ (by rfl) _ _ 24 (by rfl) w1.heap.size 86 i0 (.agg #[.int .i8 0, .string ByteArray.empty, .int .i16 0, .int .u64 0, .int .u64 0]) 5 48 Try.underlying24 hi hz0 hz1 hz2 rfl (by decide) _ _ _ (by rfl) (World.ownsRow.alloc O5.out _) ⟨w5.heap.size, 0, none⟩ 1 1 [.int .i8 3, .string s, .int .i16 h, .int .u64 a, .int .u64 b] (by rfl) rfl (fun j u h => new5u w5 _ _ _ _ _ _ j u h) (fun x hx => by simp at hx; rcases hx with rfl | rfl | rfl | rfl | rfl <;> rfl) (by omega) (by have := LL.out; unfold maxLen; omega) (by have := LL.out; omega) (by simp; have := S5.out; have := SW.out; omega) _ rfl ?_
              intro gg cap2 w6 hown hgrow hat _
              have P := Lib.hid (ownEdits_push hown)
              have G6 := Lib.hid hgrow
              have HAT := Lib.hid hat
              have h56 := Lib.hid ((hgrow.block g5 (by simp; have := l55; omega) (fun e => own_box OO.out H5.out e.symm)).trans ((block_oldU w5 _ l55).trans h55.out))
              have c56 := cell_of_block h56.out
              have f56 := free_of_block h56.out
              clear hown hgrow hat
              refine hK _ _ ?_
              clear hK K
              refine wpAny_ready (rs := [6]) (by kernel_rfl) (by simp) ?_
              refine AllReady.cons rfl (fun K hK => ?_) AllReady.nil
              go_simp
              refine hK _ _ ?_
              clear hK K
              refine wpAny_done (by kernel_rfl) ?_ _
              (have hh := undo_round W1 G2.out GD.out HT.out BV.out AD.out H5.out OO.out NQ.out A5.out G6.out P.out HAT.out; exact ⟨hh.1, hh.2.1, by show UndI _ _ _ _ _ (unL cs (bkw cs.length r ++ [m]).length) _; rw [NX.out]; exact hh.2.2⟩)
      all_goals done
  case done =>
    rintro xs W rfl ⟨v, h1, h2, _, h3, h4⟩ hK
    rw [bkw_len] at h2
    have c5 := cell_of_block h1
    have OO := Lib.hid h2
    clear h2
    go_wp2
    refine ⟨by simp, .inl ⟨_, _, rfl, run_takeDeferred hK, ?_⟩⟩
    refine ⟨.tuple #[v, .int .i64 0], ?_, v, rfl, ownEd_lowU (ownsRow_putObj OO.out _ hK rfl) (by omega), h4.trans (below_put (by omega))⟩
    simp [results, Try.results11, go_sem]
end Go.Proofs.Ytpgonfeobfefaaa
