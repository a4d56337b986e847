/- Contracts: MergeDecks, the program's and the model's. -/
import Derived.Test.YtdbkplfkilaoeaaMg
import Derived.Test.YtdbkplfkilaoeaaSortC
namespace Go.Proofs.Ytdbkplfkilaoeaa
open Go.ChangeShapes Go.WideShapes Go.ChangeAt Go.RowKit

def mdC (s : ByteArray) (k st sz : Int) (cs ds : List Cd) : Int :=
  if deckOk cs = false then 1 else if deckOk ds = false then 1 else if fieldOk s k st sz = false then 1 else if ordC k st sz cs = false then 4 else if ordC k st sz ds = false then 4 else if 80 < cs.length + ds.length then 3 else if deckOk (mrg (kyC k st sz) cs ds) = false then 8 else 0
def mdL (s : ByteArray) (k st sz : Int) (cs ds : List Cd) : List Cd := if mdC s k st sz cs ds = 0 then mrg (kyC k st sz) cs ds else []
/-- A deck, a code. -/
def MdR (xs : List Cd) (c : Int) (w : World) (e : Ending) (w' : World) : Prop := ∃ v, e = .returned (.tuple #[v, .int .i64 c]) ∧ OwnCards w.heap.size xs v w' ∧ Below w.heap.size w w'
theorem md_nil (c : Int) {w w1 : World} (hB : Below w.heap.size w w1) : MdR [] c w (.returned (.tuple #[.slice none 0 0, .int .i64 c])) w1 := ⟨_, rfl, ⟨rfl, .inl ⟨rfl, rfl⟩⟩, hB⟩
theorem fits_mrg {w : World} {a b : Option Addr} {cs ds : List Cd} (ky : Cd → Int) (h1 : CardsIn w a cs) (h2 : CardsIn w b ds) : ∀ i, i < (mrg ky cs ds).length → (cdAt (mrg ky cs ds) i).fits := fun i hi => by
  have hm : cdAt (mrg ky cs ds) i ∈ mrg ky cs ds := by unfold cdAt; rw [List.getD, List.getElem?_eq_getElem hi]; exact List.getElem_mem hi
  have one : ∀ {a : Option Addr} {xs : List Cd}, CardsIn w a xs → ∀ x ∈ xs, x.fits := fun {a xs} h x hx => by
    obtain ⟨k, hk, e⟩ := List.mem_iff_getElem.1 hx
    have := (h k hk).1
    unfold cdAt at this
    rw [List.getD, List.getElem?_eq_getElem hk] at this
    rw [← e]; exact this
  rcases mrg_mem ky _ cs ds rfl _ hm with h | h
  · exact one h1 _ h
  · exact one h2 _ h

set_option maxRecDepth 100000 in
set_option maxHeartbeats 3200000 in
theorem iMergeDecks_any (s : ByteArray) (k st sz : Int) (hs : s.size ≤ maxLen) (hk : I8 k) (ht : I16 st) (hz : I16 sz) (ad bd : Option Addr) (cs ds : List Cd) (c d : Nat) (w : World) (hc : CardsIn w ad cs) (hd : CardsIn w bd ds) (cl : cs.length ≤ c) (dl : ds.length ≤ d) :
    Calls Try.prog 17 #[.slice ad cs.length c, .slice bd ds.length d, .agg #[.string s, .int .i8 k, .int .i16 st, .int .i16 sz]] w (MdR (mdL s k st sz cs ds) (mdC s k st sz cs ds) w) := by
  have hmf : ∀ (fn : Fn) (first cap : Array Value) (w : World), (Instr.makeFunc fn first cap).run Try.prog w = .ok (.func fn first cap) w := fun _ _ _ _ => rfl
  have D1 := Lib.hid fun W h => iDeckOk_any ad cs c W h
  have D2 := Lib.hid fun W h => iDeckOk_any bd ds d W h
  have V := Lib.hid fun W => iVF_any s k st sz hs hk ht hz W
  have B0 := Lib.hid (fBox_start w s k st sz)
  have H0 := Lib.hid hc
  have J0 := Lib.hid hd
  have CL := Lib.hid cl
  have DL := Lib.hid dl
  have FT := Lib.hid (fits_mrg (kyC k st sz) hc hd)
  have tk1 : True := trivial
  have tk2 : True := trivial
  have tk4 : True := trivial
  have hC : ∀ n : Int, mdC s k st sz cs ds = n → n ≠ 0 → Hid (mdL s k st sz cs ds = [] ∧ mdC s k st sz cs ds = n) := fun n h h0 => Lib.hid ⟨by unfold mdL; rw [if_neg (by rw [h]; exact h0)], h⟩
  clear hc hd cl dl hs hk ht hz
  cases h1 : deckOk cs
  · rw [h1] at D1
    have X := hC 1 (by unfold mdC; rw [if_pos h1]) (by decide)
    clear h1 hC D2 V FT
    rw [X.out.1, X.out.2]
    go_enter Try.func17, Try.ntmps17
    go_wp2_with (first
      | (go_at_call 27; have _t := tk1; clear _t tk1; refine (D1.out _ (cardsIn_below H0.out B0.out.2)).mono ?_; rintro e w1 ⟨rfl, hB⟩; have B1 := Lib.hid (fBox_ab B0.out hB); have c0 := cell_of_block B1.out.1; clear hB))
    go_returns
    exact md_nil _ B1.out.2
  rw [h1] at D1
  cases h2 : deckOk ds
  · rw [h2] at D2
    have X := hC 1 (by unfold mdC; rw [if_neg (by rw [h1]; decide), if_pos h2]) (by decide)
    clear h1 h2 hC V FT
    rw [X.out.1, X.out.2]
    go_enter Try.func17, Try.ntmps17
    go_wp2_with (first
      | (go_at_call 27; have _t := tk1; clear _t tk1; refine (D1.out _ (cardsIn_below H0.out B0.out.2)).mono ?_; rintro e w1 ⟨rfl, hB⟩; have B1 := Lib.hid (fBox_ab B0.out hB); have c0 := cell_of_block B1.out.1; clear hB)
      | (go_at_call 27; have _t := tk2; clear _t tk2; refine (D2.out _ (cardsIn_below J0.out B1.out.2)).mono ?_; rintro e w2 ⟨rfl, hB⟩; have B2 := Lib.hid (fBox_ab B1.out hB); clear c0; have c0 := cell_of_block B2.out.1; clear hB))
    go_returns
    exact md_nil _ B2.out.2
  rw [h2] at D2
  cases h3 : fieldOk s k st sz
  · rw [h3] at V
    have X := hC 1 (by unfold mdC; rw [if_neg (by rw [h1]; decide), if_neg (by rw [h2]; decide), if_pos h3]) (by decide)
    clear h1 h2 h3 hC FT
    rw [X.out.1, X.out.2]
    go_enter Try.func17, Try.ntmps17
    go_wp2_with (first
      | (go_at_call 27; have _t := tk1; clear _t tk1; refine (D1.out _ (cardsIn_below H0.out B0.out.2)).mono ?_; rintro e w1 ⟨rfl, hB⟩; have B1 := Lib.hid (fBox_ab B0.out hB); have c0 := cell_of_block B1.out.1; clear hB)
      | (go_at_call 27; have _t := tk2; clear _t tk2; refine (D2.out _ (cardsIn_below J0.out B1.out.2)).mono ?_; rintro e w2 ⟨rfl, hB⟩; have B2 := Lib.hid (fBox_ab B1.out hB); clear c0; have c0 := cell_of_block B2.out.1; clear hB)
      | (go_at_call 37; refine (V.out _).mono ?_; rintro e w3 ⟨rfl, hB⟩; have B3 := Lib.hid (fBox_ab B2.out hB); clear c0; have c0 := cell_of_block B3.out.1; clear hB))
    go_returns
    exact md_nil _ B3.out.2
  rw [h3] at V
  have n1 := deckOk_80 h1
  have n2 := deckOk_80 h2
  have O1 := Lib.hid fun W h => iOrder_any s k st sz h3 ad cs c W h n1
  have O2 := Lib.hid fun W h => iOrder_any s k st sz h3 bd ds d W h n2
  cases h4 : ordC k st sz cs
  · rw [h4] at O1
    have X := hC 4 (by unfold mdC; rw [if_neg (by rw [h1]; decide), if_neg (by rw [h2]; decide), if_neg (by rw [h3]; decide), if_pos h4]) (by decide)
    clear h1 h2 h3 h4 hC FT
    rw [X.out.1, X.out.2]
    go_enter Try.func17, Try.ntmps17
    go_wp2_with (first
      | (go_at_call 27; have _t := tk1; clear _t tk1; refine (D1.out _ (cardsIn_below H0.out B0.out.2)).mono ?_; rintro e w1 ⟨rfl, hB⟩; have B1 := Lib.hid (fBox_ab B0.out hB); have c0 := cell_of_block B1.out.1; clear hB)
      | (go_at_call 27; have _t := tk2; clear _t tk2; refine (D2.out _ (cardsIn_below J0.out B1.out.2)).mono ?_; rintro e w2 ⟨rfl, hB⟩; have B2 := Lib.hid (fBox_ab B1.out hB); clear c0; have c0 := cell_of_block B2.out.1; clear hB)
      | (go_at_call 37; refine (V.out _).mono ?_; rintro e w3 ⟨rfl, hB⟩; have B3 := Lib.hid (fBox_ab B2.out hB); clear c0; have c0 := cell_of_block B3.out.1; clear hB)
      | (go_at_call 38; have _t := tk4; clear _t tk4; refine (O1.out _ (cardsIn_below H0.out B3.out.2)).mono ?_; rintro e w4 ⟨rfl, hB⟩; have B4 := Lib.hid (fBox_ab B3.out hB); clear c0; have c0 := cell_of_block B4.out.1; clear hB))
    go_returns
    exact md_nil _ B4.out.2
  rw [h4] at O1
  cases h5 : ordC k st sz ds
  · rw [h5] at O2
    have X := hC 4 (by unfold mdC; rw [if_neg (by rw [h1]; decide), if_neg (by rw [h2]; decide), if_neg (by rw [h3]; decide), if_neg (by rw [h4]; decide), if_pos h5]) (by decide)
    clear h1 h2 h3 h4 h5 hC FT
    rw [X.out.1, X.out.2]
    go_enter Try.func17, Try.ntmps17
    go_wp2_with (first
      | (go_at_call 27; have _t := tk1; clear _t tk1; refine (D1.out _ (cardsIn_below H0.out B0.out.2)).mono ?_; rintro e w1 ⟨rfl, hB⟩; have B1 := Lib.hid (fBox_ab B0.out hB); have c0 := cell_of_block B1.out.1; clear hB)
      | (go_at_call 27; have _t := tk2; clear _t tk2; refine (D2.out _ (cardsIn_below J0.out B1.out.2)).mono ?_; rintro e w2 ⟨rfl, hB⟩; have B2 := Lib.hid (fBox_ab B1.out hB); clear c0; have c0 := cell_of_block B2.out.1; clear hB)
      | (go_at_call 37; refine (V.out _).mono ?_; rintro e w3 ⟨rfl, hB⟩; have B3 := Lib.hid (fBox_ab B2.out hB); clear c0; have c0 := cell_of_block B3.out.1; clear hB)
      | (go_at_call 38; have _t := tk4; clear _t tk4; refine (O1.out _ (cardsIn_below H0.out B3.out.2)).mono ?_; rintro e w4 ⟨rfl, hB⟩; have B4 := Lib.hid (fBox_ab B3.out hB); clear c0; have c0 := cell_of_block B4.out.1; clear hB)
      | (go_at_call 38; refine (O2.out _ (cardsIn_below J0.out B4.out.2)).mono ?_; rintro e w5 ⟨rfl, hB⟩; have B5 := Lib.hid (fBox_ab B4.out hB); clear c0; have c0 := cell_of_block B5.out.1; clear hB))
    go_returns
    exact md_nil _ B5.out.2
  rw [h5] at O2
  by_cases h6 : 80 < cs.length + ds.length
  · have X := hC 3 (by unfold mdC; rw [if_neg (by rw [h1]; decide), if_neg (by rw [h2]; decide), if_neg (by rw [h3]; decide), if_neg (by rw [h4]; decide), if_neg (by rw [h5]; decide), if_pos h6]) (by decide)
    have d6 : decide ((80 : Int) < (cs.length : Int) + (ds.length : Int)) = true := decide_eq_true (by omega)
    clear h1 h2 h3 h4 h5 hC FT
    rw [X.out.1, X.out.2]
    go_enter Try.func17, Try.ntmps17
    go_wp2_with (first
      | (go_at_call 27; have _t := tk1; clear _t tk1; refine (D1.out _ (cardsIn_below H0.out B0.out.2)).mono ?_; rintro e w1 ⟨rfl, hB⟩; have B1 := Lib.hid (fBox_ab B0.out hB); have c0 := cell_of_block B1.out.1; clear hB)
      | (go_at_call 27; have _t := tk2; clear _t tk2; refine (D2.out _ (cardsIn_below J0.out B1.out.2)).mono ?_; rintro e w2 ⟨rfl, hB⟩; have B2 := Lib.hid (fBox_ab B1.out hB); clear c0; have c0 := cell_of_block B2.out.1; clear hB)
      | (go_at_call 37; refine (V.out _).mono ?_; rintro e w3 ⟨rfl, hB⟩; have B3 := Lib.hid (fBox_ab B2.out hB); clear c0; have c0 := cell_of_block B3.out.1; clear hB)
      | (go_at_call 38; have _t := tk4; clear _t tk4; refine (O1.out _ (cardsIn_below H0.out B3.out.2)).mono ?_; rintro e w4 ⟨rfl, hB⟩; have B4 := Lib.hid (fBox_ab B3.out hB); clear c0; have c0 := cell_of_block B4.out.1; clear hB)
      | (go_at_call 38; refine (O2.out _ (cardsIn_below J0.out B4.out.2)).mono ?_; rintro e w5 ⟨rfl, hB⟩; have B5 := Lib.hid (fBox_ab B4.out hB); clear c0; have c0 := cell_of_block B5.out.1; clear hB))
    go_returns
    exact md_nil _ B5.out.2
  have d6 : decide ((80 : Int) < (cs.length : Int) + (ds.length : Int)) = false := decide_eq_false (by omega)
  have MG := Lib.hid fun W hx hy => iMerge_any s k st sz h3 ad bd cs ds c d W hx hy CL.out DL.out (by omega)
  have DM := Lib.hid fun a c W h => iDeckOk_any a (mrg (kyC k st sz) cs ds) c W h
  cases h7 : deckOk (mrg (kyC k st sz) cs ds)
  · have X := hC 8 (by unfold mdC; rw [if_neg (by rw [h1]; decide), if_neg (by rw [h2]; decide), if_neg (by rw [h3]; decide), if_neg (by rw [h4]; decide), if_neg (by rw [h5]; decide), if_neg h6, if_pos h7]) (by decide)
    rw [h7] at DM
    clear h1 h2 h3 h4 h5 h7 hC
    rw [X.out.1, X.out.2]
    clear X
    generalize mrg (kyC k st sz) cs ds = xs at *
    go_enter Try.func17, Try.ntmps17
    go_wp2_with (first
      | (go_at_call 27; have _t := tk1; clear _t tk1; refine (D1.out _ (cardsIn_below H0.out B0.out.2)).mono ?_; rintro e w1 ⟨rfl, hB⟩; have B1 := Lib.hid (fBox_ab B0.out hB); have c0 := cell_of_block B1.out.1; clear hB)
      | (go_at_call 27; have _t := tk2; clear _t tk2; refine (D2.out _ (cardsIn_below J0.out B1.out.2)).mono ?_; rintro e w2 ⟨rfl, hB⟩; have B2 := Lib.hid (fBox_ab B1.out hB); clear c0; have c0 := cell_of_block B2.out.1; clear hB)
      | (go_at_call 37; refine (V.out _).mono ?_; rintro e w3 ⟨rfl, hB⟩; have B3 := Lib.hid (fBox_ab B2.out hB); clear c0; have c0 := cell_of_block B3.out.1; clear hB)
      | (go_at_call 38; have _t := tk4; clear _t tk4; refine (O1.out _ (cardsIn_below H0.out B3.out.2)).mono ?_; rintro e w4 ⟨rfl, hB⟩; have B4 := Lib.hid (fBox_ab B3.out hB); clear c0; have c0 := cell_of_block B4.out.1; clear hB)
      | (go_at_call 38; refine (O2.out _ (cardsIn_below J0.out B4.out.2)).mono ?_; rintro e w5 ⟨rfl, hB⟩; have B5 := Lib.hid (fBox_ab B4.out hB); clear c0; have c0 := cell_of_block B5.out.1; clear hB)
      | (go_at_call 40; refine (MG.out _ (cardsIn_below H0.out B5.out.2) (cardsIn_below J0.out B5.out.2)).mono ?_; rintro e w6 ⟨v, rfl, hO, hB⟩; obtain ⟨a6, c6, rfl, hi⟩ := ownCards_in hO; have I6 := Lib.hid (cardsIn_of hi FT.out); have O6 := Lib.hid (ownCards_weaken hO B5.out.2.size); have B6 := Lib.hid (fBox_ab B5.out hB); clear hB hO hi)
      | (go_at_call 27; refine (DM.out _ _ _ I6.out).mono ?_; rintro e w7 ⟨rfl, hB⟩; have B7 := Lib.hid (fBox_ab B6.out hB); have O7 := Lib.hid (ownCards_kept O6.out hB); clear hB))
    go_returns
    exact md_nil _ B7.out.2
  have X : mdC s k st sz cs ds = 0 := by unfold mdC; rw [if_neg (by rw [h1]; decide), if_neg (by rw [h2]; decide), if_neg (by rw [h3]; decide), if_neg (by rw [h4]; decide), if_neg (by rw [h5]; decide), if_neg h6, if_neg (by rw [h7]; decide)]
  have Y : mdL s k st sz cs ds = mrg (kyC k st sz) cs ds := by unfold mdL; rw [if_pos X]
  rw [h7] at DM
  rw [X, Y]
  clear h1 h2 h3 h4 h5 h7 hC X Y
  generalize mrg (kyC k st sz) cs ds = xs at *
  go_enter Try.func17, Try.ntmps17
  go_wp2_with (first
    | (go_at_call 27; have _t := tk1; clear _t tk1; refine (D1.out _ (cardsIn_below H0.out B0.out.2)).mono ?_; rintro e w1 ⟨rfl, hB⟩; have B1 := Lib.hid (fBox_ab B0.out hB); have c0 := cell_of_block B1.out.1; clear hB)
    | (go_at_call 27; have _t := tk2; clear _t tk2; refine (D2.out _ (cardsIn_below J0.out B1.out.2)).mono ?_; rintro e w2 ⟨rfl, hB⟩; have B2 := Lib.hid (fBox_ab B1.out hB); clear c0; have c0 := cell_of_block B2.out.1; clear hB)
    | (go_at_call 37; refine (V.out _).mono ?_; rintro e w3 ⟨rfl, hB⟩; have B3 := Lib.hid (fBox_ab B2.out hB); clear c0; have c0 := cell_of_block B3.out.1; clear hB)
    | (go_at_call 38; have _t := tk4; clear _t tk4; refine (O1.out _ (cardsIn_below H0.out B3.out.2)).mono ?_; rintro e w4 ⟨rfl, hB⟩; have B4 := Lib.hid (fBox_ab B3.out hB); clear c0; have c0 := cell_of_block B4.out.1; clear hB)
    | (go_at_call 38; refine (O2.out _ (cardsIn_below J0.out B4.out.2)).mono ?_; rintro e w5 ⟨rfl, hB⟩; have B5 := Lib.hid (fBox_ab B4.out hB); clear c0; have c0 := cell_of_block B5.out.1; clear hB)
    | (go_at_call 40; refine (MG.out _ (cardsIn_below H0.out B5.out.2) (cardsIn_below J0.out B5.out.2)).mono ?_; rintro e w6 ⟨v, rfl, hO, hB⟩; obtain ⟨a6, c6, rfl, hi⟩ := ownCards_in hO; have I6 := Lib.hid (cardsIn_of hi FT.out); have O6 := Lib.hid (ownCards_weaken hO B5.out.2.size); have B6 := Lib.hid (fBox_ab B5.out hB); clear hB hO hi)
    | (go_at_call 27; refine (DM.out _ _ _ I6.out).mono ?_; rintro e w7 ⟨rfl, hB⟩; have B7 := Lib.hid (fBox_ab B6.out hB); have O7 := Lib.hid (ownCards_kept O6.out hB); clear hB))
  go_returns
  exact ⟨_, rfl, O7.out, B7.out.2⟩

theorem drop_at {cs : List Cd} {i : Nat} (h : i < cs.length) : cs.drop i = cdAt cs i :: cs.drop (i + 1) := by
  rw [List.drop_eq_getElem_cons h]; unfold cdAt; rw [List.getD, List.getElem?_eq_getElem h]; rfl
theorem md_new (c : Int) {B : Nat} {w w1 : World} (hB : Below w.heap.size w w1) (hs : w.heap.size ≤ w1.heap.size) (hb : B = w1.heap.size) : MdR [] c w (.returned (.tuple #[.slice (some ⟨B, 0, none⟩) 0 0, .int .i64 c])) (w1.alloc (.cells #[] 50)) := by
  subst hb; exact ⟨_, rfl, World.ownsRow_made w1 #[] 0 hs (Nat.zero_le _) rfl, below_new hB _⟩

set_option maxRecDepth 100000 in
set_option maxHeartbeats 6400000 in
theorem sMergeDecks_any (s : ByteArray) (k st sz : Int) (hs : s.size ≤ maxLen) (ht : I16 st) (hz : I16 sz) (ad bd : Option Addr) (cs ds : List Cd) (c d : Nat) (w : World) (hc : CardsIn w ad cs) (hd : CardsIn w bd ds) :
    Calls Try.prog 15 #[.slice ad cs.length c, .slice bd ds.length d, .agg #[.string s, .int .i8 k, .int .i16 st, .int .i16 sz]] w (MdR (mdL s k st sz cs ds) (mdC s k st sz cs ds) w) := by
  obtain ⟨i0, hi, hz0, hz1, hz2⟩ := info_parts info_card
  have D1 := Lib.hid fun W h => sDeckOk_any ad cs c W h
  have D2 := Lib.hid fun W h => sDeckOk_any bd ds d W h
  have V := Lib.hid fun W h0 h1 h2 h3 => sVF_any s k st sz hs ht hz w.heap.size 0 W h0 h1 h2 h3
  have B0 := Lib.hid (fBox_start w s k st sz)
  have H0 := Lib.hid hc
  have J0 := Lib.hid hd
  have FT := Lib.hid (fits_mrg (kyC k st sz) hc hd)
  have tk1 : True := trivial
  have tk2 : True := trivial
  have tk4 : True := trivial
  have hC : ∀ n : Int, mdC s k st sz cs ds = n → n ≠ 0 → Hid (mdL s k st sz cs ds = [] ∧ mdC s k st sz cs ds = n) := fun n h h0 => Lib.hid ⟨by unfold mdL; rw [if_neg (by rw [h]; exact h0)], h⟩
  clear hc hd hs ht hz
  cases h1 : deckOk cs
  · rw [h1] at D1
    have X := hC 1 (by unfold mdC; rw [if_pos h1]) (by decide)
    clear h1 hC D2 V FT
    rw [X.out.1, X.out.2]
    go_enter Try.func15, Try.ntmps15
    go_wp2_with (first
      | (go_at_call 33; have _t := tk1; clear _t tk1; refine (D1.out _ (cardsIn_below H0.out B0.out.2)).mono ?_; rintro e w1 ⟨rfl, hB⟩; have B1 := Lib.hid (fBox_ab B0.out hB); clear hB))
    go_returns
    exact md_new _ B1.out.2 B1.out.2.size (by simp)
  rw [h1] at D1
  cases h2 : deckOk ds
  · rw [h2] at D2
    have X := hC 1 (by unfold mdC; rw [if_neg (by rw [h1]; decide), if_pos h2]) (by decide)
    clear h1 h2 hC V FT
    rw [X.out.1, X.out.2]
    go_enter Try.func15, Try.ntmps15
    go_wp2_with (first
      | (go_at_call 33; have _t := tk1; clear _t tk1; refine (D1.out _ (cardsIn_below H0.out B0.out.2)).mono ?_; rintro e w1 ⟨rfl, hB⟩; have B1 := Lib.hid (fBox_ab B0.out hB); clear hB)
      | (go_at_call 33; have _t := tk2; clear _t tk2; refine (D2.out _ (cardsIn_below J0.out B1.out.2)).mono ?_; rintro e w2 ⟨rfl, hB⟩; have B2 := Lib.hid (fBox_ab B1.out hB); clear hB))
    go_returns
    exact md_new _ B2.out.2 B2.out.2.size (by simp)
  rw [h2] at D2
  cases h3 : fieldOk s k st sz
  · rw [h3] at V
    have X := hC 1 (by unfold mdC; rw [if_neg (by rw [h1]; decide), if_neg (by rw [h2]; decide), if_pos h3]) (by decide)
    clear h1 h2 h3 hC FT
    rw [X.out.1, X.out.2]
    go_enter Try.func15, Try.ntmps15
    go_wp2_with (first
      | (go_at_call 33; have _t := tk1; clear _t tk1; refine (D1.out _ (cardsIn_below H0.out B0.out.2)).mono ?_; rintro e w1 ⟨rfl, hB⟩; have B1 := Lib.hid (fBox_ab B0.out hB); clear hB)
      | (go_at_call 33; have _t := tk2; clear _t tk2; refine (D2.out _ (cardsIn_below J0.out B1.out.2)).mono ?_; rintro e w2 ⟨rfl, hB⟩; have B2 := Lib.hid (fBox_ab B1.out hB); clear hB)
      | (go_at_call 34; refine Calls.mono (V.out _ ?_ ?_ ?_ ?_) ?_; exact cell_of_block B2.out.1 0; exact cell_of_block B2.out.1 1; exact cell_of_block B2.out.1 2; exact cell_of_block B2.out.1 3; rintro e w3 ⟨rfl, hB⟩; have B3 := Lib.hid (fBox_ab B2.out hB); clear hB))
    go_returns
    exact md_new _ B3.out.2 B3.out.2.size (by simp)
  rw [h3] at V
  have n1 := deckOk_80 h1
  have n2 := deckOk_80 h2
  have O1 := Lib.hid fun W h q1 q2 q3 => sSorted_any s k st sz h3 ad cs c w.heap.size 0 W h n1 q1 q2 q3
  have O2 := Lib.hid fun W h q1 q2 q3 => sSorted_any s k st sz h3 bd ds d w.heap.size 0 W h n2 q1 q2 q3
  cases h4 : ordC k st sz cs
  · rw [h4] at O1
    have X := hC 4 (by unfold mdC; rw [if_neg (by rw [h1]; decide), if_neg (by rw [h2]; decide), if_neg (by rw [h3]; decide), if_pos h4]) (by decide)
    clear h1 h2 h3 h4 hC FT
    rw [X.out.1, X.out.2]
    go_enter Try.func15, Try.ntmps15
    go_wp2_with (first
      | (go_at_call 33; have _t := tk1; clear _t tk1; refine (D1.out _ (cardsIn_below H0.out B0.out.2)).mono ?_; rintro e w1 ⟨rfl, hB⟩; have B1 := Lib.hid (fBox_ab B0.out hB); clear hB)
      | (go_at_call 33; have _t := tk2; clear _t tk2; refine (D2.out _ (cardsIn_below J0.out B1.out.2)).mono ?_; rintro e w2 ⟨rfl, hB⟩; have B2 := Lib.hid (fBox_ab B1.out hB); clear hB)
      | (go_at_call 34; refine Calls.mono (V.out _ ?_ ?_ ?_ ?_) ?_; exact cell_of_block B2.out.1 0; exact cell_of_block B2.out.1 1; exact cell_of_block B2.out.1 2; exact cell_of_block B2.out.1 3; rintro e w3 ⟨rfl, hB⟩; have B3 := Lib.hid (fBox_ab B2.out hB); clear hB)
      | (go_at_call 35; have _t := tk4; clear _t tk4; refine Calls.mono (O1.out _ (cardsIn_below H0.out B3.out.2) ?_ ?_ ?_) ?_; exact cell_of_block B3.out.1 1; exact cell_of_block B3.out.1 2; exact cell_of_block B3.out.1 3; rintro e w4 ⟨rfl, hB⟩; have B4 := Lib.hid (fBox_ab B3.out hB); clear hB))
    go_returns
    exact md_new _ B4.out.2 B4.out.2.size (by simp)
  rw [h4] at O1
  cases h5 : ordC k st sz ds
  · rw [h5] at O2
    have X := hC 4 (by unfold mdC; rw [if_neg (by rw [h1]; decide), if_neg (by rw [h2]; decide), if_neg (by rw [h3]; decide), if_neg (by rw [h4]; decide), if_pos h5]) (by decide)
    clear h1 h2 h3 h4 h5 hC FT
    rw [X.out.1, X.out.2]
    go_enter Try.func15, Try.ntmps15
    go_wp2_with (first
      | (go_at_call 33; have _t := tk1; clear _t tk1; refine (D1.out _ (cardsIn_below H0.out B0.out.2)).mono ?_; rintro e w1 ⟨rfl, hB⟩; have B1 := Lib.hid (fBox_ab B0.out hB); clear hB)
      | (go_at_call 33; have _t := tk2; clear _t tk2; refine (D2.out _ (cardsIn_below J0.out B1.out.2)).mono ?_; rintro e w2 ⟨rfl, hB⟩; have B2 := Lib.hid (fBox_ab B1.out hB); clear hB)
      | (go_at_call 34; refine Calls.mono (V.out _ ?_ ?_ ?_ ?_) ?_; exact cell_of_block B2.out.1 0; exact cell_of_block B2.out.1 1; exact cell_of_block B2.out.1 2; exact cell_of_block B2.out.1 3; rintro e w3 ⟨rfl, hB⟩; have B3 := Lib.hid (fBox_ab B2.out hB); clear hB)
      | (go_at_call 35; have _t := tk4; clear _t tk4; refine Calls.mono (O1.out _ (cardsIn_below H0.out B3.out.2) ?_ ?_ ?_) ?_; exact cell_of_block B3.out.1 1; exact cell_of_block B3.out.1 2; exact cell_of_block B3.out.1 3; rintro e w4 ⟨rfl, hB⟩; have B4 := Lib.hid (fBox_ab B3.out hB); clear hB)
      | (go_at_call 35; refine Calls.mono (O2.out _ (cardsIn_below J0.out B4.out.2) ?_ ?_ ?_) ?_; exact cell_of_block B4.out.1 1; exact cell_of_block B4.out.1 2; exact cell_of_block B4.out.1 3; rintro e w5 ⟨rfl, hB⟩; have B5 := Lib.hid (fBox_ab B4.out hB); clear hB))
    go_returns
    exact md_new _ B5.out.2 B5.out.2.size (by simp)
  rw [h5] at O2
  by_cases h6 : 80 < cs.length + ds.length
  · have X := hC 3 (by unfold mdC; rw [if_neg (by rw [h1]; decide), if_neg (by rw [h2]; decide), if_neg (by rw [h3]; decide), if_neg (by rw [h4]; decide), if_neg (by rw [h5]; decide), if_pos h6]) (by decide)
    have d6 : decide ((80 : Int) < (cs.length : Int) + (ds.length : Int)) = true := decide_eq_true (by omega)
    clear h1 h2 h3 h4 h5 hC FT
    rw [X.out.1, X.out.2]
    go_enter Try.func15, Try.ntmps15
    go_wp2_with (first
      | (go_at_call 33; have _t := tk1; clear _t tk1; refine (D1.out _ (cardsIn_below H0.out B0.out.2)).mono ?_; rintro e w1 ⟨rfl, hB⟩; have B1 := Lib.hid (fBox_ab B0.out hB); clear hB)
      | (go_at_call 33; have _t := tk2; clear _t tk2; refine (D2.out _ (cardsIn_below J0.out B1.out.2)).mono ?_; rintro e w2 ⟨rfl, hB⟩; have B2 := Lib.hid (fBox_ab B1.out hB); clear hB)
      | (go_at_call 34; refine Calls.mono (V.out _ ?_ ?_ ?_ ?_) ?_; exact cell_of_block B2.out.1 0; exact cell_of_block B2.out.1 1; exact cell_of_block B2.out.1 2; exact cell_of_block B2.out.1 3; rintro e w3 ⟨rfl, hB⟩; have B3 := Lib.hid (fBox_ab B2.out hB); clear hB)
      | (go_at_call 35; have _t := tk4; clear _t tk4; refine Calls.mono (O1.out _ (cardsIn_below H0.out B3.out.2) ?_ ?_ ?_) ?_; exact cell_of_block B3.out.1 1; exact cell_of_block B3.out.1 2; exact cell_of_block B3.out.1 3; rintro e w4 ⟨rfl, hB⟩; have B4 := Lib.hid (fBox_ab B3.out hB); clear hB)
      | (go_at_call 35; refine Calls.mono (O2.out _ (cardsIn_below J0.out B4.out.2) ?_ ?_ ?_) ?_; exact cell_of_block B4.out.1 1; exact cell_of_block B4.out.1 2; exact cell_of_block B4.out.1 3; rintro e w5 ⟨rfl, hB⟩; have B5 := Lib.hid (fBox_ab B4.out hB); clear hB))
    go_returns
    exact md_new _ B5.out.2 B5.out.2.size (by simp)
  have d6 : decide ((80 : Int) < (cs.length : Int) + (ds.length : Int)) = false := decide_eq_false (by omega)
  have DM := Lib.hid fun a c W h => sDeckOk_any a (mrg (kyC k st sz) cs ds) c W h
  have X8 := Lib.hid fun (h7 : deckOk (mrg (kyC k st sz) cs ds) = false) => hC 8 (by unfold mdC; rw [if_neg (by rw [h1]; decide), if_neg (by rw [h2]; decide), if_neg (by rw [h3]; decide), if_neg (by rw [h4]; decide), if_neg (by rw [h5]; decide), if_neg h6, if_pos h7]) (by decide)
  have X0 := Lib.hid fun (h7 : deckOk (mrg (kyC k st sz) cs ds) = true) => (show mdL s k st sz cs ds = mrg (kyC k st sz) cs ds ∧ mdC s k st sz cs ds = 0 by
    have X : mdC s k st sz cs ds = 0 := by unfold mdC; rw [if_neg (by rw [h1]; decide), if_neg (by rw [h2]; decide), if_neg (by rw [h3]; decide), if_neg (by rw [h4]; decide), if_neg (by rw [h5]; decide), if_neg h6, if_neg (by rw [h7]; decide)]
    exact ⟨by unfold mdL; rw [if_pos X], X⟩)
  have K : Hid (∀ x : Cd, x.fits → ∀ W : World, W.cell? ⟨w.heap.size, 0 + 1, none⟩ = some (.int .i8 k) → W.cell? ⟨w.heap.size, 0 + 2, none⟩ = some (.int .i16 st) → W.cell? ⟨w.heap.size, 0 + 3, none⟩ = some (.int .i16 sz) →
      Calls Try.prog 36 #[.pointer (some ⟨w.heap.size, 0, none⟩), .agg #[.int .u64 x.a, .int .u64 x.b]] W fun e w' => e = .returned (.int .i64 (kyC k st sz x)) ∧ Below W.heap.size W w') :=
    Lib.hid fun x hx W c1 c2 c3 => sKey_any s k st sz h3 _ _ hx.2.1 hx.2.2 w.heap.size 0 W c1 c2 c3
  have hbw := cell_bw
  generalize mdL s k st sz cs ds = RL at *
  generalize mdC s k st sz cs ds = RC9 at *
  have h6 : cs.length + ds.length ≤ 80 := by omega
  clear h1 h2 h3 h4 h5 hC
  go_enter Try.func15, Try.ntmps15
  go_wp2_with (first
    | (go_at_call 33; have _t := tk1; clear _t tk1; refine (D1.out _ (cardsIn_below H0.out B0.out.2)).mono ?_; rintro e w1 ⟨rfl, hB⟩; have B1 := Lib.hid (fBox_ab B0.out hB); clear hB)
    | (go_at_call 33; have _t := tk2; clear _t tk2; refine (D2.out _ (cardsIn_below J0.out B1.out.2)).mono ?_; rintro e w2 ⟨rfl, hB⟩; have B2 := Lib.hid (fBox_ab B1.out hB); clear hB)
    | (go_at_call 34; refine Calls.mono (V.out _ ?_ ?_ ?_ ?_) ?_; exact cell_of_block B2.out.1 0; exact cell_of_block B2.out.1 1; exact cell_of_block B2.out.1 2; exact cell_of_block B2.out.1 3; rintro e w3 ⟨rfl, hB⟩; have B3 := Lib.hid (fBox_ab B2.out hB); clear hB)
    | (go_at_call 35; have _t := tk4; clear _t tk4; refine Calls.mono (O1.out _ (cardsIn_below H0.out B3.out.2) ?_ ?_ ?_) ?_; exact cell_of_block B3.out.1 1; exact cell_of_block B3.out.1 2; exact cell_of_block B3.out.1 3; rintro e w4 ⟨rfl, hB⟩; have B4 := Lib.hid (fBox_ab B3.out hB); clear hB)
    | (go_at_call 35; refine Calls.mono (O2.out _ (cardsIn_below J0.out B4.out.2) ?_ ?_ ?_) ?_; exact cell_of_block B4.out.1 1; exact cell_of_block B4.out.1 2; exact cell_of_block B4.out.1 3; rintro e w5 ⟨rfl, hB⟩; have B5 := Lib.hid (fBox_ab B4.out hB); clear hB))
  have E5 := Lib.hid (World.ownsRow_made (base := w.heap.size + 1) (e := 50) (size := 3) w5 #[] 0 (lt_of_block B5.out.1) (Nat.zero_le _) rfl)
  have B6 := Lib.hid (fBox_ab B5.out (show Ab w5 (w5.alloc (.cells #[] 50)) from below_new (Below.refl _ _) _))
  generalize w5.alloc (.cells #[] 50) = W6 at *
  go_loopw [8, 9, 10] (fun mv ix jx wr => ∃ (i j : Nat) (L : List Cd), ix = .int .i64 i ∧ jx = .int .i64 j ∧ i ≤ cs.length ∧ j ≤ ds.length ∧ L.length = i + j ∧ L ++ mrg (kyC k st sz) (cs.drop i) (ds.drop j) = mrg (kyC k st sz) cs ds ∧ OwnCards (w.heap.size + 1) L mv wr ∧ FBox w wr s k st sz) (fun _ ix jx _ => cs.length + ds.length - ((intOf ix).toNat + (intOf jx).toNat))
  case atStart => exact ⟨0, 0, [], rfl, rfl, Nat.zero_le _, Nat.zero_le _, rfl, rfl, E5.out, B6.out⟩
  case round =>
    obtain ⟨i, j, L, rfl, rfl, il, jl, hL, hM, hO, hB⟩ := hrel
    have MM := Lib.hid hM
    have OO := Lib.hid hO
    have BB := Lib.hid hB
    have yg := lt_of_block hB.1
    have f1 := cell_of_block hB.1 1
    have f2 := cell_of_block hB.1 2
    have f3 := cell_of_block hB.1 3
    have HB2 := hB.2
    clear E5 B6 hM hO hB
    by_cases hi1 : i < cs.length
    · have di : decide ((i : Int) < (cs.length : Int)) = true := by simpa using hi1
      have ei : ((i : Int) == (cs.length : Int)) = false := by (simp) <;> omega
      obtain ⟨af, b2, o2, rfl, y2, p0, p1, p2⟩ := H0.out i hi1
      have e0 := (HB2.cell (p := ⟨b2, o2 + i * 3, none⟩) y2).trans p0
      have e1 := (HB2.cell (p := ⟨b2, o2 + i * 3 + 1, none⟩) y2).trans p1
      have e2 := (HB2.cell (p := ⟨b2, o2 + i * 3 + 2, none⟩) y2).trans p2
      have y3 := Nat.lt_of_lt_of_le y2 HB2.size
      have i1 : (0 : Int) ≤ (i : Int) := by omega
      have i2 : (i : Int) < (cs.length : Int) := by omega
      have KA := Lib.hid (K.out _ af)
      by_cases hj1 : j < ds.length
      · have dj : decide ((j : Int) < (ds.length : Int)) = true := by simpa using hj1
        obtain ⟨bf, b4, o4, rfl, y4, q0, q1, q2⟩ := J0.out j hj1
        have g0 := (HB2.cell (p := ⟨b4, o4 + j * 3, none⟩) y4).trans q0
        have g1 := (HB2.cell (p := ⟨b4, o4 + j * 3 + 1, none⟩) y4).trans q1
        have g2 := (HB2.cell (p := ⟨b4, o4 + j * 3 + 2, none⟩) y4).trans q2
        have y5 := Nat.lt_of_lt_of_le y4 HB2.size
        have j1 : (0 : Int) ≤ (j : Int) := by omega
        have j2 : (j : Int) < (ds.length : Int) := by omega
        have KB := Lib.hid (K.out _ bf)
        by_cases hk : kyC k st sz (cdAt ds j) < kyC k st sz (cdAt cs i)
        · have MN := MM.out
          rw [drop_at hi1, drop_at hj1, mrg_b1 hk, ← drop_at hi1] at MN
          have MN := Lib.hid ((List.append_assoc L [cdAt ds j] _).trans MN)
          have dk : decide (kyC k st sz (cdAt ds j) < kyC k st sz (cdAt cs i)) = true := decide_eq_true hk
          generalize kyC k st sz (cdAt ds j) = kb at dk KB
          generalize kyC k st sz (cdAt cs i) = ka at dk KA
          clear hk
          clear MM HB2 p0 p1 p2 q0 q1 q2
          generalize cdAt ds j = xb at *
          generalize cdAt cs i = xa at *
          go_wp2_with fail
          refine region_bw (by kernel_rfl) (by kernel_rfl) ?_
          repeat (go_big_quiet_step (first | (go_at_call_of 36 (Value.int IntKind.u64 xb.a); refine calls_bw (KB.out _ ?_ ?_ ?_); exact (hbw _ _ _ _ yg).trans f1; exact (hbw _ _ _ _ yg).trans f2; exact (hbw _ _ _ _ yg).trans f3) | (go_at_call_of 36 (Value.int IntKind.u64 xa.a); refine calls_bw (KA.out _ ?_ ?_ ?_); exact (hbw _ _ _ _ yg).trans f1; exact (hbw _ _ _ _ yg).trans f2; exact (hbw _ _ _ _ yg).trans f3)))
          refine wpQuiet_nil ?_; intro wq hq; replace hq := below_of_bw hq; obtain ⟨qc, qf, qz⟩ := bcell hq
          have O3 := Lib.hid (ownCards_kept OO.out hq)
          have B3 := Lib.hid (fBox_ab BB.out hq)
          have s3 := lt_of_block B3.out.1
          have kg0 := (Below.cell hq (p := ⟨b4, o4 + j * 3 , none⟩) y5).trans g0
          have kg1 := (Below.cell hq (p := ⟨b4, o4 + j * 3 + 1, none⟩) y5).trans g1
          have kg2 := (Below.cell hq (p := ⟨b4, o4 + j * 3 + 2, none⟩) y5).trans g2
          clear hq qc qf qz
          go_wp2_with (at_builtin; refine wpList_append_own _ rfl _ _ 24 rfl (w.heap.size + 1) 50 i0 (.agg #[.string ByteArray.empty, .int .u64 0, .int .u64 0]) 3 32 Try.underlying24 hi hz0 hz1 hz2 rfl (by decide) _ _ _ rfl (World.ownsRow.alloc O3.out _) ⟨wq.heap.size, 0, none⟩ 1 1 [.string xb.s, .int .u64 xb.a, .int .u64 xb.b] rfl rfl (new3 _ _ _ _ _) (fun x hx => by simp at hx; rcases hx with rfl | rfl | rfl <;> rfl) (by unfold maxLen; omega) (by omega) (by simp; omega) ?_; intro v' w4 hown hgrow _; have P := Lib.hid (own_pushC hown); have G := Lib.hid hgrow; clear hown hgrow)
          have hb4 := Below.grown ((Below.refl (w.heap.size + 1) wq).alloc (by omega) _) G.out (by simp; omega) (fun q hq => (World.ownsRow.lt O3.out q hq).1)
          have FB : FBox w w4 s k st sz := ⟨(hb4.block _ (Nat.lt_succ_self _)).trans B3.out.1, B3.out.2.trans (hb4.mono (Nat.le_succ _))⟩
          exact ⟨⟨_, j + 1, L ++ [xb], rfl, by rw [Int.natCast_succ], il, hj1, by simp only [List.length_append, List.length_cons, List.length_nil]; omega, MN.out, P.out, FB⟩, by (simp [intOf]) <;> omega⟩
        · have MN := MM.out
          rw [drop_at hi1, drop_at hj1, mrg_a1 hk, ← drop_at hj1] at MN
          have MN := Lib.hid ((List.append_assoc L [cdAt cs i] _).trans MN)
          have dk : decide (kyC k st sz (cdAt ds j) < kyC k st sz (cdAt cs i)) = false := decide_eq_false hk
          generalize kyC k st sz (cdAt ds j) = kb at dk KB
          generalize kyC k st sz (cdAt cs i) = ka at dk KA
          clear hk
          clear MM HB2 p0 p1 p2 q0 q1 q2
          generalize cdAt ds j = xb at *
          generalize cdAt cs i = xa at *
          go_wp2_with fail
          refine region_bw (by kernel_rfl) (by kernel_rfl) ?_
          repeat (go_big_quiet_step (first | (go_at_call_of 36 (Value.int IntKind.u64 xb.a); refine calls_bw (KB.out _ ?_ ?_ ?_); exact (hbw _ _ _ _ yg).trans f1; exact (hbw _ _ _ _ yg).trans f2; exact (hbw _ _ _ _ yg).trans f3) | (go_at_call_of 36 (Value.int IntKind.u64 xa.a); refine calls_bw (KA.out _ ?_ ?_ ?_); exact (hbw _ _ _ _ yg).trans f1; exact (hbw _ _ _ _ yg).trans f2; exact (hbw _ _ _ _ yg).trans f3)))
          refine wpQuiet_nil ?_; intro wq hq; replace hq := below_of_bw hq; obtain ⟨qc, qf, qz⟩ := bcell hq
          have O3 := Lib.hid (ownCards_kept OO.out hq)
          have B3 := Lib.hid (fBox_ab BB.out hq)
          have s3 := lt_of_block B3.out.1
          have ke0 := (Below.cell hq (p := ⟨b2, o2 + i * 3 , none⟩) y3).trans e0
          have ke1 := (Below.cell hq (p := ⟨b2, o2 + i * 3 + 1, none⟩) y3).trans e1
          have ke2 := (Below.cell hq (p := ⟨b2, o2 + i * 3 + 2, none⟩) y3).trans e2
          clear hq qc qf qz
          go_wp2_with (at_builtin; refine wpList_append_own _ rfl _ _ 24 rfl (w.heap.size + 1) 50 i0 (.agg #[.string ByteArray.empty, .int .u64 0, .int .u64 0]) 3 32 Try.underlying24 hi hz0 hz1 hz2 rfl (by decide) _ _ _ rfl (World.ownsRow.alloc O3.out _) ⟨wq.heap.size, 0, none⟩ 1 1 [.string xa.s, .int .u64 xa.a, .int .u64 xa.b] rfl rfl (new3 _ _ _ _ _) (fun x hx => by simp at hx; rcases hx with rfl | rfl | rfl <;> rfl) (by unfold maxLen; omega) (by omega) (by simp; omega) ?_; intro v' w4 hown hgrow _; have P := Lib.hid (own_pushC hown); have G := Lib.hid hgrow; clear hown hgrow)
          have hb4 := Below.grown ((Below.refl (w.heap.size + 1) wq).alloc (by omega) _) G.out (by simp; omega) (fun q hq => (World.ownsRow.lt O3.out q hq).1)
          have FB : FBox w w4 s k st sz := ⟨(hb4.block _ (Nat.lt_succ_self _)).trans B3.out.1, B3.out.2.trans (hb4.mono (Nat.le_succ _))⟩
          exact ⟨⟨i + 1, _, L ++ [xa], by rw [Int.natCast_succ], rfl, hi1, jl, by simp only [List.length_append, List.length_cons, List.length_nil]; omega, MN.out, P.out, FB⟩, by (simp [intOf]) <;> omega⟩
      · have dj : decide ((j : Int) < (ds.length : Int)) = false := by simpa using hj1
        have e : ds.drop j = [] := List.drop_eq_nil_of_le (by omega)
        have MN := MM.out
        rw [drop_at hi1, e, mrg_a0, ← e] at MN
        have MN := Lib.hid ((List.append_assoc L [cdAt cs i] _).trans MN)
        clear MM HB2 p0 p1 p2
        skip
        generalize cdAt cs i = xa at *
        go_wp2_with fail
        refine region_bw (by kernel_rfl) (by kernel_rfl) ?_
        repeat (go_big_quiet_step (fail))
        refine wpQuiet_nil ?_; intro wq hq; replace hq := below_of_bw hq; obtain ⟨qc, qf, qz⟩ := bcell hq
        have O3 := Lib.hid (ownCards_kept OO.out hq)
        have B3 := Lib.hid (fBox_ab BB.out hq)
        have s3 := lt_of_block B3.out.1
        have ke0 := (Below.cell hq (p := ⟨b2, o2 + i * 3 , none⟩) y3).trans e0
        have ke1 := (Below.cell hq (p := ⟨b2, o2 + i * 3 + 1, none⟩) y3).trans e1
        have ke2 := (Below.cell hq (p := ⟨b2, o2 + i * 3 + 2, none⟩) y3).trans e2
        clear hq qc qf qz
        go_wp2_with (at_builtin; refine wpList_append_own _ rfl _ _ 24 rfl (w.heap.size + 1) 50 i0 (.agg #[.string ByteArray.empty, .int .u64 0, .int .u64 0]) 3 32 Try.underlying24 hi hz0 hz1 hz2 rfl (by decide) _ _ _ rfl (World.ownsRow.alloc O3.out _) ⟨wq.heap.size, 0, none⟩ 1 1 [.string xa.s, .int .u64 xa.a, .int .u64 xa.b] rfl rfl (new3 _ _ _ _ _) (fun x hx => by simp at hx; rcases hx with rfl | rfl | rfl <;> rfl) (by unfold maxLen; omega) (by omega) (by simp; omega) ?_; intro v' w4 hown hgrow _; have P := Lib.hid (own_pushC hown); have G := Lib.hid hgrow; clear hown hgrow)
        have hb4 := Below.grown ((Below.refl (w.heap.size + 1) wq).alloc (by omega) _) G.out (by simp; omega) (fun q hq => (World.ownsRow.lt O3.out q hq).1)
        have FB : FBox w w4 s k st sz := ⟨(hb4.block _ (Nat.lt_succ_self _)).trans B3.out.1, B3.out.2.trans (hb4.mono (Nat.le_succ _))⟩
        exact ⟨⟨i + 1, _, L ++ [xa], by rw [Int.natCast_succ], rfl, hi1, jl, by simp only [List.length_append, List.length_cons, List.length_nil]; omega, MN.out, P.out, FB⟩, by (simp [intOf]) <;> omega⟩
    · have di : decide ((i : Int) < (cs.length : Int)) = false := by simpa using hi1
      have hie : i = cs.length := by omega
      subst hie
      by_cases hj1 : j < ds.length
      · have dj : decide ((j : Int) < (ds.length : Int)) = true := by simpa using hj1
        obtain ⟨bf, b4, o4, rfl, y4, q0, q1, q2⟩ := J0.out j hj1
        have g0 := (HB2.cell (p := ⟨b4, o4 + j * 3, none⟩) y4).trans q0
        have g1 := (HB2.cell (p := ⟨b4, o4 + j * 3 + 1, none⟩) y4).trans q1
        have g2 := (HB2.cell (p := ⟨b4, o4 + j * 3 + 2, none⟩) y4).trans q2
        have y5 := Nat.lt_of_lt_of_le y4 HB2.size
        have j1 : (0 : Int) ≤ (j : Int) := by omega
        have j2 : (j : Int) < (ds.length : Int) := by omega
        have e : cs.drop cs.length = [] := List.drop_eq_nil_of_le (Nat.le_refl _)
        have MN := MM.out
        rw [drop_at hj1, e, mrg_b0, ← e] at MN
        have MN := Lib.hid ((List.append_assoc L [cdAt ds j] _).trans MN)
        clear MM HB2 q0 q1 q2
        generalize cdAt ds j = xb at *
        skip
        go_wp2_with fail
        refine region_bw (by kernel_rfl) (by kernel_rfl) ?_
        repeat (go_big_quiet_step (fail))
        refine wpQuiet_nil ?_; intro wq hq; replace hq := below_of_bw hq; obtain ⟨qc, qf, qz⟩ := bcell hq
        have O3 := Lib.hid (ownCards_kept OO.out hq)
        have B3 := Lib.hid (fBox_ab BB.out hq)
        have s3 := lt_of_block B3.out.1
        have kg0 := (Below.cell hq (p := ⟨b4, o4 + j * 3 , none⟩) y5).trans g0
        have kg1 := (Below.cell hq (p := ⟨b4, o4 + j * 3 + 1, none⟩) y5).trans g1
        have kg2 := (Below.cell hq (p := ⟨b4, o4 + j * 3 + 2, none⟩) y5).trans g2
        clear hq qc qf qz
        go_wp2_with (at_builtin; refine wpList_append_own _ rfl _ _ 24 rfl (w.heap.size + 1) 50 i0 (.agg #[.string ByteArray.empty, .int .u64 0, .int .u64 0]) 3 32 Try.underlying24 hi hz0 hz1 hz2 rfl (by decide) _ _ _ rfl (World.ownsRow.alloc O3.out _) ⟨wq.heap.size, 0, none⟩ 1 1 [.string xb.s, .int .u64 xb.a, .int .u64 xb.b] rfl rfl (new3 _ _ _ _ _) (fun x hx => by simp at hx; rcases hx with rfl | rfl | rfl <;> rfl) (by unfold maxLen; omega) (by omega) (by simp; omega) ?_; intro v' w4 hown hgrow _; have P := Lib.hid (own_pushC hown); have G := Lib.hid hgrow; clear hown hgrow)
        have hb4 := Below.grown ((Below.refl (w.heap.size + 1) wq).alloc (by omega) _) G.out (by simp; omega) (fun q hq => (World.ownsRow.lt O3.out q hq).1)
        have FB : FBox w w4 s k st sz := ⟨(hb4.block _ (Nat.lt_succ_self _)).trans B3.out.1, B3.out.2.trans (hb4.mono (Nat.le_succ _))⟩
        exact ⟨⟨_, j + 1, L ++ [xb], rfl, by rw [Int.natCast_succ], il, hj1, by simp only [List.length_append, List.length_cons, List.length_nil]; omega, MN.out, P.out, FB⟩, by (simp [intOf]) <;> omega⟩
      · have dj : decide ((j : Int) < (ds.length : Int)) = false := by simpa using hj1
        have hje : j = ds.length := by omega
        subst hje
        have M9 := MM.out
        rw [List.drop_eq_nil_of_le (Nat.le_refl cs.length), List.drop_eq_nil_of_le (Nat.le_refl ds.length), mrg_nl, List.append_nil] at M9
        rw [M9] at OO
        clear MM hL il jl f1 f2 f3 HB2 M9
        obtain ⟨a9, c9, hv, hcl⟩ := ownCards_in OO.out
        subst hv
        have I9 := Lib.hid (cardsIn_of hcl FT.out)
        clear hcl
        generalize mrg (kyC k st sz) cs ds = xs at *
        cases h7 : deckOk xs
        · have X := (X8.out h7).out
          rw [h7] at DM
          clear h7 X8 X0
          go_wp2_with (go_at_call 33; refine (DM.out _ _ _ I9.out).mono ?_; rintro e w7 ⟨rfl, hB⟩; have B7 := Lib.hid (fBox_ab BB.out hB); clear hB)
          go_returns
          rw [X.1, X.2]
          exact md_new _ B7.out.2 B7.out.2.size (by simp)
        · have X := X0.out h7
          rw [h7] at DM
          clear h7 X8 X0
          go_wp2_with (go_at_call 33; refine (DM.out _ _ _ I9.out).mono ?_; rintro e w7 ⟨rfl, hB⟩; have B7 := Lib.hid (fBox_ab BB.out hB); have O7 := Lib.hid (ownCards_kept OO.out hB); clear hB)
          go_returns
          rw [X.1, X.2]
          exact ⟨_, rfl, ownCards_weaken O7.out (Nat.le_succ _), B7.out.2⟩
end Go.Proofs.Ytdbkplfkilaoeaa
