/- Several texts in one, as a claim has at most 60 files: Spl SeqM Float Dec RdN LnI AppI CtM RcM TlM Wear Wear2 EdV EdW EdX MarkT Mark MarkC HeldC EdsOwn EdU. -/
import Derived.Test.YtpkpjkceiikakaaGreatDoorStrs
import Derived.Lib.IndexBytes
import Derived.Test.YtpkpjkceiikakaaGreatDoorRng
import Derived.Test.YtpkpjkceiikakaaGreatDoorOth
import Derived.Test.YtpkpjkceiikakaaGreatDoorQuiet
import Derived.Barred
import Derived.Test.YtpkpjkceiikakaaGreatDoorBase
import Derived.Deep.DeepCutAuto
import Derived.Lib.ParseIntBTie
import Derived.Lib.SplitLaws
import Derived.Test.YtpkpjkceiikakaaGreatDoorShlL
import Derived.Test.YtpkpjkceiikakaaGreatDoorBoxes
import Derived.Test.YtpkpjkceiikakaaGreatDoorShelf
import Derived.Test.YtpkpjkceiikakaaGreatDoorOBy
import Derived.Shelf.Strconv.Itoa4
import Derived.Test.YtpkpjkceiikakaaGreatDoorHolesIn
import Derived.Test.YtpkpjkceiikakaaGreatDoorCard
import Derived.Test.YtpkpjkceiikakaaGreatDoorFmM
import Derived.Test.YtpkpjkceiikakaaGreatDoorQuery
import Derived.Test.YtpkpjkceiikakaaGreatDoorOpen
import Derived.Test.YtpkpjkceiikakaaGreatDoorWith
import Derived.Test.YtpkpjkceiikakaaGreatDoorCount
import Derived.Test.YtpkpjkceiikakaaGreatDoorEds
import Derived.Test.YtpkpjkceiikakaaGreatDoorHole
import Derived.Test.YtpkpjkceiikakaaGreatDoorArr
import Derived.Laws.EntriesVeiled
import Derived.Test.YtpkpjkceiikakaaGreatDoorName
import Derived.Test.YtpkpjkceiikakaaGreatDoorInts
import Derived.Test.YtpkpjkceiikakaaGreatDoorDeck3
import Derived.Test.YtpkpjkceiikakaaGreatDoorEds2
import Derived.Deep.AppendLies
namespace Go.Proofs.YtpkpjkceiikakaaGreatDoor
open Go.ChangeShapes Go.WideShapes Go.ChangeAt Go.RowKit

/-- The pieces between the bytes c; what stands ahead of the first one is told. -/
def spl (c : UInt8) : List UInt8 → List UInt8 → List (List UInt8)
  | acc, [] => [acc]
  | acc, x :: xs => if x = c then acc :: spl c [] xs else spl c (acc ++ [x]) xs
def mkS (l : List UInt8) : ByteArray := ⟨l.toArray⟩
theorem mkS_data (s : ByteArray) : mkS s.data.toList = s := Lib.mk_data s
theorem data_mkS (l : List UInt8) : (mkS l).data.toList = l := rfl
def pieces (c : UInt8) (s : ByteArray) : List ByteArray := (spl c [] s.data.toList).map mkS

theorem extract_none (s : ByteArray) (i : Nat) : (s.extract i i).data.toList = [] := by rw [Lib.extract_data, Nat.sub_self]; rfl
theorem drop_byte (s : ByteArray) (i : Nat) (h : i < s.size) : s.data.toList.drop i = s[i] :: s.data.toList.drop (i + 1) := by
  rw [List.drop_eq_getElem_cons (by simpa using h)]; rfl
theorem extract_more (s : ByteArray) (b i : Nat) (hb : b ≤ i) (h : i < s.size) : (s.extract b (i + 1)).data.toList = (s.extract b i).data.toList ++ [s[i]] := by
  rw [Lib.extract_data, Lib.extract_data, show i + 1 - b = (i - b) + 1 by omega, List.take_add_one]
  congr 1
  rw [List.getElem?_drop, show b + (i - b) = i by omega, List.getElem?_eq_getElem (by simpa using h)]
  rfl

/-- i bytes have been read; some pieces are done, the one in hand began at b. -/
structure SplAt (c : UInt8) (s : ByteArray) (done : List ByteArray) (b i : Nat) : Prop where
  le : b ≤ i
  lt : i ≤ s.size
  len : done.length ≤ i
  eq : done ++ (spl c (s.extract b i).data.toList (s.data.toList.drop i)).map mkS = pieces c s
theorem splAt_start (c : UInt8) (s : ByteArray) : SplAt c s [] 0 0 :=
  ⟨Nat.le_refl _, Nat.zero_le _, Nat.le_refl _, by rw [extract_none]; rfl⟩
theorem splAt_hit {c : UInt8} {s : ByteArray} {done : List ByteArray} {b i : Nat} (h : SplAt c s done b i) (hi : i < s.size) (e : s[i] = c) : SplAt c s (done ++ [s.extract b i]) (i + 1) (i + 1) := by
  refine ⟨Nat.le_refl _, hi, by rw [List.length_append]; exact Nat.succ_le_succ h.len, ?_⟩
  rw [← h.eq, drop_byte s i hi, spl, if_pos e, List.map_cons, mkS_data, extract_none, List.append_assoc]
  rfl
theorem splAt_miss {c : UInt8} {s : ByteArray} {done : List ByteArray} {b i : Nat} (h : SplAt c s done b i) (hi : i < s.size) (e : s[i] ≠ c) : SplAt c s done b (i + 1) := by
  refine ⟨Nat.le_succ_of_le h.le, hi, Nat.le_succ_of_le h.len, ?_⟩
  rw [← h.eq, drop_byte s i hi, spl, if_neg e, extract_more s b i h.le hi]
theorem splAt_end {c : UInt8} {s : ByteArray} {done : List ByteArray} {b : Nat} (h : SplAt c s done b s.size) : done ++ [s.extract b s.size] = pieces c s := by
  rw [← h.eq, List.drop_eq_nil_of_le (by simp), spl, List.map_cons, mkS_data]
  rfl
theorem pieces_len (c : UInt8) (s : ByteArray) : (pieces c s).length ≤ s.size + 1 := by
  have key : ∀ (l acc : List UInt8), (spl c acc l).length ≤ l.length + 1 := by
    intro l
    induction l with
    | nil => intro acc; exact Nat.le_refl _
    | cons x xs ih =>
      intro acc
      rw [spl]
      split
      · exact Nat.succ_le_succ (ih _)
      · exact Nat.le_succ_of_le (ih _)
  have := key s.data.toList []
  unfold pieces
  rw [List.length_map]
  simpa using this
theorem pieces_fit (c : UInt8) (s : ByteArray) : ∀ p ∈ pieces c s, p.size ≤ s.size := by
  have key : ∀ (l acc : List UInt8), ∀ p ∈ spl c acc l, p.length ≤ acc.length + l.length := by
    intro l
    induction l with
    | nil => intro acc p hp; simp [spl] at hp; subst hp; simp
    | cons x xs ih =>
      intro acc p hp
      rw [spl] at hp
      split at hp
      · rcases List.mem_cons.1 hp with rfl | hp
        · omega
        · have := ih _ p hp; simp at this ⊢; omega
      · have := ih _ p hp; simp at this ⊢; omega
  intro p hp
  unfold pieces at hp
  obtain ⟨l, hl, rfl⟩ := List.mem_map.1 hp
  have := key s.data.toList [] l hl
  rw [show (mkS l).size = l.length from List.size_toArray]
  simpa using this

/-- The same, piece by piece: up to the next byte c. -/
theorem spl_none {c : UInt8} : ∀ (l acc : List UInt8), c ∉ l → spl c acc l = [acc ++ l]
  | [], acc, _ => by rw [spl, List.append_nil]
  | x :: xs, acc, h => by
    rw [spl, if_neg (fun e => h (by rw [e]; exact List.mem_cons_self)), spl_none xs _ (fun e => h (List.mem_cons_of_mem _ e)), List.append_assoc]; rfl
theorem spl_at {c : UInt8} : ∀ (l acc : List UInt8) (i : Nat), l[i]? = some c → c ∉ l.take i → spl c acc l = (acc ++ l.take i) :: spl c [] (l.drop (i + 1))
  | [], acc, i, h, _ => by simp at h
  | x :: xs, acc, 0, h, _ => by
    simp at h
    rw [spl, if_pos h, List.take_zero, List.append_nil]; rfl
  | x :: xs, acc, i + 1, h, hn => by
    rw [spl, if_neg (fun e => hn (by rw [List.take_succ_cons, e]; exact List.mem_cons_self)), spl_at xs _ i (by simpa using h) (fun e => hn (by rw [List.take_succ_cons]; exact List.mem_cons_of_mem _ e)), List.append_assoc]; rfl
end Go.Proofs.YtpkpjkceiikakaaGreatDoor

namespace Go.Proofs.YtpkpjkceiikakaaGreatDoor
open Go.ChangeShapes Go.WideShapes Go.ChangeAt Go.RowKit

theorem cell_same {A B : World} {b o : Nat} (h : B.heap[b]? = A.heap[b]?) : B.cell? ⟨b, o, none⟩ = A.cell? ⟨b, o, none⟩ := by unfold World.cell?; simp only [h]
theorem frozen_same {A B : World} {b o : Nat} (h : B.heap[b]? = A.heap[b]?) : B.frozen? ⟨b, o, none⟩ = A.frozen? ⟨b, o, none⟩ := by unfold World.frozen?; simp only [h]
/-- How long the text in the iterator's box is. -/
def strLeft (W : World) (b : Nat) : Nat := match W.cell? ⟨b, 0, none⟩ with
  | some (.string t) => t.size
  | _ => 0
theorem strLeft_eq {W : World} {b : Nat} {t : ByteArray} (h : W.cell? ⟨b, 0, none⟩ = some (.string t)) : strLeft W b = t.size := by unfold strLeft; rw [h]
theorem ib_spec : ∀ (l : List UInt8) (c : UInt8), (Lib.indexByte l c = -1 ∧ c ∉ l) ∨ ∃ k : Nat, Lib.indexByte l c = (k : Int) ∧ k < l.length ∧ l[k]? = some c ∧ c ∉ l.take k
  | [], c => .inl ⟨rfl, by simp⟩
  | x :: l, c => by
    by_cases e : x = c
    · subst e
      exact .inr ⟨0, by simp [Lib.indexByte], by simp, by simp, by simp⟩
    · have eb : (x == c) = false := by simpa using e
      rcases ib_spec l c with ⟨hi, hn⟩ | ⟨k, hi, hk, hg, hn⟩
      · refine .inl ⟨by rw [Lib.indexByte, eb, hi]; rfl, ?_⟩
        intro h
        rcases List.mem_cons.1 h with rfl | h
        · exact e rfl
        · exact hn h
      · refine .inr ⟨k + 1, ?_, by simp; omega, by simpa using hg, ?_⟩
        · have eq : ((k : Int) == -1) = false := by rw [beq_eq_false_iff_ne]; omega
          rw [Lib.indexByte, eb, hi]
          simp only [eq]
          simp
        · intro h
          rw [List.take_succ_cons] at h
          rcases List.mem_cons.1 h with rfl | h
          · exact e rfl
          · exact hn h

theorem pieces_none {c : UInt8} {t : ByteArray} (h : c ∉ t.data.toList) : pieces c t = [t] := by
  unfold pieces
  rw [spl_none _ _ h, List.nil_append, List.map_cons, mkS_data]; rfl
theorem pieces_at {c : UInt8} {t : ByteArray} {k : Nat} (hk : t.data.toList[k]? = some c) (hn : c ∉ t.data.toList.take k) : pieces c t = t.extract 0 k :: pieces c (t.extract (k + 1) t.size) := by
  unfold pieces
  rw [spl_at _ _ k hk hn, List.nil_append, List.map_cons, Lib.extract_to_end]
  congr 1
  rw [Lib.extract_eq]; rfl

end Go.Proofs.YtpkpjkceiikakaaGreatDoor

namespace Go.Proofs.YtpkpjkceiikakaaGreatDoor
open Go.ChangeShapes Go.WideShapes Go.ChangeAt Go.RowKit

/-! ### Two contracts on one call speak of one value -/
theorem exists_above (l : List Nat) : ∃ N, ∀ x ∈ l, x < N := by
  induction l with
  | nil => exact ⟨0, fun x hx => absurd hx (by simp)⟩
  | cons y l ih =>
    obtain ⟨N, h⟩ := ih
    refine ⟨max N (y + 1), fun x hx => ?_⟩
    rcases List.mem_cons.1 hx with rfl | hx
    · omega
    · have := h x hx; omega

def endFrame (F : FuncId) : Frame := { fn := F, tmps := #[], todo := [.extern "" #[]], defers := [], mode := .returning, kind := .normal }

theorem step_endFrame {P : Program} {F : FuncId} {w : World} {v : Value} (h1 : P.funcs[F]? = none) (h2 : P.inits.idxOf? F = none) :
    step P (lone ((endFrame F).finish v) [] w) = .ended (.done v) w :=
  step_lone_ended (by simp [stepG, unwind, doReturn, endFrame, Frame.finish, h1, h2])

theorem calls_end {P : Program} {f : FuncId} {args : Array Value} {w : World} {v : Value} {R : World → Prop} (F : FuncId) (h1 : P.funcs[F]? = none) (h2 : P.inits.idxOf? F = none)
    (h : Calls P f args w fun e w' => e = .returned v ∧ R w') : ∃ n w', runN P n (lone (Frame.enter P f args .normal) [endFrame F] w) = .ended (.done v) w' := by
  obtain ⟨e, w', fr, ⟨rfl, hR⟩, hcomes, hfn, hleave⟩ := h [endFrame F]
  have hs : Steps P (lone (Frame.enter P f args .normal) [endFrame F] w) (lone fr [endFrame F] w') := hcomes
  obtain ⟨n, hn⟩ := hs
  refine ⟨n + 2, w', ?_⟩
  rw [runN_add, hn]
  simp [runN, step_leave_returned hleave, step_endFrame h1 h2]

theorem calls_same {P : Program} {f : FuncId} {args : Array Value} {w : World} {v v' : Value} {R R' : World → Prop}
    (h : Calls P f args w fun e w' => e = .returned v ∧ R w') (h' : Calls P f args w fun e w' => e = .returned v' ∧ R' w') : v = v' := by
  obtain ⟨N, hN⟩ := exists_above (P.funcs.size :: P.inits.toList)
  have h1 : P.funcs[N]? = none := Array.getElem?_eq_none (Nat.le_of_lt (hN _ (List.mem_cons_self ..)))
  have h2 : P.inits.idxOf? N = none := by
    rw [Array.idxOf?_eq_none_iff]
    intro hm
    exact Nat.lt_irrefl _ (hN N (List.mem_cons_of_mem _ (by simpa using hm)))
  obtain ⟨n, w1, e1⟩ := calls_end N h1 h2 h
  obtain ⟨m, w2, e2⟩ := calls_end N h1 h2 h'
  have a := runN_same_end e1 e2
  injection a

theorem quietUpon_same {P : Program} {C C' : World → Prop} {w : World} {v v' : Value} {r : Result Next} (h : Oper.quietUpon P C w v r) (h' : Oper.quietUpon P C' w v' r) : v = v' := by
  cases r with
  | ok n w' =>
    cases n <;> simp only [Oper.quietUpon] at h h'
    case value u => exact h.2.symm.trans h'.2
    case skip => exact h.2.trans h'.2.symm
    case enter f args => exact calls_same h.2 h'.2
  | halt x w' => simp only [Oper.quietUpon] at h

theorem quietUpon_class {P : Program} {C C' : World → Prop} {w : World} {v : Value} {r : Result Next} (hC : ∀ w', C w' → C' w') (h : Oper.quietUpon P C w v r) : Oper.quietUpon P C' w v r := by
  cases r with
  | ok n w' =>
    cases n <;> simp only [Oper.quietUpon] at h ⊢
    case value u => exact h
    case skip => exact h
    case enter f args => exact ⟨h.1, h.2.mono fun e w'' ⟨he, hw⟩ => ⟨he, hC _ hw⟩⟩
  | halt x w' => simp only [Oper.quietUpon] at h

/-! ### Worlds above a world -/
def Ab (w w' : World) : Prop := Below w.heap.size w w'
theorem Ab.refl (w : World) : Ab w w := Below.refl _ _
theorem Ab.trans {a b c : World} (h : Ab a b) (k : Ab b c) : Ab a c := Below.trans h (Below.mono k h.size)
def Cl (w : World) : World → Prop := fun w' => ∃ p : Regrown, w' = bw w p
theorem Cl.ab {w w' : World} (h : Cl w w') : Ab w w' := below_of_bw h
theorem Ab.cl {w w' : World} (h : Ab w w') : Cl w w' := bw_of_below h

/-- A contract at every world, met in a world of the class. -/
theorem calls_all {P : Program} {f : FuncId} {args : Array Value} {w : World} {p : Regrown} {v : Value}
    (c : ∀ W : World, Calls P f args W fun e w' => e = .returned v ∧ Below W.heap.size W w') : Calls P f args (bw w p) fun e w'' => e = .returned v ∧ ∃ p : Regrown, w'' = bw w p := calls_bw (c _)

/-! ### The float: every order -/
section
variable (P : Program) (ops : Array Oper) (md : Region.Mode) (W : World) {G : Type} (I : G → World → Prop) (early : G → Prop) (loud late pur : Nat → Bool)

/-- Quiet with one value in every world above W; a callee leaves a world above the one that it got. -/
def SQ (o : Oper) (a : Act) (v : Value) : Prop := ∀ w, Ab W w → Oper.quietUpon P (Ab w) w v ((execOp a.eval o).run P w)

/-- A value, or nothing, or a call that leads to such a value and world. -/
def Yld (P : Program) (R : Value → World → Prop) (w : World) : Result Next → Prop
  | .ok (.value v) w' => R v w'
  | .ok .skip w' => R undef w'
  | .ok (.enter f args) w' => w' = w ∧ Calls P f args w fun e w'' => ∃ v, e = .returned v ∧ R v w''
  | _ => False
theorem Yld.mono {P : Program} {R R' : Value → World → Prop} {w : World} {r : Result Next} (hR : ∀ v w', R v w' → R' v w') (h : Yld P R w r) : Yld P R' w r := by
  cases r with
  | ok n w' =>
    cases n <;> simp only [Yld] at h ⊢
    case value u => exact hR _ _ h
    case skip => exact hR _ _ h
    case enter f args => exact ⟨h.1, h.2.mono fun e w'' ⟨v, he, hv⟩ => ⟨v, he, hR _ _ hv⟩⟩
  | halt x w' => simp only [Yld] at h

/-- A value that does not hang on the world. -/
def PQ (P : Program) (o : Oper) (a : Act) (v : Value) : Prop := ∀ w, (execOp a.eval o).run P w = .ok (.value v) w

structure Loud (o : Oper) (a : Act) (g : G) (O : Value → G → Prop) : Prop where
  some : ∃ v g', O v g'
  run : ∀ w, I g w → Yld P (fun v w' => ∃ g', O v g' ∧ I g' w') w ((execOp a.eval o).run P w)

/-- What may come of one operation: values, and what is then kept. -/
def Fam (i : Nat) (o : Oper) (a : Act) (g : G) (O : Value → G → Prop) : Prop :=
  if Region.wanted o (yielded ops a.tmps) then (if pur i then ∃ v, PQ P o a v ∧ O = fun v' g' => v' = v ∧ g' = g else early g ∧ (if loud i then Loud P I o a g O ∧ (late i = false → ∀ v g', O v g' → early g') else ∃ v, SQ P W o a v ∧ O = fun v' g' => v' = v ∧ g' = g))
  else O = fun v' g' => v' = undef ∧ g' = g

def fOp (i : Nat) (K : Act → G → Prop) (a : Act) (g : G) : Prop :=
  match ops[i]? with
  | none => K a g
  | some o => ∃ O, Fam P ops W I early loud late pur i o a g O ∧ ∀ v g', O v g' → K (a.put o.dst v) g'

def wpAnyF (Q : Act → G → Prop) : Nat → Array Bool → Act → G → Prop
  | 0, listed, a, g => Region.ready md ops listed = [] ∧ Q a g
  | fuel + 1, listed, a, g =>
    (Region.ready md ops listed = [] → Q a g) ∧
    ∀ i ∈ Region.ready md ops listed, fOp P ops W I early loud late pur i (wpAnyF Q fuel (listed.setIfInBounds i true)) a g

/-- The order of the text, from number k on. -/
def lexW (Q : Act → G → Prop) : List Oper → Nat → Act → G → Prop
  | [], _, a, g => Q a g
  | _ :: l, k, a, g => fOp P ops W I early loud late pur k (lexW Q l (k + 1)) a g
end

section
variable {P : Program} {ops : Array Oper} {md : Region.Mode} {W : World} {G : Type} {I : G → World → Prop} {early : G → Prop} {loud late pur : Nat → Bool}

theorem fOp_mono {i : Nat} {a : Act} {g : G} {K K' : Act → G → Prop} (h : ∀ a g, K a g → K' a g) (hh : fOp P ops W I early loud late pur i K a g) : fOp P ops W I early loud late pur i K' a g := by
  unfold fOp at *
  split
  · rename_i ho; simp only [ho] at hh; exact h _ _ hh
  · rename_i o ho
    simp only [ho] at hh
    obtain ⟨O, h1, h2⟩ := hh
    exact ⟨O, h1, fun v g' hv => h _ _ (h2 v g' hv)⟩

theorem SQ.one {o : Oper} {a : Act} {v v' : Value} (h : SQ P W o a v) (h' : SQ P W o a v') : v = v' := quietUpon_same (h W (Ab.refl W)) (h' W (Ab.refl W))
theorem SQ.of_same {o : Oper} {a a' : Act} {v : Value} (h : SQ P W o a v) (he : execOp a'.eval o = execOp a.eval o) : SQ P W o a' v := by unfold SQ at *; rw [he]; exact h
theorem PQ.one {o : Oper} {a : Act} {v v' : Value} (h : PQ P o a v) (h' : PQ P o a v') : v = v' := by
  have := (h default).symm.trans (h' default)
  injection this with e _
  injection e
theorem PQ.of_same {o : Oper} {a a' : Act} {v : Value} (h : PQ P o a v) (he : execOp a'.eval o = execOp a.eval o) : PQ P o a' v := by unfold PQ at *; rw [he]; exact h
theorem Loud.of_same {o : Oper} {a a' : Act} {g : G} {O : Value → G → Prop} (h : Loud P I o a g O) (he : execOp a'.eval o = execOp a.eval o) : Loud P I o a' g O := ⟨h.some, by rw [he]; exact h.run⟩
theorem Fam.nonempty {i : Nat} {o : Oper} {a : Act} {g : G} {O : Value → G → Prop} (h : Fam P ops W I early loud late pur i o a g O) : ∃ v g', O v g' := by
  unfold Fam at h
  split at h
  · split at h
    · obtain ⟨v, _, rfl⟩ := h; exact ⟨v, g, rfl, rfl⟩
    · obtain ⟨_, h⟩ := h
      split at h
      · exact h.1.some
      · obtain ⟨v, _, rfl⟩ := h; exact ⟨v, g, rfl, rfl⟩
  · subst h; exact ⟨_, g, rfl, rfl⟩
theorem Fam.of_same {i : Nat} {o : Oper} {a a' : Act} {g : G} {O : Value → G → Prop} (h : Fam P ops W I early loud late pur i o a g O) (he : execOp a'.eval o = execOp a.eval o)
    (hw : Region.wanted o (yielded ops a'.tmps) = Region.wanted o (yielded ops a.tmps)) : Fam P ops W I early loud late pur i o a' g O := by
  unfold Fam at *
  rw [hw]
  split
  · rename_i hh
    rw [if_pos hh] at h
    by_cases hp : pur i = true
    · rw [if_pos hp] at h ⊢
      obtain ⟨v, h1, h2⟩ := h
      exact ⟨v, h1.of_same he, h2⟩
    · rw [if_neg hp] at h ⊢
      refine ⟨h.1, ?_⟩
      by_cases hl : loud i = true
      · rw [if_pos hl] at h ⊢; exact ⟨h.2.1.of_same he, h.2.2⟩
      · rw [if_neg hl] at h ⊢; obtain ⟨_, v, h1, h2⟩ := h; exact ⟨v, h1.of_same he, h2⟩
  · rename_i hh; rw [if_neg hh] at h; exact h

/-- Sound: whatever order is picked. -/
theorem wpAny_of_float {Q : Act → G → Prop} {Q' : Exit → Act → World → Prop} (hI1 : ∀ g w, early g → I g w → Ab W w) (hI2 : ∀ g w w', early g → I g w → Ab w w' → I g w') (hQ : ∀ a g w, I g w → Q a g → Q' .normal a w) :
    ∀ (fuel : Nat) (listed : Array Bool) (a : Act) (g : G) (w : World), I g w → wpAnyF P ops md W I early loud late pur Q fuel listed a g → wpAny P md ops Q' fuel listed a w
  | 0, _, _, _, _, hw, h => ⟨h.1, hQ _ _ _ hw h.2⟩
  | fuel + 1, listed, a, g, w, hw, h => by
    refine ⟨fun h0 => hQ _ _ _ hw (h.1 h0), fun i hi => ?_⟩
    have hh := h.2 i hi
    have go := fun a g w => wpAny_of_float hI1 hI2 hQ fuel (listed.setIfInBounds i true) a g w
    unfold fOp at hh
    unfold wpOp
    split
    · rename_i ho; simp only [ho] at hh; exact go _ _ _ hw hh
    · rename_i o ho
      simp only [ho] at hh
      obtain ⟨O, h1, h2⟩ := hh
      unfold Fam at h1
      split
      · rename_i hwn
        rw [if_pos hwn] at h1
        refine .inl ?_
        unfold Oper.wp
        by_cases hp : pur i = true
        · rw [if_pos hp] at h1
          obtain ⟨v, hv, rfl⟩ := h1
          rw [hv w]
          exact go _ _ _ hw (h2 _ _ ⟨rfl, rfl⟩)
        rw [if_neg hp] at h1
        obtain ⟨hearly, h1⟩ := h1
        split at h1
        · have h3 := h1.1.run w hw
          generalize (execOp a.eval o).run P w = r at h3
          cases r with
          | ok n w' =>
            cases n <;> simp only [Yld] at h3 <;> simp only [Oper.upon]
            case value u => obtain ⟨g', hO, hIw⟩ := h3; exact go _ _ _ hIw (h2 _ _ hO)
            case skip => obtain ⟨g', hO, hIw⟩ := h3; exact go _ _ _ hIw (h2 _ _ hO)
            case enter f args =>
              obtain ⟨e1, hc⟩ := h3
              rw [e1]
              exact hc.mono fun e w'' ⟨v, he, g', hO, hIw⟩ => by subst he; exact go _ _ _ hIw (h2 _ _ hO)
          | halt x w' => simp only [Yld] at h3
        · obtain ⟨v, hv, rfl⟩ := h1
          have h3 := hv w (hI1 _ _ hearly hw)
          generalize (execOp a.eval o).run P w = r at h3
          cases r with
          | ok n w' =>
            cases n <;> simp only [Oper.quietUpon] at h3 <;> simp only [Oper.upon]
            case value u => obtain ⟨e1, e2⟩ := h3; rw [e1, e2]; exact go _ _ _ hw (h2 _ _ ⟨rfl, rfl⟩)
            case skip => obtain ⟨e1, e2⟩ := h3; rw [e1, ← e2]; exact go _ _ _ hw (h2 _ _ ⟨rfl, rfl⟩)
            case enter f args =>
              obtain ⟨e1, hc⟩ := h3
              rw [e1]
              exact hc.mono fun e w'' ⟨he, hw''⟩ => by subst he; exact go _ _ _ (hI2 _ _ _ hearly hw hw'') (h2 _ _ ⟨rfl, rfl⟩)
          | halt x w' => simp only [Oper.quietUpon] at h3
      · rename_i hwn
        rw [if_neg hwn] at h1
        subst h1
        exact go _ _ _ hw (h2 _ _ ⟨rfl, rfl⟩)

/-- Operation 'oj' apart from 'oi', not both loud: 'oi' may be taken first. -/
theorem fOp_put {i j : Nat} {oi oj : Oper} {O : Value → G → Prop} (hj : ops[j]? = some oj) (hap : oi.apart ops oj = true)
    (hsi : ∀ cs b, oi.op ≠ .select cs b) (hsj : ∀ cs b, oj.op ≠ .select cs b) (hl : ¬ (loud i = true ∧ loud j = true)) (hlate : late j = false ∨ pur i = true) {K : Act → G → Prop} {a : Act} {g : G}
    (hy : Fam P ops W I early loud late pur i oi a g O) (h : ∀ v g', O v g' → fOp P ops W I early loud late pur j K (a.put oi.dst v) g') :
    fOp P ops W I early loud late pur j (fun a' g'' => ∃ O', Fam P ops W I early loud late pur i oi a' g'' O' ∧ ∀ v g', O' v g' → K (a'.put oi.dst v) g') a g := by
  obtain ⟨h1, h2, h3⟩ := Oper.apart_spec hap
  have keep : ∀ u, Fam P ops W I early loud late pur i oi (a.put oj.dst u) g O := fun u => hy.of_same (execOp_put oi hsi a oj.dst u h3) (wanted_put oi a oj.dst u h3)
  have hw0 : ∀ v, Region.wanted oj (yielded ops (a.put oi.dst v).tmps) = Region.wanted oj (yielded ops a.tmps) := fun v => wanted_put oj a oi.dst v h1
  have he0 : ∀ v, execOp (a.put oi.dst v).eval oj = execOp a.eval oj := fun v => execOp_put oj hsj a oi.dst v h1
  unfold fOp at *
  simp only [hj] at *
  -- one value, whatever has come of 'oi'
  have one : ∀ (u : Value), (∀ v g', O v g' → K ((a.put oi.dst v).put oj.dst u) g') →
      (∃ O', Fam P ops W I early loud late pur i oi (a.put oj.dst u) g O' ∧ ∀ v g', O' v g' → K ((a.put oj.dst u).put oi.dst v) g') := fun u hK =>
    ⟨O, keep u, fun v g' hv => by rw [← Act.put_comm a v u h2]; exact hK v g' hv⟩
  obtain ⟨v0, g0, hv0⟩ := hy.nonempty
  by_cases hw : Region.wanted oj (yielded ops a.tmps) = true
  · by_cases hpj : pur j = true
    · have hval : ∀ v g', O v g' → ∃ u, PQ P oj a u ∧ K ((a.put oi.dst v).put oj.dst u) g' := fun v g' hv => by
        obtain ⟨Oj, hOj, hK⟩ := h v g' hv
        unfold Fam at hOj
        rw [hw0, if_pos hw, if_pos hpj] at hOj
        obtain ⟨u, hu, rfl⟩ := hOj
        exact ⟨u, hu.of_same (he0 v).symm, hK _ _ ⟨rfl, rfl⟩⟩
      obtain ⟨u, hu, _⟩ := hval v0 g0 hv0
      refine ⟨fun v' g' => v' = u ∧ g' = g, ?_, ?_⟩
      · unfold Fam; rw [if_pos hw, if_pos hpj]; exact ⟨u, hu, rfl⟩
      · rintro u' g' ⟨rfl, rfl⟩
        exact one _ fun v g'' hv => by
          obtain ⟨u2, hu2, hK⟩ := hval v g'' hv
          rw [hu2.one hu] at hK
          exact hK
    by_cases hlj : loud j = true
    · -- the other one is loud: this one is not
      have hli : ¬ loud i = true := fun e => hl ⟨e, hlj⟩
      have hO : ∃ v, O = (fun v' g' => v' = v ∧ g' = g) ∧ ∀ (u : Value) (g' : G), (pur i = true ∨ early g') → Fam P ops W I early loud late pur i oi (a.put oj.dst u) g' (fun v' g'' => v' = v ∧ g'' = g') := by
        unfold Fam at hy
        by_cases hh : Region.wanted oi (yielded ops a.tmps) = true
        · rw [if_pos hh] at hy
          by_cases hp : pur i = true
          · rw [if_pos hp] at hy
            obtain ⟨v, hv, rfl⟩ := hy
            refine ⟨v, rfl, fun u g' _ => ?_⟩
            unfold Fam
            rw [wanted_put oi a oj.dst u h3, if_pos hh, if_pos hp]
            exact ⟨v, hv.of_same (execOp_put oi hsi a oj.dst u h3), rfl⟩
          · rw [if_neg hp, if_neg hli] at hy
            obtain ⟨_, v, hv, rfl⟩ := hy
            refine ⟨v, rfl, fun u g' hg' => ?_⟩
            unfold Fam
            rw [wanted_put oi a oj.dst u h3, if_pos hh, if_neg hp, if_neg hli]
            exact ⟨hg'.resolve_left hp, v, hv.of_same (execOp_put oi hsi a oj.dst u h3), rfl⟩
        · rw [if_neg hh] at hy
          refine ⟨undef, hy, fun u g' _ => ?_⟩
          unfold Fam
          rw [wanted_put oi a oj.dst u h3, if_neg hh]
      obtain ⟨v, rfl, hF⟩ := hO
      obtain ⟨Oj, hOj, hK⟩ := h v g ⟨rfl, rfl⟩
      unfold Fam at hOj
      rw [hw0, if_pos hw, if_neg hpj, if_pos hlj] at hOj
      refine ⟨Oj, ?_, fun u g' hu => ⟨_, hF u g' ?_, ?_⟩⟩
      · unfold Fam
        rw [if_pos hw, if_neg hpj, if_pos hlj]
        exact ⟨hOj.1, hOj.2.1.of_same (he0 v).symm, hOj.2.2⟩
      · rcases hlate with hlate | hlate
        · exact .inr (hOj.2.2 hlate u g' hu)
        · exact .inl hlate
      · rintro v' g'' ⟨rfl, rfl⟩
        rw [← Act.put_comm a v' u h2]
        exact hK u g'' hu
    · have hearly : early g := by
        have other : O v0 g → early g := fun hv => by
          obtain ⟨Oj, hOj, _⟩ := h v0 g hv
          unfold Fam at hOj
          rw [hw0, if_pos hw, if_neg hpj] at hOj
          exact hOj.1
        unfold Fam at hy
        by_cases hh : Region.wanted oi (yielded ops a.tmps) = true
        · rw [if_pos hh] at hy
          by_cases hp : pur i = true
          · rw [if_pos hp] at hy
            obtain ⟨v, _, rfl⟩ := hy
            exact other ⟨hv0.1, rfl⟩
          · rw [if_neg hp] at hy
            exact hy.1
        · rw [if_neg hh] at hy
          subst hy
          exact other ⟨hv0.1, rfl⟩
      have hval : ∀ v g', O v g' → ∃ u, SQ P W oj a u ∧ K ((a.put oi.dst v).put oj.dst u) g' := fun v g' hv => by
        obtain ⟨Oj, hOj, hK⟩ := h v g' hv
        unfold Fam at hOj
        rw [hw0, if_pos hw, if_neg hpj, if_neg hlj] at hOj
        obtain ⟨_, u, hu, rfl⟩ := hOj
        exact ⟨u, hu.of_same (he0 v).symm, hK _ _ ⟨rfl, rfl⟩⟩
      obtain ⟨u, hu, _⟩ := hval v0 g0 hv0
      refine ⟨fun v' g' => v' = u ∧ g' = g, ?_, ?_⟩
      · unfold Fam
        rw [if_pos hw, if_neg hpj, if_neg hlj]
        exact ⟨hearly, u, hu, rfl⟩
      · rintro u' g' ⟨rfl, rfl⟩
        exact one _ fun v g'' hv => by
          obtain ⟨u2, hu2, hK⟩ := hval v g'' hv
          rw [hu2.one hu] at hK
          exact hK
  · refine ⟨fun v' g' => v' = undef ∧ g' = g, ?_, ?_⟩
    · unfold Fam
      rw [if_neg hw]
    · rintro u' g' ⟨rfl, rfl⟩
      exact one _ fun v g'' hv => by
        obtain ⟨Oj, hOj, hK⟩ := h v g'' hv
        unfold Fam at hOj
        rw [hw0, if_neg hw] at hOj
        subst hOj
        exact hK _ _ ⟨rfl, rfl⟩

theorem fOp_of {i : Nat} {o : Oper} {a : Act} {g : G} {O : Value → G → Prop} {K : Act → G → Prop} (hi : ops[i]? = some o) (h : Fam P ops W I early loud late pur i o a g O) (hK : ∀ v g', O v g' → K (a.put o.dst v) g') : fOp P ops W I early loud late pur i K a g := by
  unfold fOp; simp only [hi]; exact ⟨O, h, hK⟩

/-- What is listed is closed: nothing has come up ahead of what it waits for. -/
def Region.Closed (md : Region.Mode) (ops : Array Oper) (listed : Array Bool) : Prop :=
  listed.size = ops.size ∧ ∀ j oj, ops[j]? = some oj → listed.getD j false = true → ∀ e ∈ oj.after, Region.binds md e = true → listed.getD e.on false = true
theorem Region.Closed.set {listed : Array Bool} {i : Nat} (h : Region.Closed md ops listed) (hi : i ∈ Region.ready md ops listed) : Region.Closed md ops (listed.setIfInBounds i true) := by
  obtain ⟨_, oi, hoi, hall⟩ := mem_ready.1 hi
  refine ⟨by simp [h.1], ?_⟩
  intro j oj hj hl e he hb
  by_cases hij : i = j
  · subst hij
    obtain rfl : oj = oi := Option.some.inj (hj.symm.trans hoi)
    exact getD_set_true (hall e he hb)
  · rw [getD_set_ne false hij] at hl
    exact getD_set_true (h.2 j oj hj hl e he hb)
theorem off_off {listed : Array Bool} {i : Nat} (h : listed.getD i true = false) : listed.getD i false = false := by
  rcases Nat.lt_or_ge i listed.size with h' | h'
  · simp [h'] at h ⊢; exact h
  · simp [Array.getElem?_eq_none h'] at h
/-- A late operation comes up last. -/
def Region.LateLast (md : Region.Mode) (ops : Array Oper) (late pur : Nat → Bool) : Prop :=
  ∀ listed, Region.Closed md ops listed → ∀ i, listed.getD i true = false → ∀ j ∈ Region.ready md ops listed, j ≠ i → late j = false ∨ pur i = true

theorem wpAnyF_first {Q : Act → G → Prop} {i : Nat} {oi : Oper} (hi : ops[i]? = some oi) (hsel : ∀ (j : Nat) (o : Oper) cs b, ops[j]? = some o → o.op ≠ .select cs b) (hlt : Region.LateLast md ops late pur) :
    ∀ (fuel : Nat) (listed : Array Bool) (a : Act) (g : G) (O : Value → G → Prop), Region.Closed md ops listed →
      (∀ j oj, ops[j]? = some oj → j ≠ i → listed.getD j true = false → (∀ e ∈ oj.after, Region.binds md e = true → e.on ≠ i) → oi.apart ops oj = true ∧ ¬ (loud i = true ∧ loud j = true)) →
      i ∈ Region.ready md ops listed → Fam P ops W I early loud late pur i oi a g O →
      (∀ v g', O v g' → wpAnyF P ops md W I early loud late pur Q fuel (listed.setIfInBounds i true) (a.put oi.dst v) g') → wpAnyF P ops md W I early loud late pur Q (fuel + 1) listed a g := by
  intro fuel
  induction fuel with
  | zero =>
    intro listed a g O _ _ hr hy H
    refine ⟨fun h => (by rw [h] at hr; cases hr), fun j hj => ?_⟩
    by_cases hji : j = i
    · subst hji; exact fOp_of hi hy H
    · have := ready_mono hj hji
      obtain ⟨v, g', hv⟩ := hy.nonempty
      rw [(H v g' hv).1] at this
      cases this
  | succ fuel ih =>
    intro listed a g O hcl hfree hr hy H
    refine ⟨fun h => (by rw [h] at hr; cases hr), fun j hj => ?_⟩
    by_cases hji : j = i
    · subst hji; exact fOp_of hi hy H
    · have h1 := fun v g' hv => (H v g' hv).2 j (ready_mono hj hji)
      obtain ⟨hjun, oj, hoj, hall⟩ := mem_ready.1 hj
      have hnot : ∀ e ∈ oj.after, Region.binds md e = true → e.on ≠ i := fun e he hb heq => by
        have h1 := hall e he hb
        have h0 := (mem_ready.1 hr).1
        rw [heq] at h1
        rcases Nat.lt_or_ge i listed.size with h' | h'
        · simp [h'] at h0 h1; rw [h0] at h1; cases h1
        · simp [Array.getElem?_eq_none h'] at h1
      obtain ⟨hap, hnl⟩ := hfree j oj hoj hji hjun hnot
      have h2 := fOp_put hoj hap (fun cs b => hsel i oi cs b hi) (fun cs b => hsel j oj cs b hoj) hnl (hlt listed hcl i (mem_ready.1 hr).1 j hj hji) hy h1
      have hfree' : ∀ k ok, ops[k]? = some ok → k ≠ i → (listed.setIfInBounds j true).getD k true = false →
          (∀ e ∈ ok.after, Region.binds md e = true → e.on ≠ i) → oi.apart ops ok = true ∧ ¬ (loud i = true ∧ loud k = true) := fun k ok hk hki hun hno => by
        refine hfree k ok hk hki ?_ hno
        by_cases hjk : j = k
        · subst hjk; exact hjun
        · rw [getD_set_ne true hjk] at hun; exact hun
      refine fOp_mono (fun a' g' ⟨O', h3, h4⟩ => ih (listed.setIfInBounds j true) a' g' O' (hcl.set hj) hfree' (ready_mono hr (Ne.symm hji)) h3 ?_) h2
      rw [Array.setIfInBounds_comm _ _ hji]
      exact h4

/-- Two loud ones: the later waits for the earlier. -/
def Region.loudFree (md : Region.Mode) (ops : Array Oper) (loud : Nat → Bool) (listed : Array Bool) (i : Nat) : Bool :=
  (List.range ops.size).all fun j => j == i || listed.getD j true || match ops[j]? with
      | some oj => oj.after.any (fun e => Region.binds md e && e.on == i) || !(loud i && loud j)
      | none => true
theorem Region.loudFree_spec {i : Nat} {listed : Array Bool} (h : Region.loudFree md ops loud listed i = true) (j : Nat) (oj : Oper)
    (hj : ops[j]? = some oj) (hne : j ≠ i) (hun : listed.getD j true = false) (hno : ∀ e ∈ oj.after, Region.binds md e = true → e.on ≠ i) : ¬ (loud i = true ∧ loud j = true) := by
  simp only [Region.loudFree, List.all_eq_true, List.mem_range] at h
  have h1 := h j (Array.getElem?_eq_some_iff.1 hj).1
  simp only [hj, Bool.or_eq_true, beq_iff_eq, hne, false_or, hun, Bool.false_eq_true] at h1
  rcases h1 with h1 | h1
  · obtain ⟨e, he, hb⟩ := Array.any_eq_true'.1 h1
    simp only [Bool.and_eq_true, beq_iff_eq] at hb
    exact absurd hb.2 (hno e he hb.1)
  · rintro ⟨a, b⟩; rw [a, b] at h1; simp at h1

def Region.lexFromL (md : Region.Mode) (ops : Array Oper) (loud : Nat → Bool) : Nat → Nat → Array Bool → Bool
  | 0, _, listed => (Region.ready md ops listed).isEmpty
  | fuel + 1, k, listed => (Region.ready md ops listed).contains k && Region.free md ops listed k && Region.loudFree md ops loud listed k && Region.lexFromL md ops loud fuel (k + 1) (listed.setIfInBounds k true)
def Region.lexBL (md : Region.Mode) (ops : Array Oper) (loud : Nat → Bool) : Bool := Region.noSelect ops && Region.lexFromL md ops loud ops.size 0 (Array.replicate ops.size false)

theorem wpAnyF_lex {Q : Act → G → Prop} (hs : Region.noSelect ops = true) (hlt : Region.LateLast md ops late pur) : ∀ (l : List Oper) (k : Nat) (listed : Array Bool) (a : Act) (g : G), Region.Closed md ops listed → (∀ j, l[j]? = ops[k + j]?) →
    Region.lexFromL md ops loud l.length k listed = true → lexW P ops W I early loud late pur Q l k a g → wpAnyF P ops md W I early loud late pur Q l.length listed a g
  | [], _, _, _, _, _, _, hB, h => ⟨by simpa [Region.lexFromL] using hB, h⟩
  | o :: l, k, listed, a, g, hcl, hl, hB, h => by
    have h0 : ops[k]? = some o := by simpa using (hl 0).symm
    simp only [List.length_cons, Region.lexFromL, Bool.and_eq_true] at hB
    obtain ⟨⟨⟨hr, hf⟩, hlf⟩, hB'⟩ := hB
    have hst : fOp P ops W I early loud late pur k (lexW P ops W I early loud late pur Q l (k + 1)) a g := h
    unfold fOp at hst
    simp only [h0] at hst
    obtain ⟨O, hO, hK⟩ := hst
    exact wpAnyF_first h0 (Region.noSelect_spec hs) hlt l.length listed a g O hcl (fun j oj hj hne hun hno => ⟨Region.free_spec h0 hf j oj hj hne hun hno, Region.loudFree_spec hlf j oj hj hne hun hno⟩) (by simpa using hr) hO
      (fun v g' hv => wpAnyF_lex hs hlt l (k + 1) _ _ g' (hcl.set (by simpa using hr)) (fun j => by have := hl (j + 1); simpa [Nat.add_assoc, Nat.add_comm 1 j] using this) hB' (hK v g' hv))

theorem closed_start : Region.Closed md ops (Array.replicate ops.size false) := ⟨by simp, fun j oj _ hl => by
  rcases Nat.lt_or_ge j ops.size with h | h <;> simp [h] at hl⟩
theorem late_none : Region.LateLast md ops (fun _ => false) pur := fun _ _ _ _ _ _ _ => .inl rfl
/-- Every one ahead of number n is waited for by a later one, up to n. -/
def Region.sinks (md : Region.Mode) (ops : Array Oper) (n : Nat) : Bool :=
  (List.range n).all fun i => (List.range (n + 1)).any fun j => decide (i < j) && match ops[j]? with
    | some oj => oj.after.any fun e => Region.binds md e && e.on == i
    | none => false
theorem late_of_sinks {n : Nat} (hs : Region.sinks md ops n = true) (hn : n < ops.size) : Region.LateLast md ops (fun i => i == n) (fun i => decide (n < i)) := by
  intro listed hcl
  have key : ∀ d i, n - i = d → i < n → listed.getD i true = false → n ∉ Region.ready md ops listed := by
    intro d
    induction d using Nat.strongRecOn with
    | _ d ih =>
      intro i hd hi hun hr
      have h1 := List.all_eq_true.1 hs i (List.mem_range.2 hi)
      obtain ⟨j, hj, hj2⟩ := List.any_eq_true.1 h1
      rw [Bool.and_eq_true, decide_eq_true_eq] at hj2
      obtain ⟨hij, hw⟩ := hj2
      cases hoj : ops[j]? with
      | none => rw [hoj] at hw; cases hw
      | some oj =>
        rw [hoj] at hw
        obtain ⟨e, he, hb⟩ := Array.any_eq_true'.1 hw
        simp only [Bool.and_eq_true, beq_iff_eq] at hb
        by_cases hjn : j = n
        · subst hjn
          obtain ⟨_, o2, ho2, hall⟩ := mem_ready.1 hr
          obtain rfl : oj = o2 := Option.some.inj (hoj.symm.trans ho2)
          have := hall e he hb.1
          rw [hb.2, off_off hun] at this
          cases this
        · have hjlt : j < n := by have := List.mem_range.1 hj; omega
          cases hl : listed.getD j false with
          | true =>
            have := hcl.2 j oj hoj hl e he hb.1
            rw [hb.2, off_off hun] at this
            cases this
          | false =>
            have hjs : j < listed.size := by rw [hcl.1]; omega
            exact ih (n - j) (by omega) j rfl hjlt (by simp [hjs] at hl ⊢; exact hl) hr
  intro i hun j hr hne
  by_cases hjn : j = n
  case neg => exact .inl (by simpa using hjn)
  subst hjn
  rcases Nat.lt_trichotomy i j with h | h | h
  · exact absurd hr (key _ i rfl h hun)
  · exact absurd h.symm hne
  · exact .inr (by simpa using h)

/-- A run of quiet operations, walked by the kit's own walk in the class above an arbitrary world. -/
theorem lexW_quiet {Q : Act → G → Prop} {R : Act → Prop} {rest : List Oper} {g : G} (hg : early g) : ∀ (l : List Oper) (k : Nat) (a : Act), (∀ j, j < l.length → l[j]? = ops[k + j]? ∧ loud (k + j) = false ∧ pur (k + j) = false) →
    (∀ a, R a → lexW P ops W I early loud late pur Q rest (k + l.length) a g) → (∀ w1, Ab W w1 → wpQuiet P ops (Cl w1) R l a) → lexW P ops W I early loud late pur Q (l ++ rest) k a g
  | [], k, a, _, hR, h => hR a (h W (Ab.refl W))
  | o :: l, k, a, hl, hR, h => by
    have h0 : ops[k]? = some o := by simpa using (hl 0 (by simp)).1.symm
    have hld : loud k = false := by simpa using (hl 0 (by simp)).2.1
    have hpu : pur k = false := by simpa using (hl 0 (by simp)).2.2
    have next : ∀ a', (∀ w1, Ab W w1 → wpQuiet P ops (Cl w1) R l a') → lexW P ops W I early loud late pur Q (l ++ rest) (k + 1) a' g := fun a' h' =>
      lexW_quiet hg l (k + 1) a' (fun j hj => by have := hl (j + 1) (by simp; omega); simpa [Nat.add_assoc, Nat.add_comm 1 j] using this)
        (fun a hRa => by have := hR a hRa; simpa [Nat.add_assoc, Nat.add_comm 1] using this) h'
    show fOp P ops W I early loud late pur k (lexW P ops W I early loud late pur Q (l ++ rest) (k + 1)) a g
    by_cases hw : Region.wanted o (yielded ops a.tmps) = true
    · have hq : ∀ w1, Ab W w1 → ∃ v, (∀ w, Cl w1 w → o.quietAt P a (Cl w1) w v) ∧ wpQuiet P ops (Cl w1) R l (a.put o.dst v) := fun w1 hw1 => by
        have := h w1 hw1
        simp only [wpQuiet] at this
        rw [if_pos hw] at this
        exact this
      obtain ⟨v, hv, _⟩ := hq W (Ab.refl W)
      have same : ∀ w1, Ab W w1 → ∀ v1, (∀ w, Cl w1 w → o.quietAt P a (Cl w1) w v1) → v1 = v := fun w1 hw1 v1 hv1 =>
        quietUpon_same (hv1 w1 (Ab.refl w1).cl) (hv w1 hw1.cl)
      have hSQ : SQ P W o a v := fun w1 hw1 => by
        obtain ⟨v1, hv1, _⟩ := hq w1 hw1
        have e := same w1 hw1 v1 hv1
        subst e
        exact quietUpon_class (fun _ h => Cl.ab h) (hv1 w1 (Ab.refl w1).cl)
      refine fOp_of h0 (O := fun v' g' => v' = v ∧ g' = g) ?_ ?_
      · unfold Fam; rw [if_pos hw, if_neg (by rw [hpu]; exact Bool.false_ne_true), if_neg (by rw [hld]; exact Bool.false_ne_true)]; exact ⟨hg, v, hSQ, rfl⟩
      · rintro v' g' ⟨rfl, rfl⟩
        refine next _ fun w1 hw1 => ?_
        obtain ⟨v1, hv1, hrest⟩ := hq w1 hw1
        rw [← same w1 hw1 v1 hv1]
        exact hrest
    · refine fOp_of h0 (O := fun v' g' => v' = undef ∧ g' = g) ?_ ?_
      · unfold Fam; rw [if_neg hw]
      · rintro v' g' ⟨rfl, rfl⟩
        refine next _ fun w1 hw1 => ?_
        have := h w1 hw1
        simp only [wpQuiet] at this
        rw [if_neg hw] at this
        exact this

/-! ### One new variable, one store into it -/
inductive Ph where | none | made (b : Nat) | full (b : Nat)
def PhI (W : World) (Z Z' : Obj) : Ph → World → Prop
  | .none, w => Ab W w
  | .made b, w => Ab W w ∧ W.heap.size ≤ b ∧ w.heap[b]? = some Z
  | .full b, w => Ab W w ∧ W.heap.size ≤ b ∧ w.heap[b]? = some Z'
theorem lt_of_block {w : World} {b : Nat} {o : Obj} (h : w.heap[b]? = some o) : b < w.heap.size := by
  rcases Nat.lt_or_ge b w.heap.size with h' | h'
  · exact h'
  · rw [Array.getElem?_eq_none h'] at h; cases h
theorem PhI.ab {W : World} {Z Z' : Obj} : ∀ (g : Ph) (w : World), True → PhI W Z Z' g w → Ab W w
  | .none, _, _, h => h
  | .made _, _, _, h => h.1
  | .full _, _, _, h => h.1
theorem PhI.on {W : World} {Z Z' : Obj} : ∀ (g : Ph) (w w' : World), True → PhI W Z Z' g w → Ab w w' → PhI W Z Z' g w'
  | .none, _, _, _, h, k => Ab.trans h k
  | .made _, _, _, _, h, k => ⟨h.1.trans k, h.2.1, by rw [k.block _ (lt_of_block h.2.2)]; exact h.2.2⟩
  | .full _, _, _, _, h, k => ⟨h.1.trans k, h.2.1, by rw [k.block _ (lt_of_block h.2.2)]; exact h.2.2⟩

/-- **One new variable (operation number iA), one store into it (number iS), all else quiet.** -/
theorem wp_region_float {P : Program} {id : Nat} {Q : Exit → Act → World → Prop} {a : Act} {w : World} {l1 l2 l3 : List Oper} {oA oS : Oper} (Z Z' : Obj)
    (hm : P.follows .mixedOrders = true)
    (hB : Region.lexBL .any (l1 ++ oA :: (l2 ++ oS :: l3)).toArray (fun i => i == l1.length || i == l1.length + 1 + l2.length) = true)
    (hgA : oA.guard = none) (hgS : oS.guard = none)
    (hA : ∀ (a : Act) (w' : World), (execOp a.eval oA).run P w' = .ok (.value (.pointer (some ⟨w'.heap.size, 0, none⟩))) (w'.alloc Z))
    (h : ∀ w1, Ab w w1 → wpQuiet P (l1 ++ oA :: (l2 ++ oS :: l3)).toArray (Cl w1) (fun a1 => ∀ b, w.heap.size ≤ b → ∀ w2, Ab w w2 → wpQuiet P (l1 ++ oA :: (l2 ++ oS :: l3)).toArray (Cl w2) (fun a2 =>
      (∀ w3, Ab w w3 → w3.heap[b]? = some Z → ∃ w4, (execOp a2.eval oS).run P w3 = .ok .skip w4 ∧ Ab w w4 ∧ w4.heap[b]? = some Z') ∧
      ∀ w5, Ab w w5 → wpQuiet P (l1 ++ oA :: (l2 ++ oS :: l3)).toArray (Cl w5) (fun a3 => ∀ w6, Ab w w6 → w6.heap[b]? = some Z' → Q .normal a3 w6) l3 (a2.put oS.dst undef)) l2 (a1.put oA.dst (.pointer (some ⟨b, 0, none⟩)))) l1 a) :
    (Code.region id (l1 ++ oA :: (l2 ++ oS :: l3)).toArray true).wp P Q a w := by
  obtain ⟨ops, hops⟩ : ∃ ops, ops = (l1 ++ oA :: (l2 ++ oS :: l3)).toArray := ⟨_, rfl⟩
  rw [← hops] at hB h ⊢
  have hget : ∀ j, (l1 ++ oA :: (l2 ++ oS :: l3))[j]? = ops[j]? := fun j => by rw [hops, List.getElem?_toArray]
  have hlen : ops.size = (l1 ++ oA :: (l2 ++ oS :: l3)).length := by rw [hops, List.size_toArray]
  simp only [Region.lexBL, Bool.and_eq_true] at hB
  have wantA : ∀ a : Act, Region.wanted oA (yielded ops a.tmps) = true := fun a => by simp [Region.wanted, hgA]
  have wantS : ∀ a : Act, Region.wanted oS (yielded ops a.tmps) = true := fun a => by simp [Region.wanted, hgS]
  have gA : ops[l1.length]? = some oA := by rw [← hget]; simp
  have gS : ops[l1.length + 1 + l2.length]? = some oS := by
    rw [← hget, List.getElem?_append_right (by omega)]
    have : l1.length + 1 + l2.length - l1.length = l2.length + 1 := by omega
    rw [this, List.getElem?_cons_succ, List.getElem?_append_right (by omega)]
    simp
  have g1 : ∀ j, j < l1.length → l1[j]? = ops[0 + j]? ∧ (fun i => i == l1.length || i == l1.length + 1 + l2.length) (0 + j) = false ∧ (fun _ => false) (0 + j) = false := fun j hj => by
    refine ⟨by rw [← hget, Nat.zero_add, List.getElem?_append_left hj], ?_, rfl⟩
    simp only [Bool.or_eq_false_iff, beq_eq_false_iff_ne]; omega
  have g2 : ∀ j, j < l2.length → l2[j]? = ops[l1.length + 1 + j]? ∧ (fun i => i == l1.length || i == l1.length + 1 + l2.length) (l1.length + 1 + j) = false ∧ (fun _ => false) (l1.length + 1 + j) = false := fun j hj => by
    refine ⟨?_, ?_, rfl⟩
    · rw [← hget, List.getElem?_append_right (by omega)]
      have : l1.length + 1 + j - l1.length = j + 1 := by omega
      rw [this, List.getElem?_cons_succ, List.getElem?_append_left hj]
    · simp only [Bool.or_eq_false_iff, beq_eq_false_iff_ne]; omega
  have g3 : ∀ j, j < l3.length → l3[j]? = ops[l1.length + 1 + l2.length + 1 + j]? ∧ (fun i => i == l1.length || i == l1.length + 1 + l2.length) (l1.length + 1 + l2.length + 1 + j) = false ∧ (fun _ => false) (l1.length + 1 + l2.length + 1 + j) = false := fun j hj => by
    refine ⟨?_, ?_, rfl⟩
    · rw [← hget, List.getElem?_append_right (by omega)]
      have : l1.length + 1 + l2.length + 1 + j - l1.length = (l2.length + (1 + j)) + 1 := by omega
      rw [this, List.getElem?_cons_succ, List.getElem?_append_right (by omega)]
      have : l2.length + (1 + j) - l2.length = j + 1 := by omega
      rw [this, List.getElem?_cons_succ]
    · simp only [Bool.or_eq_false_iff, beq_eq_false_iff_ne]; omega
  have base : Ab w { w with drawn := w.drawn + 1 } := ⟨rfl, rfl, rfl, Nat.le_refl _, fun _ _ => rfl⟩
  refine wp_region_any hm (wpAny_of_float (W := w) (I := PhI w Z Z') (early := fun _ => True) (loud := fun i => i == l1.length || i == l1.length + 1 + l2.length) (late := fun _ => false) (pur := fun _ => false)
    (Q := fun a' g => ∃ b, g = .full b ∧ ∀ w6, Ab w w6 → w6.heap[b]? = some Z' → Q .normal a' w6) PhI.ab PhI.on ?_ _ _ _ Ph.none _ base ?_)
  · rintro a' g w' hI ⟨b, rfl, hQ⟩
    exact hQ w' hI.1 hI.2.2
  · rw [hlen]
    refine wpAnyF_lex hB.1 late_none _ 0 _ _ _ (by rw [← hlen]; exact closed_start) (fun j => by rw [hget, Nat.zero_add]) (by rw [← hlen]; exact hB.2) ?_
    refine lexW_quiet trivial l1 0 a g1 (fun a1 h1 => ?_) h
    refine fOp_of (o := oA) (O := fun v g' => ∃ b, w.heap.size ≤ b ∧ v = .pointer (some ⟨b, 0, none⟩) ∧ g' = Ph.made b) (by rw [Nat.zero_add]; exact gA) ?_ ?_
    · unfold Fam
      rw [if_pos (wantA _), if_neg (by simp), if_pos (by simp)]
      refine ⟨trivial, ?_, fun _ _ _ _ => trivial⟩
      refine ⟨⟨_, _, w.heap.size, Nat.le_refl _, rfl, rfl⟩, fun w' hw' => ?_⟩
      rw [hA a1 w']
      refine ⟨_, ⟨w'.heap.size, Below.size hw', rfl, rfl⟩, ?_⟩
      refine ⟨Ab.trans hw' ⟨rfl, rfl, rfl, by show w'.heap.size ≤ (w'.heap.push Z).size; simp, fun k hk => Below.heap_alloc _ _ _ hk⟩, Below.size hw', ?_⟩
      show (w'.heap.push Z)[w'.heap.size]? = some Z
      simp
    · rintro v g' ⟨b, hb, rfl, rfl⟩
      rw [Nat.zero_add]
      refine lexW_quiet trivial l2 (l1.length + 1) _ g2 (fun a2 h2 => ?_) (h1 b hb)
      refine fOp_of (o := oS) (O := fun v g' => v = undef ∧ g' = Ph.full b) gS ?_ ?_
      · unfold Fam
        rw [if_pos (wantS _), if_neg (by simp), if_pos (by simp)]
        refine ⟨trivial, ?_, fun _ _ _ _ => trivial⟩
        refine ⟨⟨_, _, rfl, rfl⟩, fun w' hw' => ?_⟩
        obtain ⟨w4, hr, h4, h5⟩ := h2.1 w' hw'.1 hw'.2.2
        rw [hr]
        exact ⟨_, ⟨rfl, rfl⟩, h4, hb, h5⟩
      · rintro v g' ⟨rfl, rfl⟩
        have := lexW_quiet (P := P) (W := w) (I := PhI w Z Z') (early := fun _ => True) (loud := fun i => i == l1.length || i == l1.length + 1 + l2.length) (late := fun _ => false) (pur := fun _ => false) (Q := fun a' g => ∃ b, g = .full b ∧ ∀ w6, Ab w w6 → w6.heap[b]? = some Z' → Q .normal a' w6) (rest := []) (g := Ph.full b) trivial l3 (l1.length + 1 + l2.length + 1) _ g3 (fun a3 h3 => ⟨b, rfl, h3⟩) h2.2
        rwa [List.append_nil] at this

/-- The same, the region written out, its two loud operations told by their numbers: n, and m behind it. -/
theorem wp_region_at {P : Program} {id : Nat} {Q : Exit → Act → World → Prop} {a : Act} {w : World} {l : List Oper} {oA oS : Oper} (n m : Nat) (Z Z' : Obj)
    (hm : P.follows .mixedOrders = true)
    (hl : l.take n ++ oA :: ((l.drop (n + 1)).take m ++ oS :: l.drop (n + 1 + m + 1)) = l) (hn : (l.take n).length = n) (hm' : ((l.drop (n + 1)).take m).length = m)
    (hB : Region.lexBL .any l.toArray (fun i => i == n || i == n + 1 + m) = true)
    (hgA : oA.guard = none) (hgS : oS.guard = none)
    (hA : ∀ (a : Act) (w' : World), (execOp a.eval oA).run P w' = .ok (.value (.pointer (some ⟨w'.heap.size, 0, none⟩))) (w'.alloc Z))
    (h : ∀ w1, Ab w w1 → wpQuiet P l.toArray (fun w' => ∃ p : Regrown, w' = bw w1 p) (fun a1 => ∀ b, w.heap.size ≤ b → ∀ w2, Ab w w2 → wpQuiet P l.toArray (fun w' => ∃ p : Regrown, w' = bw w2 p) (fun a2 =>
      (∀ w3, Ab w w3 → w3.heap[b]? = some Z → ∃ w4, (execOp a2.eval oS).run P w3 = .ok .skip w4 ∧ Ab w w4 ∧ w4.heap[b]? = some Z') ∧
      ∀ w5, Ab w w5 → wpQuiet P l.toArray (fun w' => ∃ p : Regrown, w' = bw w5 p) (fun a3 => ∀ w6, Ab w w6 → w6.heap[b]? = some Z' → Q .normal a3 w6) (l.drop (n + 1 + m + 1)) (a2.put oS.dst undef)) ((l.drop (n + 1)).take m) (a1.put oA.dst (.pointer (some ⟨b, 0, none⟩)))) (l.take n) a) :
    (Code.region id l.toArray true).wp P Q a w := by
  have key := wp_region_float (id := id) (Q := Q) (a := a) (w := w) (l1 := l.take n) (l2 := (l.drop (n + 1)).take m) (l3 := l.drop (n + 1 + m + 1)) (oA := oA) (oS := oS) Z Z' hm
  rw [hl, hn, hm'] at key
  exact key hB hgA hgS hA h
end

/-! ### A last operation that waits for all others -/
section
/-- What 'move' and 'assign' give. -/
def pureVal (o : Oper) (a : Act) : Value := match o.op with
  | .move x => a.eval x
  | .assign x => a.eval x
  | _ => undef
def isPure (o : Oper) : Bool := o.guard.isNone && match o.op with
  | .move _ => true
  | .assign _ => true
  | _ => false
def pureRun : List Oper → Act → Act
  | [], a => a
  | o :: l, a => pureRun l (a.put o.dst (pureVal o a))
theorem pq_of_pure {P : Program} {o : Oper} {a : Act} (h : isPure o = true) : PQ P o a (pureVal o a) := by
  intro w
  unfold isPure at h
  rw [Bool.and_eq_true] at h
  have h2 := h.2
  unfold pureVal
  split at h2
  · rename_i x hx; exact BigFrame.run_move x hx w
  · rename_i x hx; exact BigFrame.run_assign x hx w
  · cases h2
theorem want_of_pure {ops : Array Oper} {o : Oper} {a : Act} (h : isPure o = true) : Region.wanted o (yielded ops a.tmps) = true := by
  unfold isPure at h
  rw [Bool.and_eq_true, Option.isNone_iff_eq_none] at h
  simp [Region.wanted, h.1]

theorem lexW_pure {P : Program} {ops : Array Oper} {W : World} {G : Type} {I : G → World → Prop} {early : G → Prop} {loud late pur : Nat → Bool} {Q : Act → G → Prop} {g : G} : ∀ (l : List Oper) (k : Nat) (a : Act), (∀ j, j < l.length → l[j]? = ops[k + j]? ∧ pur (k + j) = true) → l.all isPure = true →
    Q (pureRun l a) g → lexW P ops W I early loud late pur Q l k a g
  | [], _, _, _, _, h => h
  | o :: l, k, a, hl, hp, h => by
    have h0 : ops[k]? = some o := by simpa using (hl 0 (by simp)).1.symm
    have hpk : pur k = true := by simpa using (hl 0 (by simp)).2
    rw [List.all_cons, Bool.and_eq_true] at hp
    refine fOp_of h0 (O := fun v' g' => v' = pureVal o a ∧ g' = g) ?_ ?_
    · unfold Fam; rw [if_pos (want_of_pure hp.1), if_pos hpk]; exact ⟨_, pq_of_pure hp.1, rfl⟩
    · rintro v' g' ⟨rfl, rfl⟩
      exact lexW_pure l (k + 1) _ (fun j hj => by have := hl (j + 1) (by simp; omega); simpa [Nat.add_assoc, Nat.add_comm 1 j] using this) hp.2 h

/-- **All quiet, but number n, for which every one ahead of it is waited; behind it moves alone.** -/
theorem wp_region_store {P : Program} {id : Nat} {Q : Exit → Act → World → Prop} {a : Act} {w : World} {l : List Oper} {oS : Oper} (n : Nat)
    (hm : P.follows .mixedOrders = true) (hl : l.take n ++ oS :: l.drop (n + 1) = l) (hn : (l.take n).length = n) (hpu : (l.drop (n + 1)).all isPure = true)
    (hB : Region.lexBL .any l.toArray (fun i => i == n) = true) (hSk : Region.sinks .any l.toArray n = true) (hgS : oS.guard = none)
    (h : ∀ w1, Ab w w1 → wpQuiet P l.toArray (fun w' => ∃ p : Regrown, w' = bw w1 p) (fun a1 => ∀ w3, Ab w w3 → Yld P (fun v w4 => Q .normal (pureRun (l.drop (n + 1)) (a1.put oS.dst v)) w4) w3 ((execOp a1.eval oS).run P w3)) (l.take n) a) :
    (Code.region id l.toArray true).wp P Q a w := by
  obtain ⟨ops, hops⟩ : ∃ ops, ops = l.toArray := ⟨_, rfl⟩
  obtain ⟨l1, hl1⟩ : ∃ l1, l1 = l.take n := ⟨_, rfl⟩
  obtain ⟨l3, hl3⟩ : ∃ l3, l3 = l.drop (n + 1) := ⟨_, rfl⟩
  rw [← hops] at hB hSk h ⊢
  rw [← hl1, ← hl3] at hl h
  rw [← hl1] at hn
  rw [← hl3] at hpu
  have hget : ∀ j, l[j]? = ops[j]? := fun j => by rw [hops, List.getElem?_toArray]
  have hlen : ops.size = (l1 ++ oS :: l3).length := by rw [hops, List.size_toArray, hl]
  simp only [Region.lexBL, Bool.and_eq_true] at hB
  have wantS : ∀ a : Act, Region.wanted oS (yielded ops a.tmps) = true := fun a => by simp [Region.wanted, hgS]
  have gS : ops[n]? = some oS := by rw [← hget, ← hl, ← hn]; simp
  have g1 : ∀ j, j < l1.length → l1[j]? = ops[0 + j]? ∧ (fun i => i == n) (0 + j) = false ∧ (fun i => decide (n < i)) (0 + j) = false := fun j hj => by
    refine ⟨by rw [← hget, Nat.zero_add, ← hl, List.getElem?_append_left hj], ?_, ?_⟩
    · simp only [beq_eq_false_iff_ne]; omega
    · simp only [decide_eq_false_iff_not]; omega
  have g3 : ∀ j, j < l3.length → l3[j]? = ops[n + 1 + j]? ∧ (fun i => decide (n < i)) (n + 1 + j) = true := fun j hj => by
    refine ⟨?_, by simp only [decide_eq_true_eq]; omega⟩
    rw [← hget, ← hl, List.getElem?_append_right (by omega)]
    have : n + 1 + j - l1.length = j + 1 := by omega
    rw [this, List.getElem?_cons_succ]
  have base : Ab w { w with drawn := w.drawn + 1 } := ⟨rfl, rfl, rfl, Nat.le_refl _, fun _ _ => rfl⟩
  refine wp_region_any hm (wpAny_of_float (G := Option (World → Prop)) (W := w) (I := fun g w' => match g with | none => Ab w w' | some R => R w') (early := fun g => g = none) (loud := fun i => i == n) (late := fun i => i == n) (pur := fun i => decide (n < i))
    (Q := fun a' g => ∃ R, g = some R ∧ ∀ w', R w' → Q .normal a' w') ?_ ?_ ?_ _ _ _ none _ base ?_)
  · rintro g w' rfl h; exact h
  · rintro g w' w'' rfl h k; exact Ab.trans h k
  · rintro a' g w' hI ⟨R, rfl, hQ⟩; exact hQ w' hI
  · rw [hlen]
    refine wpAnyF_lex hB.1 (late_of_sinks hSk (by rw [hlen]; simp [hn])) (l1 ++ oS :: l3) 0 _ _ _ (by rw [← hlen]; exact closed_start) (fun j => by rw [hl, hget, Nat.zero_add]) (by rw [← hlen]; exact hB.2) ?_
    refine lexW_quiet (loud := fun i => i == n) (early := fun g => g = none) (pur := fun i => decide (n < i)) rfl l1 0 a g1 (fun a1 h1 => ?_) h
    rw [Nat.zero_add, hn]
    refine fOp_of (o := oS) (O := fun v g' => g' = some (fun w' => Q .normal (pureRun l3 (a1.put oS.dst v)) w')) gS ?_ ?_
    · unfold Fam
      rw [if_pos (wantS _), if_neg (by simp), if_pos (by simp)]
      refine ⟨rfl, ⟨⟨undef, _, rfl⟩, fun w' hw' => ?_⟩, fun hlate => absurd hlate (by simp)⟩
      exact Yld.mono (fun v w4 hQ => ⟨_, rfl, hQ⟩) (h1 w' hw')
    · rintro v g' rfl
      exact lexW_pure l3 (n + 1) _ g3 hpu ⟨_, rfl, fun w' h' => h'⟩

/-- The same with nothing behind it. -/
theorem wp_region_last {P : Program} {id : Nat} {Q : Exit → Act → World → Prop} {a : Act} {w : World} {l : List Oper} {oS : Oper} (n : Nat)
    (hm : P.follows .mixedOrders = true) (hl : l.take n ++ [oS] = l) (hn : (l.take n).length = n)
    (hB : Region.lexBL .any l.toArray (fun i => i == n) = true) (hSk : Region.sinks .any l.toArray n = true) (hgS : oS.guard = none)
    (h : ∀ w1, Ab w w1 → wpQuiet P l.toArray (fun w' => ∃ p : Regrown, w' = bw w1 p) (fun a1 => ∀ w3, Ab w w3 → Yld P (fun v w4 => Q .normal (a1.put oS.dst v) w4) w3 ((execOp a1.eval oS).run P w3)) (l.take n) a) :
    (Code.region id l.toArray true).wp P Q a w := by
  have hd : l.drop (n + 1) = [] := by
    have := congrArg List.length hl
    rw [List.length_append, hn] at this
    exact List.drop_eq_nil_of_le (by simp at this; omega)
  refine wp_region_store n hm (by rw [hd]; exact hl) hn (by rw [hd]; rfl) hB hSk hgS ?_
  rw [hd]
  exact h
end

/-! ### A block as a whole -/
theorem cell_of_block {w : World} {b : Nat} {C : Array Value} {t : TypeId} (h : w.heap[b]? = some (.cells C t (0, 0))) (j : Nat) : w.cell? ⟨b, j, none⟩ = C[j]? := by simp [World.cell?, h]
theorem free_of_block {w : World} {b : Nat} {C : Array Value} {t : TypeId} (h : w.heap[b]? = some (.cells C t (0, 0))) (j : Nat) : w.frozen? ⟨b, j, none⟩ = false := by simp [World.frozen?, h]
theorem block_setCell {w : World} {b j : Nat} {C : Array Value} {t : TypeId} {r : Nat × Nat} (v : Value) (h : w.heap[b]? = some (.cells C t r)) : (w.setCell ⟨b, j, none⟩ v).heap[b]? = some (.cells (C.setIfInBounds j v) t r) := by
  have hlt := lt_of_block h
  have h' : w.heap[b] = .cells C t r := by simpa [Array.getElem?_eq_getElem hlt] using h
  show (w.heap.modify b _)[b]? = _
  rw [Array.getElem?_eq_getElem (by simpa using hlt), Array.getElem_modify_self, h']
  rfl
theorem Ab.setCell {w w1 : World} {b j : Nat} (v : Value) (h : Ab w w1) (hb : w.heap.size ≤ b) : Ab w (w1.setCell ⟨b, j, none⟩ v) := Below.setCell h hb v
/-- A block of the run's own in a world above. -/
theorem Ab.block {w w' : World} {b : Nat} {o : Obj} (h : Ab w w') (hb : w.heap[b]? = some o) : w'.heap[b]? = some o := (Below.block h b (lt_of_block hb)).trans hb
theorem block_alloc (w : World) (o : Obj) : (w.alloc o).heap[w.heap.size]? = some o := by show (w.heap.push o)[w.heap.size]? = some o; simp
theorem block_alloc2 (w : World) (o p : Obj) : ((w.alloc o).alloc p).heap[w.heap.size]? = some o ∧ ((w.alloc o).alloc p).heap[w.heap.size + 1]? = some p := by
  show ((w.heap.push o).push p)[w.heap.size]? = some o ∧ ((w.heap.push o).push p)[w.heap.size + 1]? = some p
  exact ⟨by rw [Array.getElem?_push, if_neg (by simp)]; simp, by rw [Array.getElem?_push, if_pos (by simp)]⟩
end Go.Proofs.YtpkpjkceiikakaaGreatDoor

namespace Go.Proofs.YtpkpjkceiikakaaGreatDoor
open Go.ChangeShapes Go.WideShapes Go.ChangeAt Go.RowKit

/-- A digit. -/
def dig (k : Nat) : ByteArray := ⟨#[UInt8.ofNat (48 + k)]⟩
/-- A number of at most two digits. -/
def dec2 (n : Nat) : ByteArray := if n < 10 then dig n else dig (n / 10) ++ dig (n % 10)
theorem conv_oneD (W : World) (u : UInt8) : (convert 76 9 (.slice (some ⟨W.heap.size, 0, none⟩) 1 1)).run Tryz.prog (W.alloc (.cells #[.int .u8 (u.toNat : Int)] 5)) = .ok (.string ⟨#[u]⟩) (W.alloc (.cells #[.int .u8 (u.toNat : Int)] 5)) := by
  have h := run_convert_bytes_back (P := Tryz.prog) (W.alloc (.cells #[.int .u8 (u.toNat : Int)] 5)) 76 9 5 ⟨W.heap.size, 0, none⟩ 1 [u] Tryz.underlying76 Tryz.underlying5 Tryz.underlying9 (fun j hj => by
    have hj0 : j = 0 := by simp at hj; omega
    subst hj0
    simp [Addr.add])
  simpa using h
theorem conv_at (W : World) (b : Nat) (u : UInt8) (hb : W.cell? ⟨b, 0, none⟩ = some (.int .u8 (u.toNat : Int))) : (convert 76 9 (.slice (some ⟨b, 0, none⟩) 1 1)).run Tryz.prog W = .ok (.string ⟨#[u]⟩) W := by
  have h := run_convert_bytes_back (P := Tryz.prog) W 76 9 5 ⟨b, 0, none⟩ 1 [u] Tryz.underlying76 Tryz.underlying5 Tryz.underlying9 (fun j hj => by
    have hj0 : j = 0 := by simp at hj; omega
    subst hj0
    simp [Addr.add, hb])
  simpa using h
theorem dig_byte {k : Nat} (h : k < 10) : ((UInt8.ofNat (48 + k)).toNat : Int) = 48 + (k : Int) := by rw [UInt8.toNat_ofNat']; omega

set_option maxRecDepth 100000 in
set_option maxHeartbeats 1600000 in
theorem sDec1_any (n : Nat) (hn : n < 10) (w : World) :
    Calls Tryz.prog 106 #[.int .i64 (n : Int)] w fun e w' => e = .returned (.string (dec2 n)) ∧ Below w.heap.size w w' := by
  have d1 : decide ((n : Int) < 10) = true := decide_eq_true (by omega)
  have v1 : (n : Int).tmod 10 = (n : Int) := by rw [Int.tmod_eq_emod_of_nonneg (by omega)]; omega
  have v2 : IntKind.i64.wrap (n : Int) = (n : Int) := IntWalk.i64_in _ (by omega)
  have v3 : IntKind.i64.wrap (48 + (n : Int)) = 48 + (n : Int) := IntWalk.i64_in _ (by omega)
  have e : dec2 n = ⟨#[UInt8.ofNat (48 + n)]⟩ := if_pos hn
  rw [e]
  have hu := dig_byte hn
  generalize UInt8.ofNat (48 + n) = u at *
  have v4 : IntKind.u8.wrap (48 + (n : Int)) = (u.toNat : Int) := by rw [hu]; exact IntWalk.u8_in _ ⟨by omega, by omega⟩
  have cv := conv_oneD w u
  clear hu e
  go_enter Tryz.func106, Tryz.ntmps106
  go_wp2
  go_ret
  exact ⟨rfl, (by repeat' (first | (with_reducible exact Below.refl _ _) | (with_reducible assumption) | (with_reducible refine below_drewN ?_ _) | (with_reducible refine Below.drew ?_) | (with_reducible refine below_new ?_ _) | (with_reducible refine below_next ?_ (by with_reducible assumption)) | (with_reducible refine Below.setCell ?_ ?_ _) | go_size))⟩

set_option maxRecDepth 100000 in
set_option maxHeartbeats 3200000 in
theorem sDec_any (n : Nat) (hn : n < 100) (w : World) :
    Calls Tryz.prog 106 #[.int .i64 (n : Int)] w fun e w' => e = .returned (.string (dec2 n)) ∧ Below w.heap.size w w' := by
  by_cases h : n < 10
  · exact sDec1_any n h w
  · have d1 : decide ((n : Int) < 10) = false := decide_eq_false (by omega)
    obtain ⟨m, hm⟩ : ∃ m, m = n / 10 := ⟨_, rfl⟩
    obtain ⟨r, hr⟩ : ∃ r, r = n % 10 := ⟨_, rfl⟩
    have v0 : (n : Int).tdiv 10 = (m : Int) := by rw [Int.tdiv_eq_ediv_of_nonneg (by omega)]; omega
    have v1 : (n : Int).tmod 10 = (r : Int) := by rw [Int.tmod_eq_emod_of_nonneg (by omega)]; omega
    have v5 : IntKind.i64.wrap (m : Int) = (m : Int) := IntWalk.i64_in _ (by omega)
    have v2 : IntKind.i64.wrap (r : Int) = (r : Int) := IntWalk.i64_in _ (by omega)
    have v3 : IntKind.i64.wrap (48 + (r : Int)) = 48 + (r : Int) := IntWalk.i64_in _ (by omega)
    have e : dec2 n = dig m ++ ⟨#[UInt8.ofNat (48 + r)]⟩ := by unfold dec2; rw [if_neg h, hm, hr]; rfl
    have em : dec2 m = dig m := if_pos (by omega)
    have D := fun W => sDec1_any m (by omega) W
    rw [em] at D
    rw [e]
    have hu := dig_byte (k := r) (by omega)
    have sd : (dig m).size = 1 := rfl
    generalize UInt8.ofNat (48 + r) = u at *
    generalize dig m = s at *
    have v4 : IntKind.u8.wrap (48 + (r : Int)) = (u.toNat : Int) := by rw [hu]; exact IntWalk.u8_in _ ⟨by omega, by omega⟩
    have cv := fun W b hb => conv_at W b u hb
    have sz : (ByteArray.mk #[u]).size = 1 := rfl
    have sl : ¬ 9223372036854775807 < s.size + 1 := by omega
    have D := Lib.hid D
    clear hu e em hm hr
    go_enter Tryz.func106, Tryz.ntmps106
    go_upto_region 3 with fail
    go_region_with (go_at_call 106; refine (D.out _).mono ?_; rintro e w2 ⟨rfl, hB⟩; obtain ⟨qc, qf, qz⟩ := bcell hB)
    all_goals go_wp2
    all_goals go_ret
    all_goals exact ⟨rfl, (by repeat' (first | (with_reducible exact Below.refl _ _) | (with_reducible assumption) | (with_reducible refine below_drewN ?_ _) | (with_reducible refine Below.drew ?_) | (with_reducible refine below_new ?_ _) | (with_reducible refine below_next ?_ (by with_reducible assumption)) | (with_reducible refine Below.setCell ?_ ?_ _) | go_size))⟩
end Go.Proofs.YtpkpjkceiikakaaGreatDoor

namespace Go.Proofs.YtpkpjkceiikakaaGreatDoor
open Go.ChangeShapes Go.WideShapes Go.ChangeAt Go.RowKit

/-! ### Numbers -/
def digs : Nat → List UInt8 → Option Nat
  | acc, [] => some acc
  | acc, c :: r => if 48 ≤ c.toNat ∧ c.toNat ≤ 57 then digs (10 * acc + (c.toNat - 48)) r else none
/-- A number of at most ten digits, without a sign, as it is written. -/
def numL (l : List UInt8) : Option Nat := if l = [] ∨ 10 < l.length ∨ (l.head? = some 48 ∧ 1 < l.length) then none else digs 0 l
/-- What strconv.ParseInt gives, where it gives something. -/
def pIn (B : Nat) (s : ByteArray) : Option Int := match Lib.parseIntB B s.data.toList with
  | .ok v => some v
  | _ => none
def decL (n : Nat) : List UInt8 := if n < 10 then [UInt8.ofNat (48 + n)] else [UInt8.ofNat (48 + n / 10), UInt8.ofNat (48 + n % 10)]
theorem dec2_data (n : Nat) : (dec2 n).data.toList = decL n := by
  unfold dec2 decL
  split
  · rfl
  · rw [ByteArray.data_append]; rfl
theorem numL_dec : ∀ n, n < 100 → numL (decL n) = some n := by decide +kernel
theorem pIn16_dec : ∀ n, n < 100 → Lib.parseIntB 16 (decL n) = .ok (n : Int) := by decide +kernel
theorem pIn64_dec : ∀ n, n < 100 → Lib.parseIntB 64 (decL n) = .ok (n : Int) := by decide +kernel
theorem no_blank_dec : ∀ n, n < 100 → ∀ b ∈ decL n, 48 ≤ b.toNat := by decide +kernel
theorem pIn16 {n : Nat} (h : n < 100) : pIn 16 (dec2 n) = some (n : Int) := by unfold pIn; rw [dec2_data, pIn16_dec n h]
theorem pIn64 {n : Nat} (h : n < 100) : pIn 64 (dec2 n) = some (n : Int) := by unfold pIn; rw [dec2_data, pIn64_dec n h]
theorem numL_dec2 {n : Nat} (h : n < 100) : numL (dec2 n).data.toList = some n := by rw [dec2_data, numL_dec n h]
theorem digs_ge : ∀ (l : List UInt8) (acc n : Nat), digs acc l = some n → acc ≤ n
  | [], acc, n, h => by simp [digs] at h; omega
  | c :: r, acc, n, h => by
    rw [digs] at h
    split at h
    · have := digs_ge r _ n h; omega
    · cases h
theorem u8_of {c : UInt8} {k : Nat} (h : 48 ≤ c.toNat) (hk : k = c.toNat - 48) : UInt8.ofNat (48 + k) = c := by
  apply UInt8.toNat_inj.1
  have := c.toNat_lt
  rw [UInt8.toNat_ofNat']
  omega
theorem decL_of {l : List UInt8} {n : Nat} (h : numL l = some n) (hn : n < 100) : l = decL n := by
  unfold numL at h
  split at h
  · cases h
  · rename_i hc
    match l, h, hc with
    | [], _, hc => simp at hc
    | [a], h, hc =>
      rw [digs] at h
      split at h
      · rename_i ha
        rw [digs] at h
        have h := Option.some.inj h
        unfold decL
        rw [if_pos (by omega), u8_of ha.1 (by omega)]
      · cases h
    | [a, b], h, hc =>
      have h48 : a ≠ 48 := fun e => hc (.inr (.inr ⟨by rw [e]; rfl, by simp⟩))
      have h48 : a.toNat ≠ 48 := fun e => h48 (UInt8.toNat_inj.1 e)
      rw [digs] at h
      split at h
      · rename_i ha
        rw [digs] at h
        split at h
        · rename_i hb
          rw [digs] at h
          have h := Option.some.inj h
          unfold decL
          rw [if_neg (by omega), u8_of ha.1 (by omega), u8_of hb.1 (by omega)]
        · cases h
      · cases h
    | a :: b :: c :: r, h, hc =>
      exfalso
      have h48 : a ≠ 48 := fun e => hc (.inr (.inr ⟨by rw [e]; rfl, by simp⟩))
      have h48 : a.toNat ≠ 48 := fun e => h48 (UInt8.toNat_inj.1 e)
      rw [digs] at h
      split at h
      · rename_i ha
        rw [digs] at h
        split at h
        · rw [digs] at h
          split at h
          · have := digs_ge _ _ _ h; omega
          · cases h
        · cases h
      · cases h
theorem data_inj {x y : ByteArray} (h : x.data.toList = y.data.toList) : x = y := by
  rw [← mkS_data x, ← mkS_data y, h]
theorem dec2_of {s : ByteArray} {n : Nat} (h : numL s.data.toList = some n) (hn : n < 100) : s = dec2 n :=
  data_inj (by rw [dec2_data]; exact decL_of h hn)
theorem num_le : ∀ (l : List UInt8) (acc n : Nat), digs acc l = some n → n < (acc + 1) * 10 ^ l.length
  | [], acc, n, h => by simp [digs] at h; simp; omega
  | c :: r, acc, n, h => by
    rw [digs] at h
    split at h
    · have := num_le r _ n h
      rw [List.length_cons, Nat.pow_succ]
      have h2 : (10 * acc + (c.toNat - 48) + 1) * 10 ^ r.length ≤ ((acc + 1) * 10) * 10 ^ r.length := Nat.mul_le_mul_right _ (by omega)
      rw [Nat.mul_comm (10 ^ r.length) 10, ← Nat.mul_assoc]
      omega
    · cases h
theorem numL_lt {l : List UInt8} {n : Nat} (h : numL l = some n) : n < 10000000000 := by
  unfold numL at h
  split at h
  · cases h
  · rename_i hc
    have h1 := num_le l 0 n h
    have h2 : 10 ^ l.length ≤ 10 ^ 10 := Nat.pow_le_pow_right (by omega) (by
      rcases Nat.lt_or_ge 10 l.length with h' | h'
      · exact absurd (.inr (.inl h')) hc
      · exact h')
    omega

/-! ### Pieces -/
def joinC (c : UInt8) : List (List UInt8) → List UInt8
  | [] => []
  | [a] => a
  | a :: b :: r => a ++ c :: joinC c (b :: r)
theorem joinC_cons (c : UInt8) (a : List UInt8) {ps : List (List UInt8)} (h : ps ≠ []) : joinC c (a :: ps) = a ++ c :: joinC c ps := by
  cases ps with
  | nil => exact absurd rfl h
  | cons b r => rfl
theorem spl_ne (c : UInt8) : ∀ l acc : List UInt8, spl c acc l ≠ []
  | [], acc => by simp [spl]
  | x :: xs, acc => by
    rw [spl]
    split
    · simp
    · exact spl_ne c xs _
theorem join_of_spl (c : UInt8) : ∀ l acc : List UInt8, joinC c (spl c acc l) = acc ++ l
  | [], acc => by simp [spl, joinC]
  | x :: xs, acc => by
    rw [spl]
    split
    · rename_i e
      rw [joinC_cons c acc (spl_ne c xs []), join_of_spl c xs [], e]; rfl
    · rw [join_of_spl c xs, List.append_assoc]; rfl
theorem spl_app {c : UInt8} (t : List UInt8) : ∀ (a acc : List UInt8), c ∉ a → spl c acc (a ++ c :: t) = (acc ++ a) :: spl c [] t
  | [], acc, _ => by rw [List.nil_append, spl, if_pos rfl, List.append_nil]
  | x :: xs, acc, h => by
    rw [List.cons_append, spl, if_neg (fun e => h (by rw [e]; exact List.mem_cons_self)), spl_app t xs _ (fun e => h (List.mem_cons_of_mem _ e)), List.append_assoc]; rfl
theorem spl_of_join {c : UInt8} : ∀ {ps : List (List UInt8)}, ps ≠ [] → (∀ p ∈ ps, c ∉ p) → spl c [] (joinC c ps) = ps
  | [], h, _ => absurd rfl h
  | [a], _, h => by
    rw [joinC, spl_none _ _ (h a (by simp)), List.nil_append]
  | a :: b :: r, _, h => by
    rw [joinC, spl_app _ _ _ (h a (by simp)), List.nil_append, spl_of_join (by simp) (fun p hp => h p (by simp at hp ⊢; exact .inr hp))]
theorem pieces_ne (c : UInt8) (s : ByteArray) : pieces c s ≠ [] := by
  unfold pieces
  intro h
  exact spl_ne c _ _ (List.map_eq_nil_iff.1 h)
theorem map_mkS (ps : List (List UInt8)) : (ps.map mkS).map (fun p => p.data.toList) = ps := by
  rw [List.map_map]
  have : (fun p : ByteArray => p.data.toList) ∘ mkS = id := by funext l; rfl
  rw [this, List.map_id]
theorem map_mkS2 (ps : List ByteArray) : (ps.map (fun p => p.data.toList)).map mkS = ps := by
  rw [List.map_map]
  have : mkS ∘ (fun p : ByteArray => p.data.toList) = id := by funext l; exact mkS_data l
  rw [this, List.map_id]
theorem pieces_join (c : UInt8) (s : ByteArray) : s.data.toList = joinC c ((pieces c s).map fun p => p.data.toList) := by
  unfold pieces
  rw [map_mkS, join_of_spl, List.nil_append]
theorem pieces_of {c : UInt8} {s : ByteArray} {ps : List ByteArray} (h : s.data.toList = joinC c (ps.map fun p => p.data.toList)) (hn : ps ≠ []) (hc : ∀ p ∈ ps, c ∉ p.data.toList) : pieces c s = ps := by
  unfold pieces
  rw [h, spl_of_join (by simpa using hn) (fun p hp => by obtain ⟨q, hq, rfl⟩ := List.mem_map.1 hp; exact hc q hq), map_mkS2]
theorem spl_free {c : UInt8} : ∀ (l acc : List UInt8), c ∉ acc → ∀ p ∈ spl c acc l, c ∉ p
  | [], acc, h, p, hp => by
    rw [spl, List.mem_singleton] at hp
    subst hp
    exact h
  | x :: xs, acc, h, p, hp => by
    rw [spl] at hp
    split at hp
    · rcases List.mem_cons.1 hp with rfl | hp
      · exact h
      · exact spl_free xs [] (by simp) p hp
    · rename_i e
      exact spl_free xs _ (fun hm => by
        rcases List.mem_append.1 hm with hm | hm
        · exact h hm
        · exact e (List.mem_singleton.1 hm).symm) p hp
theorem pieces_free {c : UInt8} {s p : ByteArray} (h : p ∈ pieces c s) : c ∉ p.data.toList := by
  unfold pieces at h
  obtain ⟨l, hl, rfl⟩ := List.mem_map.1 h
  exact spl_free _ [] (by simp) l hl

/-! ### The library's pieces -/
theorem splitB_pieces (c : UInt8) : ∀ (k : Nat) (s : ByteArray), Lib.countB s ⟨#[c]⟩ = k → Lib.splitB ⟨#[c]⟩ 0 k s = pieces c s
  | k, s, h => by
    have e1 : Lib.indexB s ⟨#[c]⟩ = Lib.indexByte s.data.toList c := Lib.index_one _ _
    have z1 : (ByteArray.mk #[c]).size = 1 := rfl
    rcases ib_spec s.data.toList c with ⟨hi, hn⟩ | ⟨i, hi, hk, hg, hn⟩
    · rw [Lib.splitB_miss _ _ _ _ (by rw [e1, hi]), pieces_none hn]
    · have hh : Lib.indexB s ⟨#[c]⟩ = (i : Int) := by rw [e1, hi]
      have hc := Lib.countB_hit s ⟨#[c]⟩ i (by rw [z1]; exact Nat.le_refl _) hh
      rw [z1] at hc
      match k, h with
      | 0, h => omega
      | k + 1, h =>
        rw [Lib.splitB_hit _ _ _ _ i hh, pieces_at hg hn, Nat.add_zero, z1, splitB_pieces c k _ (by omega)]
theorem countB_pieces (c : UInt8) (s : ByteArray) : Lib.countB s ⟨#[c]⟩ + 1 = (pieces c s).length := by
  rw [← splitB_pieces c _ s rfl, Lib.splitB_all _ (by show 1 ≤ 1; omega) 0 _ s rfl]
end Go.Proofs.YtpkpjkceiikakaaGreatDoor

namespace Go.Proofs.YtpkpjkceiikakaaGreatDoor
open Go.ChangeShapes Go.WideShapes Go.ChangeAt Go.RowKit
attribute [local go_sem] Oper.semAt_some

/-- The lines of a text, each with its end; what stands ahead of the first one is told. -/
def lnB : List UInt8 → List UInt8 → List (List UInt8)
  | acc, [] => if acc = [] then [] else [acc]
  | acc, x :: xs => if x = 10 then (acc ++ [x]) :: lnB [] xs else lnB (acc ++ [x]) xs
def lns (s : ByteArray) : List ByteArray := (lnB [] s.data.toList).map mkS
theorem lnB_none : ∀ (l acc : List UInt8), (10 : UInt8) ∉ l → lnB acc l = if acc ++ l = [] then [] else [acc ++ l]
  | [], acc, _ => by rw [lnB, List.append_nil]
  | x :: xs, acc, h => by
    rw [lnB, if_neg (fun e => h (by rw [e]; exact List.mem_cons_self)), lnB_none xs _ (fun e => h (List.mem_cons_of_mem _ e)), List.append_assoc]; rfl
theorem lnB_at : ∀ (l acc : List UInt8) (i : Nat), l[i]? = some 10 → (10 : UInt8) ∉ l.take i → lnB acc l = (acc ++ l.take (i + 1)) :: lnB [] (l.drop (i + 1))
  | [], acc, i, h, _ => by simp at h
  | x :: xs, acc, 0, h, _ => by
    simp at h
    rw [lnB, if_pos h]; rfl
  | x :: xs, acc, i + 1, h, hn => by
    rw [lnB, if_neg (fun e => hn (by rw [List.take_succ_cons, e]; exact List.mem_cons_self)), lnB_at xs _ i (by simpa using h) (fun e => hn (by rw [List.take_succ_cons]; exact List.mem_cons_of_mem _ e)), List.append_assoc]; rfl
theorem lns_empty {t : ByteArray} (h : t.size = 0) : lns t = [] := by
  have : t.data.toList = [] := List.length_eq_zero_iff.1 (by show t.data.toList.length = 0; rw [Array.length_toList]; exact h)
  unfold lns
  rw [this]; rfl
theorem lns_none {t : ByteArray} (h0 : 0 < t.size) (h : (10 : UInt8) ∉ t.data.toList) : lns t = [t] := by
  unfold lns
  rw [lnB_none _ _ h, List.nil_append, if_neg, List.map_cons, mkS_data]; rfl
  intro e
  have : t.data.toList.length = t.size := Array.length_toList
  rw [e] at this
  simp at this
  omega
theorem lns_at {t : ByteArray} {k : Nat} (hk : t.data.toList[k]? = some 10) (hn : (10 : UInt8) ∉ t.data.toList.take k) : lns t = t.extract 0 (k + 1) :: lns (t.extract (k + 1) t.size) := by
  unfold lns
  rw [lnB_at _ _ k hk hn, List.nil_append, List.map_cons, Lib.extract_to_end]
  congr 1
  rw [Lib.extract_eq]; rfl
theorem ixByte_any (s : ByteArray) (w : World) :
    Calls Tryz.prog 36 #[.string s, .int .u8 10] w fun e w' => e = .returned (.int .i64 (Lib.indexByte s.data.toList 10)) ∧ w' = w :=
  Any.strings_IndexByte Tryz.lays137 s 10 w

set_option maxRecDepth 100000 in
set_option maxHeartbeats 2000000 in
theorem lines_by (bs : Nat) (s : ByteArray) (hs : s.size ≤ maxLen) (w : World) (h1 : bs < w.heap.size) (h2 : w.cell? ⟨bs, 0, none⟩ = some (.string s)) (h3 : w.frozen? ⟨bs, 0, none⟩ = false) :
    SeqBy Tryz.prog 35 #[.pointer (some ⟨bs, 0, none⟩)] (fun p : ByteArray => #[.string p]) (fun A B => A.heap.size ≤ B.heap.size ∧ B.heap[bs]? = A.heap[bs]?) (Oth bs) (fun xs => xs = lns s) (fun pre => pre <+: lns s) (fun pre x => pre ++ [x] <+: lns s) (fun _ => True) w := by
  intro l J Jx W hW hJ hJx _ hY h0
  have C1 := (hW.cell (p := ⟨bs, 0, none⟩) h1).trans h2
  have F1 := (hW.frozen (p := ⟨bs, 0, none⟩) h1).trans h3
  refine callsIn_of_wp Tryz.func35 rfl trivial ?_ rfl
  simp only [Tryz.ntmps35, List.size_toArray, List.length_cons, List.length_nil, Nat.reduceAdd, Nat.reduceSub, Array.replicate_succ, Array.replicate_zero, List.push_toArray, List.append_toArray, List.nil_append, List.cons_append]
  gi_wp2
  gi_loopw [3] (fun _ wr => ∃ (pre : List ByteArray) (t : ByteArray), pre ++ lns t = lns s ∧ t.size ≤ s.size ∧ J pre wr ∧ wr.cell? ⟨bs, 0, none⟩ = some (.string t) ∧ wr.frozen? ⟨bs, 0, none⟩ = false) (fun _ wr => strLeft wr bs)
  case atStart => exact ⟨[], s, rfl, Nat.le_refl _, h0, C1, F1⟩
  case round =>
    obtain ⟨pre, t, hp, ht, hJr, c1, f1⟩ := hrel
    by_cases h0 : t.size = 0
    · have d0 : decide ((0 : Int) < (t.size : Int)) = false := decide_eq_false (by omega)
      gi_wp2
      first | go_end0 | refine bodyPost_ret (results_none rfl _ _ _) rfl ?_
      exact ⟨⟨_, rfl⟩, .inl ⟨pre, by rw [← hp, lns_empty h0, List.append_nil], hJr⟩⟩
    · have d0 : decide ((0 : Int) < (t.size : Int)) = true := decide_eq_true (by omega)
      rcases ib_spec t.data.toList 10 with ⟨hi, hn⟩ | ⟨k, hi, hk, hg, hn⟩
      · have V := Lib.hid (ixByte_any t)
        rw [hi] at V
        have hl := lns_none (by omega) hn
        have e1 : (wr.setCell ⟨bs, 0, none⟩ (.string ⟨#[]⟩)).cell? ⟨bs, 0, none⟩ = some (.string ⟨#[]⟩) := World.cell?_setCell_same' _ _ _ (by rw [c1]; rfl)
        have g1 : (wr.setCell ⟨bs, 0, none⟩ (.string ⟨#[]⟩)).frozen? ⟨bs, 0, none⟩ = false := by rw [World.frozen?_setCell]; exact f1
        have J1 := hJ _ _ _ hJr ((Oth.refl bs wr).set 0 (.string ⟨#[]⟩))
        obtain ⟨fn, tmps, assign, body, hy, hR⟩ := hY pre t _ J1 ⟨[], by rw [← hp, hl, List.append_nil]⟩
        clear hJr hY
        gi_wp2_with (refine ⟨trivial, rfl, ?_⟩; gi_at_call 36; refine (callsIn_wide.2 (V.out _)).mono ?_; rintro e w9 ⟨rfl, rfl⟩)
        refine ⟨rfl, hR.mono ?_⟩
        rintro e W2 (⟨rfl, hJ2, hk2⟩ | ⟨rfl, hJ2⟩)
        · have c9 := (cell_same hk2.2).trans e1
          have f9 := (frozen_same hk2.2).trans g1
          gi_wp2
          go_roundw
          case rel => exact ⟨pre ++ [t], ⟨#[]⟩, by rw [← hp, hl, lns_empty (t := ⟨#[]⟩) rfl, List.append_nil], Nat.zero_le _, hJ2, c9, f9⟩
          case measure => rw [strLeft_eq c9, strLeft_eq c1]; show 0 < t.size; omega
        · gi_wp2
          first | go_end0 | refine bodyPost_ret (results_none rfl _ _ _) rfl ?_
          exact ⟨⟨_, rfl⟩, .inr ⟨_, ⟨[], by rw [← hp, hl, List.append_nil]⟩, hJ2⟩⟩
      · have V := Lib.hid (ixByte_any t)
        rw [hi] at V
        have hl := lns_at hg hn
        have kt : k < t.size := by simpa using hk
        unfold maxLen at hs
        have kn : decide ((0 : Int) ≤ (k : Int)) = true := by simp
        have kw1 : IntKind.i64.wrap ((k : Int) + 1) = ((k + 1 : Nat) : Int) := by rw [Int.natCast_succ]; exact IntWalk.i64_in _ (by omega)
        gi_wp2_with (refine ⟨trivial, rfl, ?_⟩; gi_at_call 36; refine (callsIn_wide.2 (V.out _)).mono ?_; rintro e w9 ⟨rfl, rfl⟩)
        refine wpIn_wide.2 ?_
        refine wp_region_last 9 (by kernel_rfl) rfl rfl (by kernel_rfl) (by kernel_rfl) rfl ?_
        simp only [List.take_succ_cons, List.take_zero]
        intro u1 h1
        have lb : bs < w9.heap.size := World.block_lt_of_cell? _ _ c1
        have c0 := (h1.cell (p := ⟨bs, 0, none⟩) lb).trans c1
        have s0 : bs < u1.heap.size := Nat.lt_of_lt_of_le lb h1.size
        have hbw := cell_bw
        repeat (go_big_quiet_step (fail))
        refine wpQuiet_nil ?_
        intro u3 h3
        have c3 := (h3.cell (p := ⟨bs, 0, none⟩) lb).trans c1
        have f3 := (h3.frozen (p := ⟨bs, 0, none⟩) lb).trans f1
        go_simp
        simp only [Yld]
        have J1 := hJ _ _ _ hJr ((Oth.of (g := bs) h3).set 0 (.string (t.extract (k + 1) t.size)))
        have e1 : (u3.setCell ⟨bs, 0, none⟩ (.string (t.extract (k + 1) t.size))).cell? ⟨bs, 0, none⟩ = some (.string (t.extract (k + 1) t.size)) := World.cell?_setCell_same' _ _ _ (by rw [c3]; rfl)
        have g1 : (u3.setCell ⟨bs, 0, none⟩ (.string (t.extract (k + 1) t.size))).frozen? ⟨bs, 0, none⟩ = false := by rw [World.frozen?_setCell]; exact f3
        obtain ⟨fn, tmps, assign, body, hy, hR⟩ := hY pre (t.extract 0 (k + 1)) _ J1 ⟨lns (t.extract (k + 1) t.size), by rw [List.append_assoc, ← hp, hl]; rfl⟩
        have sz : (t.extract (k + 1) t.size).size = t.size - (k + 1) := by simp
        have sq := strLeft_eq c1
        clear hJr hY c0 c3 f3 s0 hbw h1 c1
        generalize u3.setCell ⟨bs, 0, none⟩ (.string (t.extract (k + 1) t.size)) = u4 at *
        gi_wp2
        refine ⟨rfl, hR.mono ?_⟩
        rintro e W2 (⟨rfl, hJ2, hk2⟩ | ⟨rfl, hJ2⟩)
        · have c9 := (cell_same hk2.2).trans e1
          have f9 := (frozen_same hk2.2).trans g1
          gi_wp2
          go_roundw
          case rel => exact ⟨_, _, by rw [List.append_assoc]; exact (congrArg (pre ++ ·) hl.symm).trans hp, by omega, hJ2, c9, f9⟩
          case measure => rw [strLeft_eq c9, sq]; omega
        · gi_wp2
          first | go_end0 | refine bodyPost_ret (results_none rfl _ _ _) rfl ?_
          exact ⟨⟨_, rfl⟩, .inr ⟨_, ⟨lns (t.extract (k + 1) t.size), by rw [List.append_assoc, ← hp, hl]; rfl⟩, hJ2⟩⟩

theorem lines_any (s : ByteArray) (w : World) :
    Calls Tryz.prog 18 #[.string s] w fun e w' => e = .returned (.func (.func 35) #[] #[.pointer (some ⟨w.heap.size, 0, none⟩)]) ∧ w.alloc (.cells #[.string s] 9) = w' := by
  have hmf : ∀ (fn : Fn) (first cap : Array Value) (w : World), (Instr.makeFunc fn first cap).run Tryz.prog w = .ok (.func fn first cap) w := fun _ _ _ _ => rfl
  go_enter Tryz.func18, Tryz.ntmps18
  go_wp2
  go_returns
  exact ⟨rfl, rfl⟩
/-- A line without its end. -/
def trimL (l : List UInt8) : List UInt8 := Lib.trimSuffix l [10]
def trimB (s : ByteArray) : ByteArray := mkS (trimL s.data.toList)
theorem trim_any (s : ByteArray) (hs : s.size ≤ maxLen) (w : World) :
    Calls Tryz.prog 20 #[.string s, .string ⟨#[10]⟩] w fun e w' => e = .returned (.string (trimB s)) ∧ w' = w :=
  Any.strings_TrimSuffix Tryz.lays102 s ⟨#[10]⟩ w (by unfold maxLen at hs; omega)
theorem trimL_free {l : List UInt8} (h : (10 : UInt8) ∉ l) : trimL l = l := by
  unfold trimL Lib.trimSuffix
  split
  · rename_i hq
    exfalso
    apply h
    exact (List.isSuffixOf_iff_suffix.1 hq).subset (by simp)
  · rfl
theorem trimL_end (l : List UInt8) : trimL (l ++ [10]) = l := by
  unfold trimL Lib.trimSuffix
  split
  · simp
  · rename_i hq
    exfalso
    apply hq
    exact List.isSuffixOf_iff_suffix.2 (List.suffix_append l [10])
/-- The lines and the pieces: the same, but that a text that ends with a line's end has a piece more, an empty one. -/
theorem lines_pieces : ∀ (l acc : List UInt8), (10 : UInt8) ∉ acc → ∃ z, (spl 10 acc l).getLast? = some z ∧ ((z = [] ∧ spl 10 acc l = (lnB acc l).map trimL ++ [[]]) ∨ (z ≠ [] ∧ spl 10 acc l = (lnB acc l).map trimL))
  | [], acc, h => by
    by_cases e : acc = []
    · subst e
      exact ⟨[], rfl, .inl ⟨rfl, rfl⟩⟩
    · refine ⟨acc, rfl, .inr ⟨e, ?_⟩⟩
      rw [spl, lnB, if_neg e, List.map_cons, trimL_free h]; rfl
  | x :: xs, acc, h => by
    by_cases e : x = 10
    · subst e
      obtain ⟨z, hz, hh⟩ := lines_pieces xs [] (by simp)
      have hne := spl_ne 10 xs []
      refine ⟨z, ?_, ?_⟩
      · rw [spl, if_pos rfl, List.getLast?_cons_of_ne_nil hne, hz]
      · rw [spl, if_pos rfl, lnB, if_pos rfl, List.map_cons, trimL_end]
        rcases hh with ⟨h1, h2⟩ | ⟨h1, h2⟩
        · exact .inl ⟨h1, by rw [h2]; rfl⟩
        · exact .inr ⟨h1, by rw [h2]⟩
    · obtain ⟨z, hz, hh⟩ := lines_pieces xs (acc ++ [x]) (by
        intro hm
        rcases List.mem_append.1 hm with hm | hm
        · exact h hm
        · exact e (List.mem_singleton.1 hm).symm)
      refine ⟨z, by rw [spl, if_neg e, hz], ?_⟩
      rw [spl, if_neg e, lnB, if_neg e]
      exact hh
end Go.Proofs.YtpkpjkceiikakaaGreatDoor

namespace Go.Proofs.YtpkpjkceiikakaaGreatDoor
open Go.ChangeShapes Go.WideShapes Go.ChangeAt Go.RowKit Go.Shelf

theorem info_by : (Tryz.prog.info? 5).map (fun i => (i.zero, i.size, i.bytes)) = some (some (.int .u8 0), 1, 1) := by kernel_rfl
theorem dec2_eqA {n : Nat} (h : n < 100) : (⟨(Lib.decDigits n).toArray⟩ : ByteArray) = dec2 n := by
  unfold dec2
  by_cases h1 : n < 10
  · rw [Lib.decDigits, dif_pos h1, if_pos h1]; rfl
  · rw [Lib.decDigits, dif_neg h1, if_neg h1, Lib.decDigits, dif_pos (by omega)]
    apply ByteArray.ext
    rw [ByteArray.data_append]
    rfl
theorem dec2_le {n : Nat} (_h : n < 100) : (dec2 n).size ≤ 2 := by
  unfold dec2
  split
  · exact (show 1 ≤ 2 by omega)
  · rw [ByteArray.size_append]; exact (show 1 + 1 ≤ 2 by omega)
theorem small_any (n : Nat) (hn : n < 100) (w : World) : Calls Tryz.prog 118 #[.int .i64 (n : Int)] w fun e w' => e = .returned (.string (dec2 n)) ∧ w' = w := by
  rw [← dec2_eqA hn]
  exact Any.internal_strconv_small Tryz.lays283 n hn w
/-- Bytes of the call's own are handed back. -/
def ByR (B : Nat) (bs : List UInt8) (v : Value) (w : World) (e : Ending) (w' : World) : Prop := ∃ v', e = .returned v' ∧ Grn B bs v w v' w'

set_option maxRecDepth 100000 in
set_option maxHeartbeats 1600000 in
theorem appU_any (B : Nat) (bs : List UInt8) (v : Value) (n : Nat) (hn : n < 100) (w : World) (hO : OwnG B bs v w) (hB : B ≤ w.heap.size) (hl : bs.length ≤ 100000) (h0 : 0 < bs.length) :
    Calls Tryz.prog 104 #[v, .int .u64 (n : Int), .int .i64 10] w (ByR B (bs ++ (dec2 n).data.toList) v w) := by
  obtain ⟨i0, hi, hz0, hz1, hz2⟩ := info_parts info_by
  have d1 : decide ((n : Int) < 100) = true := decide_eq_true (by omega)
  have x1 : IntKind.i64.wrap (n : Int) = (n : Int) := IntWalk.i64_in _ (by omega)
  have S := Lib.hid fun W => small_any n hn W
  have sz := dec2_le hn
  obtain ⟨g, cap, hv, h1⟩ := hO
  subst hv
  have OO := Lib.hid (show OwnG B bs (.slice (some ⟨g, 0, none⟩) bs.length cap) w from ⟨g, cap, rfl, h1⟩)
  clear h1
  go_enter Tryz.func104, Tryz.ntmps104
  go_wp2_with (first
    | (go_at_call 118; refine (S.out _).mono ?_; rintro e w1 ⟨rfl, hw⟩; subst hw)
    | (at_builtin; refine wp_pushS _ rfl _ _ 76 9 rfl 5 i0 Tryz.underlying76 Tryz.underlying9 hi hz0 hz1 hz2 B bs _ rfl OO.out hB hl h0 _ rfl (by omega) ?_; intro v2 w2 hO2; have O2 := Lib.hid hO2; clear hO2))
  go_ret
  exact ⟨_, rfl, O2.out⟩
set_option maxRecDepth 100000 in
set_option maxHeartbeats 1600000 in
theorem appI_any (B : Nat) (bs : List UInt8) (v : Value) (n : Nat) (hn : n < 100) (w : World) (hO : OwnG B bs v w) (hB : B ≤ w.heap.size) (hl : bs.length ≤ 100000) (h0 : 0 < bs.length) :
    Calls Tryz.prog 45 #[v, .int .i64 (n : Int), .int .i64 10] w (ByR B (bs ++ (dec2 n).data.toList) v w) := by
  have d1 : decide ((n : Int) < 0) = false := decide_eq_false (by omega)
  have x1 : IntKind.u64.wrap (n : Int) = (n : Int) := IntWalk.u64_in _ (by omega)
  have U := Lib.hid (appU_any B bs v n hn w hO hB hl h0)
  obtain ⟨g, cap, hv, h1⟩ := hO
  subst hv
  clear h1
  have I : Hid (Calls Tryz.prog 77 #[.slice (some ⟨g, 0, none⟩) bs.length cap, .int .i64 (n : Int), .int .i64 10] w (ByR B (bs ++ (dec2 n).data.toList) (.slice (some ⟨g, 0, none⟩) bs.length cap) w)) := by
    refine Lib.hid ?_
    go_enter Tryz.func77, Tryz.ntmps77
    go_wp2_with (go_at_call 104; refine U.out.mono ?_; rintro e w1 ⟨v1, rfl, hO1⟩; have O1 := Lib.hid hO1; clear hO1)
    go_ret
    exact ⟨_, rfl, O1.out⟩
  go_enter Tryz.func45, Tryz.ntmps45
  go_wp2_with (go_at_call 77; refine I.out.mono ?_; rintro e w1 ⟨v1, rfl, hO1⟩; have O1 := Lib.hid hO1; clear hO1)
  go_ret
  exact ⟨_, rfl, O1.out⟩
end Go.Proofs.YtpkpjkceiikakaaGreatDoor

namespace Go.Proofs.YtpkpjkceiikakaaGreatDoor
open Go.ChangeShapes Go.WideShapes Go.ChangeAt Go.RowKit

/-- The text behind the first n holes. -/
def cdN (s : ByteArray) (zs : List Int) : Nat → ByteArray
  | 0 => s
  | n + 1 => cdN s zs n ++ (⟨#[32]⟩ ++ dec2 (zs.getD n 0).toNat)
theorem cdN_next (s : ByteArray) (zs : List Int) (n : Nat) : cdN s zs (n + 1) = cdN s zs n ++ (⟨#[32]⟩ ++ dec2 (zs.getD n 0).toNat) := rfl
theorem cdN_bytes (s : ByteArray) (zs : List Int) (n : Nat) : (cdN s zs n).data.toList ++ [32] ++ (dec2 (zs.getD n 0).toNat).data.toList = (cdN s zs (n + 1)).data.toList := by
  rw [cdN_next, ByteArray.data_append, ByteArray.data_append, Array.toList_append, Array.toList_append, List.append_assoc]
theorem back_eq (x : ByteArray) : (⟨x.data.toList.toArray⟩ : ByteArray) = x := by
  apply ByteArray.ext
  exact Array.toArray_toList
theorem mem_holX {f : Int → Bool} {n : Nat} {z : Int} (h : z ∈ hol f n) : 0 ≤ z ∧ z < n := by
  unfold hol at h
  rw [List.mem_filter, List.mem_map] at h
  obtain ⟨⟨i, hi, rfl⟩, _⟩ := h
  have := List.mem_range.1 hi
  omega
theorem hol_atX {f : Int → Bool} {n j : Nat} (h : j < (hol f n).length) : 0 ≤ (hol f n).getD j 0 ∧ (hol f n).getD j 0 < n := by
  rw [List.getD, List.getElem?_eq_getElem h]
  exact mem_holX (List.getElem_mem h)
theorem cdN_size (s : ByteArray) {zs : List Int} (hz : ∀ j, j < zs.length → 0 ≤ zs.getD j 0 ∧ zs.getD j 0 < 96) : ∀ n, n ≤ zs.length → (cdN s zs n).size ≤ s.size + 3 * n
  | 0, _ => Nat.le_refl _
  | n + 1, hn => by
    have ih := cdN_size s hz n (by omega)
    have h := hz n (by omega)
    have := dec2_le (n := (zs.getD n 0).toNat) (by omega)
    rw [cdN_next, ByteArray.size_append, ByteArray.size_append]
    have e : (⟨#[32]⟩ : ByteArray).size = 1 := rfl
    omega
theorem cdN_pos {s : ByteArray} (hs : 0 < s.size) (zs : List Int) : ∀ n, 0 < (cdN s zs n).size
  | 0 => hs
  | n + 1 => by rw [cdN_next, ByteArray.size_append]; have := cdN_pos hs zs n; omega
theorem nameOk_size {s : ByteArray} (h : nameOk s = true) : 1 ≤ s.size ∧ s.size ≤ 16 := by
  unfold nameOk at h
  simp only [Bool.and_eq_true, decide_eq_true_eq] at h
  exact h.1
theorem ret_strC {x y : ByteArray} (h : x = y) : Ending.returned (.string x) = Ending.returned (.string y) := by rw [h]
/-- The text of a card. -/
def cdT (s : ByteArray) (a b : Int) : ByteArray := if cardOk s b = true then cdN s (hol (hasB a b) 96) (hol (hasB a b) 96).length else ByteArray.empty
end Go.Proofs.YtpkpjkceiikakaaGreatDoor

namespace Go.Proofs.YtpkpjkceiikakaaGreatDoor
open Go.ChangeShapes Go.WideShapes Go.ChangeAt Go.RowKit

/-- The holes of the first n words. -/
def rdH (f : ByteArray → Option Int) (ws : List ByteArray) : Nat → Option (List Int)
  | 0 => some []
  | n + 1 => match rdH f ws n with
    | some hs => match f (ws.getD n ByteArray.empty) with
      | some h => some (hs ++ [h])
      | none => none
    | none => none
theorem rdH_next {f : ByteArray → Option Int} {ws : List ByteArray} {n : Nat} {hs : List Int} {h : Int} (h1 : rdH f ws n = some hs) (h2 : f (ws.getD n ByteArray.empty) = some h) : rdH f ws (n + 1) = some (hs ++ [h]) := by rw [rdH, h1]; simp only [h2]
theorem rdH_bad {f : ByteArray → Option Int} {ws : List ByteArray} {n : Nat} {hs : List Int} (h1 : rdH f ws n = some hs) (h2 : f (ws.getD n ByteArray.empty) = none) : rdH f ws (n + 1) = none := by rw [rdH, h1]; simp only [h2]
theorem rdH_none {f : ByteArray → Option Int} {ws : List ByteArray} {n : Nat} (h : rdH f ws n = none) : ∀ k, n ≤ k → rdH f ws k = none
  | 0, hk => by obtain rfl : n = 0 := by omega
                exact h
  | k + 1, hk => by
    by_cases e : n = k + 1
    · rw [← e]; exact h
    · rw [rdH, rdH_none h k (by omega)]
theorem rdH_len {f : ByteArray → Option Int} {ws : List ByteArray} : ∀ (n : Nat) (hs : List Int), rdH f ws n = some hs → hs.length = n
  | 0, hs, h => by rw [rdH] at h; rw [← Option.some.inj h]; rfl
  | n + 1, hs, h => by
    rw [rdH] at h
    split at h
    · rename_i hs' e
      split at h
      · rw [← Option.some.inj h, List.length_append, rdH_len n hs' e]; rfl
      · cases h
    · cases h
/-- The program's hole of a word, and the model's. -/
def fI (w : ByteArray) : Option Int := match pIn 64 w with
  | some h => if 0 ≤ h ∧ h ≤ 95 then some h else none
  | none => none
def fS (w : ByteArray) : Option Int := match numL w.data.toList with
  | some n => if n ≤ 95 then some (n : Int) else none
  | none => none
theorem fI_none {w : ByteArray} (h : pIn 64 w = none) : fI w = none := by unfold fI; rw [h]
theorem fI_out {w : ByteArray} {v : Int} (h : pIn 64 w = some v) (hv : ¬ (0 ≤ v ∧ v ≤ 95)) : fI w = none := by unfold fI; rw [h]; exact if_neg hv
theorem fI_in {w : ByteArray} {v : Int} (h : pIn 64 w = some v) (hv : 0 ≤ v ∧ v ≤ 95) : fI w = some v := by unfold fI; rw [h]; exact if_pos hv
theorem fS_none {w : ByteArray} (h : numL w.data.toList = none) : fS w = none := by unfold fS; rw [h]
theorem fS_out {w : ByteArray} {n : Nat} (h : numL w.data.toList = some n) (hv : ¬ n ≤ 95) : fS w = none := by unfold fS; rw [h]; exact if_neg hv
theorem fS_in {w : ByteArray} {n : Nat} (h : numL w.data.toList = some n) (hv : n ≤ 95) : fS w = some (n : Int) := by unfold fS; rw [h]; exact if_pos hv
def Fok (f : ByteArray → Option Int) : Prop := ∀ n : Nat, n < 96 → f (dec2 n) = some (n : Int)
theorem fI_ok : Fok fI := fun _ hn => fI_in (pIn64 (by omega)) (by omega)
theorem fS_ok : Fok fS := fun _ hn => fS_in (numL_dec2 (by omega)) (by omega)

/-- The card with a text, by a way to read holes. -/
def rcG (f : ByteArray → Option Int) (s : ByteArray) : Option (ByteArray × Int × Int) := match pieces 32 s with
  | [] => none
  | nm :: ws => match rdH f ws ws.length with
    | none => none
    | some hs => if cardOk nm (mo b1 hs hs.length) = true ∧ cdT nm (mo b0 hs hs.length) (mo b1 hs hs.length) = s then some (nm, mo b0 hs hs.length, mo b1 hs hs.length) else none
theorem rcG_bad {f : ByteArray → Option Int} {s nm : ByteArray} {ws : List ByteArray} (hp : pieces 32 s = nm :: ws) {n : Nat} (hn : n ≤ ws.length) (h : rdH f ws n = none) : rcG f s = none := by
  unfold rcG
  rw [hp]
  simp only [rdH_none h _ hn]
theorem rcG_at {f : ByteArray → Option Int} {s nm : ByteArray} {ws : List ByteArray} (hp : pieces 32 s = nm :: ws) {hs : List Int} (h : rdH f ws ws.length = some hs) :
    rcG f s = if cardOk nm (mo b1 hs hs.length) = true ∧ cdT nm (mo b0 hs hs.length) (mo b1 hs hs.length) = s then some (nm, mo b0 hs hs.length, mo b1 hs hs.length) else none := by
  unfold rcG
  rw [hp]
  simp only [h]
theorem u64_wrapR (x : Int) : U64 (IntKind.u64.wrap x) := by
  unfold U64 IntKind.wrap
  simp [IntKind.bits, IntKind.signed]
  omega
theorem mo_u64 (f : Int → Int) (zs : List Int) : ∀ k, U64 (mo f zs k)
  | 0 => by unfold mo U64; omega
  | k + 1 => by unfold mo; exact u64_wrapR _
theorem mo_app (f : Int → Int) (zs ys : List Int) : ∀ k, k ≤ zs.length → mo f (zs ++ ys) k = mo f zs k
  | 0, _ => rfl
  | k + 1, h => by
    unfold mo
    rw [mo_app f zs ys k (by omega)]
    congr 2
    simp only [List.getD]
    rw [List.getElem?_append_left (by omega)]
theorem mo_push (f : Int → Int) (zs : List Int) (z : Int) : mo f (zs ++ [z]) (zs.length + 1) = bits .or .u64 (mo f zs zs.length) (f z) := by
  show bits .or .u64 (mo f (zs ++ [z]) zs.length) (f ((zs ++ [z]).getD zs.length 0)) = _
  rw [mo_app f zs [z] _ (Nat.le_refl _)]
  congr 2
  simp [List.getD]
theorem joinC_snoc (c : UInt8) (q : List UInt8) : ∀ {ps : List (List UInt8)}, ps ≠ [] → joinC c (ps ++ [q]) = joinC c ps ++ c :: q
  | [], h => absurd rfl h
  | [a], _ => rfl
  | a :: b :: r, _ => by
    have ih := joinC_snoc c q (ps := b :: r) (by simp)
    show joinC c (a :: ((b :: r) ++ [q])) = _
    rw [joinC_cons c a (by simp), ih, joinC_cons c a (by simp), List.append_assoc]; rfl
/-- The words of holes. -/
def hw (zs : List Int) : List ByteArray := zs.map fun z => dec2 z.toNat
theorem cdN_join (s : ByteArray) (zs : List Int) : ∀ n, n ≤ zs.length → (cdN s zs n).data.toList = joinC 32 ((s :: hw (zs.take n)).map fun p => p.data.toList)
  | 0, _ => rfl
  | n + 1, h => by
    have e : hw (zs.take (n + 1)) = hw (zs.take n) ++ [dec2 (zs.getD n 0).toNat] := by
      unfold hw
      rw [List.take_add_one, List.getElem?_eq_getElem (show n < zs.length by omega), List.map_append]
      simp [List.getD, show n < zs.length by omega]
    have hs : ((s :: (hw (zs.take n) ++ [dec2 (zs.getD n 0).toNat])).map fun p => p.data.toList) = ((s :: hw (zs.take n)).map fun p => p.data.toList) ++ [(dec2 (zs.getD n 0).toNat).data.toList] := by simp
    rw [← cdN_bytes, cdN_join s zs n (by omega), e, hs, joinC_snoc _ _ (by simp), List.append_assoc]
    rfl
theorem name_free {s : ByteArray} (h : nameOk s = true) : (32 : UInt8) ∉ s.data.toList := by
  intro hm
  unfold nameOk at h
  rw [Bool.and_eq_true] at h
  have := List.all_eq_true.1 h.2 _ hm
  exact absurd this (by decide)
theorem dec_free {n : Nat} (h : n < 100) : (32 : UInt8) ∉ (dec2 n).data.toList := by
  intro hm
  rw [dec2_data] at hm
  have := no_blank_dec n h _ hm
  exact absurd this (by decide)
theorem hw_free {zs : List Int} (h : ∀ z ∈ zs, 0 ≤ z ∧ z ≤ 95) : ∀ p ∈ hw zs, (32 : UInt8) ∉ p.data.toList := by
  intro p hp
  obtain ⟨z, hz, rfl⟩ := List.mem_map.1 hp
  have := h z hz
  exact dec_free (by omega)
theorem rdH_hw {f : ByteArray → Option Int} (hf : Fok f) {zs : List Int} (h : ∀ z ∈ zs, 0 ≤ z ∧ z ≤ 95) : ∀ n, n ≤ zs.length → rdH f (hw zs) n = some (zs.take n)
  | 0, _ => rfl
  | n + 1, hn => by
    have hz := h (zs[n]) (List.getElem_mem _)
    have e : (hw zs).getD n ByteArray.empty = dec2 (zs[n]).toNat := by unfold hw; simp [List.getD, show n < zs.length by omega]
    have h2 : f ((hw zs).getD n ByteArray.empty) = some zs[n] := by
      rw [e, hf _ (by omega)]
      congr 1
      omega
    rw [rdH_next (rdH_hw hf h n (by omega)) h2, List.take_add_one, List.getElem?_eq_getElem (show n < zs.length by omega)]
    rfl
theorem rcG_some {f : ByteArray → Option Int} {s nm : ByteArray} {a b : Int} (h : rcG f s = some (nm, a, b)) : cardOk nm b = true ∧ cdT nm a b = s ∧ U64 a ∧ U64 b := by
  unfold rcG at h
  split at h
  · cases h
  · split at h
    · cases h
    · split at h
      · rename_i hk
        have hh := Option.some.inj h
        simp only [Prod.mk.injEq] at hh
        obtain ⟨rfl, rfl, rfl⟩ := hh
        exact ⟨hk.1, hk.2, mo_u64 _ _ _, mo_u64 _ _ _⟩
      · cases h
theorem rcG_hit {f : ByteArray → Option Int} (hf : Fok f) {nm : ByteArray} {a b : Int} (hk : cardOk nm b = true) (ha : U64 a) (hb : U64 b) : rcG f (cdT nm a b) = some (nm, a, b) := by
  have hk2 := hk
  unfold cardOk at hk2
  rw [Bool.and_eq_true] at hk2
  obtain ⟨hn, hm⟩ := hk2
  unfold U64 at ha hb
  have hb2 : b < 4294967296 := by
    have : b / 4294967296 = 0 := by simpa [maskOk] using hm
    omega
  obtain ⟨x, rfl⟩ := Int.eq_ofNat_of_zero_le ha.1
  obtain ⟨y, rfl⟩ := Int.eq_ofNat_of_zero_le hb.1
  have e0 := mo_hol0 x y (by omega)
  have e1 := mo_hol1 x y (by omega)
  have hz := hol_in96 (hasB (x : Int) (y : Int))
  have ht : cdT nm x y = cdN nm (hol (hasB (x : Int) (y : Int)) 96) (hol (hasB (x : Int) (y : Int)) 96).length := by unfold cdT; rw [if_pos hk]
  generalize hol (hasB (x : Int) (y : Int)) 96 = zs at *
  have hj := cdN_join nm zs zs.length (Nat.le_refl _)
  rw [List.take_length] at hj
  have hp : pieces 32 (cdT nm x y) = nm :: hw zs := by
    rw [ht]
    exact pieces_of hj (by simp) (fun p hp => by
      rcases List.mem_cons.1 hp with rfl | hp
      · exact name_free hn
      · exact hw_free hz p hp)
  have hl : (hw zs).length = zs.length := by unfold hw; rw [List.length_map]
  have hr := rdH_hw hf hz zs.length (Nat.le_refl _)
  rw [List.take_length, ← hl] at hr
  rw [rcG_at hp hr, e0, e1, if_pos ⟨hk, rfl⟩]
theorem rc_same (s : ByteArray) : rcG fI s = rcG fS s := by
  have one : ∀ f g, Fok g → ∀ v, rcG f s = some v → rcG g s = some v := by
    rintro f g hg ⟨nm, a, b⟩ h
    obtain ⟨h1, h2, h3, h4⟩ := rcG_some h
    rw [← h2]
    exact rcG_hit hg h1 h3 h4
  cases hI : rcG fI s with
  | some v => rw [one _ _ fS_ok v hI]
  | none =>
    cases hS : rcG fS s with
    | none => rfl
    | some v => rw [one _ _ fI_ok v hS] at hI; cases hI
end Go.Proofs.YtpkpjkceiikakaaGreatDoor

namespace Go.Proofs.YtpkpjkceiikakaaGreatDoor
open Go.ChangeShapes Go.WideShapes Go.ChangeAt Go.RowKit

theorem joinC_last (c : UInt8) (q : List UInt8) : ∀ xs : List (List UInt8), joinC c (xs ++ [q]) = joinC c (xs ++ [[]]) ++ q
  | [] => by simp [joinC]
  | a :: r => by rw [List.cons_append, List.cons_append, joinC_cons c a (by simp), joinC_cons c a (by simp), joinC_last c q r, List.append_assoc]; rfl
/-- The lines without their ends. -/
def tl (s : ByteArray) : List ByteArray := (lns s).map trimB
theorem tl_pieces (s : ByteArray) : ((pieces 10 s).getLast? = some ByteArray.empty ∧ pieces 10 s = tl s ++ [ByteArray.empty]) ∨ ((pieces 10 s).getLast? ≠ some ByteArray.empty ∧ pieces 10 s = tl s) := by
  obtain ⟨z, hz, hh⟩ := lines_pieces s.data.toList [] (by simp)
  have ht : tl s = ((lnB [] s.data.toList).map trimL).map mkS := by
    unfold tl lns
    rw [List.map_map, List.map_map]
    rfl
  have hp : (pieces 10 s).getLast? = some (mkS z) := by unfold pieces; rw [List.getLast?_map, hz]; rfl
  rcases hh with ⟨h1, h2⟩ | ⟨h1, h2⟩
  · left
    subst h1
    refine ⟨hp, ?_⟩
    unfold pieces
    rw [h2, List.map_append, ht]; rfl
  · right
    refine ⟨?_, by unfold pieces; rw [h2, ht]⟩
    rw [hp]
    intro e
    apply h1
    have := congrArg (fun p : ByteArray => p.data.toList) (Option.some.inj e)
    exact this

end Go.Proofs.YtpkpjkceiikakaaGreatDoor

namespace Go.Proofs.YtpkpjkceiikakaaGreatDoor
open Go.ChangeShapes Go.WideShapes Go.ChangeAt Go.RowKit



end Go.Proofs.YtpkpjkceiikakaaGreatDoor

namespace Go.Proofs.YtpkpjkceiikakaaGreatDoor
open Go.ChangeShapes Go.WideShapes Go.ChangeAt Go.RowKit

theorem eRet {x y : Value} (h : x = y) : Ending.returned x = Ending.returned y := by rw [h]
/-- Four numbers, or none. -/
def wvR (ok : Bool) (x y z u : Int) : Value := .tuple #[.agg #[.int .u64 (if ok then x else 0), .int .u64 (if ok then y else 0), .int .u64 (if ok then z else 0), .int .u64 (if ok then u else 0)], .int .i64 (if ok then 0 else 1)]
theorem wvR_no (x y z u : Int) : .tuple #[.agg #[.int .u64 0, .int .u64 0, .int .u64 0, .int .u64 0], .int .i64 1] = wvR false x y z u := rfl
theorem wvR_yes (x y z u : Int) : .tuple #[.agg #[.int .u64 x, .int .u64 y, .int .u64 z, .int .u64 u], .int .i64 0] = wvR true x y z u := rfl
theorem wvR_parts (ok : Bool) (x y z u : Int) : ∃ p q r s c : Int, wvR ok x y z u = .tuple #[.agg #[.int .u64 p, .int .u64 q, .int .u64 r, .int .u64 s], .int .i64 c] := ⟨_, _, _, _, _, rfl⟩
theorem iMask_is {b : Int} (a : Int) {x : Bool} (h : (b / 4294967296 == 0) = x) : Hid (∀ w : World, Calls Tryz.prog 86 #[.agg #[.int .u64 a, .int .u64 b]] w fun e w' => e = .returned (.bool x) ∧ Below w.heap.size w w') := Lib.hid fun w => by
  cases x <;> go_enter Tryz.func86, Tryz.ntmps86 <;> go_wp2 <;> go_returns
  all_goals exact ⟨by simp , (by repeat' (first | (with_reducible exact Below.refl _ _) | (with_reducible assumption) | (with_reducible refine below_drewN ?_ _) | (with_reducible refine Below.drew ?_) | (with_reducible refine below_new ?_ _) | (with_reducible refine below_next ?_ (by with_reducible assumption)) | (with_reducible refine Below.setCell ?_ ?_ _) | go_size))⟩
theorem wblock_three (w : World) (o p q : Obj) : (((w.alloc o).alloc p).alloc q).heap[w.heap.size]? = some o ∧ (((w.alloc o).alloc p).alloc q).heap[w.heap.size + 1]? = some p ∧ (((w.alloc o).alloc p).alloc q).heap[w.heap.size + 2]? = some q := by
  show (((w.heap.push o).push p).push q)[w.heap.size]? = some o ∧ (((w.heap.push o).push p).push q)[w.heap.size + 1]? = some p ∧ (((w.heap.push o).push p).push q)[w.heap.size + 2]? = some q
  refine ⟨?_, ?_, ?_⟩
  · rw [Array.getElem?_push, if_neg (by simp; omega), Array.getElem?_push, if_neg (by simp)]; simp
  · rw [Array.getElem?_push, if_neg (by simp), Array.getElem?_push, if_pos (by simp)]
  · rw [Array.getElem?_push, if_pos (by simp)]









/-- A card, or none. -/
def wcR (ok : Bool) (s : ByteArray) (x y : Int) : Value := .tuple #[.agg #[.string (if ok then s else ByteArray.empty), .int .u64 (if ok then x else 0), .int .u64 (if ok then y else 0)], .int .i64 (if ok then 0 else 1)]
theorem wcR_no (s : ByteArray) (x y : Int) : .tuple #[.agg #[.string ByteArray.empty, .int .u64 0, .int .u64 0], .int .i64 1] = wcR false s x y := rfl
theorem wcR_yes (s : ByteArray) (x y : Int) : .tuple #[.agg #[.string s, .int .u64 x, .int .u64 y], .int .i64 0] = wcR true s x y := rfl
theorem wcR_parts (ok : Bool) (s : ByteArray) (x y : Int) : ∃ (r : ByteArray) (p q c : Int), wcR ok s x y = .tuple #[.agg #[.string r, .int .u64 p, .int .u64 q], .int .i64 c] := ⟨_, _, _, _, rfl⟩


end Go.Proofs.YtpkpjkceiikakaaGreatDoor

namespace Go.Proofs.YtpkpjkceiikakaaGreatDoor
open Go.ChangeShapes Go.WideShapes Go.ChangeAt Go.RowKit

/-- The value of an edit. -/
def edV (x : Ed) : Value := .agg #[.int .i8 x.k, .string x.s, .int .i16 x.h, .int .u64 x.a, .int .u64 x.b]
/-- Is it valid. -/
def edOk (x : Ed) : Bool :=
  if x.k = 1 ∨ x.k = 2 then nameOk x.s && (x.h == 0 && maskOk x.b) else if x.k = 3 ∨ x.k = 4 then nameOk x.s && (decide (0 ≤ x.h ∧ x.h ≤ 95) && (x.a == 0 && x.b == 0)) else false
theorem edOk_card {x : Ed} (h : x.k = 1 ∨ x.k = 2) : edOk x = (nameOk x.s && (x.h == 0 && maskOk x.b)) := by unfold edOk; rw [if_pos h]
theorem edOk_hole {x : Ed} (h : x.k = 3 ∨ x.k = 4) : edOk x = (nameOk x.s && (decide (0 ≤ x.h ∧ x.h ≤ 95) && (x.a == 0 && x.b == 0))) := by unfold edOk; rw [if_neg (by omega), if_pos h]
theorem edOk_none {x : Ed} (h : ¬ (x.k = 1 ∨ x.k = 2 ∨ x.k = 3 ∨ x.k = 4)) : edOk x = false := by unfold edOk; rw [if_neg (by omega), if_neg (by omega)]


set_option maxHeartbeats 800000 in
theorem iChange_1 (s : ByteArray) (h a b : Int) (w : World) :
    Calls Tryz.prog 85 #[.agg #[.int .i8 1, .string s, .int .i16 h, .int .u64 a, .int .u64 b]] w fun e w' => e = .returned (.iface 148 (.agg #[.int .i8 1, .string s, .int .i16 h, .int .u64 a, .int .u64 b])) ∧ Below w.heap.size w w' := by
  go_enter Tryz.func85, Tryz.ntmps85
  go_wp2
  go_returns
  exact ⟨rfl, (by repeat' (first | (with_reducible exact Below.refl _ _) | (with_reducible assumption) | (with_reducible refine below_drewN ?_ _) | (with_reducible refine Below.drew ?_) | (with_reducible refine below_new ?_ _) | (with_reducible refine below_next ?_ (by with_reducible assumption)) | (with_reducible refine Below.setCell ?_ ?_ _) | go_size))⟩

set_option maxHeartbeats 800000 in
theorem iChange_2 (s : ByteArray) (h a b : Int) (w : World) :
    Calls Tryz.prog 85 #[.agg #[.int .i8 2, .string s, .int .i16 h, .int .u64 a, .int .u64 b]] w fun e w' => e = .returned (.iface 149 (.agg #[.int .i8 2, .string s, .int .i16 h, .int .u64 a, .int .u64 b])) ∧ Below w.heap.size w w' := by
  go_enter Tryz.func85, Tryz.ntmps85
  go_wp2
  go_returns
  exact ⟨rfl, (by repeat' (first | (with_reducible exact Below.refl _ _) | (with_reducible assumption) | (with_reducible refine below_drewN ?_ _) | (with_reducible refine Below.drew ?_) | (with_reducible refine below_new ?_ _) | (with_reducible refine below_next ?_ (by with_reducible assumption)) | (with_reducible refine Below.setCell ?_ ?_ _) | go_size))⟩

set_option maxHeartbeats 800000 in
theorem iChange_3 (s : ByteArray) (h a b : Int) (w : World) :
    Calls Tryz.prog 85 #[.agg #[.int .i8 3, .string s, .int .i16 h, .int .u64 a, .int .u64 b]] w fun e w' => e = .returned (.iface 127 (.agg #[.int .i8 3, .string s, .int .i16 h, .int .u64 a, .int .u64 b])) ∧ Below w.heap.size w w' := by
  go_enter Tryz.func85, Tryz.ntmps85
  go_wp2
  go_returns
  exact ⟨rfl, (by repeat' (first | (with_reducible exact Below.refl _ _) | (with_reducible assumption) | (with_reducible refine below_drewN ?_ _) | (with_reducible refine Below.drew ?_) | (with_reducible refine below_new ?_ _) | (with_reducible refine below_next ?_ (by with_reducible assumption)) | (with_reducible refine Below.setCell ?_ ?_ _) | go_size))⟩

set_option maxHeartbeats 800000 in
theorem iChange_4 (s : ByteArray) (h a b : Int) (w : World) :
    Calls Tryz.prog 85 #[.agg #[.int .i8 4, .string s, .int .i16 h, .int .u64 a, .int .u64 b]] w fun e w' => e = .returned (.iface 128 (.agg #[.int .i8 4, .string s, .int .i16 h, .int .u64 a, .int .u64 b])) ∧ Below w.heap.size w w' := by
  go_enter Tryz.func85, Tryz.ntmps85
  go_wp2
  go_returns
  exact ⟨rfl, (by repeat' (first | (with_reducible exact Below.refl _ _) | (with_reducible assumption) | (with_reducible refine below_drewN ?_ _) | (with_reducible refine Below.drew ?_) | (with_reducible refine below_new ?_ _) | (with_reducible refine below_next ?_ (by with_reducible assumption)) | (with_reducible refine Below.setCell ?_ ?_ _) | go_size))⟩

set_option maxHeartbeats 800000 in
theorem iChange_0 (k : Int) (s : ByteArray) (h a b : Int) (w : World) (hk : ¬ (k = 1 ∨ k = 2 ∨ k = 3 ∨ k = 4)) :
    Calls Tryz.prog 85 #[.agg #[.int .i8 k, .string s, .int .i16 h, .int .u64 a, .int .u64 b]] w fun e w' => e = .returned .nilIface ∧ Below w.heap.size w w' := by
  have d1 : (k == 1) = false := beq_eq_false_iff_ne.2 (by omega)
  have d2 : (k == 2) = false := beq_eq_false_iff_ne.2 (by omega)
  have d3 : (k == 3) = false := beq_eq_false_iff_ne.2 (by omega)
  have d4 : (k == 4) = false := beq_eq_false_iff_ne.2 (by omega)
  clear hk
  go_enter Tryz.func85, Tryz.ntmps85
  go_wp2
  go_returns
  exact ⟨rfl, (by repeat' (first | (with_reducible exact Below.refl _ _) | (with_reducible assumption) | (with_reducible refine below_drewN ?_ _) | (with_reducible refine Below.drew ?_) | (with_reducible refine below_new ?_ _) | (with_reducible refine below_next ?_ (by with_reducible assumption)) | (with_reducible refine Below.setCell ?_ ?_ _) | go_size))⟩


set_option maxRecDepth 100000 in
set_option maxHeartbeats 800000 in
theorem iOfHole_1 (s : ByteArray) (h a b : Int) (w : World) :
    Calls Tryz.prog 53 #[.agg #[.int .i8 1, .string s, .int .i16 h, .int .u64 a, .int .u64 b]] w fun e w' => e = .returned (.bool false) ∧ Below w.heap.size w w' := by
  have C := Lib.hid fun W => iChange_1 s h a b W
  have a3 : ∀ w : World, (Instr.typeAssert (.iface 148 (.agg #[.int .i8 1, .string s, .int .i16 h, .int .u64 a, .int .u64 b])) 125 127 true).run Tryz.prog w = .ok (.tuple #[.agg #[.int .i8 0, .string ByteArray.empty, .int .i16 0, .int .u64 0, .int .u64 0], .bool false]) w := fun _ => by kernel_rfl
  have a4 : ∀ w : World, (Instr.typeAssert (.iface 148 (.agg #[.int .i8 1, .string s, .int .i16 h, .int .u64 a, .int .u64 b])) 125 128 true).run Tryz.prog w = .ok (.tuple #[.agg #[.int .i8 0, .string ByteArray.empty, .int .i16 0, .int .u64 0, .int .u64 0], .bool false]) w := fun _ => by kernel_rfl
  go_enter Tryz.func53, Tryz.ntmps53
  go_wp2_with (go_at_call 85; refine (C.out _).mono ?_; rintro e w1 ⟨rfl, hB⟩; obtain ⟨hc, hf, hz⟩ := bcell hB)
  go_returns
  exact ⟨rfl, (by repeat' (first | (with_reducible exact Below.refl _ _) | (with_reducible assumption) | (with_reducible refine below_drewN ?_ _) | (with_reducible refine Below.drew ?_) | (with_reducible refine below_new ?_ _) | (with_reducible refine below_next ?_ (by with_reducible assumption)) | (with_reducible refine Below.setCell ?_ ?_ _) | go_size))⟩

set_option maxRecDepth 100000 in
set_option maxHeartbeats 800000 in
theorem iOfHole_2 (s : ByteArray) (h a b : Int) (w : World) :
    Calls Tryz.prog 53 #[.agg #[.int .i8 2, .string s, .int .i16 h, .int .u64 a, .int .u64 b]] w fun e w' => e = .returned (.bool false) ∧ Below w.heap.size w w' := by
  have C := Lib.hid fun W => iChange_2 s h a b W
  have a3 : ∀ w : World, (Instr.typeAssert (.iface 149 (.agg #[.int .i8 2, .string s, .int .i16 h, .int .u64 a, .int .u64 b])) 125 127 true).run Tryz.prog w = .ok (.tuple #[.agg #[.int .i8 0, .string ByteArray.empty, .int .i16 0, .int .u64 0, .int .u64 0], .bool false]) w := fun _ => by kernel_rfl
  have a4 : ∀ w : World, (Instr.typeAssert (.iface 149 (.agg #[.int .i8 2, .string s, .int .i16 h, .int .u64 a, .int .u64 b])) 125 128 true).run Tryz.prog w = .ok (.tuple #[.agg #[.int .i8 0, .string ByteArray.empty, .int .i16 0, .int .u64 0, .int .u64 0], .bool false]) w := fun _ => by kernel_rfl
  go_enter Tryz.func53, Tryz.ntmps53
  go_wp2_with (go_at_call 85; refine (C.out _).mono ?_; rintro e w1 ⟨rfl, hB⟩; obtain ⟨hc, hf, hz⟩ := bcell hB)
  go_returns
  exact ⟨rfl, (by repeat' (first | (with_reducible exact Below.refl _ _) | (with_reducible assumption) | (with_reducible refine below_drewN ?_ _) | (with_reducible refine Below.drew ?_) | (with_reducible refine below_new ?_ _) | (with_reducible refine below_next ?_ (by with_reducible assumption)) | (with_reducible refine Below.setCell ?_ ?_ _) | go_size))⟩

set_option maxRecDepth 100000 in
set_option maxHeartbeats 800000 in
theorem iOfHole_3 (s : ByteArray) (h a b : Int) (w : World) :
    Calls Tryz.prog 53 #[.agg #[.int .i8 3, .string s, .int .i16 h, .int .u64 a, .int .u64 b]] w fun e w' => e = .returned (.bool true) ∧ Below w.heap.size w w' := by
  have C := Lib.hid fun W => iChange_3 s h a b W
  have a3 : ∀ w : World, (Instr.typeAssert (.iface 127 (.agg #[.int .i8 3, .string s, .int .i16 h, .int .u64 a, .int .u64 b])) 125 127 true).run Tryz.prog w = .ok (.tuple #[.agg #[.int .i8 3, .string s, .int .i16 h, .int .u64 a, .int .u64 b], .bool true]) w := fun _ => by kernel_rfl
  have a4 : ∀ w : World, (Instr.typeAssert (.iface 127 (.agg #[.int .i8 3, .string s, .int .i16 h, .int .u64 a, .int .u64 b])) 125 128 true).run Tryz.prog w = .ok (.tuple #[.agg #[.int .i8 0, .string ByteArray.empty, .int .i16 0, .int .u64 0, .int .u64 0], .bool false]) w := fun _ => by kernel_rfl
  go_enter Tryz.func53, Tryz.ntmps53
  go_wp2_with (go_at_call 85; refine (C.out _).mono ?_; rintro e w1 ⟨rfl, hB⟩; obtain ⟨hc, hf, hz⟩ := bcell hB)
  go_returns
  exact ⟨rfl, (by repeat' (first | (with_reducible exact Below.refl _ _) | (with_reducible assumption) | (with_reducible refine below_drewN ?_ _) | (with_reducible refine Below.drew ?_) | (with_reducible refine below_new ?_ _) | (with_reducible refine below_next ?_ (by with_reducible assumption)) | (with_reducible refine Below.setCell ?_ ?_ _) | go_size))⟩

set_option maxRecDepth 100000 in
set_option maxHeartbeats 800000 in
theorem iOfHole_4 (s : ByteArray) (h a b : Int) (w : World) :
    Calls Tryz.prog 53 #[.agg #[.int .i8 4, .string s, .int .i16 h, .int .u64 a, .int .u64 b]] w fun e w' => e = .returned (.bool true) ∧ Below w.heap.size w w' := by
  have C := Lib.hid fun W => iChange_4 s h a b W
  have a3 : ∀ w : World, (Instr.typeAssert (.iface 128 (.agg #[.int .i8 4, .string s, .int .i16 h, .int .u64 a, .int .u64 b])) 125 127 true).run Tryz.prog w = .ok (.tuple #[.agg #[.int .i8 0, .string ByteArray.empty, .int .i16 0, .int .u64 0, .int .u64 0], .bool false]) w := fun _ => by kernel_rfl
  have a4 : ∀ w : World, (Instr.typeAssert (.iface 128 (.agg #[.int .i8 4, .string s, .int .i16 h, .int .u64 a, .int .u64 b])) 125 128 true).run Tryz.prog w = .ok (.tuple #[.agg #[.int .i8 4, .string s, .int .i16 h, .int .u64 a, .int .u64 b], .bool true]) w := fun _ => by kernel_rfl
  go_enter Tryz.func53, Tryz.ntmps53
  go_wp2_with (go_at_call 85; refine (C.out _).mono ?_; rintro e w1 ⟨rfl, hB⟩; obtain ⟨hc, hf, hz⟩ := bcell hB)
  go_returns
  exact ⟨rfl, (by repeat' (first | (with_reducible exact Below.refl _ _) | (with_reducible assumption) | (with_reducible refine below_drewN ?_ _) | (with_reducible refine Below.drew ?_) | (with_reducible refine below_new ?_ _) | (with_reducible refine below_next ?_ (by with_reducible assumption)) | (with_reducible refine Below.setCell ?_ ?_ _) | go_size))⟩
end Go.Proofs.YtpkpjkceiikakaaGreatDoor

namespace Go.Proofs.YtpkpjkceiikakaaGreatDoor
open Go.ChangeShapes Go.WideShapes Go.ChangeAt Go.RowKit

def hoE (n : Int) : Bool := decide (0 ≤ n ∧ n ≤ 95)
theorem ret_edE {x y : Bool} (h : y = x) : Ending.returned (.bool x) = Ending.returned (.bool y) := by rw [h]

set_option maxRecDepth 100000 in
set_option maxHeartbeats 1600000 in
theorem iValidE_1 (s : ByteArray) (h a b : Int) (hs : s.size ≤ maxLen) (w : World) :
    Calls Tryz.prog 55 #[.agg #[.int .i8 1, .string s, .int .i16 h, .int .u64 a, .int .u64 b]] w fun e w' => e = .returned (.bool (nameOk s && (h == 0 && maskOk b))) ∧ Below w.heap.size w w' := by
  have C := Lib.hid fun W => iChange_1 s h a b W
  have O := Lib.hid fun W => iOfHole_1 s h a b W
  have N := Lib.hid fun W => iName_any s hs W
  have HB := Lib.hid (block_alloc w (.cells #[.int .i8 1, .string s, .int .i16 h, .int .u64 a, .int .u64 b] 53))
  have KK := Lib.hid (below_new (Below.refl w.heap.size w) (.cells #[.int .i8 1, .string s, .int .i16 h, .int .u64 a, .int .u64 b] 53))
  clear hs
  cases hn : nameOk s
  · rw [hn] at N
    rw [Bool.false_and]
    clear hn O
    go_enter Tryz.func55, Tryz.ntmps55
    go_wp2_with (first
      | (go_at_call 85; refine (C.out _).mono ?_; rintro e w1 ⟨rfl, hB⟩; have B1 := Lib.hid (KK.out.trans (Below.mono hB KK.out.size)); have c1 := cell_of_block (Ab.block hB HB.out); clear hB)
      | (go_at_call 72; refine (N.out _).mono ?_; rintro e w2 ⟨rfl, rfl⟩))
    go_returns
    exact ⟨rfl, B1.out⟩
  · rw [hn] at N
    rw [Bool.true_and]
    clear hn
    cases h0 : (h == 0)
    · rw [Bool.false_and]
      go_enter Tryz.func55, Tryz.ntmps55
      go_wp2_with (first
        | (go_at_call 85; refine (C.out _).mono ?_; rintro e w1 ⟨rfl, hB⟩; have B1 := Lib.hid (KK.out.trans (Below.mono hB KK.out.size)); have b1 := Lib.hid (Ab.block hB HB.out); have c1 := cell_of_block b1.out; clear hB)
        | (go_at_call 72; refine (N.out _).mono ?_; rintro e w2 ⟨rfl, rfl⟩)
        | (go_at_call 53; refine (O.out _).mono ?_; rintro e w3 ⟨rfl, hB⟩; have B3 := Lib.hid (B1.out.trans (Below.mono hB B1.out.size)); have b3 := Lib.hid (Ab.block hB b1.out); clear c1; have c3 := cell_of_block b3.out; clear hB))
      go_returns
      exact ⟨rfl, B3.out⟩
    · rw [Bool.true_and]
      unfold maskOk
      cases hm : (b / 4294967296 == 0)
      all_goals
        have M := iMask_is a hm
        clear hm
        go_enter Tryz.func55, Tryz.ntmps55
        go_wp2_with (first
          | (go_at_call 85; refine (C.out _).mono ?_; rintro e w1 ⟨rfl, hB⟩; have B1 := Lib.hid (KK.out.trans (Below.mono hB KK.out.size)); have b1 := Lib.hid (Ab.block hB HB.out); have c1 := cell_of_block b1.out; clear hB)
          | (go_at_call 72; refine (N.out _).mono ?_; rintro e w2 ⟨rfl, rfl⟩)
          | (go_at_call 53; refine (O.out _).mono ?_; rintro e w3 ⟨rfl, hB⟩; have B3 := Lib.hid (B1.out.trans (Below.mono hB B1.out.size)); have b3 := Lib.hid (Ab.block hB b1.out); clear c1; have c3 := cell_of_block b3.out; clear hB)
          | (go_at_call 86; refine (M.out _).mono ?_; rintro e w4 ⟨rfl, hB⟩; have B4 := Lib.hid (B3.out.trans (Below.mono hB B3.out.size)); clear hB))
        go_returns
        exact ⟨rfl, B4.out⟩

set_option maxRecDepth 100000 in
set_option maxHeartbeats 1600000 in
theorem iValidE_2 (s : ByteArray) (h a b : Int) (hs : s.size ≤ maxLen) (w : World) :
    Calls Tryz.prog 55 #[.agg #[.int .i8 2, .string s, .int .i16 h, .int .u64 a, .int .u64 b]] w fun e w' => e = .returned (.bool (nameOk s && (h == 0 && maskOk b))) ∧ Below w.heap.size w w' := by
  have C := Lib.hid fun W => iChange_2 s h a b W
  have O := Lib.hid fun W => iOfHole_2 s h a b W
  have N := Lib.hid fun W => iName_any s hs W
  have HB := Lib.hid (block_alloc w (.cells #[.int .i8 2, .string s, .int .i16 h, .int .u64 a, .int .u64 b] 53))
  have KK := Lib.hid (below_new (Below.refl w.heap.size w) (.cells #[.int .i8 2, .string s, .int .i16 h, .int .u64 a, .int .u64 b] 53))
  clear hs
  cases hn : nameOk s
  · rw [hn] at N
    rw [Bool.false_and]
    clear hn O
    go_enter Tryz.func55, Tryz.ntmps55
    go_wp2_with (first
      | (go_at_call 85; refine (C.out _).mono ?_; rintro e w1 ⟨rfl, hB⟩; have B1 := Lib.hid (KK.out.trans (Below.mono hB KK.out.size)); have c1 := cell_of_block (Ab.block hB HB.out); clear hB)
      | (go_at_call 72; refine (N.out _).mono ?_; rintro e w2 ⟨rfl, rfl⟩))
    go_returns
    exact ⟨rfl, B1.out⟩
  · rw [hn] at N
    rw [Bool.true_and]
    clear hn
    cases h0 : (h == 0)
    · rw [Bool.false_and]
      go_enter Tryz.func55, Tryz.ntmps55
      go_wp2_with (first
        | (go_at_call 85; refine (C.out _).mono ?_; rintro e w1 ⟨rfl, hB⟩; have B1 := Lib.hid (KK.out.trans (Below.mono hB KK.out.size)); have b1 := Lib.hid (Ab.block hB HB.out); have c1 := cell_of_block b1.out; clear hB)
        | (go_at_call 72; refine (N.out _).mono ?_; rintro e w2 ⟨rfl, rfl⟩)
        | (go_at_call 53; refine (O.out _).mono ?_; rintro e w3 ⟨rfl, hB⟩; have B3 := Lib.hid (B1.out.trans (Below.mono hB B1.out.size)); have b3 := Lib.hid (Ab.block hB b1.out); clear c1; have c3 := cell_of_block b3.out; clear hB))
      go_returns
      exact ⟨rfl, B3.out⟩
    · rw [Bool.true_and]
      unfold maskOk
      cases hm : (b / 4294967296 == 0)
      all_goals
        have M := iMask_is a hm
        clear hm
        go_enter Tryz.func55, Tryz.ntmps55
        go_wp2_with (first
          | (go_at_call 85; refine (C.out _).mono ?_; rintro e w1 ⟨rfl, hB⟩; have B1 := Lib.hid (KK.out.trans (Below.mono hB KK.out.size)); have b1 := Lib.hid (Ab.block hB HB.out); have c1 := cell_of_block b1.out; clear hB)
          | (go_at_call 72; refine (N.out _).mono ?_; rintro e w2 ⟨rfl, rfl⟩)
          | (go_at_call 53; refine (O.out _).mono ?_; rintro e w3 ⟨rfl, hB⟩; have B3 := Lib.hid (B1.out.trans (Below.mono hB B1.out.size)); have b3 := Lib.hid (Ab.block hB b1.out); clear c1; have c3 := cell_of_block b3.out; clear hB)
          | (go_at_call 86; refine (M.out _).mono ?_; rintro e w4 ⟨rfl, hB⟩; have B4 := Lib.hid (B3.out.trans (Below.mono hB B3.out.size)); clear hB))
        go_returns
        exact ⟨rfl, B4.out⟩

theorem iHoleE {n : Int} {x : Bool} (h : hoE n = x) : Hid (∀ w : World, Calls Tryz.prog 82 #[.int .i64 n] w fun e w' => e = .returned (.bool x) ∧ w = w') := Lib.hid fun w => by
  subst h
  unfold hoE
  by_cases h0 : 0 ≤ n
  · have d0 : decide (0 ≤ n) = true := decide_eq_true h0
    by_cases h1 : n ≤ 95
    · have d1 : decide (n < 96) = true := decide_eq_true (by omega)
      rw [decide_eq_true ⟨h0, h1⟩]
      go_enter Tryz.func82, Tryz.ntmps82
      go_wp2
      go_returns
      exact ⟨rfl, rfl⟩
    · have d1 : decide (n < 96) = false := decide_eq_false (by omega)
      rw [decide_eq_false (fun q => h1 q.2)]
      go_enter Tryz.func82, Tryz.ntmps82
      go_wp2
      go_returns
      exact ⟨rfl, rfl⟩
  · have d0 : decide (0 ≤ n) = false := decide_eq_false h0
    rw [decide_eq_false (fun q => h0 q.1)]
    go_enter Tryz.func82, Tryz.ntmps82
    go_wp2
    go_returns
    exact ⟨rfl, rfl⟩

set_option maxRecDepth 100000 in
set_option maxHeartbeats 1600000 in
theorem iValidE_3 (s : ByteArray) (h a b : Int) (hs : s.size ≤ maxLen) (hh : I16 h) (w : World) :
    Calls Tryz.prog 55 #[.agg #[.int .i8 3, .string s, .int .i16 h, .int .u64 a, .int .u64 b]] w fun e w' => e = .returned (.bool (nameOk s && (hoE h && (a == 0 && b == 0)))) ∧ Below w.heap.size w w' := by
  have C := Lib.hid fun W => iChange_3 s h a b W
  have O := Lib.hid fun W => iOfHole_3 s h a b W
  have N := Lib.hid fun W => iName_any s hs W
  have eqm := eq_mask
  have x1 : IntKind.i64.wrap h = h := IntWalk.i64_in _ (by have := hh.1; have := hh.2; omega)
  have HB := Lib.hid (block_alloc w (.cells #[.int .i8 3, .string s, .int .i16 h, .int .u64 a, .int .u64 b] 53))
  have KK := Lib.hid (below_new (Below.refl w.heap.size w) (.cells #[.int .i8 3, .string s, .int .i16 h, .int .u64 a, .int .u64 b] 53))
  clear hs hh
  cases hn : nameOk s
  · rw [hn] at N
    rw [Bool.false_and]
    clear hn O
    go_enter Tryz.func55, Tryz.ntmps55
    go_wp2_with (first
      | (go_at_call 85; refine (C.out _).mono ?_; rintro e w1 ⟨rfl, hB⟩; have B1 := Lib.hid (KK.out.trans (Below.mono hB KK.out.size)); have c1 := cell_of_block (Ab.block hB HB.out); clear hB)
      | (go_at_call 72; refine (N.out _).mono ?_; rintro e w2 ⟨rfl, rfl⟩))
    go_returns
    exact ⟨rfl, B1.out⟩
  · rw [hn] at N
    rw [Bool.true_and]
    clear hn
    cases h0 : hoE h
    · have L := iHoleE h0
      rw [Bool.false_and]
      clear h0
      go_enter Tryz.func55, Tryz.ntmps55
      go_wp2_with (first
        | (go_at_call 85; refine (C.out _).mono ?_; rintro e w1 ⟨rfl, hB⟩; have B1 := Lib.hid (KK.out.trans (Below.mono hB KK.out.size)); have b1 := Lib.hid (Ab.block hB HB.out); have c1 := cell_of_block b1.out; clear hB)
        | (go_at_call 72; refine (N.out _).mono ?_; rintro e w2 ⟨rfl, rfl⟩)
        | (go_at_call 53; refine (O.out _).mono ?_; rintro e w3 ⟨rfl, hB⟩; have B3 := Lib.hid (B1.out.trans (Below.mono hB B1.out.size)); have b3 := Lib.hid (Ab.block hB b1.out); clear c1; have c3 := cell_of_block b3.out; clear hB)
        | (go_at_call 82; refine (L.out _).mono ?_; rintro e w4 ⟨rfl, rfl⟩))
      go_returns
      exact ⟨rfl, B3.out⟩
    · have L := iHoleE h0
      rw [Bool.true_and]
      clear h0
      cases hm : (a == 0 && b == 0)
      all_goals
        go_enter Tryz.func55, Tryz.ntmps55
        go_wp2_with (first
          | (go_at_call 85; refine (C.out _).mono ?_; rintro e w1 ⟨rfl, hB⟩; have B1 := Lib.hid (KK.out.trans (Below.mono hB KK.out.size)); have b1 := Lib.hid (Ab.block hB HB.out); have c1 := cell_of_block b1.out; clear hB)
          | (go_at_call 72; refine (N.out _).mono ?_; rintro e w2 ⟨rfl, rfl⟩)
          | (go_at_call 53; refine (O.out _).mono ?_; rintro e w3 ⟨rfl, hB⟩; have B3 := Lib.hid (B1.out.trans (Below.mono hB B1.out.size)); have b3 := Lib.hid (Ab.block hB b1.out); clear c1; have c3 := cell_of_block b3.out; clear hB)
          | (go_at_call 82; refine (L.out _).mono ?_; rintro e w4 ⟨rfl, rfl⟩))
        go_returns
        exact ⟨rfl, B3.out⟩

set_option maxRecDepth 100000 in
set_option maxHeartbeats 1600000 in
theorem iValidE_4 (s : ByteArray) (h a b : Int) (hs : s.size ≤ maxLen) (hh : I16 h) (w : World) :
    Calls Tryz.prog 55 #[.agg #[.int .i8 4, .string s, .int .i16 h, .int .u64 a, .int .u64 b]] w fun e w' => e = .returned (.bool (nameOk s && (hoE h && (a == 0 && b == 0)))) ∧ Below w.heap.size w w' := by
  have C := Lib.hid fun W => iChange_4 s h a b W
  have O := Lib.hid fun W => iOfHole_4 s h a b W
  have N := Lib.hid fun W => iName_any s hs W
  have eqm := eq_mask
  have x1 : IntKind.i64.wrap h = h := IntWalk.i64_in _ (by have := hh.1; have := hh.2; omega)
  have HB := Lib.hid (block_alloc w (.cells #[.int .i8 4, .string s, .int .i16 h, .int .u64 a, .int .u64 b] 53))
  have KK := Lib.hid (below_new (Below.refl w.heap.size w) (.cells #[.int .i8 4, .string s, .int .i16 h, .int .u64 a, .int .u64 b] 53))
  clear hs hh
  cases hn : nameOk s
  · rw [hn] at N
    rw [Bool.false_and]
    clear hn O
    go_enter Tryz.func55, Tryz.ntmps55
    go_wp2_with (first
      | (go_at_call 85; refine (C.out _).mono ?_; rintro e w1 ⟨rfl, hB⟩; have B1 := Lib.hid (KK.out.trans (Below.mono hB KK.out.size)); have c1 := cell_of_block (Ab.block hB HB.out); clear hB)
      | (go_at_call 72; refine (N.out _).mono ?_; rintro e w2 ⟨rfl, rfl⟩))
    go_returns
    exact ⟨rfl, B1.out⟩
  · rw [hn] at N
    rw [Bool.true_and]
    clear hn
    cases h0 : hoE h
    · have L := iHoleE h0
      rw [Bool.false_and]
      clear h0
      go_enter Tryz.func55, Tryz.ntmps55
      go_wp2_with (first
        | (go_at_call 85; refine (C.out _).mono ?_; rintro e w1 ⟨rfl, hB⟩; have B1 := Lib.hid (KK.out.trans (Below.mono hB KK.out.size)); have b1 := Lib.hid (Ab.block hB HB.out); have c1 := cell_of_block b1.out; clear hB)
        | (go_at_call 72; refine (N.out _).mono ?_; rintro e w2 ⟨rfl, rfl⟩)
        | (go_at_call 53; refine (O.out _).mono ?_; rintro e w3 ⟨rfl, hB⟩; have B3 := Lib.hid (B1.out.trans (Below.mono hB B1.out.size)); have b3 := Lib.hid (Ab.block hB b1.out); clear c1; have c3 := cell_of_block b3.out; clear hB)
        | (go_at_call 82; refine (L.out _).mono ?_; rintro e w4 ⟨rfl, rfl⟩))
      go_returns
      exact ⟨rfl, B3.out⟩
    · have L := iHoleE h0
      rw [Bool.true_and]
      clear h0
      cases hm : (a == 0 && b == 0)
      all_goals
        go_enter Tryz.func55, Tryz.ntmps55
        go_wp2_with (first
          | (go_at_call 85; refine (C.out _).mono ?_; rintro e w1 ⟨rfl, hB⟩; have B1 := Lib.hid (KK.out.trans (Below.mono hB KK.out.size)); have b1 := Lib.hid (Ab.block hB HB.out); have c1 := cell_of_block b1.out; clear hB)
          | (go_at_call 72; refine (N.out _).mono ?_; rintro e w2 ⟨rfl, rfl⟩)
          | (go_at_call 53; refine (O.out _).mono ?_; rintro e w3 ⟨rfl, hB⟩; have B3 := Lib.hid (B1.out.trans (Below.mono hB B1.out.size)); have b3 := Lib.hid (Ab.block hB b1.out); clear c1; have c3 := cell_of_block b3.out; clear hB)
          | (go_at_call 82; refine (L.out _).mono ?_; rintro e w4 ⟨rfl, rfl⟩))
        go_returns
        exact ⟨rfl, B3.out⟩

set_option maxRecDepth 100000 in
set_option maxHeartbeats 1600000 in
theorem iValidE_0 (k : Int) (s : ByteArray) (h a b : Int) (w : World) (hk : ¬ (k = 1 ∨ k = 2 ∨ k = 3 ∨ k = 4)) :
    Calls Tryz.prog 55 #[.agg #[.int .i8 k, .string s, .int .i16 h, .int .u64 a, .int .u64 b]] w fun e w' => e = .returned (.bool false) ∧ Below w.heap.size w w' := by
  have C := Lib.hid fun W => iChange_0 k s h a b W hk
  have KK := Lib.hid (below_new (Below.refl w.heap.size w) (.cells #[.int .i8 k, .string s, .int .i16 h, .int .u64 a, .int .u64 b] 53))
  clear hk
  go_enter Tryz.func55, Tryz.ntmps55
  go_wp2_with (go_at_call 85; refine (C.out _).mono ?_; rintro e w1 ⟨rfl, hB⟩; have B1 := Lib.hid (KK.out.trans (Below.mono hB KK.out.size)); clear hB)
  go_returns
  exact ⟨rfl, B1.out⟩
end Go.Proofs.YtpkpjkceiikakaaGreatDoor

namespace Go.Proofs.YtpkpjkceiikakaaGreatDoor
open Go.ChangeShapes Go.WideShapes Go.ChangeAt Go.RowKit

theorem iValid_any (x : Ed) (hx : x.fits) (w : World) :
    Calls Tryz.prog 55 #[.agg #[.int .i8 x.k, .string x.s, .int .i16 x.h, .int .u64 x.a, .int .u64 x.b]] w fun e w' => e = .returned (.bool (edOk x)) ∧ Below w.heap.size w w' := by
  obtain ⟨k, s, h, a, b⟩ := x
  obtain ⟨_, hs, hh, _⟩ := hx
  simp only at hs hh ⊢
  by_cases h1 : k = 1
  · subst h1; rw [edOk_card (.inl rfl)]; exact iValidE_1 s h a b hs w
  by_cases h2 : k = 2
  · subst h2; rw [edOk_card (.inr rfl)]; exact iValidE_2 s h a b hs w
  by_cases h3 : k = 3
  · subst h3; rw [edOk_hole (.inl rfl)]; exact iValidE_3 s h a b hs hh w
  by_cases h4 : k = 4
  · subst h4; rw [edOk_hole (.inr rfl)]; exact iValidE_4 s h a b hs hh w
  · rw [edOk_none (by show ¬ (k = 1 ∨ k = 2 ∨ k = 3 ∨ k = 4); omega)]; exact iValidE_0 k s h a b w (by omega)

def inE (n lo hi : Int) : Bool := decide (lo ≤ n) && decide (n ≤ hi)
set_option maxHeartbeats 400000 in
theorem sInE (n lo hi : Int) (w : World) : Calls Tryz.prog 64 #[.int .i64 n, .int .i64 lo, .int .i64 hi] w fun e w' => e = .returned (.bool (inE n lo hi)) ∧ w = w' := by
  unfold inE
  by_cases h : lo ≤ n
  · rw [decide_eq_true h, Bool.true_and]
    by_cases h2 : n ≤ hi
    · have d := decide_eq_true h2
      rw [d]
      go_enter Tryz.func64, Tryz.ntmps64
      go_wp2
      go_returns
      exact ⟨rfl, rfl⟩
    · have d := decide_eq_false h2
      rw [d]
      go_enter Tryz.func64, Tryz.ntmps64
      go_wp2
      go_returns
      exact ⟨rfl, rfl⟩
  · have d := decide_eq_false h
    rw [d, Bool.false_and]
    go_enter Tryz.func64, Tryz.ntmps64
    go_wp2
    go_returns
    exact ⟨rfl, rfl⟩

theorem sHoleE {n : Int} {x : Bool} (h : hoE n = x) : Hid (∀ w : World, Calls Tryz.prog 48 #[.int .i64 n] w fun e w' => e = .returned (.bool x) ∧ w = w') := Lib.hid fun w => by
  have hx : inE n 0 95 = x := by rw [← h]; unfold inE hoE; by_cases h0 : 0 ≤ n <;> by_cases h1 : n ≤ 95 <;> simp [h0, h1]
  have I := Lib.hid fun W => sInE n 0 95 W
  rw [hx] at I
  clear h hx
  go_enter Tryz.func48, Tryz.ntmps48
  go_wp2_with (go_at_call 64; refine (I.out _).mono ?_; rintro e w1 ⟨rfl, rfl⟩)
  go_returns
  exact ⟨rfl, rfl⟩

set_option maxRecDepth 100000 in
set_option maxHeartbeats 1600000 in
theorem sEdit_1 (s : ByteArray) (h a b : Int) (hs : s.size ≤ maxLen) (g o : Nat) (w : World) (h0 : w.cell? ⟨g, o, none⟩ = some (.int .i8 1)) (h1 : w.cell? ⟨g, o + 1, none⟩ = some (.string s)) (h2 : w.cell? ⟨g, o + 2, none⟩ = some (.int .i16 h)) (h3 : w.cell? ⟨g, o + 3, none⟩ = some (.int .u64 a)) (h4 : w.cell? ⟨g, o + 4, none⟩ = some (.int .u64 b)) :
    Calls Tryz.prog 49 #[.pointer (some ⟨g, o, none⟩)] w fun e w' => e = .returned (.bool (nameOk s && (h == 0 && maskOk b))) ∧ Below w.heap.size w w' := by
  have N := Lib.hid fun W => sName_any s hs W
  clear hs
  cases hn : nameOk s
  · rw [hn] at N
    rw [Bool.false_and]
    clear hn
    go_enter Tryz.func49, Tryz.ntmps49
    go_wp2_with (go_at_call 63; refine (N.out _).mono ?_; rintro e w2 ⟨rfl, rfl⟩)
    go_returns
    exact ⟨rfl, Below.refl _ _⟩
  · rw [hn] at N
    rw [Bool.true_and]
    clear hn
    cases e0 : (h == 0)
    · rw [Bool.false_and]
      go_enter Tryz.func49, Tryz.ntmps49
      go_wp2_with (go_at_call 63; refine (N.out _).mono ?_; rintro e w2 ⟨rfl, rfl⟩)
      go_returns
      exact ⟨rfl, Below.refl _ _⟩
    · rw [Bool.true_and]
      unfold maskOk
      cases hm : (b / 4294967296 == 0)
      all_goals
        have M := sMask_is a hm
        clear hm
        go_enter Tryz.func49, Tryz.ntmps49
        go_wp2_with (first
          | (go_at_call 63; refine (N.out _).mono ?_; rintro e w2 ⟨rfl, rfl⟩)
          | (go_at_call 80; refine (M.out _).mono ?_; rintro e w4 ⟨rfl, hB⟩))
        go_returns
        exact ⟨rfl, hB⟩

set_option maxRecDepth 100000 in
set_option maxHeartbeats 1600000 in
theorem sEdit_2 (s : ByteArray) (h a b : Int) (hs : s.size ≤ maxLen) (g o : Nat) (w : World) (h0 : w.cell? ⟨g, o, none⟩ = some (.int .i8 2)) (h1 : w.cell? ⟨g, o + 1, none⟩ = some (.string s)) (h2 : w.cell? ⟨g, o + 2, none⟩ = some (.int .i16 h)) (h3 : w.cell? ⟨g, o + 3, none⟩ = some (.int .u64 a)) (h4 : w.cell? ⟨g, o + 4, none⟩ = some (.int .u64 b)) :
    Calls Tryz.prog 49 #[.pointer (some ⟨g, o, none⟩)] w fun e w' => e = .returned (.bool (nameOk s && (h == 0 && maskOk b))) ∧ Below w.heap.size w w' := by
  have N := Lib.hid fun W => sName_any s hs W
  clear hs
  cases hn : nameOk s
  · rw [hn] at N
    rw [Bool.false_and]
    clear hn
    go_enter Tryz.func49, Tryz.ntmps49
    go_wp2_with (go_at_call 63; refine (N.out _).mono ?_; rintro e w2 ⟨rfl, rfl⟩)
    go_returns
    exact ⟨rfl, Below.refl _ _⟩
  · rw [hn] at N
    rw [Bool.true_and]
    clear hn
    cases e0 : (h == 0)
    · rw [Bool.false_and]
      go_enter Tryz.func49, Tryz.ntmps49
      go_wp2_with (go_at_call 63; refine (N.out _).mono ?_; rintro e w2 ⟨rfl, rfl⟩)
      go_returns
      exact ⟨rfl, Below.refl _ _⟩
    · rw [Bool.true_and]
      unfold maskOk
      cases hm : (b / 4294967296 == 0)
      all_goals
        have M := sMask_is a hm
        clear hm
        go_enter Tryz.func49, Tryz.ntmps49
        go_wp2_with (first
          | (go_at_call 63; refine (N.out _).mono ?_; rintro e w2 ⟨rfl, rfl⟩)
          | (go_at_call 80; refine (M.out _).mono ?_; rintro e w4 ⟨rfl, hB⟩))
        go_returns
        exact ⟨rfl, hB⟩

set_option maxRecDepth 100000 in
set_option maxHeartbeats 1600000 in
theorem sEdit_3 (s : ByteArray) (h a b : Int) (hs : s.size ≤ maxLen) (hh : I16 h) (g o : Nat) (w : World) (h0 : w.cell? ⟨g, o, none⟩ = some (.int .i8 3)) (h1 : w.cell? ⟨g, o + 1, none⟩ = some (.string s)) (h2 : w.cell? ⟨g, o + 2, none⟩ = some (.int .i16 h)) (h3 : w.cell? ⟨g, o + 3, none⟩ = some (.int .u64 a)) (h4 : w.cell? ⟨g, o + 4, none⟩ = some (.int .u64 b)) :
    Calls Tryz.prog 49 #[.pointer (some ⟨g, o, none⟩)] w fun e w' => e = .returned (.bool (nameOk s && (hoE h && (a == 0 && b == 0)))) ∧ Below w.heap.size w w' := by
  have N := Lib.hid fun W => sName_any s hs W
  have eqm := eq_mask
  have x1 : IntKind.i64.wrap h = h := IntWalk.i64_in _ (by have := hh.1; have := hh.2; omega)
  clear hs hh
  cases hn : nameOk s
  · rw [hn] at N
    rw [Bool.false_and]
    clear hn
    go_enter Tryz.func49, Tryz.ntmps49
    go_wp2_with (go_at_call 63; refine (N.out _).mono ?_; rintro e w2 ⟨rfl, rfl⟩)
    go_returns
    exact ⟨rfl, Below.refl _ _⟩
  · rw [hn] at N
    rw [Bool.true_and]
    clear hn
    cases e0 : hoE h
    · have L := sHoleE e0
      rw [Bool.false_and]
      clear e0
      go_enter Tryz.func49, Tryz.ntmps49
      go_wp2_with (first
        | (go_at_call 63; refine (N.out _).mono ?_; rintro e w2 ⟨rfl, rfl⟩)
        | (go_at_call 48; refine (L.out _).mono ?_; rintro e w4 ⟨rfl, rfl⟩))
      go_returns
      exact ⟨rfl, Below.refl _ _⟩
    · have L := sHoleE e0
      rw [Bool.true_and]
      clear e0
      cases hm : (a == 0 && b == 0)
      all_goals
        go_enter Tryz.func49, Tryz.ntmps49
        go_wp2_with (first
          | (go_at_call 63; refine (N.out _).mono ?_; rintro e w2 ⟨rfl, rfl⟩)
          | (go_at_call 48; refine (L.out _).mono ?_; rintro e w4 ⟨rfl, rfl⟩))
        go_returns
        exact ⟨rfl, Below.refl _ _⟩

set_option maxRecDepth 100000 in
set_option maxHeartbeats 1600000 in
theorem sEdit_4 (s : ByteArray) (h a b : Int) (hs : s.size ≤ maxLen) (hh : I16 h) (g o : Nat) (w : World) (h0 : w.cell? ⟨g, o, none⟩ = some (.int .i8 4)) (h1 : w.cell? ⟨g, o + 1, none⟩ = some (.string s)) (h2 : w.cell? ⟨g, o + 2, none⟩ = some (.int .i16 h)) (h3 : w.cell? ⟨g, o + 3, none⟩ = some (.int .u64 a)) (h4 : w.cell? ⟨g, o + 4, none⟩ = some (.int .u64 b)) :
    Calls Tryz.prog 49 #[.pointer (some ⟨g, o, none⟩)] w fun e w' => e = .returned (.bool (nameOk s && (hoE h && (a == 0 && b == 0)))) ∧ Below w.heap.size w w' := by
  have N := Lib.hid fun W => sName_any s hs W
  have eqm := eq_mask
  have x1 : IntKind.i64.wrap h = h := IntWalk.i64_in _ (by have := hh.1; have := hh.2; omega)
  clear hs hh
  cases hn : nameOk s
  · rw [hn] at N
    rw [Bool.false_and]
    clear hn
    go_enter Tryz.func49, Tryz.ntmps49
    go_wp2_with (go_at_call 63; refine (N.out _).mono ?_; rintro e w2 ⟨rfl, rfl⟩)
    go_returns
    exact ⟨rfl, Below.refl _ _⟩
  · rw [hn] at N
    rw [Bool.true_and]
    clear hn
    cases e0 : hoE h
    · have L := sHoleE e0
      rw [Bool.false_and]
      clear e0
      go_enter Tryz.func49, Tryz.ntmps49
      go_wp2_with (first
        | (go_at_call 63; refine (N.out _).mono ?_; rintro e w2 ⟨rfl, rfl⟩)
        | (go_at_call 48; refine (L.out _).mono ?_; rintro e w4 ⟨rfl, rfl⟩))
      go_returns
      exact ⟨rfl, Below.refl _ _⟩
    · have L := sHoleE e0
      rw [Bool.true_and]
      clear e0
      cases hm : (a == 0 && b == 0)
      all_goals
        go_enter Tryz.func49, Tryz.ntmps49
        go_wp2_with (first
          | (go_at_call 63; refine (N.out _).mono ?_; rintro e w2 ⟨rfl, rfl⟩)
          | (go_at_call 48; refine (L.out _).mono ?_; rintro e w4 ⟨rfl, rfl⟩))
        go_returns
        exact ⟨rfl, Below.refl _ _⟩

set_option maxRecDepth 100000 in
set_option maxHeartbeats 1600000 in
theorem sEdit_0 (k : Int) (s : ByteArray) (h a b : Int) (hk : ¬ (k = 1 ∨ k = 2 ∨ k = 3 ∨ k = 4)) (g o : Nat) (w : World) (h0 : w.cell? ⟨g, o, none⟩ = some (.int .i8 k)) (_h1 : w.cell? ⟨g, o + 1, none⟩ = some (.string s)) (_h2 : w.cell? ⟨g, o + 2, none⟩ = some (.int .i16 h)) (_h3 : w.cell? ⟨g, o + 3, none⟩ = some (.int .u64 a)) (_h4 : w.cell? ⟨g, o + 4, none⟩ = some (.int .u64 b)) :
    Calls Tryz.prog 49 #[.pointer (some ⟨g, o, none⟩)] w fun e w' => e = .returned (.bool false) ∧ Below w.heap.size w w' := by
  have d1 : (k == 1) = false := beq_eq_false_iff_ne.2 (by omega)
  have d2 : (k == 2) = false := beq_eq_false_iff_ne.2 (by omega)
  have d3 : (k == 3) = false := beq_eq_false_iff_ne.2 (by omega)
  have d4 : (k == 4) = false := beq_eq_false_iff_ne.2 (by omega)
  clear hk _h1 _h2 _h3 _h4
  go_enter Tryz.func49, Tryz.ntmps49
  go_wp2
  go_returns
  exact ⟨rfl, Below.refl _ _⟩

theorem sEdit_any (x : Ed) (hx : x.fits) (g o : Nat) (w : World) (h0 : w.cell? ⟨g, o, none⟩ = some (.int .i8 x.k)) (h1 : w.cell? ⟨g, o + 1, none⟩ = some (.string x.s)) (h2 : w.cell? ⟨g, o + 2, none⟩ = some (.int .i16 x.h)) (h3 : w.cell? ⟨g, o + 3, none⟩ = some (.int .u64 x.a)) (h4 : w.cell? ⟨g, o + 4, none⟩ = some (.int .u64 x.b)) :
    Calls Tryz.prog 49 #[.pointer (some ⟨g, o, none⟩)] w fun e w' => e = .returned (.bool (edOk x)) ∧ Below w.heap.size w w' := by
  obtain ⟨k, s, h, a, b⟩ := x
  obtain ⟨_, hs, hh, _⟩ := hx
  simp only at hs hh h0 h1 h2 h3 h4 ⊢
  by_cases k1 : k = 1
  · subst k1; rw [edOk_card (.inl rfl)]; exact sEdit_1 s h a b hs g o w h0 h1 h2 h3 h4
  by_cases k2 : k = 2
  · subst k2; rw [edOk_card (.inr rfl)]; exact sEdit_2 s h a b hs g o w h0 h1 h2 h3 h4
  by_cases k3 : k = 3
  · subst k3; rw [edOk_hole (.inl rfl)]; exact sEdit_3 s h a b hs hh g o w h0 h1 h2 h3 h4
  by_cases k4 : k = 4
  · subst k4; rw [edOk_hole (.inr rfl)]; exact sEdit_4 s h a b hs hh g o w h0 h1 h2 h3 h4
  · rw [edOk_none (by show ¬ (k = 1 ∨ k = 2 ∨ k = 3 ∨ k = 4); omega)]; exact sEdit_0 k s h a b (by omega) g o w h0 h1 h2 h3 h4
end Go.Proofs.YtpkpjkceiikakaaGreatDoor

namespace Go.Proofs.YtpkpjkceiikakaaGreatDoor
open Go.ChangeShapes Go.WideShapes Go.ChangeAt Go.RowKit

theorem conv_one (W : World) (u : UInt8) : (convert 76 9 (.slice (some ⟨W.heap.size, 0, none⟩) 1 1)).run Tryz.prog (W.alloc (.cells #[.int .u8 (u.toNat : Int)] 5)) = .ok (.string ⟨#[u]⟩) (W.alloc (.cells #[.int .u8 (u.toNat : Int)] 5)) := by
  have h := run_convert_bytes_back (P := Tryz.prog) (W.alloc (.cells #[.int .u8 (u.toNat : Int)] 5)) 76 9 5 ⟨W.heap.size, 0, none⟩ 1 [u] Tryz.underlying76 Tryz.underlying5 Tryz.underlying9 (fun j hj => by
    have hj0 : j = 0 := by simp at hj; omega
    subst hj0
    simp [Addr.add])
  simpa using h

set_option maxRecDepth 100000 in
set_option maxHeartbeats 800000 in
theorem markText_any (k : Nat) (k1 : k ≤ 4000000) (w : World) :
    Calls Tryz.prog 24 #[.int .i64 (k : Int)] w fun e w' => (∃ s : ByteArray, e = .returned (.string s)) ∧ Below w.heap.size w w' := by
  by_cases hk : 0 < k
  · have d1 : decide ((k : Int) ≤ 0) = false := by simp; omega
    go_enter Tryz.func24, Tryz.ntmps24
    go_wp2
    go_loopw [0, 3] (fun q o wr => ∃ (n : Nat) (s : ByteArray), q = .int .i64 (n : Int) ∧ o = .string s ∧ s.size + n ≤ 4000000 ∧ Below w.heap.size w wr) (fun q _ _ => (intOf q).toNat)
    case atStart => exact ⟨k, ByteArray.empty, rfl, rfl, by simpa using k1, Below.refl _ _⟩
    case round =>
      obtain ⟨n, s, rfl, rfl, hn, hB⟩ := hrel
      have BB := Lib.hid hB
      have HN := Lib.hid hn
      clear d1 hB
      by_cases hnz : 0 < n
      · have d2 : decide (0 < (n : Int)) = true := by simp; omega
        obtain ⟨u, hu⟩ : ∃ u : UInt8, (u.toNat : Int) = 48 + (n : Int) % 10 := ⟨UInt8.ofNat (48 + n % 10), by rw [UInt8.toNat_ofNat']; omega⟩
        have v1 : (n : Int).tmod 10 = (n : Int) % 10 := Int.tmod_eq_emod_of_nonneg (by omega)
        have v2 : IntKind.i64.wrap ((n : Int) % 10) = (n : Int) % 10 := IntWalk.i64_in _ (by omega)
        have v3 : IntKind.i64.wrap (48 + (n : Int) % 10) = 48 + (n : Int) % 10 := IntWalk.i64_in _ (by omega)
        have v4 : IntKind.u8.wrap (48 + (n : Int) % 10) = (u.toNat : Int) := by rw [hu]; exact IntWalk.u8_in _ ⟨by omega, by omega⟩
        obtain ⟨m, hm⟩ : ∃ m : Nat, m = n / 10 := ⟨_, rfl⟩
        have v7 : (n : Int) / 10 = (m : Int) := by omega
        have v5 : (n : Int).tdiv 10 = (m : Int) := by rw [Int.tdiv_eq_ediv_of_nonneg (by omega)]; omega
        have v6 : IntKind.i64.wrap (m : Int) = (m : Int) := IntWalk.i64_in _ (by omega)
        have MM := Lib.hid (show m < n by omega)
        have cv := conv_one wr u
        have sz : (ByteArray.mk #[u]).size = 1 := rfl
        have sl : ¬ 9223372036854775807 < 1 + s.size := by have := HN.out; omega
        clear hu hn k1 hk hm
        go_wp2
        exact ⟨⟨m, _, rfl, rfl, by have := HN.out; have := MM.out; rw [ByteArray.size_append, sz]; omega, below_new BB.out _⟩, by have := MM.out; (simp [intOf]) <;> omega⟩
      · have d2 : decide (0 < (n : Int)) = false := by simp; omega
        have sl : ¬ 9223372036854775807 < 1 + s.size := by have := HN.out; omega
        go_wp2
        go_ret
        exact ⟨⟨_, rfl⟩, BB.out⟩
  · have d1 : decide ((k : Int) ≤ 0) = true := by simp; omega
    go_enter Tryz.func24, Tryz.ntmps24
    go_wp2
    go_ret
    exact ⟨⟨_, rfl⟩, Below.refl _ _⟩
end Go.Proofs.YtpkpjkceiikakaaGreatDoor

namespace Go.Proofs.YtpkpjkceiikakaaGreatDoor
open Go.ChangeShapes Go.WideShapes Go.ChangeAt Go.RowKit

end Go.Proofs.YtpkpjkceiikakaaGreatDoor

namespace Go.Proofs.YtpkpjkceiikakaaGreatDoor
open Go.ChangeShapes Go.WideShapes Go.ChangeAt Go.RowKit

/-- The digits of a number, ahead of a text. -/
def mdig (k : Nat) (s : ByteArray) : ByteArray := if _h : k = 0 then s else mdig (k / 10) (⟨#[UInt8.ofNat (48 + k % 10)]⟩ ++ s)
termination_by k
theorem mdig_zero (s : ByteArray) : mdig 0 s = s := by unfold mdig; simp
theorem mdig_next {k : Nat} (s : ByteArray) (h : 0 < k) : mdig k s = mdig (k / 10) (⟨#[UInt8.ofNat (48 + k % 10)]⟩ ++ s) := by rw [mdig]; simp; omega
/-- The text that is the mark with a number. -/
def mtext (k : Nat) : ByteArray := if k = 0 then ⟨#[109, 48]⟩ else ⟨#[109]⟩ ++ mdig k ByteArray.empty

set_option maxRecDepth 100000 in
set_option maxHeartbeats 800000 in
theorem markText_is (k : Nat) (k1 : k ≤ 4000000) (w : World) :
    Calls Tryz.prog 24 #[.int .i64 (k : Int)] w fun e w' => e = .returned (.string (mtext k)) ∧ Below w.heap.size w w' := by
  by_cases hk : 0 < k
  · have d1 : decide ((k : Int) ≤ 0) = false := by simp; omega
    have T := Lib.hid (show mtext k = ⟨#[109]⟩ ++ mdig k ByteArray.empty from if_neg (by omega))
    go_enter Tryz.func24, Tryz.ntmps24
    go_wp2
    go_loopw [0, 3] (fun q o wr => ∃ (n : Nat) (s : ByteArray), q = .int .i64 (n : Int) ∧ o = .string s ∧ mdig n s = mdig k ByteArray.empty ∧ s.size + n ≤ 4000000 ∧ Below w.heap.size w wr) (fun q _ _ => (intOf q).toNat)
    case atStart => exact ⟨k, ByteArray.empty, rfl, rfl, rfl, by simpa using k1, Below.refl _ _⟩
    case round =>
      obtain ⟨n, s, rfl, rfl, hs, hn, hB⟩ := hrel
      have BB := Lib.hid hB
      have HN := Lib.hid hn
      clear d1 hB
      by_cases hnz : 0 < n
      · have d2 : decide (0 < (n : Int)) = true := by simp; omega
        have SS := Lib.hid ((mdig_next s hnz).symm.trans hs)
        clear hs
        obtain ⟨u, hu, hu2⟩ : ∃ u : UInt8, (u.toNat : Int) = 48 + (n : Int) % 10 ∧ UInt8.ofNat (48 + n % 10) = u := ⟨UInt8.ofNat (48 + n % 10), by rw [UInt8.toNat_ofNat']; omega, rfl⟩
        rw [hu2] at SS
        have v1 : (n : Int).tmod 10 = (n : Int) % 10 := Int.tmod_eq_emod_of_nonneg (by omega)
        have v2 : IntKind.i64.wrap ((n : Int) % 10) = (n : Int) % 10 := IntWalk.i64_in _ (by omega)
        have v3 : IntKind.i64.wrap (48 + (n : Int) % 10) = 48 + (n : Int) % 10 := IntWalk.i64_in _ (by omega)
        have v4 : IntKind.u8.wrap (48 + (n : Int) % 10) = (u.toNat : Int) := by rw [hu]; exact IntWalk.u8_in _ ⟨by omega, by omega⟩
        obtain ⟨m, hm⟩ : ∃ m : Nat, n / 10 = m := ⟨_, rfl⟩
        rw [hm] at SS
        have v7 : (n : Int) / 10 = (m : Int) := by omega
        have v5 : (n : Int).tdiv 10 = (m : Int) := by rw [Int.tdiv_eq_ediv_of_nonneg (by omega)]; omega
        have v6 : IntKind.i64.wrap (m : Int) = (m : Int) := IntWalk.i64_in _ (by omega)
        have MM := Lib.hid (show m < n by omega)
        have cv := conv_one wr u
        have sz : (ByteArray.mk #[u]).size = 1 := rfl
        have sl : ¬ 9223372036854775807 < 1 + s.size := by have := HN.out; omega
        clear hu hu2 hn k1 hk hm
        go_wp2
        exact ⟨⟨m, _, rfl, rfl, SS.out, by have := HN.out; have := MM.out; rw [ByteArray.size_append, sz]; omega, below_new BB.out _⟩, by have := MM.out; (simp [intOf]) <;> omega⟩
      · have hn0 : n = 0 := by omega
        subst hn0
        rw [mdig_zero] at hs
        have SS := Lib.hid hs
        clear hs
        have sl : ¬ 9223372036854775807 < 1 + s.size := by have := HN.out; omega
        go_wp2
        go_ret
        exact ⟨by rw [T.out, ← SS.out]; rfl, BB.out⟩
  · have hk0 : k = 0 := by omega
    subst hk0
    have T : mtext 0 = ⟨#[109, 48]⟩ := rfl
    rw [T]
    go_enter Tryz.func24, Tryz.ntmps24
    go_wp2
    go_ret
    exact ⟨rfl, Below.refl _ _⟩

/-- Cards as cells. -/
def flatC : List Cd → List Value
  | [] => []
  | c :: cs => .string c.s :: .int .u64 c.a :: .int .u64 c.b :: flatC cs
theorem flatC_len : ∀ cs : List Cd, (flatC cs).length = cs.length * 3
  | [] => rfl
  | c :: cs => by simp only [flatC, List.length_cons, flatC_len cs]; omega
theorem flatC_app : ∀ (cs ds : List Cd), flatC (cs ++ ds) = flatC cs ++ flatC ds
  | [], _ => rfl
  | c :: cs, ds => by simp only [flatC, List.cons_append, flatC_app cs ds]
theorem cdAt_succ (c : Cd) (cs : List Cd) (i : Nat) : cdAt (c :: cs) (i + 1) = cdAt cs i := rfl
theorem flatC_get : ∀ (cs : List Cd) (i : Nat), i < cs.length → (flatC cs)[i * 3]? = some (.string (cdAt cs i).s) ∧ (flatC cs)[i * 3 + 1]? = some (.int .u64 (cdAt cs i).a) ∧ (flatC cs)[i * 3 + 2]? = some (.int .u64 (cdAt cs i).b)
  | [], i, h => absurd h (Nat.not_lt_zero _)
  | c :: cs, 0, _ => ⟨rfl, rfl, rfl⟩
  | c :: cs, i + 1, h => by
    have := flatC_get cs i (by simpa using h)
    rw [show (i + 1) * 3 = i * 3 + 1 + 1 + 1 by omega]
    exact this
theorem flatC_set : ∀ (cs : List Cd) (i : Nat) (c : Cd), (((flatC cs).set (i * 3) (.string c.s)).set (i * 3 + 1) (.int .u64 c.a)).set (i * 3 + 2) (.int .u64 c.b) = flatC (cs.set i c)
  | [], i, c => rfl
  | d :: cs, 0, c => rfl
  | d :: cs, i + 1, c => by
    rw [show (i + 1) * 3 = i * 3 + 1 + 1 + 1 by omega]
    have := flatC_set cs i c
    simp only [flatC, List.set_cons_succ, this]
/-- Cards of the call's own. -/
def OwnCards (B : Nat) (cs : List Cd) (v : Value) (w : World) : Prop := w.ownsRow B 80 3 v cs.length (flatC cs)
/-- The cells of cards. -/
def CellsC (w : World) (a : Option Addr) (cs : List Cd) : Prop := ∀ i, i < cs.length → ∃ b off, a = some ⟨b, off, none⟩ ∧ b < w.heap.size ∧ w.cell? ⟨b, off + i * 3, none⟩ = some (.string (cdAt cs i).s) ∧ w.cell? ⟨b, off + i * 3 + 1, none⟩ = some (.int .u64 (cdAt cs i).a) ∧ w.cell? ⟨b, off + i * 3 + 2, none⟩ = some (.int .u64 (cdAt cs i).b)
theorem ownCards_in {B : Nat} {cs : List Cd} {v : Value} {w : World} (h : OwnCards B cs v w) : ∃ a c, v = .slice a cs.length c ∧ CellsC w a cs := by
  have h0 := h
  obtain ⟨_, h2⟩ := h
  rcases h2 with ⟨rfl, hn⟩ | ⟨g, cap, cur, rfl, hb, hg, _⟩
  · exact ⟨none, 0, by rw [hn], fun i hi => by omega⟩
  · refine ⟨_, cap, rfl, fun i hi => ⟨g, 0, rfl, (Array.getElem?_eq_some_iff.1 hg).1, ?_, ?_, ?_⟩⟩
    · rw [Nat.zero_add, World.ownsRow.cellAt h0 _ (by omega)]; exact (flatC_get cs i hi).1
    · rw [Nat.zero_add, World.ownsRow.cellAt h0 _ (by omega)]; exact (flatC_get cs i hi).2.1
    · rw [Nat.zero_add, World.ownsRow.cellAt h0 _ (by omega)]; exact (flatC_get cs i hi).2.2
theorem cellsC_below {w w' : World} {a : Option Addr} {cs : List Cd} (h : CellsC w a cs) (hb : Below w.heap.size w w') : CellsC w' a cs := fun i hi => by
  obtain ⟨b, off, ha, hlt, h0, h1, h2⟩ := h i hi
  exact ⟨b, off, ha, Nat.lt_of_lt_of_le hlt hb.size, (hb.cell hlt).trans h0, (hb.cell hlt).trans h1, (hb.cell hlt).trans h2⟩
theorem cardsIn_of {w : World} {a : Option Addr} {cs : List Cd} (h : CellsC w a cs) (hf : ∀ i, i < cs.length → (cdAt cs i).fits) : CardsIn w a cs := fun i hi => ⟨hf i hi, h i hi⟩
theorem ownCards_kept {B : Nat} {cs : List Cd} {v : Value} {w w' : World} (h : OwnCards B cs v w) (hb : Below w.heap.size w w') : OwnCards B cs v w' := ownsRow_below h hb
theorem ownCards_weaken {B B' : Nat} {cs : List Cd} {v : Value} {w : World} (h : OwnCards B cs v w) (hb : B' ≤ B) : OwnCards B' cs v w := by
  obtain ⟨h1, h2⟩ := h
  refine ⟨h1, ?_⟩
  rcases h2 with hn | ⟨g, cap, cur, rfl, hB, rest⟩
  · exact .inl hn
  · exact .inr ⟨g, cap, cur, rfl, Nat.le_trans hb hB, rest⟩
theorem ownCards_oth {B g : Nat} {cs : List Cd} {v : Value} {w w' : World} (h : OwnCards B cs v w) (hb : Oth g w w') (hg : g < B) : OwnCards B cs v w' := by
  obtain ⟨h1, h2⟩ := h
  refine ⟨h1, ?_⟩
  rcases h2 with hn | ⟨b, cap, cur, rfl, hB, hh, rest⟩
  · exact .inl hn
  · exact .inr ⟨b, cap, cur, rfl, hB, (hb.block b (by omega) (Array.getElem?_eq_some_iff.1 hh).1).trans hh, rest⟩

/-- The card that is written with the number q. -/
def mkC (q : Nat) : Cd := ⟨mtext q, (q : Int) + 1, (q : Int) + 1 + 1⟩
/-- The first j cards are marked, from k on. -/
def Marked (k j : Nat) (cs : List Cd) : Prop := ∀ l, l < j → cdAt cs l = mkC (k + 3 * l)
theorem marked_next {k j : Nat} {cs : List Cd} (h : Marked k j cs) (hj : j < cs.length) : Marked k (j + 1) (cs.set j (mkC (k + 3 * j))) := by
  intro l hl
  unfold cdAt
  rw [List.getD, List.getElem?_set]
  by_cases e : j = l
  · subst e; simp [hj]
  · rw [if_neg e]; exact h l (by omega)

end Go.Proofs.YtpkpjkceiikakaaGreatDoor

namespace Go.Proofs.YtpkpjkceiikakaaGreatDoor
open Go.ChangeShapes Go.WideShapes Go.ChangeAt Go.RowKit

end Go.Proofs.YtpkpjkceiikakaaGreatDoor

namespace Go.Proofs.YtpkpjkceiikakaaGreatDoor
open Go.ChangeShapes Go.WideShapes Go.ChangeAt Go.RowKit

/-- They as cells. -/
def fled : List Ed → List Value
  | [] => []
  | c :: xs => .int .i8 c.k :: .string c.s :: .int .i16 c.h :: .int .u64 c.a :: .int .u64 c.b :: fled xs
theorem fled_len : ∀ xs : List Ed, (fled xs).length = xs.length * 5
  | [] => rfl
  | c :: xs => by simp only [fled, List.length_cons, fled_len xs]; omega
theorem fled_app : ∀ (xs ys : List Ed), fled (xs ++ ys) = fled xs ++ fled ys
  | [], _ => rfl
  | c :: xs, ys => by simp only [fled, List.cons_append, fled_app xs ys]
theorem edAt_succ (c : Ed) (xs : List Ed) (i : Nat) : edAt (c :: xs) (i + 1) = edAt xs i := rfl
theorem fled_get : ∀ (xs : List Ed) (i : Nat), i < xs.length → (fled xs)[i * 5]? = some (.int .i8 (edAt xs i).k) ∧ (fled xs)[i * 5 + 1]? = some (.string (edAt xs i).s) ∧ (fled xs)[i * 5 + 2]? = some (.int .i16 (edAt xs i).h) ∧ (fled xs)[i * 5 + 3]? = some (.int .u64 (edAt xs i).a) ∧ (fled xs)[i * 5 + 4]? = some (.int .u64 (edAt xs i).b)
  | [], i, h => absurd h (Nat.not_lt_zero _)
  | c :: xs, 0, _ => ⟨rfl, rfl, rfl, rfl, rfl⟩
  | c :: xs, i + 1, h => by
    have := fled_get xs i (by simpa using h)
    rw [show (i + 1) * 5 = i * 5 + 1 + 1 + 1 + 1 + 1 by omega]
    exact this
theorem fled_set : ∀ (xs : List Ed) (i : Nat) (c : Ed), ((((((fled xs).set (i * 5) (.int .i8 c.k)).set (i * 5 + 1) (.string c.s)).set (i * 5 + 2) (.int .i16 c.h)).set (i * 5 + 3) (.int .u64 c.a)).set (i * 5 + 4) (.int .u64 c.b)) = fled (xs.set i c)
  | [], i, c => rfl
  | d :: xs, 0, c => rfl
  | d :: xs, i + 1, c => by
    rw [show (i + 1) * 5 = i * 5 + 1 + 1 + 1 + 1 + 1 by omega]
    have := fled_set xs i c
    simp only [fled, List.set_cons_succ, this]
def OwnEdits (B : Nat) (xs : List Ed) (v : Value) (w : World) : Prop := w.ownsRow B 53 5 v xs.length (fled xs)
def Cellsed (w : World) (a : Option Addr) (xs : List Ed) : Prop := ∀ i, i < xs.length → ∃ b off, a = some ⟨b, off, none⟩ ∧ b < w.heap.size ∧ w.cell? ⟨b, off + i * 5, none⟩ = some (.int .i8 (edAt xs i).k) ∧ w.cell? ⟨b, off + i * 5 + 1, none⟩ = some (.string (edAt xs i).s) ∧ w.cell? ⟨b, off + i * 5 + 2, none⟩ = some (.int .i16 (edAt xs i).h) ∧ w.cell? ⟨b, off + i * 5 + 3, none⟩ = some (.int .u64 (edAt xs i).a) ∧ w.cell? ⟨b, off + i * 5 + 4, none⟩ = some (.int .u64 (edAt xs i).b)
theorem ownEdits_in {B : Nat} {xs : List Ed} {v : Value} {w : World} (h : OwnEdits B xs v w) : ∃ a c, v = .slice a xs.length c ∧ Cellsed w a xs := by
  have h0 := h
  obtain ⟨_, h2⟩ := h
  rcases h2 with ⟨rfl, hn⟩ | ⟨g, cap, cur, rfl, hb, hg, _⟩
  · exact ⟨none, 0, by rw [hn], fun i hi => by omega⟩
  · refine ⟨_, cap, rfl, fun i hi => ⟨g, 0, rfl, (Array.getElem?_eq_some_iff.1 hg).1, ?_, ?_, ?_, ?_, ?_⟩⟩
    · rw [Nat.zero_add, World.ownsRow.cellAt h0 _ (by omega)]; exact (fled_get xs i hi).1
    · rw [Nat.zero_add, World.ownsRow.cellAt h0 _ (by omega)]; exact (fled_get xs i hi).2.1
    · rw [Nat.zero_add, World.ownsRow.cellAt h0 _ (by omega)]; exact (fled_get xs i hi).2.2.1
    · rw [Nat.zero_add, World.ownsRow.cellAt h0 _ (by omega)]; exact (fled_get xs i hi).2.2.2.1
    · rw [Nat.zero_add, World.ownsRow.cellAt h0 _ (by omega)]; exact (fled_get xs i hi).2.2.2.2
theorem cellsed_below {w w' : World} {a : Option Addr} {xs : List Ed} (h : Cellsed w a xs) (hb : Below w.heap.size w w') : Cellsed w' a xs := fun i hi => by
  obtain ⟨b, off, ha, hlt, h0, h1, h2, h3, h4⟩ := h i hi
  exact ⟨b, off, ha, Nat.lt_of_lt_of_le hlt hb.size, (hb.cell hlt).trans h0, (hb.cell hlt).trans h1, (hb.cell hlt).trans h2, (hb.cell hlt).trans h3, (hb.cell hlt).trans h4⟩
theorem editsIn_of {w : World} {a : Option Addr} {xs : List Ed} (h : Cellsed w a xs) (hf : ∀ i, i < xs.length → (edAt xs i).fits) : EditsIn w a xs := fun i hi => ⟨hf i hi, h i hi⟩
theorem ownEdits_kept {B : Nat} {xs : List Ed} {v : Value} {w w' : World} (h : OwnEdits B xs v w) (hb : Below w.heap.size w w') : OwnEdits B xs v w' := owned_below h hb
theorem ownEdits_weaken {B B' : Nat} {xs : List Ed} {v : Value} {w : World} (h : OwnEdits B xs v w) (hb : B' ≤ B) : OwnEdits B' xs v w := by
  obtain ⟨h1, h2⟩ := h
  refine ⟨h1, ?_⟩
  rcases h2 with hn | ⟨g, cap, cur, rfl, hB, rest⟩
  · exact .inl hn
  · exact .inr ⟨g, cap, cur, rfl, Nat.le_trans hb hB, rest⟩
theorem ownEdits_oth {B g : Nat} {xs : List Ed} {v : Value} {w w' : World} (h : OwnEdits B xs v w) (hb : Oth g w w') (hg : g < B) : OwnEdits B xs v w' := by
  obtain ⟨h1, h2⟩ := h
  refine ⟨h1, ?_⟩
  rcases h2 with hn | ⟨b, cap, cur, rfl, hB, hh, rest⟩
  · exact .inl hn
  · exact .inr ⟨b, cap, cur, rfl, hB, (hb.block b (by omega) (Array.getElem?_eq_some_iff.1 hh).1).trans hh, rest⟩
theorem ownEdits_nil (w : World) (B : Nat) : OwnEdits B [] (.slice none 0 0) w := World.ownsRow_nil w B _ 5
theorem ownEdits_made {w : World} {m B : Nat} (hn : m = w.heap.size) (hB : B ≤ w.heap.size) : OwnEdits B [] (.slice (some ⟨m, 0, none⟩) 0 0) (w.alloc (.cells #[] 53)) := by
  subst hn; exact World.ownsRow_made w #[] 0 hB (Nat.zero_le _) rfl
theorem ownEdits_lt {B : Nat} {xs : List Ed} {v : Value} {w : World} (h : OwnEdits B xs v w) : ∀ j, v.ownBlock = some j → B ≤ j := fun j hj => (World.ownsRow.lt h j hj).1
theorem ownEdits_push {B : Nat} {xs : List Ed} {k : Int} {s : ByteArray} {hh : Int} {a : Int} {b : Int} {v : Value} {w : World} (h : w.ownsRow B 53 5 v (xs.length + 1) (fled xs ++ [.int .i8 k, .string s, .int .i16 hh, .int .u64 a, .int .u64 b])) : OwnEdits B (xs ++ [⟨k, s, hh, a, b⟩]) v w := by
  unfold OwnEdits; rw [fled_app, List.length_append]; exact h
theorem edits_cells {w : World} {g : Nat} {xs : List Ed} (h : EditsIn w (some ⟨g, 0, none⟩) xs) (hf : ∀ j, w.frozen? ⟨g, j, none⟩ = false) : Wb w g (xs.length * 5) := by
  refine ⟨fun j hj => ?_, fun j _ => hf j⟩
  obtain ⟨_, b, o, he, _, h0, h1, h2, h3, h4⟩ := h (j / 5) (by omega)
  cases he
  rcases (show j % 5 = 0 ∨ j % 5 = 1 ∨ j % 5 = 2 ∨ j % 5 = 3 ∨ j % 5 = 4 by omega) with e | e | e | e | e
  · exact ⟨_, by rw [show (⟨g, j, none⟩ : Addr) = ⟨g, 0 + j / 5 * 5, none⟩ from by congr 1; omega]; exact h0⟩
  · exact ⟨_, by rw [show (⟨g, j, none⟩ : Addr) = ⟨g, 0 + j / 5 * 5 + 1, none⟩ from by congr 1; omega]; exact h1⟩
  · exact ⟨_, by rw [show (⟨g, j, none⟩ : Addr) = ⟨g, 0 + j / 5 * 5 + 2, none⟩ from by congr 1; omega]; exact h2⟩
  · exact ⟨_, by rw [show (⟨g, j, none⟩ : Addr) = ⟨g, 0 + j / 5 * 5 + 3, none⟩ from by congr 1; omega]; exact h3⟩
  · exact ⟨_, by rw [show (⟨g, j, none⟩ : Addr) = ⟨g, 0 + j / 5 * 5 + 4, none⟩ from by congr 1; omega]; exact h4⟩

end Go.Proofs.YtpkpjkceiikakaaGreatDoor

namespace Go.Proofs.YtpkpjkceiikakaaGreatDoor
open Go.ChangeShapes Go.WideShapes Go.ChangeAt Go.RowKit

/-- Are the first n valid. -/
def edTil (cs : List Ed) : Nat → Bool
  | 0 => true
  | n + 1 => edTil cs n && edOk (edAt cs n)
theorem edTil_no {cs : List Ed} {j : Nat} (h : edOk (edAt cs j) = false) : ∀ n, j < n → edTil cs n = false
  | 0, hj => absurd hj (Nat.not_lt_zero _)
  | n + 1, hj => by
    unfold edTil
    by_cases e : j = n
    · subst e; rw [h, Bool.and_false]
    · rw [edTil_no h n (by omega), Bool.false_and]
theorem edTil_next {cs : List Ed} {j : Nat} (h : edTil cs j = true) (k : edOk (edAt cs j) = true) : edTil cs (j + 1) = true := by unfold edTil; rw [h, k]; rfl
theorem edTil_at {cs : List Ed} : ∀ {n j : Nat}, edTil cs n = true → j < n → edOk (edAt cs j) = true
  | 0, _, _, hj => absurd hj (Nat.not_lt_zero _)
  | n + 1, j, h, hj => by
    unfold edTil at h
    rw [Bool.and_eq_true] at h
    by_cases e : j = n
    · subst e; exact h.2
    · exact edTil_at h.1 (by omega)
/-- The code of what is wrong with several edits. -/
def edsC (cs : List Ed) : Int := if edTil cs cs.length then (if cs.length ≤ 200 then 0 else 3) else 1
theorem edsC_1 {cs : List Ed} (h : edTil cs cs.length = false) : edsC cs = 1 := by unfold edsC; rw [h]; rfl
theorem edsC_3 {cs : List Ed} (h : edTil cs cs.length = true) (k : ¬ cs.length ≤ 200) : edsC cs = 3 := by unfold edsC; rw [if_pos h, if_neg k]
theorem edsC_0 {cs : List Ed} (h : edTil cs cs.length = true) (k : cs.length ≤ 200) : edsC cs = 0 := by unfold edsC; rw [if_pos h, if_pos k]

set_option maxRecDepth 100000 in
set_option maxHeartbeats 3200000 in
theorem iChk_any (ad : Option Addr) (cs : List Ed) (c : Nat) (w : World) (hc : EditsIn w ad cs) (hn : cs.length ≤ 1048576) :
    Calls Tryz.prog 56 #[.slice ad cs.length c] w fun e w' => e = .returned (.int .i64 (edsC cs)) ∧ Below w.heap.size w w' := by
  have C := Lib.hid hc
  clear hc
  go_enter Tryz.func56, Tryz.ntmps56
  go_wp2
  go_loopw [7] (fun i wr => ∃ j : Nat, j ≤ cs.length ∧ i = .int .i64 j ∧ edTil cs j = true ∧ Below w.heap.size w wr) (fun i _ => cs.length - (intOf i).toNat)
  case atStart => exact ⟨0, Nat.zero_le _, rfl, rfl, Below.refl _ _⟩
  case round =>
    obtain ⟨j, hj, rfl, hT, hB⟩ := hrel
    have BB := Lib.hid hB
    have TT := Lib.hid hT
    clear hT
    by_cases hjl : j < cs.length
    · have hd : decide ((j : Int) < (cs.length : Int)) = true := by simpa using hjl
      obtain ⟨hf, b1, o1, rfl, hb1, p0, p1, p2, p3, p4⟩ := C.out j hjl
      have d0 := (hB.cell (p := ⟨b1, o1 + j * 5, none⟩) hb1).trans p0
      have d1 := (hB.cell (p := ⟨b1, o1 + j * 5 + 1, none⟩) hb1).trans p1
      have d2 := (hB.cell (p := ⟨b1, o1 + j * 5 + 2, none⟩) hb1).trans p2
      have d3 := (hB.cell (p := ⟨b1, o1 + j * 5 + 3, none⟩) hb1).trans p3
      have d4 := (hB.cell (p := ⟨b1, o1 + j * 5 + 4, none⟩) hb1).trans p4
      have i1 : (0 : Int) ≤ (j : Int) := by omega
      have i2 : (j : Int) < (cs.length : Int) := by omega
      have K := fun W => iValid_any (edAt cs j) hf W
      have NO := Lib.hid fun h => edTil_no (cs := cs) (j := j) h cs.length hjl
      have YE := Lib.hid fun h => edTil_next TT.out (j := j) h
      have AA := Lib.hid (show Ab wr (wr.alloc (.cells #[.int .i8 (edAt cs j).k, .string (edAt cs j).s, .int .i16 (edAt cs j).h, .int .u64 (edAt cs j).a, .int .u64 (edAt cs j).b] 53)) from below_new (Below.refl _ _) _)
      clear hB p0 p1 p2 p3 p4 hf
      cases hk : edOk (edAt cs j)
      · rw [hk] at K
        have K := Lib.hid K
        have N := Lib.hid (edsC_1 (NO.out hk))
        clear hk YE NO
        generalize edAt cs j = x at *
        obtain ⟨k, s, h, a, b⟩ := x
        simp only at d0 d1 d2 d3 d4 K AA
        go_wp2_with (go_at_call 55; refine (K.out _).mono ?_; rintro e w3 ⟨rfl, hB3⟩; have B3 := Lib.hid (BB.out.trans (Below.mono (AA.out.trans hB3) BB.out.size)); clear hB3)
        go_returns
        exact ⟨by rw [N.out]; rfl, B3.out⟩
      · rw [hk] at K
        have K := Lib.hid K
        have Y := Lib.hid (YE.out hk)
        clear hk YE NO
        generalize edAt cs j = x at *
        obtain ⟨k, s, h, a, b⟩ := x
        simp only at d0 d1 d2 d3 d4 K AA
        go_wp2_with (go_at_call 55; refine (K.out _).mono ?_; rintro e w3 ⟨rfl, hB3⟩; have B3 := Lib.hid (BB.out.trans (Below.mono (AA.out.trans hB3) BB.out.size)); clear hB3)
        exact ⟨⟨j + 1, hjl, by rw [Int.natCast_succ], Y.out, B3.out⟩, by (simp [intOf]) <;> omega⟩
    · have e : j = cs.length := by omega
      subst e
      have hd : decide ((cs.length : Int) < (cs.length : Int)) = false := by simp
      clear hB
      by_cases hl : cs.length ≤ 200
      · have E0 := Lib.hid (edsC_0 TT.out hl)
        have dl : decide ((200 : Int) < (cs.length : Int)) = false := by simp; omega
        go_wp2
        go_returns
        exact ⟨by rw [E0.out]; rfl, BB.out⟩
      · have E0 := Lib.hid (edsC_3 TT.out hl)
        have dl : decide ((200 : Int) < (cs.length : Int)) = true := by simp; omega
        go_wp2
        go_returns
        exact ⟨by rw [E0.out]; rfl, BB.out⟩

end Go.Proofs.YtpkpjkceiikakaaGreatDoor
