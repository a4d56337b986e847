/- Several texts in one, as a claim has at most 60 files: LnF HolesOf. -/
import Derived.Test.YtnbijfeidgddmaaGreatDoorRsZ1
import Derived.Test.YtnbijfeidgddmaaGreatDoorRcIC
import Derived.Test.YtnbijfeidgddmaaGreatDoorVFiC
import Derived.Test.YtnbijfeidgddmaaGreatDoorVFsC
namespace Go.Proofs.YtnbijfeidgddmaaGreatDoor
open Go.ChangeShapes Go.WideShapes Go.ChangeAt Go.RowKit

theorem new3K (w : World) (x0 x1 x2 : Value) (t : TypeId) : ∀ j u, [x0, x1, x2][j]? = some u → (w.alloc (.cells #[x0, x1, x2] t)).cell? ((⟨w.heap.size, 0, none⟩ : Addr).add j) = some u := by
  intro j u h
  match j, h with
  | 0, h => simp at h; subst h; simp [Addr.add]
  | 1, h => simp at h; subst h; simp [Addr.add]
  | 2, h => simp at h; subst h; simp [Addr.add]

theorem lnB_len : ∀ l acc : List UInt8, (lnB acc l).length ≤ acc.length + l.length
  | [], acc => by
    rw [lnB]
    split
    · simp
    · rename_i h
      have : 0 < acc.length := List.length_pos_iff.2 h
      first | (simp; done) | (simp; omega)
  | x :: xs, acc => by
    rw [lnB]
    split
    · have := lnB_len xs []
      simp at this ⊢; omega
    · have := lnB_len xs (acc ++ [x])
      simp at this ⊢; omega

theorem lnB_fit : ∀ l acc : List UInt8, ∀ p ∈ lnB acc l, p.length ≤ acc.length + l.length
  | [], acc, p, hp => by
    rw [lnB] at hp
    split at hp
    · cases hp
    · rw [List.mem_singleton.1 hp]; simp
  | x :: xs, acc, p, hp => by
    rw [lnB] at hp
    split at hp
    · rcases List.mem_cons.1 hp with rfl | hp
      · first | (simp; done) | (simp; omega)
      · have := lnB_fit xs [] p hp
        simp at this ⊢; omega
    · have := lnB_fit xs (acc ++ [x]) p hp
      simp at this ⊢; omega

theorem lns_len (s : ByteArray) : (lns s).length ≤ s.size := by
  have := lnB_len s.data.toList []
  unfold lns
  rw [List.length_map]
  simpa using this

theorem lns_fit {s p : ByteArray} (h : p ∈ lns s) : p.size ≤ s.size := by
  unfold lns at h
  obtain ⟨l, hl, rfl⟩ := List.mem_map.1 h
  have := lnB_fit s.data.toList [] l hl
  rw [show (mkS l).size = l.length from List.size_toArray]
  simpa using this

theorem trimB_le (s : ByteArray) : (trimB s).size ≤ s.size := by
  unfold trimB trimL Lib.trimSuffix
  rw [show ∀ l, (mkS l).size = l.length from fun l => List.size_toArray]
  have : s.data.toList.length = s.size := Array.length_toList
  split
  · rw [List.length_take]; omega
  · omega

theorem new3N (w : World) (n : Nat) (hn : n = w.heap.size) (x0 x1 x2 : Value) (t : TypeId) : ∀ j u, [x0, x1, x2][j]? = some u → (w.alloc (.cells #[x0, x1, x2] t)).cell? ((⟨n, 0, none⟩ : Addr).add j) = some u := by
  subst hn
  exact new3K w x0 x1 x2 t
theorem iReadCard_no (s : ByteArray) (hs : s.size ≤ 1048576) (h : rcG fI s = none) (w : World) (hP : PE w) :
    Calls Tryz.prog 51 #[.string s] w fun e w' => e = .returned (.tuple #[.agg #[.string ⟨#[]⟩, .int .u64 0, .int .u64 0], .int .i64 5]) ∧ Below w.heap.size w w' := by
  have c := iReadCard_any s hs w hP
  rw [h] at c
  exact c

theorem iReadCard_yes (s : ByteArray) (hs : s.size ≤ 1048576) (nm : ByteArray) (a b : Int) (h : rcG fI s = some (nm, a, b)) (w : World) (hP : PE w) :
    Calls Tryz.prog 51 #[.string s] w fun e w' => e = .returned (.tuple #[.agg #[.string nm, .int .u64 a, .int .u64 b], .int .i64 0]) ∧ Below w.heap.size w w' := by
  have c := iReadCard_any s hs w hP
  rw [h] at c
  exact c

theorem block_four (w : World) (o p q r : Obj) : ((((w.alloc o).alloc p).alloc q).alloc r).heap[w.heap.size]? = some o ∧ ((((w.alloc o).alloc p).alloc q).alloc r).heap[w.heap.size + 1]? = some p ∧ ((((w.alloc o).alloc p).alloc q).alloc r).heap[w.heap.size + 1 + 1]? = some q ∧ ((((w.alloc o).alloc p).alloc q).alloc r).heap[w.heap.size + 1 + 1 + 1]? = some r := by
  have s1 : (w.alloc o).heap.size = w.heap.size + 1 := by simp
  have s2 : ((w.alloc o).alloc p).heap.size = w.heap.size + 1 + 1 := by simp
  have s3 : (((w.alloc o).alloc p).alloc q).heap.size = w.heap.size + 1 + 1 + 1 := by simp
  have a3 : ∀ k, k < w.heap.size + 1 + 1 + 1 → ((((w.alloc o).alloc p).alloc q).alloc r).heap[k]? = (((w.alloc o).alloc p).alloc q).heap[k]? := fun k hk => Below.heap_alloc _ _ _ (by rw [s3]; exact hk)
  have a2 : ∀ k, k < w.heap.size + 1 + 1 → (((w.alloc o).alloc p).alloc q).heap[k]? = ((w.alloc o).alloc p).heap[k]? := fun k hk => Below.heap_alloc _ _ _ (by rw [s2]; exact hk)
  have a1 : ∀ k, k < w.heap.size + 1 → ((w.alloc o).alloc p).heap[k]? = (w.alloc o).heap[k]? := fun k hk => Below.heap_alloc _ _ _ (by rw [s1]; exact hk)
  refine ⟨?_, ?_, ?_, ?_⟩
  · rw [a3 _ (by omega), a2 _ (by omega), a1 _ (by omega)]; exact block_alloc _ _
  · rw [a3 _ (by omega), a2 _ (by omega), ← s1]; exact block_alloc _ _
  · rw [a3 _ (by omega), ← s2]; exact block_alloc _ _
  · rw [← s3]; exact block_alloc _ _

end Go.Proofs.YtnbijfeidgddmaaGreatDoor

namespace Go.Proofs.YtnbijfeidgddmaaGreatDoor
open Go.ChangeShapes Go.WideShapes Go.ChangeAt Go.RowKit

def fC (b : Bool) : Int := if b then 0 else 1
def holV (s : ByteArray) (k st sz : Int) : Int := if fieldOk s k st sz then widthZ k sz else 0
theorem field_inv {s : ByteArray} {k st sz : Int} (h : fieldOk s k st sz = true) : nameOk s = true ∧ 0 ≤ k ∧ k ≤ 3 ∧ 0 ≤ st ∧ 1 ≤ sz ∧ sz ≤ mostZ k ∧ st + widthZ k sz ≤ 96 := by
  unfold fieldOk at h
  rw [Bool.and_eq_true] at h
  exact ⟨h.1, of_decide_eq_true h.2⟩
theorem ret_two (x c : Int) {y d : Int} (hx : y = x) (hc : d = c) : Ending.returned (.tuple #[.int .i64 x, .int .i64 c]) = Ending.returned (.tuple #[.int .i64 y, .int .i64 d]) := by rw [hx, hc]
theorem holV_no {s : ByteArray} {k st sz : Int} (h : fieldOk s k st sz = false) : holV s k st sz = 0 ∧ fC (fieldOk s k st sz) = 1 := by unfold holV fC; rw [h]; exact ⟨rfl, rfl⟩
theorem holV_yes {s : ByteArray} {k st sz : Int} (h : fieldOk s k st sz = true) : holV s k st sz = widthZ k sz ∧ fC (fieldOk s k st sz) = 0 := by unfold holV fC; rw [h]; exact ⟨rfl, rfl⟩



end Go.Proofs.YtnbijfeidgddmaaGreatDoor
