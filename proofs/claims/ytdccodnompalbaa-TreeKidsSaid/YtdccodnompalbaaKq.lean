/- A program of some of a right program's items: it is good to be asked, and right. No conditions beyond those that each statement names. -/
import Derived.Test.YtdccodnompalbaaRg
namespace Go.Proofs.Ytdccodnompalbaa
open Go.RowKit

theorem maxN_most {f : Nat → Nat} {k : Nat} : ∀ {n : Nat}, (∀ i, i < n → f i ≤ k) → maxN f n ≤ k
  | 0, _ => Nat.zero_le _
  | n + 1, h => by
    have := maxN_most (n := n) fun i hi => h i (by omega)
    have := h n (by omega)
    simp only [maxN]
    omega
theorem prog_good {W W' : World} {A : NT} (G : Good W' A) {b m c : Nat} {p : Option Addr} {V : Nat → NT} (hrow : W.ownsRow b 24 5 (.slice p m c) m (flatV V m)) (hV : ∀ j, j < m → ∃ i, i < A.len ∧ V j = A.kid i)
    (hL : ∀ i, i < A.len → Lies W.heap.size W (A.kid i)) (hm : m ≤ A.len + 1) (hs : (NT.mk 1 ⟨#[]⟩ 0 (.slice p m c) m V 0).size ≤ 1000000) : Good W (.mk 1 ⟨#[]⟩ 0 (.slice p m c) m V 0) := by
  have hl := len_le_size A
  have g2 := G.size
  refine ⟨prog_lies hrow fun j hj => ?_, ⟨(NT.sized_eq _ _).2 ⟨Nat.zero_le _, ?_, fun j hj => ?_⟩, (NT.short_eq _ _).2 ⟨Nat.zero_le _, fun j hj => ?_⟩⟩, ?_, hs⟩
  · obtain ⟨i, hi, e⟩ := hV j hj
    rw [e]; exact hL i hi
  · show m ≤ maxLen
    exact Nat.le_trans (show m ≤ 1000001 by omega) (by decide)
  · obtain ⟨i, hi, e⟩ := hV j hj
    show (V j).sized maxLen
    rw [e]; exact (NT.ok_kid G.ok hi).1
  · obtain ⟨i, hi, e⟩ := hV j hj
    show (V j).short _
    rw [e]; exact (NT.ok_kid G.ok hi).2
  · have hd : maxN (fun i => (V i).depth) m ≤ maxN (fun i => (A.kid i).depth) A.len := maxN_most fun j hj => by
      obtain ⟨i, hi, e⟩ := hV j hj
      rw [e]; exact maxN_le (f := fun i => (A.kid i).depth) hi
    have h1 := NT.depth_eq A
    have h2 : (NT.mk 1 ⟨#[]⟩ 0 (.slice p m c) m V 0).depth = maxN (fun i => (V i).depth) m + 1 := NT.depth_eq _
    have h3 := G.depth
    omega
theorem less_at {kid : Nat → NT} {n ii : Nat} (h : ii < n) : ∀ j, j < n - 1 → ∃ i, i < n ∧ lessK kid ii j = kid i := fun j hj => by
  unfold lessK
  by_cases e : j < ii
  · exact ⟨j, by omega, if_pos e⟩
  · exact ⟨j + 1, by omega, if_neg e⟩
theorem more_at {kid : Nat → NT} {n ii : Nat} (h : ii < n) : ∀ j, j < n + 1 → ∃ i, i < n ∧ moreK kid n ii j = kid i := fun j hj => by
  unfold moreK
  by_cases e : j < n
  · exact ⟨j, e, if_pos e⟩
  · exact ⟨ii, h, if_neg e⟩
theorem less_size (A : NT) (s : Value) {ii : Nat} (h : ii < A.len) : (NT.mk 1 ⟨#[]⟩ 0 s (A.len - 1) (lessK A.kid ii) 0).size ≤ A.size := by
  have h1 : (NT.mk 1 ⟨#[]⟩ 0 s (A.len - 1) (lessK A.kid ii) 0).size = 1 + sumN (fun j => (lessK A.kid ii j).size) (A.len - 1) := NT.size_eq _
  have h2 := NT.size_eq A
  have h3 := sum_less (fun i => (A.kid i).size) ii (A.len - 1) (by omega)
  rw [show A.len - 1 + 1 = A.len by omega] at h3
  have h4 : sumN (fun j => (lessK A.kid ii j).size) (A.len - 1) = sumN (fun j => if j < ii then (A.kid j).size else (A.kid (j + 1)).size) (A.len - 1) := sumN_congr fun j _ => by
    unfold lessK
    split <;> rfl
  rw [h4] at h1
  omega
theorem more_size (A : NT) (s : Value) {ii : Nat} (h : ii < A.len) : (NT.mk 1 ⟨#[]⟩ 0 s (A.len + 1) (moreK A.kid A.len ii) 0).size ≤ 2 * A.size := by
  have h1 : (NT.mk 1 ⟨#[]⟩ 0 s (A.len + 1) (moreK A.kid A.len ii) 0).size = 1 + sumN (fun j => (moreK A.kid A.len ii j).size) (A.len + 1) := NT.size_eq _
  have h2 := NT.size_eq A
  have h4 : sumN (fun j => (moreK A.kid A.len ii j).size) A.len = sumN (fun j => (A.kid j).size) A.len := sumN_congr fun j hj => by simp [moreK, hj]
  have h5 : (A.kid ii).size ≤ sumN (fun i => (A.kid i).size) A.len := sumN_le (f := fun i => (A.kid i).size) h
  simp only [sumN] at h1
  rw [h4] at h1
  have h6 : (moreK A.kid A.len ii A.len).size = (A.kid ii).size := by simp [moreK]
  omega
/-- What is asked of the program without an item. -/
theorem less_any {W W' : World} {A : NT} (G : Good W' A) (hr : (rightM A).1 = 0) {b c ii : Nat} {p : Option Addr} (hrow : W.ownsRow b 24 5 (.slice p (A.len - 1) c) (A.len - 1) (flatV (lessK A.kid ii) (A.len - 1))) (hii : ii < A.len)
    (hL : ∀ i, i < A.len → Lies W.heap.size W (A.kid i)) (hm : MaxOk W) :
    Calls Try.prog 13 #[.agg #[.int .i64 1, .string ⟨#[]⟩, .int .i64 0, .slice p (A.len - 1) c, .int .i64 0]] W fun e w' => ∃ r : Int, e = .returned (.agg #[.int .i64 0, .int .i64 r]) ∧ Below W.heap.size W w' := by
  have h20 := (item_of hr).2.1
  have hs := less_size A (.slice p (A.len - 1) c) hii
  have hG := prog_good G hrow (less_at hii) hL (by omega) (by omega)
  have hz := right_some hr (.slice p (A.len - 1) c) (A.len - 1) (lessK A.kid ii) (less_at hii) (by omega)
  refine (right_any _ W hG hm).mono fun e w' h => ⟨(rightM (.mk 1 ⟨#[]⟩ 0 (.slice p (A.len - 1) c) (A.len - 1) (lessK A.kid ii) 0)).2, ?_, h.2⟩
  rw [h.1, hz]
/-- .. and of the one with an item twice. -/
theorem more_any {W W' : World} {A : NT} (G : Good W' A) (hr : (rightM A).1 = 0) {b c ii : Nat} {p : Option Addr} (hrow : W.ownsRow b 24 5 (.slice p (A.len + 1) c) (A.len + 1) (flatV (moreK A.kid A.len ii) (A.len + 1))) (hii : ii < A.len)
    (hL : ∀ i, i < A.len → Lies W.heap.size W (A.kid i)) : ∃ z : Nat, z ≤ 1000000 ∧ ∀ W2, Below W.heap.size W W2 → MaxOk W2 →
    Calls Try.prog 23 #[.agg #[.int .i64 1, .string ⟨#[]⟩, .int .i64 0, .slice p (A.len + 1) c, .int .i64 0]] W2 (fun e w' => e = .returned (.int .i64 (z : Int)) ∧ Below W2.heap.size W2 w') ∧
    (z ≤ 20000 → Calls Try.prog 13 #[.agg #[.int .i64 1, .string ⟨#[]⟩, .int .i64 0, .slice p (A.len + 1) c, .int .i64 0]] W2 fun e w' => ∃ r : Int, e = .returned (.agg #[.int .i64 0, .int .i64 r]) ∧ Below W2.heap.size W2 w') := by
  have h20 := (item_of hr).2.1
  have hs := more_size A (.slice p (A.len + 1) c) hii
  refine ⟨_, show (NT.mk 1 ⟨#[]⟩ 0 (.slice p (A.len + 1) c) (A.len + 1) (moreK A.kid A.len ii) 0).size ≤ 1000000 by omega, fun W2 hb hm => ?_⟩
  have hG := (prog_good G hrow (more_at hii) hL (by omega) (by omega)).below hb
  refine ⟨size_any _ W2 hG, fun hz => ?_⟩
  have hz := right_some hr (.slice p (A.len + 1) c) (A.len + 1) (moreK A.kid A.len ii) (more_at hii) hz
  refine (right_any _ W2 hG hm).mono fun e w' h => ⟨(rightM (.mk 1 ⟨#[]⟩ 0 (.slice p (A.len + 1) c) (A.len + 1) (moreK A.kid A.len ii) 0)).2, ?_, h.2⟩
  rw [h.1, hz]
end Go.Proofs.Ytdccodnompalbaa
