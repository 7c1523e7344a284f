/- The document's shapes and the program's are one: of no program. No conditions beyond those that each statement names. -/
import Derived.Test.YtdccodnompalbaaMy
import Derived.Test.YtdccodnompalbaaD5
namespace Go.Proofs.Ytdccodnompalbaa

/-- A sort and a place ask the same of a kind. -/
def Eqv (s w : Int) : Prop := ∀ x : Int, isOfM x s = standsM x w
theorem cls {x : Int} : isOneM x 1 = (classM x == 1) ∧ isOneM x 2 = (classM x == 2) ∧ isOneM x 3 = (classM x == 3) ∧ isOneM x 4 = (classM x == 4) ∧ isOneM x 5 = (classM x == 5) := by
  refine ⟨?_, ?_, ?_, ?_, ?_⟩ <;>
  · rw [Bool.eq_iff_iff]
    simp [isOneM, classM]
    (repeat' split) <;> omega
theorem eqv100 : Eqv 100 1 := fun x => by simpa [isOfM, standsM] using (cls (x := x)).1
theorem eqv101 : Eqv 101 2 := fun x => by simpa [isOfM, standsM] using (cls (x := x)).2.1
theorem eqv102 : Eqv 102 7 := fun x => by simpa [isOfM, standsM] using congrArg (fun b => (x == 0 || b)) (cls (x := x)).2.1
theorem eqv103 : Eqv 103 3 := fun x => by simpa [isOfM, standsM] using (cls (x := x)).2.2.1
theorem eqv104 : Eqv 104 4 := fun x => by simpa [isOfM, standsM] using (cls (x := x)).2.2.2.1
theorem eqv105 : Eqv 105 6 := fun x => by simpa [isOfM, standsM] using congrArg (fun b => (x == 0 || b)) (cls (x := x)).2.2.2.1
theorem eqv106 : Eqv 106 8 := fun x => by simp [isOfM, standsM]
theorem eqv107 : Eqv 107 5 := fun x => by simpa [isOfM, standsM] using (cls (x := x)).2.2.2.2
theorem eqvN (s : Int) (h : s ≠ 0 ∧ s < 100 ∧ 10 ≤ s + 10 ∧ s + 10 ≠ 5000 ∧ s + 10 ≠ 5001 ∧ s + 10 ≠ 5002) : Eqv s (s + 10) := fun x => by
  obtain ⟨h0, h1, h2, h3, h4, h5⟩ := h
  have : ¬ s + 10 < 6 := by omega
  simp only [isOfM, standsM, h0, h3, h4, h5, this, if_false, or_false]
  rw [if_neg (by omega), if_neg (by omega), if_neg (by omega), if_neg (by omega), if_neg (by omega), if_neg (by omega), if_neg (by omega), if_neg (by omega), if_neg (by omega), if_neg (by omega), if_neg (by omega), if_neg (by omega)]
  congr 1; omega
theorem eqv5a : Eqv 5 9 := fun x => by simp [isOfM, standsM]
theorem eqv5b : Eqv 5 5000 := fun x => by simp [isOfM, standsM]
theorem eqv6a : Eqv 6 5001 := fun x => by simp [isOfM, standsM]
theorem eqv6b : Eqv 6 5002 := fun x => by simp [isOfM, standsM]

/-- Pair by pair. -/
def EqvL : List Int → List Int → Prop
  | [], [] => True
  | s :: f, w :: g => Eqv s w ∧ EqvL f g
  | _, _ => False
theorem EqvL.len : ∀ {f g : List Int}, EqvL f g → f.length = g.length
  | [], [], _ => rfl
  | [], _ :: _, h => h.elim
  | _ :: _, [], h => h.elim
  | _ :: f, _ :: g, h => by simp only [List.length_cons, EqvL.len h.2]
theorem EqvL.at : ∀ {f g : List Int} (_ : EqvL f g) (i : Nat) (hf : i < f.length) (hg : i < g.length), Eqv f[i] g[i]
  | s :: f, w :: g, h, 0, _, _ => h.1
  | s :: f, w :: g, h, i + 1, hf, hg => EqvL.at h.2 i (by simpa using hf) (by simpa using hg)
  | [], _, _, _, hf, _ => absurd hf (Nat.not_lt_zero _)
  | _ :: _, [], h, _, _, _ => h.elim

theorem allN_congr {f g : Nat → Bool} : ∀ {n : Nat}, (∀ i, i < n → f i = g i) → allN f n = allN g n
  | 0, _ => rfl
  | n + 1, h => by simp only [allN]; rw [allN_congr fun i hi => h i (by omega), h n (by omega)]

theorem fit_plain (f g : List Int) (rest more : Int) (h : EqvL f g) (hr : (rest = 0 ∧ more = 0) ∨ (0 < more ∧ Eqv rest more)) (len : Nat) (ks : Nat → Int) :
    fitM (f, rest, 0) len ks = ((decide (g.length ≤ len) && (decide (0 < more) || len == g.length)) && allN (fun i => standsM (ks i) (if h : i < g.length then g[i] else more)) len) := by
  have hl := h.len
  have hb : behindM (f, rest, 0) len = len := by simp [behindM]
  rw [fitM, hb]
  by_cases h1 : (len : Int) < (f.length : Int)
  · rw [if_pos h1, show decide (g.length ≤ len) = false by simp; omega]; rfl
  · rw [if_neg h1, show decide (g.length ≤ len) = true by simp; omega, Bool.true_and]
    rcases hr with ⟨rfl, rfl⟩ | ⟨hm, he⟩
    · by_cases h2 : len = g.length
      · rw [show (decide ((0 : Int) < 0) || len == g.length) = true by simp [h2], Bool.true_and]
        refine allN_congr fun i hi => ?_
        have hf : i < f.length := by omega
        have hg : i < g.length := by omega
        simp only [sortM, hf, hg, dif_pos]
        exact h.at i hf hg (ks i)
      · rw [show (decide ((0 : Int) < 0) || len == g.length) = false by simp [h2], Bool.false_and]
        have hlt : f.length < len := by omega
        refine allN_false hlt ?_
        simp only [sortM, show ¬ f.length < f.length by omega, dif_neg, not_false_iff]
        rw [if_neg (by rw [hb]; omega)]
        simp [isOfM]
    · rw [show (decide (0 < more) || len == g.length) = true by simp [hm], Bool.true_and]
      refine allN_congr fun i hi => ?_
      by_cases hf : i < f.length
      · have hg : i < g.length := by omega
        simp only [sortM, hf, hg, dif_pos]
        exact h.at i hf hg (ks i)
      · have hg : ¬ i < g.length := by omega
        simp only [sortM, hf, hg, dif_neg, not_false_iff]
        rw [if_neg (by rw [hb]; omega)]
        exact he (ks i)
theorem fit_block (len : Nat) (ks : Nat → Int) : fitM ([], 103, 105) len ks = (decide (0 < len) && allN (fun i => standsM (ks i) (if (i : Int) < (len : Int) - 1 then 3 else 6)) len) := by
  have hb : behindM ([], 103, 105) len = (len : Int) - 1 := by simp [behindM]
  rw [fitM, hb]
  by_cases h1 : (len : Int) - 1 < (([] : List Int).length : Int)
  · rw [if_pos h1, show decide (0 < len) = false by simp at h1 ⊢; omega]; rfl
  · rw [if_neg h1, show decide (0 < len) = true by simp at h1 ⊢; omega, Bool.true_and]
    refine allN_congr fun i hi => ?_
    simp only [sortM, List.length_nil, Nat.not_lt_zero, dif_neg, not_false_iff, hb]
    by_cases h2 : (i : Int) < (len : Int) - 1
    · rw [if_neg (by omega), if_pos h2]; exact eqv103 (ks i)
    · rw [if_pos (by omega), if_neg h2]; exact eqv105 (ks i)
end Go.Proofs.Ytdccodnompalbaa
