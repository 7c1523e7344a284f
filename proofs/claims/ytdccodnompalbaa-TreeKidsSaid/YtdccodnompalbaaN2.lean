/- What is right stays right, made bare: of the program's own answers as plain data. No conditions. -/
import Derived.Test.YtdccodnompalbaaN1
import Derived.Test.YtdccodnompalbaaRf
namespace Go.Proofs.Ytdccodnompalbaa
open Go.RowKit Go.Shelf

theorem allN_congr {f g : Nat → Bool} : ∀ {n : Nat}, (∀ i, i < n → f i = g i) → allN f n = allN g n
  | 0, _ => rfl
  | n + 1, h => by simp only [allN]; rw [allN_congr fun i hi => h i (by omega), h n (by omega)]
theorem fitM_congr (m : List Int × Int × Int) (len : Nat) {a b : Nat → Int} (h : ∀ i, i < len → a i = b i) : fitM m len a = fitM m len b := by
  unfold fitM
  split
  · rfl
  · exact allN_congr fun i hi => by rw [h i hi]
theorem mayNum_bare (k n : Int) (h : mayNumM k n = true) : mayNumM k (bareN k n) = true := by
  unfold bareN
  by_cases h6 : k = 6
  · subst h6; rw [if_pos rfl]; decide
  · rw [if_neg h6]
    by_cases hk : (k = 30 ∨ k = 71) ∧ 0 ≤ n
    · rw [if_pos hk]
      have hp : 0 ≤ n % 2 := by omega
      rcases hk.1 with rfl | rfl <;> simp [mayNumM, bitKs, natKs, hp]
    · rw [if_neg hk]; exact h
theorem own_bare (k : Int) (t : ByteArray) (n r : Int) (h : ownM k t n r = true) : ownM k t (bareN k n) r = true := by
  unfold ownM at h ⊢
  by_cases hc : k = 6 ∧ r ≠ 0
  · rw [if_pos hc] at h ⊢
    have e : bareN k n = 0 := by unfold bareN; rw [if_pos hc.1]
    rw [e]
    simp only [Bool.and_eq_true] at h ⊢
    exact ⟨rfl, h.2⟩
  · rw [if_neg hc] at h ⊢
    simp only [Bool.and_eq_true] at h ⊢
    exact ⟨h.1, mayNum_bare k n h.2⟩
theorem may_bare {T U : NT} (h : Bared T U) (r : Int) (hm : mayM T r = true) : mayM U r = true := by
  obtain ⟨h1, h2, h3, _, h5, h6⟩ := (made_eq _ _ T U).1 h
  unfold mayM at hm ⊢
  simp only [Bool.and_eq_true] at hm ⊢
  rw [h1, h2, h3, h5]
  refine ⟨?_, own_bare _ _ _ _ hm.2⟩
  rw [← hm.1]
  exact fitM_congr _ _ fun i hi => ((made_eq _ _ _ _).1 (h6 i hi)).1
theorem wrong_bare {T U : NT} (h : Bared T U) (asked : Bool) (hw : (wrongM T asked).1 = 0) : (wrongM U asked).1 = 0 := by
  have hp := h.pres 1 0
  have hf := hp.find (p := fun x : Spot => decide (60 < x.2.1)) (q := fun x : Spot => decide (60 < x.2.1)) (fun a b hab => by rw [hab.2])
  unfold wrongM at hw ⊢
  rcases hf with ⟨e1, e2⟩ | ⟨a, b, e1, _, _⟩
  · rw [e1] at hw
    rw [e2]
    simp only at hw ⊢
    have hl := hp.len
    cases e3 : (T.pres 1 0)[20000]? with
    | some x => rw [e3] at hw; cases hw
    | none =>
      rw [e3] at hw
      have e4 : (U.pres 1 0)[20000]? = none := by rw [List.getElem?_eq_none_iff] at e3 ⊢; omega
      rw [e4]
      simp only at hw ⊢
      cases asked with
      | false => simp at hw
      | true =>
        simp only [Bool.true_eq_false, if_false] at hw ⊢
        cases e5 : (T.pres 1 0).find? (fun x => !mayM x.1 x.2.2) with
        | some x => rw [e5] at hw; cases hw
        | none =>
          rw [hp.none (q := fun x => !mayM x.1 x.2.2) (fun a b hab hq => by
            simp only [Bool.not_eq_true'] at hq ⊢
            cases e : mayM a.1 a.2.2 with
            | false => rfl
            | true => rw [hab.2, may_bare hab.1 _ e] at hq; cases hq) e5]
  · rw [e1] at hw; cases hw
theorem right_bare {T U : NT} (h : Bared T U) (hw : (rightM T).1 = 0) : (rightM U).1 = 0 := by
  unfold rightM at hw ⊢
  rw [((made_eq _ _ T U).1 h).1]
  exact wrong_bare h _ hw
theorem fits_bare {T U : NT} (h : Bared T U) (c : Int) (hw : fitsM T c = true) : fitsM U c = true := by
  unfold fitsM at hw ⊢
  rw [((made_eq _ _ T U).1 h).1]
  simp only [beq_iff_eq] at hw ⊢
  exact wrong_bare h _ hw
end Go.Proofs.Ytdccodnompalbaa
