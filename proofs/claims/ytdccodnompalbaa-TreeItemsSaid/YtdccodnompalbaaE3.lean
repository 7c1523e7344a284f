/- Right and Fits: the program's answers and the document's are the same. No conditions beyond the bounds that each statement names. -/
import Derived.Test.YtdccodnompalbaaE2
namespace Go.Proofs.Ytdccodnompalbaa
open Go.RowKit Go.Shelf

theorem find_pre (T : NT) : (T.pre 1).find? (fun x => decide (60 < x.2)) = ((T.pres 1 0).find? (fun x => decide (60 < x.2.1))).map fun x => (x.1, x.2.1) := by
  rw [← pres_pre T 1 0, List.find?_map]; rfl
theorem at_pre (T : NT) (i : Nat) : (T.pre 1)[i]? = ((T.pres 1 0)[i]?).map fun x => (x.1, x.2.1) := by
  rw [← pres_pre T 1 0, List.getElem?_map]
theorem shape_not (T : NT) (place : Int) (h : standsM T.k place = false) : shapeM T place = some T := by
  rw [shapeM_eq, oneM, h]; rfl
theorem stands11 (k : Int) : standsM k 11 = (k == 1) := by
  simp [standsM]
theorem right_eq (T : NT) : rightM T = refRightM T := by
  rw [rightM, wrongM, refRightM, find_pre, at_pre]
  cases (T.pres 1 0).find? (fun x => decide (60 < x.2.1)) with
  | some x => rfl
  | none =>
    simp only [Option.map_none]
    cases (T.pres 1 0)[20000]? with
    | some x => rfl
    | none =>
      simp only [Option.map_none]
      cases hk : (T.k == 1) with
      | false => rw [shape_not T 11 (by rw [stands11, hk])]; rfl
      | true =>
        rw [shape_find T 11 1 (by rw [stands11, hk]) (by unfold Pl; omega) (by omega), show rp 11 = 0 from rfl]
        simp only [Bool.true_eq_false, if_false]
        cases (T.pres 1 0).find? (fun x => !mayM x.1 x.2.2) <;> rfl
theorem stands_cls (k c : Int) (h1 : 1 ≤ c) (h5 : c ≤ 5) : standsM k c = isOneM k c := by
  have h : c = 1 ∨ c = 2 ∨ c = 3 ∨ c = 4 ∨ c = 5 := by omega
  obtain ⟨c1, c2, c3, c4, c5⟩ := cls (x := k)
  rcases h with rfl | rfl | rfl | rfl | rfl
  · rw [c1]; simp [standsM]
  · rw [c2]; simp [standsM]
  · rw [c3]; simp [standsM]
  · rw [c4]; simp [standsM]
  · rw [c5]; simp [standsM]
theorem shallow_find (T : NT) : shallow T T.size = ((T.pres 1 0).find? (fun x => decide (60 < x.2.1))).isNone := by
  have e := find_pre T
  cases hf : (T.pres 1 0).find? (fun x => decide (60 < x.2.1)) with
  | some x =>
    rw [hf] at e
    have hm := List.mem_of_find?_eq_some e
    have hp := List.find?_some e
    obtain ⟨i, hi, hx⟩ := List.getElem_of_mem hm
    refine allN_false (i := i) (by rw [NT.pre_len] at hi; exact hi) ?_
    simp only [NT.dep, List.getElem?_eq_getElem hi, hx]
    simp only [decide_eq_true_eq] at hp
    exact decide_eq_false (by omega)
  | none =>
    rw [hf, Option.map_none, List.find?_eq_none] at e
    refine allN_iff.2 fun i hi => ?_
    have hl : i < (T.pre 1).length := by rw [NT.pre_len]; exact hi
    have := e _ (List.getElem_mem hl)
    simp only [decide_eq_true_eq] at this
    simp only [NT.dep, List.getElem?_eq_getElem hl]
    exact decide_eq_true (by omega)
theorem fits_eq (T : NT) (c : Int) : fitsM T c = refFitsM T c := by
  rw [fitsM, wrongM, refFitsM, shallow_find]
  by_cases hc : c < 1 ∨ 5 < c
  · rw [if_pos hc, show isOneM T.k c = false by unfold isOneM; rw [if_neg (by omega), if_neg (by omega), if_neg (by omega), if_neg (by omega), if_neg (by omega)]]
    cases (T.pres 1 0).find? (fun x => decide (60 < x.2.1)) with
    | some x => rfl
    | none => cases (T.pres 1 0)[20000]? <;> rfl
  · rw [if_neg hc]
    cases (T.pres 1 0).find? (fun x => decide (60 < x.2.1)) with
    | some x => rfl
    | none =>
      simp only [Option.isNone_none, Bool.true_and]
      cases h2 : (T.pres 1 0)[20000]? with
      | some x =>
        have : 20000 < (T.pres 1 0).length := by
          rcases Nat.lt_or_ge 20000 (T.pres 1 0).length with h | h
          · exact h
          · rw [List.getElem?_eq_none h] at h2; cases h2
        rw [NT.pres_len] at this
        rw [decide_eq_false (by omega), Bool.and_false]; rfl
      | none =>
        have : (T.pres 1 0).length ≤ 20000 := List.getElem?_eq_none_iff.1 h2
        rw [NT.pres_len] at this
        rw [decide_eq_true (by omega), Bool.and_true]
        cases hk : isOneM T.k c with
        | false => rw [shape_not T c (by rw [stands_cls _ _ (by omega) (by omega), hk])]; rfl
        | true =>
          rw [shape_find T c 1 (by rw [stands_cls _ _ (by omega) (by omega), hk]) (by unfold Pl; omega) (by omega), show rp c = 0 by unfold rp; rw [if_neg (by omega), if_neg (by omega)]]
          simp only [Bool.true_eq_false, if_false]
          cases (T.pres 1 0).find? (fun x => !mayM x.1 x.2.2) <;> rfl
end Go.Proofs.Ytdccodnompalbaa
