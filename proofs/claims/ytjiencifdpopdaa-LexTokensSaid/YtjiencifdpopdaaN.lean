/- A source's answer, as a function: when it is a fault, and where; what is clean. Of no program; no conditions beyond those that each statement names. -/
import Derived.Test.YtjiencifdpopdaaH
namespace Go.Proofs.Ytjiencifdpopdaa
open Go.RowKit

theorem cln_none (l : List UInt8) : cln l = none ↔ (∀ c ∈ l, srcB c.toNat = true) ∧ l.length ≤ 65536 := by
  unfold cln
  cases h : (l.take 65536).findIdx? (fun c => !srcB c.toNat) with
  | some i =>
    simp only [reduceCtorEq, false_iff]
    intro hh
    obtain ⟨hi, hp, _⟩ := List.findIdx?_eq_some_iff_getElem.1 h
    have hm : (l.take 65536)[i] ∈ l := List.mem_of_mem_take (List.getElem_mem hi)
    rw [hh.1 _ hm] at hp; simp at hp
  | none =>
    rw [List.findIdx?_eq_none_iff] at h
    by_cases hl : l.length > 65536
    · simp only [if_pos hl, reduceCtorEq, false_iff]; rintro ⟨_, h2⟩; omega
    · simp only [if_neg hl, true_iff]
      refine ⟨fun c hc => ?_, by omega⟩
      have := h c (by rw [List.take_of_length_le (by omega)]; exact hc)
      simpa using this
theorem cln_lt {l : List UInt8} {k : Nat} (h : cln l = some k) : k < l.length := by
  unfold cln at h
  cases h1 : (l.take 65536).findIdx? (fun c => !srcB c.toNat) with
  | some i =>
    rw [h1] at h
    obtain ⟨hi, _, _⟩ := List.findIdx?_eq_some_iff_getElem.1 h1
    cases h
    rw [List.length_take] at hi; omega
  | none =>
    rw [h1] at h
    by_cases hl : l.length > 65536
    · simp only [if_pos hl] at h; cases h; exact hl
    · simp only [if_neg hl] at h; cases h

theorem ans_ok {l : List UInt8} (h : (ans l).2 = (0, 0)) : cln l = none ∧ M.T 0 l = ((ans l).1, none) := by
  cases hc : cln l with
  | some k => rw [ans_some hc] at h; cases h
  | none =>
    refine ⟨rfl, ?_⟩
    rw [ans_none hc] at h ⊢
    cases ht : (M.T 0 l).2 with
    | none => exact Prod.ext rfl ht
    | some f =>
      simp only [ht] at h
      have := M.T_fault l 0 f.1 f.2 ht
      rw [h] at this; exact absurd rfl this.1
theorem ans_of {l : List UInt8} {ts : List M.Tok} (hc : cln l = none) (h : M.T 0 l = (ts, none)) : ans l = (ts, (0, 0)) := by
  rw [ans_none hc, h]
theorem ans_bad {l : List UInt8} (h : (ans l).2 ≠ (0, 0)) : (ans l).1 = [] ∧ (ans l).2.1 ≠ 0 ∧ (ans l).2.2 < l.length := by
  cases hc : cln l with
  | some k => rw [ans_some hc]; exact ⟨rfl, by show (10 : Nat) ≠ 0; decide, cln_lt hc⟩
  | none =>
    rw [ans_none hc] at h ⊢
    cases ht : (M.T 0 l).2 with
    | none => simp only [ht] at h; exact absurd rfl h
    | some f =>
      have := M.T_fault l 0 f.1 f.2 ht
      have h2 : f.2 < l.length := by omega
      exact ⟨rfl, this.1, h2⟩
theorem ans_cases (l : List UInt8) : (ans l).2 = (0, 0) ∨ (ans l).2 ≠ (0, 0) := by
  by_cases h : (ans l).2 = (0, 0)
  · exact .inl h
  · exact .inr h
end Go.Proofs.Ytjiencifdpopdaa
