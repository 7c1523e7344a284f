/- The document's own kinds of tokens, by its own answer: a word, a kind, a number too great. No conditions beyond the bounds that each statement names. -/
import Derived.Test.YtjiencifdpopdaaY
namespace Go.Proofs.Ytjiencifdpopdaa
open Go.RowKit

theorem wordB_iff (l : List UInt8) : M.wordB l = true ↔ l ≠ [] ∧ ∀ j (h : j < l.length), M.isL l[j] = true ∨ 0 < j ∧ M.isD l[j] = true := by
  cases l with
  | nil => simp [M.wordB]
  | cons c r =>
    simp only [M.wordB, Bool.and_eq_true, List.all_eq_true]
    constructor
    · rintro ⟨h1, h2⟩
      refine ⟨by simp, fun j hj => ?_⟩
      cases j with
      | zero => exact .inl h1
      | succ j =>
        have hj' : j < r.length := by simpa using hj
        have := h2 r[j] (List.getElem_mem hj')
        simp [M.isLD] at this
        rcases this with h | h
        · exact .inl h
        · exact .inr ⟨by omega, h⟩
    · rintro ⟨_, h⟩
      refine ⟨?_, fun x hx => ?_⟩
      · rcases h 0 (by simp) with h | h
        · exact h
        · omega
      · obtain ⟨j, hj, rfl⟩ := List.mem_iff_getElem.1 hx
        rcases h (j + 1) (by simpa using hj) with h | h
        · simp at h; simp [M.isLD, h]
        · have := h.2; simp at this; simp [M.isLD, this]

set_option maxHeartbeats 2000000 in
theorem refWord_any (s : ByteArray) (w : World) (hs : s.size ≤ 1000000) : Calls Try.prog 42 #[.string s] w fun e w' => e = .returned (.bool (M.wordB s.data.toList)) ∧ w = w' := by
  have HL := hide fun n w => refLetter_any n w
  have HD := hide fun n w => refDigit_any n w
  have HI := hide (wordB_iff s.data.toList)
  have HF : Hid ((∃ j, ∃ h : j < s.size, ¬ (M.ltr s[j].toNat = true ∨ 0 < j ∧ M.dgt s[j].toNat = true)) → false = M.wordB s.data.toList) := by
    rintro ⟨j, h, hno⟩
    rw [eq_comm, Bool.eq_false_iff]
    intro ht
    have := (HI.out.1 ht).2 j (by simpa using h)
    rw [at_of s j h] at this
    exact hno this
  have HT : Hid ((∀ j (h : j < s.size), M.ltr s[j].toNat = true ∨ 0 < j ∧ M.dgt s[j].toNat = true) → decide (0 < s.size) = M.wordB s.data.toList) := by
    intro hall
    by_cases h0 : 0 < s.size
    · rw [decide_eq_true h0, eq_comm]
      refine HI.out.2 ⟨M.ne_of_len (len_of s) h0, fun j hj => ?_⟩
      have hj' : j < s.size := by simpa using hj
      rw [at_of s j hj']; exact hall j hj'
    · rw [decide_eq_false h0, eq_comm, Bool.eq_false_iff]
      intro ht
      have := (HI.out.1 ht).1
      exact this (List.length_eq_zero_iff.1 (by rw [len_of]; omega))
  generalize M.wordB s.data.toList = R at *
  go_enter Try.func42, Try.ntmps42
  go_wp2
  go_loop [3] (fun i => ∃ k : Nat, k ≤ s.size ∧ i = .int .i64 k ∧ ∀ j (h : j < s.size), j < k → M.ltr s[j].toNat = true ∨ 0 < j ∧ M.dgt s[j].toNat = true) (fun i => s.size - (intOf i).toNat)
  case atStart => exact ⟨0, Nat.zero_le _, rfl, fun j _ h => by omega⟩
  case round =>
    obtain ⟨k, hk, rfl, hp⟩ := hrel
    have HP := hide hp
    clear hp
    by_cases hlt : k < s.size
    · have step : Hid ((M.ltr s[k].toNat = true ∨ 0 < k ∧ M.dgt s[k].toNat = true) → ∀ j (h : j < s.size), j < k + 1 → M.ltr s[j].toNat = true ∨ 0 < j ∧ M.dgt s[j].toNat = true) := fun hh j h hj => by
        by_cases e : j = k
        · subst e; exact hh
        · exact HP.out j h (by omega)
      by_cases hL : M.ltr s[k].toNat = true
      · have HN := hide (step.out (.inl hL))
        have HB := hide hL
        clear hL step
        go_wp2_with (go_at_call 50; refine (HL.out _ _).mono ?_; rw [HB.out]; rintro e w' ⟨rfl, rfl⟩)
        go_round
        case rel => exact ⟨k + 1, hlt, by go_num, HN.out⟩
        case measure => simp [intOf]; omega
      · have HB := hide (Bool.eq_false_iff.2 hL)
        by_cases h0 : k = 0
        · subst h0
          have HN := hide (HF.out ⟨0, hlt, fun h => by rcases h with h | h; exact hL h; omega⟩)
          clear hL step
          go_wp2_with (go_at_call 50; refine (HL.out _ _).mono ?_; rw [HB.out]; rintro e w' ⟨rfl, rfl⟩)
          go_ret
          exact ⟨ret_bool HN.out, rfl⟩
        · have d0 : ((k : Int) == 0) = false := by simp; omega
          by_cases hD : M.dgt s[k].toNat = true
          · have HN := hide (step.out (.inr ⟨by omega, hD⟩))
            have HC := hide hD
            clear hL hD step h0
            go_wp2_with (first
              | (go_at_call 50; refine (HL.out _ _).mono ?_; rw [HB.out]; rintro e w' ⟨rfl, rfl⟩)
              | (go_at_call 44; refine (HD.out _ _).mono ?_; rw [HC.out]; rintro e w' ⟨rfl, rfl⟩))
            go_round
            case rel => exact ⟨k + 1, hlt, by go_num, HN.out⟩
            case measure => simp [intOf]; omega
          · have HN := hide (HF.out ⟨k, hlt, fun h => by rcases h with h | h; exact hL h; exact hD h.2⟩)
            have HC := hide (Bool.eq_false_iff.2 hD)
            clear hL hD step h0
            go_wp2_with (first
              | (go_at_call 50; refine (HL.out _ _).mono ?_; rw [HB.out]; rintro e w' ⟨rfl, rfl⟩)
              | (go_at_call 44; refine (HD.out _ _).mono ?_; rw [HC.out]; rintro e w' ⟨rfl, rfl⟩))
            go_ret
            exact ⟨ret_bool HN.out, rfl⟩
    · obtain rfl : k = s.size := by omega
      have HN := hide (HT.out fun j h => HP.out j h h)
      clear hlt
      go_wp2
      go_ret
      exact ⟨ret_bool HN.out, rfl⟩

theorem refBig_any (s : ByteArray) (w : World) (hs : s.size ≤ 1000000) : Calls Try.prog 26 #[.string s] w fun e w' => e = .returned (.bool (M.big s.data.toList)) ∧ w = w' := by
  have hbig : M.big s.data.toList = (decide (19 < s.size) || (s.size == 19 && M.gtB s.data.toList M.most)) := by unfold M.big; rw [len_of]
  have hgt : M.gtB s.data.toList M.most = !(Op.bytesLess s.toList [57, 50, 50, 51, 51, 55, 50, 48, 51, 54, 56, 53, 52, 55, 55, 53, 56, 48, 55] || s.toList == [57, 50, 50, 51, 51, 55, 50, 48, 51, 54, 56, 53, 52, 55, 55, 53, 56, 48, 55]) := by
    rw [ByteArray.toList_eq]; rfl
  by_cases h : s.size = 19
  · have hF : M.big s.data.toList = !(Op.bytesLess s.toList [57, 50, 50, 51, 51, 55, 50, 48, 51, 54, 56, 53, 52, 55, 55, 53, 56, 48, 55] || s.toList == [57, 50, 50, 51, 51, 55, 50, 48, 51, 54, 56, 53, 52, 55, 55, 53, 56, 48, 55]) := by
      rw [hbig, hgt, h]; simp
    have HF := hide hF
    generalize M.big s.data.toList = R at *
    have hi : (s.size : Int) = 19 := by omega
    clear hbig hgt hF h
    go_enter Try.func26, Try.ntmps26
    go_wp2
    go_ret
    exact ⟨ret_bool (by rw [HF.out]; simp), rfl⟩
  · have hF : M.big s.data.toList = decide ((19 : Int) < (s.size : Int)) := by
      rw [hbig, show (s.size == 19) = false by simpa using h, Bool.false_and, Bool.or_false]
      by_cases h2 : 19 < s.size
      · rw [decide_eq_true h2, eq_comm, decide_eq_true_iff]; omega
      · rw [decide_eq_false h2, eq_comm, decide_eq_false_iff_not]; omega
    have HF := hide hF
    generalize M.big s.data.toList = R at *
    have hi : ((s.size : Int) != 19) = true := by simp; omega
    clear hbig hgt hF h
    go_enter Try.func26, Try.ntmps26
    go_wp2
    go_ret
    exact ⟨ret_bool HF.out.symm, rfl⟩
end Go.Proofs.Ytjiencifdpopdaa
