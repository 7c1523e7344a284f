/- The kind of a text, by the document's own answer. No conditions beyond the bounds that each statement names. -/
import Derived.Test.YtjiencifdpopdaaZ
namespace Go.Proofs.Ytjiencifdpopdaa
open Go.RowKit

theorem hasB_sign (s : ByteArray) : hasB signB s = M.signs.contains s.data.toList := by
  have : ∀ (a : List ByteArray), hasB a s = (a.map (·.data.toList)).contains s.data.toList := by
    intro a
    unfold hasB
    induction a with
    | nil => rfl
    | cons x r ih => rw [List.any_cons, List.map_cons, List.contains_cons, ih, ByteArray.toList_eq x, ByteArray.toList_eq s, Bool.beq_comm]
  rw [this, signB_lists]

theorem numB_iff (l : List UInt8) : M.numB l = true ↔ (∀ j (h : j < l.length), M.isD l[j] = true) ∧ ∃ h : 0 < l.length, (l = [48] ∨ ¬ l[0] = 48) := by
  cases l with
  | nil => simp [M.numB]
  | cons c r =>
    simp only [M.numB, Bool.and_eq_true, List.all_eq_true, Bool.or_eq_true]
    constructor
    · rintro ⟨⟨h1, h2⟩, h3⟩
      refine ⟨fun j hj => ?_, by simp, ?_⟩
      · cases j with
        | zero => exact h1
        | succ j => exact h2 _ (List.getElem_mem (by simpa using hj))
      · rcases h3 with h | h
        · have hr : r = [] := by simpa using h
          subst hr
          by_cases e : c = 48
          · left; rw [e]
          · right; exact e
        · right; simpa using h
    · rintro ⟨h1, _, h3⟩
      refine ⟨⟨h1 0 (by simp), fun x hx => ?_⟩, ?_⟩
      · obtain ⟨j, hj, rfl⟩ := List.mem_iff_getElem.1 hx
        have := h1 (j + 1) (by simpa using hj)
        simpa using this
      · rcases h3 with h | h
        · left; cases h; rfl
        · right; simpa using h

set_option maxHeartbeats 4000000 in
theorem kind_any (s : ByteArray) (w : World) (hs : s.size ≤ 1000000) : Calls Try.prog 25 #[.string s] w fun e w' => e = .returned (.int .i64 (M.kindR s.data.toList)) ∧ Below w.heap.size w w' := by
  have HW := hide fun w => refWord_any s w hs
  have HS := hide fun w => signs_any w
  have HH := hide fun v w h => has_any v signB s w h (by decide)
  rw [hasB_sign] at HH
  have HD := hide fun n w => refDigit_any n w
  have HK : Hid (M.kindR s.data.toList = if M.wordB s.data.toList = true then 2 else if M.signs.contains s.data.toList = true then 4 else if M.regB s.data.toList = true then 3 else if M.numB s.data.toList = true then 1 else 0) := rfl
  have HRG : Hid (M.regB s.data.toList = true ↔ ∃ h : 1 < s.size, (s[0]'(by omega)) = 39 ∧ M.wordB (s.extract 1 s.size).data.toList = true) := by
    unfold Hid
    rw [drop_of]
    cases hl : s.data.toList with
    | nil =>
      have := len_of s; rw [hl] at this; simp at this
      simp only [M.regB]
      constructor
      · intro h; cases h
      · rintro ⟨h, _⟩; omega
    | cons c r =>
      have hsz := len_of s; rw [hl] at hsz
      have h0 : s[0]'(by simp at hsz; omega) = c := by rw [← at_of s 0 (by simp at hsz; omega)]; simp [hl]
      simp only [M.regB, Bool.and_eq_true, beq_iff_eq, List.drop_succ_cons, List.drop_zero]
      constructor
      · rintro ⟨h1, h2⟩
        refine ⟨?_, by rw [h0]; exact h1, h2⟩
        cases r with
        | nil => simp [M.wordB] at h2
        | cons d r => simp at hsz; omega
      · rintro ⟨h, h1, h2⟩
        exact ⟨by rw [← h0]; exact h1, h2⟩
  have HN := hide (numB_iff s.data.toList)
  have HW2 := hide fun w => refWord_any (s.extract 1 s.size) w (by simp; omega)
  generalize hkr : M.kindR s.data.toList = R at *
  generalize hsg : M.signs.contains s.data.toList = sg at *
  generalize hrg : M.regB s.data.toList = rg at *
  generalize hwd : M.wordB s.data.toList = wd at *
  generalize hwt : M.wordB (s.extract 1 s.size).data.toList = wt at *
  clear hkr hsg hrg hwd hwt
  cases wd with
  | true =>
    have HR : Hid (R = 2) := by unfold Hid; have := HK.out; simpa using this
    go_enter Try.func25, Try.ntmps25
    go_wp2_with fail
    refine (HW.out _).mono ?_
    rintro e w' ⟨rfl, rfl⟩
    go_wp2
    go_ret
    exact ⟨by rw [HR.out]; rfl, Below.refl _ _⟩
  | false =>
    cases sg with
    | true =>
      have HR : Hid (R = 4) := by unfold Hid; have := HK.out; simpa using this
      go_enter Try.func25, Try.ntmps25
      go_wp2_with fail
      refine (HW.out _).mono ?_
      rintro e w' ⟨rfl, rfl⟩
      go_wp2_with fail
      refine (HS.out _).mono ?_
      rintro e w1 ⟨v, rfl, ht, hb1⟩
      have HT := hide ht
      have HB := hide hb1
      clear ht hb1
      go_wp2_with fail
      refine (HH.out _ _ HT.out).mono ?_
      rintro e w2 ⟨rfl, rfl⟩
      go_wp2
      go_ret
      exact ⟨by rw [HR.out]; rfl, HB.out⟩
    | false =>
      have HK2 : Hid (R = if rg = true then 3 else if M.numB s.data.toList = true then 1 else 0) := by unfold Hid; have := HK.out; simpa using this
      clear HK
      go_enter Try.func25, Try.ntmps25
      go_wp2_with fail
      refine (HW.out _).mono ?_
      rintro e w' ⟨rfl, rfl⟩
      go_wp2_with fail
      refine (HS.out _).mono ?_
      rintro e w1 ⟨v, rfl, ht, hb1⟩
      have HT := hide ht
      have HB := hide hb1
      clear ht hb1
      go_wp2_with fail
      refine (HH.out _ _ HT.out).mono ?_
      rintro e w2 ⟨rfl, rfl⟩
      -- the region, then the digits
      by_cases hreg : ∃ h : 1 < s.size, (s[0]'(by omega)) = 39
      · obtain ⟨h1, h39⟩ := hreg
        have d1 : decide ((1 : Int) < (s.size : Int)) = true := by simp; omega
        have d2 : ((s[0].toNat : Int) == 39) = true := by rw [h39]; rfl
        cases wt with
        | true =>
          have HR : Hid (R = 3) := by unfold Hid; have := HK2.out; rw [HRG.out.2 ⟨h1, h39, rfl⟩] at this; simpa using this
          clear h39
          go_wp2_with fail
          refine (HW2.out _).mono ?_
          rintro e w' ⟨rfl, rfl⟩
          go_wp2
          go_ret
          exact ⟨by rw [HR.out]; rfl, HB.out⟩
        | false =>
          have hrf : rg = false := by rw [Bool.eq_false_iff]; intro h; obtain ⟨_, _, h3⟩ := HRG.out.1 h; cases h3
          have HR2 : Hid (R = if M.numB s.data.toList = true then 1 else 0) := by unfold Hid; have := HK2.out; rw [hrf] at this; simpa using this
          have HNo : Hid ((∃ j, ∃ h : j < s.size, M.dgt s[j].toNat = false) → R = 0) := by
            rintro ⟨j, h, hno⟩
            rw [HR2.out, if_neg]
            intro ht
            have := (HN.out.1 ht).1 j (by simpa using h)
            rw [at_of s j h] at this
            rw [show M.isD s[j] = M.dgt s[j].toNat from rfl, hno] at this
            cases this
          clear h39
          go_wp2_with fail
          refine (HW2.out _).mono ?_
          rintro e w' ⟨rfl, rfl⟩
          go_wp2
          go_loop [3] (fun i => ∃ k : Nat, k ≤ s.size ∧ i = .int .i64 k ∧ ∀ j (h : j < s.size), j < k → M.dgt s[j].toNat = true) (fun i => s.size - (intOf i).toNat)
          case atStart => exact ⟨0, Nat.zero_le _, rfl, fun j _ h => by omega⟩
          case round =>
            obtain ⟨k, hk, rfl, hp⟩ := hrel
            have HP := hide hp
            clear hp
            by_cases hlt : k < s.size
            · by_cases hD : M.dgt s[k].toNat = true
              · have HC := hide hD
                clear hD
                go_wp2_with (go_at_call 44; refine (HD.out _ _).mono ?_; rw [HC.out]; rintro e w' ⟨rfl, rfl⟩)
                go_round
                case rel => exact ⟨k + 1, hlt, by go_num, fun j h hj => by
                  by_cases e : j = k
                  · subst e; exact HC.out
                  · exact HP.out j h (by omega)⟩
                case measure => simp [intOf]; omega
              · have HC := hide (Bool.eq_false_iff.2 hD)
                have HR := hide (HNo.out ⟨k, hlt, HC.out⟩)
                clear hD
                go_wp2_with (go_at_call 44; refine (HD.out _ _).mono ?_; rw [HC.out]; rintro e w' ⟨rfl, rfl⟩)
                go_ret
                exact ⟨by rw [HR.out]; rfl, HB.out⟩
            · obtain rfl : k = s.size := by omega
              clear hlt
              have HALL : Hid (∀ j (h : j < s.data.toList.length), M.isD s.data.toList[j] = true) := fun j h => by
                rw [at_of s j (by simpa using h)]; exact HP.out j (by simpa using h) (by simpa using h)
              by_cases h0 : 0 < s.size
              · have d0 : decide (0 < s.size) = true := decide_eq_true h0
                cases hz : (s.toList == [48])
                · by_cases h48 : s[0] = 48
                  · have hR : R = 0 := by
                      rw [HR2.out, if_neg]
                      intro ht
                      obtain ⟨_, h, h3⟩ := HN.out.1 ht
                      rcases h3 with h3 | h3
                      · rw [ByteArray.toList_eq, h3] at hz; simp at hz
                      · rw [at_of s 0 h0] at h3; exact h3 h48
                    have HR := hide hR
                    have d3 : ((s[0].toNat : Int) != 48) = false := by rw [h48]; rfl
                    clear h48 hR
                    go_wp2
                    go_ret
                    exact ⟨by rw [HR.out]; rfl, HB.out⟩
                  · have hR : R = 1 := by
                      rw [HR2.out, if_pos]
                      exact HN.out.2 ⟨HALL.out, by rw [len_of]; exact h0, .inr (by rw [at_of s 0 h0]; exact h48)⟩
                    have HR := hide hR
                    have d3 : ((s[0].toNat : Int) != 48) = true := by
                      rw [bne_iff_ne]; intro e; exact h48 (UInt8.toNat_inj.1 (by show s[0].toNat = 48; omega))
                    clear h48 hR
                    go_wp2
                    go_ret
                    exact ⟨by rw [HR.out]; rfl, HB.out⟩
                · have hR : R = 1 := by
                    rw [HR2.out, if_pos]
                    exact HN.out.2 ⟨HALL.out, by rw [len_of]; exact h0, .inl (by rw [ByteArray.toList_eq] at hz; simpa using hz)⟩
                  have HR := hide hR
                  clear hR
                  go_wp2
                  go_ret
                  exact ⟨by rw [HR.out]; rfl, HB.out⟩
              · exact absurd h1 (by omega)
      · have hrf : rg = false := by rw [Bool.eq_false_iff]; intro h; obtain ⟨h1, h2, _⟩ := HRG.out.1 h; exact hreg ⟨h1, h2⟩
        by_cases h1 : 1 < s.size
        · have d1 : decide ((1 : Int) < (s.size : Int)) = true := by simp; omega
          have d2 : ((s[0].toNat : Int) == 39) = false := by
            rw [beq_eq_false_iff_ne]; intro e; exact hreg ⟨h1, UInt8.toNat_inj.1 (by show s[0].toNat = 39; omega)⟩
          clear hreg
          have HR2 : Hid (R = if M.numB s.data.toList = true then 1 else 0) := by unfold Hid; have := HK2.out; rw [hrf] at this; simpa using this
          have HNo : Hid ((∃ j, ∃ h : j < s.size, M.dgt s[j].toNat = false) → R = 0) := by
            rintro ⟨j, h, hno⟩
            rw [HR2.out, if_neg]
            intro ht
            have := (HN.out.1 ht).1 j (by simpa using h)
            rw [at_of s j h] at this
            rw [show M.isD s[j] = M.dgt s[j].toNat from rfl, hno] at this
            cases this
          go_wp2
          go_loop [3] (fun i => ∃ k : Nat, k ≤ s.size ∧ i = .int .i64 k ∧ ∀ j (h : j < s.size), j < k → M.dgt s[j].toNat = true) (fun i => s.size - (intOf i).toNat)
          case atStart => exact ⟨0, Nat.zero_le _, rfl, fun j _ h => by omega⟩
          case round =>
            obtain ⟨k, hk, rfl, hp⟩ := hrel
            have HP := hide hp
            clear hp
            by_cases hlt : k < s.size
            · by_cases hD : M.dgt s[k].toNat = true
              · have HC := hide hD
                clear hD
                go_wp2_with (go_at_call 44; refine (HD.out _ _).mono ?_; rw [HC.out]; rintro e w' ⟨rfl, rfl⟩)
                go_round
                case rel => exact ⟨k + 1, hlt, by go_num, fun j h hj => by
                  by_cases e : j = k
                  · subst e; exact HC.out
                  · exact HP.out j h (by omega)⟩
                case measure => simp [intOf]; omega
              · have HC := hide (Bool.eq_false_iff.2 hD)
                have HR := hide (HNo.out ⟨k, hlt, HC.out⟩)
                clear hD
                go_wp2_with (go_at_call 44; refine (HD.out _ _).mono ?_; rw [HC.out]; rintro e w' ⟨rfl, rfl⟩)
                go_ret
                exact ⟨by rw [HR.out]; rfl, HB.out⟩
            · obtain rfl : k = s.size := by omega
              clear hlt
              have HALL : Hid (∀ j (h : j < s.data.toList.length), M.isD s.data.toList[j] = true) := fun j h => by
                rw [at_of s j (by simpa using h)]; exact HP.out j (by simpa using h) (by simpa using h)
              by_cases h0 : 0 < s.size
              · have d0 : decide (0 < s.size) = true := decide_eq_true h0
                cases hz : (s.toList == [48])
                · by_cases h48 : s[0] = 48
                  · have hR : R = 0 := by
                      rw [HR2.out, if_neg]
                      intro ht
                      obtain ⟨_, h, h3⟩ := HN.out.1 ht
                      rcases h3 with h3 | h3
                      · rw [ByteArray.toList_eq, h3] at hz; simp at hz
                      · rw [at_of s 0 h0] at h3; exact h3 h48
                    have HR := hide hR
                    have d3 : ((s[0].toNat : Int) != 48) = false := by rw [h48]; rfl
                    clear h48 hR
                    go_wp2
                    go_ret
                    exact ⟨by rw [HR.out]; rfl, HB.out⟩
                  · have hR : R = 1 := by
                      rw [HR2.out, if_pos]
                      exact HN.out.2 ⟨HALL.out, by rw [len_of]; exact h0, .inr (by rw [at_of s 0 h0]; exact h48)⟩
                    have HR := hide hR
                    have d3 : ((s[0].toNat : Int) != 48) = true := by
                      rw [bne_iff_ne]; intro e; exact h48 (UInt8.toNat_inj.1 (by show s[0].toNat = 48; omega))
                    clear h48 hR
                    go_wp2
                    go_ret
                    exact ⟨by rw [HR.out]; rfl, HB.out⟩
                · have hR : R = 1 := by
                    rw [HR2.out, if_pos]
                    exact HN.out.2 ⟨HALL.out, by rw [len_of]; exact h0, .inl (by rw [ByteArray.toList_eq] at hz; simpa using hz)⟩
                  have HR := hide hR
                  clear hR
                  go_wp2
                  go_ret
                  exact ⟨by rw [HR.out]; rfl, HB.out⟩
              · exact absurd h1 (by omega)
        · have d1 : decide ((1 : Int) < (s.size : Int)) = false := by simp; omega
          clear hreg h1
          have HR2 : Hid (R = if M.numB s.data.toList = true then 1 else 0) := by unfold Hid; have := HK2.out; rw [hrf] at this; simpa using this
          have HNo : Hid ((∃ j, ∃ h : j < s.size, M.dgt s[j].toNat = false) → R = 0) := by
            rintro ⟨j, h, hno⟩
            rw [HR2.out, if_neg]
            intro ht
            have := (HN.out.1 ht).1 j (by simpa using h)
            rw [at_of s j h] at this
            rw [show M.isD s[j] = M.dgt s[j].toNat from rfl, hno] at this
            cases this
          go_wp2
          go_loop [3] (fun i => ∃ k : Nat, k ≤ s.size ∧ i = .int .i64 k ∧ ∀ j (h : j < s.size), j < k → M.dgt s[j].toNat = true) (fun i => s.size - (intOf i).toNat)
          case atStart => exact ⟨0, Nat.zero_le _, rfl, fun j _ h => by omega⟩
          case round =>
            obtain ⟨k, hk, rfl, hp⟩ := hrel
            have HP := hide hp
            clear hp
            by_cases hlt : k < s.size
            · by_cases hD : M.dgt s[k].toNat = true
              · have HC := hide hD
                clear hD
                go_wp2_with (go_at_call 44; refine (HD.out _ _).mono ?_; rw [HC.out]; rintro e w' ⟨rfl, rfl⟩)
                go_round
                case rel => exact ⟨k + 1, hlt, by go_num, fun j h hj => by
                  by_cases e : j = k
                  · subst e; exact HC.out
                  · exact HP.out j h (by omega)⟩
                case measure => simp [intOf]; omega
              · have HC := hide (Bool.eq_false_iff.2 hD)
                have HR := hide (HNo.out ⟨k, hlt, HC.out⟩)
                clear hD
                go_wp2_with (go_at_call 44; refine (HD.out _ _).mono ?_; rw [HC.out]; rintro e w' ⟨rfl, rfl⟩)
                go_ret
                exact ⟨by rw [HR.out]; rfl, HB.out⟩
            · obtain rfl : k = s.size := by omega
              clear hlt
              have HALL : Hid (∀ j (h : j < s.data.toList.length), M.isD s.data.toList[j] = true) := fun j h => by
                rw [at_of s j (by simpa using h)]; exact HP.out j (by simpa using h) (by simpa using h)
              by_cases h0 : 0 < s.size
              · have d0 : decide (0 < s.size) = true := decide_eq_true h0
                cases hz : (s.toList == [48])
                · by_cases h48 : s[0] = 48
                  · have hR : R = 0 := by
                      rw [HR2.out, if_neg]
                      intro ht
                      obtain ⟨_, h, h3⟩ := HN.out.1 ht
                      rcases h3 with h3 | h3
                      · rw [ByteArray.toList_eq, h3] at hz; simp at hz
                      · rw [at_of s 0 h0] at h3; exact h3 h48
                    have HR := hide hR
                    have d3 : ((s[0].toNat : Int) != 48) = false := by rw [h48]; rfl
                    clear h48 hR
                    go_wp2
                    go_ret
                    exact ⟨by rw [HR.out]; rfl, HB.out⟩
                  · have hR : R = 1 := by
                      rw [HR2.out, if_pos]
                      exact HN.out.2 ⟨HALL.out, by rw [len_of]; exact h0, .inr (by rw [at_of s 0 h0]; exact h48)⟩
                    have HR := hide hR
                    have d3 : ((s[0].toNat : Int) != 48) = true := by
                      rw [bne_iff_ne]; intro e; exact h48 (UInt8.toNat_inj.1 (by show s[0].toNat = 48; omega))
                    clear h48 hR
                    go_wp2
                    go_ret
                    exact ⟨by rw [HR.out]; rfl, HB.out⟩
                · have hR : R = 1 := by
                    rw [HR2.out, if_pos]
                    exact HN.out.2 ⟨HALL.out, by rw [len_of]; exact h0, .inl (by rw [ByteArray.toList_eq] at hz; simpa using hz)⟩
                  have HR := hide hR
                  clear hR
                  go_wp2
                  go_ret
                  exact ⟨by rw [HR.out]; rfl, HB.out⟩
              · have d0 : decide (0 < s.size) = false := decide_eq_false h0
                have hR : R = 0 := by
                  rw [HR2.out, if_neg]
                  intro ht
                  obtain ⟨_, h, _⟩ := HN.out.1 ht
                  rw [len_of] at h; exact h0 h
                have HR := hide hR
                clear hR h0
                go_wp2
                go_ret
                exact ⟨by rw [HR.out]; rfl, HB.out⟩
end Go.Proofs.Ytjiencifdpopdaa
