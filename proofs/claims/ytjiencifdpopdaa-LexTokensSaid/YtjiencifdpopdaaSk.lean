/- Behind the blanks and comments at a place, by the document's own answer. No conditions beyond the bounds that each statement names. -/
import Derived.Test.YtjiencifdpopdaaKd
namespace Go.Proofs.Ytjiencifdpopdaa
open Go.RowKit

theorem first_kind (c : UInt8) (r : List UInt8) (h1 : ¬ M.isB c = true) (h2 : ¬ (c = 47 ∧ (r.head? = some 47 ∨ r.head? = some 42))) : (M.first (c :: r)).1 ≠ 0 := by
  rw [M.first_cons, if_neg h1, if_neg (fun h => h2 ⟨h.1, .inl h.2⟩), if_neg (fun h => h2 ⟨h.1, .inr h.2⟩)]
  split
  · split <;> simp
  · split
    · simp
    · split
      · split <;> simp
      · split
        · simp
        · split <;> simp
theorem drop_cons (s : ByteArray) (k : Nat) (h : k < s.size) : s.data.toList.drop k = s[k] :: s.data.toList.drop (k + 1) := by
  rw [← at_of s k h]; exact List.drop_eq_getElem_cons (by simpa using h)
theorem head_drop (s : ByteArray) (k : Nat) (h : k < s.size) : (s.data.toList.drop k).head? = some s[k] := by rw [drop_cons s k h]; rfl
theorem byte_ne {c : UInt8} {n : Nat} (x : UInt8) (hx : x.toNat = n) (h : ¬ c = x) : ((c.toNat : Int) != (n : Int)) = true := by
  rw [bne_iff_ne]; intro e; exact h (UInt8.toNat_inj.1 (by omega))
theorem byte_ne' {c : UInt8} {n : Nat} (x : UInt8) (hx : x.toNat = n) (h : ¬ c = x) : ((c.toNat : Int) == (n : Int)) = false := by
  rw [beq_eq_false_iff_ne]; intro e; exact h (UInt8.toNat_inj.1 (by omega))

theorem get_drop (s : ByteArray) (k q : Nat) (hk : k ≤ q) (hq : q < s.size) (h : q - k < (s.data.toList.drop k).length) : (s.data.toList.drop k)[q - k] = s[q] := by
  rw [List.getElem_drop, ← at_of s q hq]
  congr 1; omega
theorem lineC_go (s : ByteArray) (k q : Nat) (hk : k ≤ q) (hq : q < s.size) (h : q ≤ k + M.lineC (s.data.toList.drop k)) :
    (¬ s[q] = 10 → q + 1 ≤ k + M.lineC (s.data.toList.drop k)) ∧ (s[q] = 10 → q = k + M.lineC (s.data.toList.drop k)) := by
  have hl : q - k < (s.data.toList.drop k).length := by rw [List.length_drop, len_of]; omega
  have := tw_go M.notEnd (s.data.toList.drop k) (q - k) hl (by unfold M.lineC at h; omega)
  rw [get_drop s k q hk hq hl] at this
  refine ⟨fun h1 => ?_, fun h1 => ?_⟩
  · have := this.1 (by simp [M.notEnd, h1]); unfold M.lineC; omega
  · have := this.2 (by simp [M.notEnd, h1]); unfold M.lineC at h ⊢; omega
theorem endC_step (s : ByteArray) (q : Nat) (h : q + 1 < s.size) (hno : ¬ (s[q] = 42 ∧ s[q + 1] = 47)) : M.endC (s.data.toList.drop q) = (M.endC (s.data.toList.drop (q + 1))).map (· + 1) := by
  rw [drop_cons s q (by omega), drop_cons s (q + 1) h, M.endC, if_neg hno]
theorem endC_hit (s : ByteArray) (q : Nat) (h : q + 1 < s.size) (h1 : s[q] = 42) (h2 : s[q + 1] = 47) : M.endC (s.data.toList.drop q) = some 0 := by
  rw [drop_cons s q (by omega), drop_cons s (q + 1) h, M.endC, if_pos ⟨h1, h2⟩]
theorem endC_short (s : ByteArray) (q : Nat) (h : s.size ≤ q + 1) : M.endC (s.data.toList.drop q) = none := by
  cases hd : s.data.toList.drop q with
  | nil => rfl
  | cons c r =>
    have := congrArg List.length hd
    rw [List.length_drop, len_of] at this
    simp at this
    have hr : r = [] := List.length_eq_zero_iff.1 (by omega)
    subst hr; rfl

/-- What the answer says. -/
def SkipOk (s : ByteArray) (a0 : Nat) (e : Ending) : Prop :=
  (∃ n : Nat, a0 ≤ n ∧ n ≤ s.size ∧ e = .returned (.tuple #[.int .i64 n, .int .i64 0]) ∧ M.T a0 (s.data.toList.drop a0) = M.T n (s.data.toList.drop n) ∧ (n = s.size ∨ (M.first (s.data.toList.drop n)).1 ≠ 0)) ∨
  (∃ fr : Nat, fr < s.size ∧ e = .returned (.tuple #[.int .i64 (-1), .int .i64 fr]) ∧ M.T a0 (s.data.toList.drop a0) = ([], some (21, fr)))

set_option maxRecDepth 20000 in
set_option maxHeartbeats 8000000 in
theorem skip_any (s : ByteArray) (a0 : Nat) (w : World) (hs : s.size ≤ 100000) (ha : a0 ≤ s.size) :
    Calls Try.prog 24 #[.string s, .int .i64 a0] w fun e w' => SkipOk s a0 e ∧ w = w' := by
  go_enter Try.func24, Try.ntmps24
  go_wp2
  go_loop [1] (fun i => ∃ k : Nat, a0 ≤ k ∧ k ≤ s.size ∧ i = .int .i64 k ∧ M.T a0 (s.data.toList.drop a0) = M.T k (s.data.toList.drop k)) (fun i => s.size - (intOf i).toNat)
  case atStart => exact ⟨a0, Nat.le_refl _, ha, rfl, rfl⟩
  case round =>
    obtain ⟨k, hk0, hk, rfl, hT⟩ := hrel
    have HT := hide hT
    clear hT
    by_cases hlt : k < s.size
    · have hdc := drop_cons s k hlt
      have hne : s.data.toList.drop k ≠ [] := by rw [hdc]; simp
      by_cases hb : M.isB s[k] = true
      · have hf : M.first (s.data.toList.drop k) = (0, 1, 0) := by rw [hdc, M.first_cons, if_pos hb]
        have HN : Hid (M.T a0 (s.data.toList.drop a0) = M.T (k + 1) (s.data.toList.drop (k + 1))) := by
          unfold Hid; rw [HT.out, M.T_gap hne hf, List.drop_drop]
        have h3 : (s[k].toNat : Int) = 32 ∨ (s[k].toNat : Int) = 9 ∨ (s[k].toNat : Int) = 10 := by simp [M.isB, M.bln] at hb; omega
        clear hdc hne hb hf
        rcases h3 with h3 | h3 | h3
        all_goals
          go_wp2
          go_round
          case rel => exact ⟨k + 1, by omega, hlt, by go_num, HN.out⟩
          case measure => simp [intOf]; omega
      · have n1 : ((s[k].toNat : Int) == 32) = false := by rw [beq_eq_false_iff_ne]; intro e; exact hb (by simp [M.isB, M.bln]; omega)
        have n2 : ((s[k].toNat : Int) == 9) = false := by rw [beq_eq_false_iff_ne]; intro e; exact hb (by simp [M.isB, M.bln]; omega)
        have n3 : ((s[k].toNat : Int) == 10) = false := by rw [beq_eq_false_iff_ne]; intro e; exact hb (by simp [M.isB, M.bln]; omega)
        by_cases hlast : k + 1 = s.size
        · have hd : s.data.toList.drop (k + 1) = [] := List.drop_of_length_le (by rw [len_of]; omega)
          have HR : Hid (SkipOk s a0 (.returned (.tuple #[.int .i64 k, .int .i64 0]))) :=
            .inl ⟨k, hk0, hk, rfl, HT.out, .inr (by rw [hdc, hd]; exact first_kind _ _ hb (by simp))⟩
          have d1 : ((k : Int) + 1 == (s.size : Int)) = true := by rw [beq_iff_eq]; omega
          clear hdc hne hb hd hlast
          go_wp2
          go_ret2
          exact ⟨HR.out, rfl⟩
        · have hk1 : k + 1 < s.size := by omega
          have d1 : ((k : Int) + 1 == (s.size : Int)) = false := by rw [beq_eq_false_iff_ne]; omega
          have hhd := head_drop s (k + 1) hk1
          by_cases hc : s[k] = 47
          · have m1 : ((s[k].toNat : Int) != 47) = false := by rw [hc]; rfl
            by_cases h47 : s[k + 1] = 47
            · have hf : M.first (s.data.toList.drop k) = (0, M.lineC (s.data.toList.drop k), 0) := by
                rw [hdc, M.first_cons, if_neg hb, if_pos ⟨hc, by rw [hhd, h47]⟩]
              have hpos := M.first_pos _ _ _ hne hf
              rw [List.length_drop, len_of] at hpos
              have HN : Hid (M.T a0 (s.data.toList.drop a0) = M.T (k + M.lineC (s.data.toList.drop k)) (s.data.toList.drop (k + M.lineC (s.data.toList.drop k)))) := by
                unfold Hid; rw [HT.out, M.T_gap hne hf, List.drop_drop]
              have HG := hide fun q h1 h2 h3 => lineC_go s k q h1 h2 h3
              have h2n : k + 2 ≤ k + M.lineC (s.data.toList.drop k) := by
                have := (lineC_go s k (k + 1) (by omega) hk1 (by omega)).1 (by rw [h47]; decide)
                omega
              have hle : k + M.lineC (s.data.toList.drop k) ≤ s.size := by omega
              generalize k + M.lineC (s.data.toList.drop k) = N at *
              have m2 : ((s[k + 1].toNat : Int) != 47) = false := by rw [h47]; rfl
              have m3 : ((s[k + 1].toNat : Int) == 47) = true := by rw [h47]; rfl
              have m4 : ((s[k + 1].toNat : Int) != 42) = true := by rw [h47]; rfl
              clear hdc hne hb hhd hlast hc h47 hf hpos
              go_wp2
              go_loop [1] (fun i => ∃ q : Nat, k + 2 ≤ q ∧ q ≤ N ∧ i = .int .i64 q) (fun i => s.size - (intOf i).toNat)
              case atStart => exact ⟨k + 2, Nat.le_refl _, h2n, by go_num⟩
              case round =>
                obtain ⟨q, hq0, hqN, rfl⟩ := hrel
                by_cases hq : q < s.size
                · have dq : decide (q < s.size) = true := decide_eq_true hq
                  by_cases h10 : s[q] = 10
                  · obtain rfl : q = N := (HG.out q (by omega) hq hqN).2 h10
                    have m5 : ((s[q].toNat : Int) != 10) = false := by rw [h10]; rfl
                    clear h10
                    go_wp2
                    go_round
                    case rel => exact ⟨q, by omega, by omega, rfl, HN.out⟩
                    case measure => simp [intOf]; omega
                  · have m5 : ((s[q].toNat : Int) != 10) = true := byte_ne 10 rfl h10
                    have HQ := hide ((HG.out q (by omega) hq hqN).1 h10)
                    clear h10
                    go_wp2
                    go_round
                    case rel => exact ⟨q + 1, by omega, HQ.out, by go_num⟩
                    case measure => simp [intOf]; omega
                · obtain rfl : q = N := by omega
                  have dq : decide (q < s.size) = false := decide_eq_false hq
                  clear hq
                  go_wp2
                  go_round
                  case rel => exact ⟨q, by omega, hle, rfl, HN.out⟩
                  case measure => simp [intOf]; omega
            · by_cases h42 : s[k + 1] = 42
              · have HF : Hid (∀ e, M.endC (s.data.toList.drop (k + 2)) = e → M.first (s.data.toList.drop k) = endV e) := fun e he => by
                  rw [hdc, M.first_cons, if_neg hb, if_neg (fun h => h47 (Option.some.inj (hhd.symm.trans h.2))), if_pos ⟨hc, by rw [hhd, h42]⟩, List.drop_drop, he]
                  cases e <;> rfl
                have HNE := hide hne
                have m2 : ((s[k + 1].toNat : Int) != 47) = true := byte_ne 47 rfl h47
                have m3 : ((s[k + 1].toNat : Int) == 47) = false := byte_ne' 47 rfl h47
                have m4 : ((s[k + 1].toNat : Int) != 42) = false := by rw [h42]; rfl
                clear hdc hne hb hhd hlast hc h47 h42
                go_wp2
                go_loop [1] (fun i => ∃ q : Nat, k + 2 ≤ q ∧ q ≤ s.size ∧ i = .int .i64 q ∧ M.endC (s.data.toList.drop (k + 2)) = (M.endC (s.data.toList.drop q)).map (· + (q - (k + 2)))) (fun i => s.size - (intOf i).toNat)
                case atStart => exact ⟨k + 2, Nat.le_refl _, by omega, by go_num, by simp⟩
                case round =>
                  obtain ⟨q, hq0, hqs, rfl, hE⟩ := hrel
                  have HE := hide hE
                  clear hE
                  by_cases hq : q + 1 < s.size
                  · have dq : decide (q + 1 < s.size) = true := decide_eq_true hq
                    have dq2 : decide ((q : Int) + 1 < (s.size : Int)) = true := by simp; omega
                    by_cases hit : s[q] = 42 ∧ s[q + 1] = 47
                    · obtain ⟨i1, i2⟩ := hit
                      have hf := HF.out _ (by rw [HE.out, endC_hit s q hq i1 i2])
                      have HN : Hid (M.T a0 (s.data.toList.drop a0) = M.T (q + 2) (s.data.toList.drop (q + 2))) := by
                        unfold Hid
                        rw [HT.out, M.T_gap HNE.out hf, List.drop_drop]
                        rw [show k + (0 + (q - (k + 2)) + 4) = q + 2 by omega]
                      have m5 : ((s[q].toNat : Int) != 42) = false := by rw [i1]; rfl
                      have m6 : ((s[q + 1].toNat : Int) != 47) = false := by rw [i2]; rfl
                      clear i1 i2 hf
                      go_wp2
                      go_round
                      case rel => exact ⟨q + 2, by omega, by omega, by go_num, HN.out⟩
                      case measure => simp [intOf]; omega
                    · have HQ : Hid (M.endC (s.data.toList.drop (k + 2)) = (M.endC (s.data.toList.drop (q + 1))).map (· + (q + 1 - (k + 2)))) := by
                        unfold Hid
                        rw [HE.out, endC_step s q hq hit, Option.map_map]
                        congr 1; funext x; simp; omega
                      by_cases i1 : s[q] = 42
                      · have m5 : ((s[q].toNat : Int) != 42) = false := by rw [i1]; rfl
                        have m6 : ((s[q + 1].toNat : Int) != 47) = true := byte_ne 47 rfl (fun h => hit ⟨i1, h⟩)
                        clear hit i1
                        go_wp2
                        go_round
                        case rel => exact ⟨q + 1, by omega, by omega, by go_num, HQ.out⟩
                        case measure => simp [intOf]; omega
                      · have m5 : ((s[q].toNat : Int) != 42) = true := byte_ne 42 rfl i1
                        clear hit i1
                        go_wp2
                        go_round
                        case rel => exact ⟨q + 1, by omega, by omega, by go_num, HQ.out⟩
                        case measure => simp [intOf]; omega
                  · have dq : decide (q + 1 < s.size) = false := decide_eq_false hq
                    have dq2 : decide ((q : Int) + 1 < (s.size : Int)) = false := by simp; omega
                    have hf := HF.out _ (by rw [HE.out, endC_short s q (by omega)])
                    have HR : Hid (SkipOk s a0 (.returned (.tuple #[.int .i64 (-1), .int .i64 k]))) :=
                      .inr ⟨k, hlt, rfl, by rw [HT.out]; exact M.T_err HNE.out hf (by decide)⟩
                    clear hf
                    go_wp2
                    go_ret2
                    exact ⟨HR.out, rfl⟩
              · have m2 : ((s[k + 1].toNat : Int) != 47) = true := byte_ne 47 rfl h47
                have m3 : ((s[k + 1].toNat : Int) != 42) = true := byte_ne 42 rfl h42
                have HR : Hid (SkipOk s a0 (.returned (.tuple #[.int .i64 k, .int .i64 0]))) :=
                  .inl ⟨k, hk0, hk, rfl, HT.out, .inr (by rw [hdc]; refine first_kind _ _ hb ?_; rw [hhd]; rintro ⟨_, h | h⟩; exact h47 (Option.some.inj h); exact h42 (Option.some.inj h))⟩
                clear hdc hne hb hhd hlast hc h47 h42
                go_wp2
                go_ret2
                exact ⟨HR.out, rfl⟩
          · have m1 : ((s[k].toNat : Int) != 47) = true := byte_ne 47 rfl hc
            have HR : Hid (SkipOk s a0 (.returned (.tuple #[.int .i64 k, .int .i64 0]))) :=
              .inl ⟨k, hk0, hk, rfl, HT.out, .inr (by rw [hdc]; exact first_kind _ _ hb (fun h => hc h.1))⟩
            clear hdc hne hb hhd hlast hc
            go_wp2
            go_ret2
            exact ⟨HR.out, rfl⟩
    · obtain rfl : k = s.size := by omega
      have HR : Hid (SkipOk s a0 (.returned (.tuple #[.int .i64 s.size, .int .i64 0]))) := .inl ⟨s.size, hk0, hk, rfl, HT.out, .inl rfl⟩
      clear hlt
      go_wp2
      go_ret2
      exact ⟨HR.out, rfl⟩
end Go.Proofs.Ytjiencifdpopdaa
