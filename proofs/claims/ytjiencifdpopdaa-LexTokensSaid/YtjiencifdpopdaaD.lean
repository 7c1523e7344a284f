/- What a text begins with, by the program: all of it. No conditions beyond the bounds that each statement names. -/
import Derived.Test.YtjiencifdpopdaaC
namespace Go.Proofs.Ytjiencifdpopdaa
open Go.RowKit

theorem pre_two (c : UInt8) (r : List UInt8) (x : UInt8) : Lib.hasPrefix (c :: r) [47, x] = decide (c = 47 ∧ r.head? = some x) := by
  rw [Bool.eq_iff_iff]
  cases r with
  | nil => simp [Lib.hasPrefix]
  | cons d r =>
    simp only [Lib.hasPrefix, List.isPrefixOf, Bool.and_true, List.head?_cons, Bool.and_eq_true, beq_iff_eq, decide_eq_true_eq, Option.some.injEq]
    exact ⟨fun ⟨a, b⟩ => ⟨a.symm, b.symm⟩, fun ⟨a, b⟩ => ⟨a.symm, b.symm⟩⟩

set_option maxHeartbeats 2000000 in
theorem first_any (s : ByteArray) (w : World) (hs : s.size ≤ 1000000) (h1 : 1 ≤ s.size) (hm : MaxOk w) :
    Calls Try.prog 22 #[.string s] w fun e w' => e = .returned (v3 (M.first s.data.toList)) ∧ w = w' := by
  obtain ⟨c, r, hl⟩ : ∃ c r, s.data.toList = c :: r := by
    cases h : s.data.toList with
    | nil => have := len_of s; rw [h] at this; simp at this; omega
    | cons c r => exact ⟨c, r, rfl⟩
  have hc : s[0] = c := by rw [← head_of s h1, hl]; rfl
  have hp1 : ∀ w, Calls Try.prog 32 #[.string s, .string ⟨#[47, 47]⟩] w fun e w' => e = .returned (.bool (decide (c = 47 ∧ r.head? = some 47))) ∧ w' = w := fun w => by
    have := Try.strings_HasPrefix s ⟨#[47, 47]⟩ w
    rw [hl, pre_two] at this; exact this
  have hp2 : ∀ w, Calls Try.prog 32 #[.string s, .string ⟨#[47, 42]⟩] w fun e w' => e = .returned (.bool (decide (c = 47 ∧ r.head? = some 42))) ∧ w' = w := fun w => by
    have := Try.strings_HasPrefix s ⟨#[47, 42]⟩ w
    rw [hl, pre_two] at this; exact this
  have hlc := fun w => lineComment_any s w
  have hdg := fun w => isDigit_any s[0].toNat w
  have hlt := fun w => isLetter_any s[0].toNat w
  have hnum := fun w => number_any s w hs h1
  have hword := fun w => word_any s w hs
  have hreg := fun w => region_any s w hs h1
  have hsig := fun w => sign_any s w hs h1
  have hclo := fun (h2 : 2 ≤ s.size) => closedComment_any s w hs h2 hm
  have hf := M.first_cons c r
  rw [hl] at hlc hnum hword hreg hsig hclo ⊢
  rw [show sign3 (c :: r) = if M.two (c :: r) = true then (4, 2, 0) else if M.one c = true then (4, 1, 0) else (4, 0, 20) from rfl] at hsig
  rw [show List.drop 1 (c :: r) = r from rfl] at hreg
  rw [show List.drop 2 (c :: r) = r.drop 1 from rfl] at hclo
  rw [hc] at hdg hlt
  have hbl : M.isB c = M.bln s[0].toNat := by rw [hc]; rfl
  have hsz : r ≠ [] → 2 ≤ s.size := by
    intro h
    rw [← len_of s, hl]
    cases r with
    | nil => exact absurd rfl h
    | cons d r => simp
  rw [show M.isD c = M.dgt c.toNat from rfl, show M.isL c = M.ltr c.toNat from rfl] at hf
  have hc39 : (s[0].toNat : Int) = 39 ↔ c = 39 := by
    rw [← hc]; constructor
    · intro h; exact UInt8.toNat_inj.1 (by show s[0].toNat = 39; omega)
    · intro h; rw [h]; rfl
  have hcn : (c.toNat : Int) = s[0].toNat := by rw [hc]
  generalize M.first (c :: r) = F at *
  generalize M.num (c :: r) = N at *
  generalize M.word (c :: r) = W at *
  generalize M.lineC (c :: r) = LC at *
  have HP1 := hide hp1; have HP2 := hide hp2; have HLC := hide hlc; have HDG := hide hdg; have HLT := hide hlt
  have HNUM := hide hnum; have HWORD := hide hword; have HREG := hide hreg; have HSIG := hide hsig; have HCLO := hide hclo
  have HF := hide hf; have HBL := hide hbl; have HSZ := hide hsz; have H39 := hide hc39
  rw [hcn] at HDG HLT
  have HC := hide hc
  obtain ⟨f1, f2, f3⟩ := F
  show Calls Try.prog 22 #[.string s] w fun e w' => e = .returned (.tuple #[.int .i64 (f1 : Nat), .int .i64 (f2 : Nat), .int .i64 (f3 : Nat)]) ∧ w = w'
  clear hp1 hp2 hlc hdg hlt hnum hword hreg hsig hclo hf hbl hsz hl hc hc39 hcn hm
  by_cases h1b : M.bln s[0].toNat = true
  · have hF : (f1, f2, f3) = (0, 1, 0) := by rw [HF.out, HBL.out, if_pos h1b]
    clear HF
    cases hF
    have h3 : (s[0].toNat : Int) = 32 ∨ (s[0].toNat : Int) = 9 ∨ (s[0].toNat : Int) = 10 := by simp [M.bln] at h1b; omega
    clear h1b
    rcases h3 with h3 | h3 | h3
    all_goals
      go_enter Try.func22, Try.ntmps22
      go_wp2
      go_ret3
      exact ⟨rfl, rfl⟩
  have hn1 : ((s[0].toNat : Int) == 32) = false := by rw [beq_eq_false_iff_ne]; exact fun h => h1b (by simp [M.bln]; omega)
  have hn2 : ((s[0].toNat : Int) == 9) = false := by rw [beq_eq_false_iff_ne]; exact fun h => h1b (by simp [M.bln]; omega)
  have hn3 : ((s[0].toNat : Int) == 10) = false := by rw [beq_eq_false_iff_ne]; exact fun h => h1b (by simp [M.bln]; omega)
  have hF1 := HF.out
  rw [HBL.out, if_neg h1b] at hF1
  clear h1b HF HBL
  by_cases h2 : c = 47 ∧ r.head? = some 47
  · rw [if_pos h2] at hF1
    cases hF1
    have HQ : Hid (decide (c = 47 ∧ r.head? = some 47) = true) := decide_eq_true h2
    clear h2
    go_enter Try.func22, Try.ntmps22
    go_wp2_with (first
      | (go_at_call 32; refine (HP1.out _).mono ?_; rw [HQ.out]; rintro e w' ⟨rfl, rfl⟩)
      | (go_at_call 33; refine (HLC.out _).mono ?_; rintro e w' ⟨rfl, rfl⟩))
    go_ret3
    exact ⟨rfl, rfl⟩
  rw [if_neg h2] at hF1
  have HQ1 : Hid (decide (c = 47 ∧ r.head? = some 47) = false) := decide_eq_false h2
  clear h2
  by_cases h2 : c = 47 ∧ r.head? = some 42
  · rw [if_pos h2] at hF1
    have HQ2 : Hid (decide (c = 47 ∧ r.head? = some 42) = true) := decide_eq_true h2
    have HC2 := hide (HCLO.out (HSZ.out (by intro e; rw [e] at h2; exact absurd h2.2 (by simp))))
    have HX : Hid (Calls Try.prog 34 #[.string s] w fun e w' => e = .returned (.tuple #[.int .i64 (f1 : Nat), .int .i64 (f2 : Nat), .int .i64 (f3 : Nat)]) ∧ w = w') := by
      have := HC2.out
      rw [show endV (M.endC (r.drop 1)) = (f1, f2, f3) from by rw [hF1]; cases M.endC (r.drop 1) <;> rfl] at this
      exact this
    clear h2 hF1
    go_enter Try.func22, Try.ntmps22
    go_wp2_with (first
      | (go_at_call 32; refine (HP1.out _).mono ?_; rw [HQ1.out]; rintro e w' ⟨rfl, rfl⟩)
      | (go_at_call 32; refine (HP2.out _).mono ?_; rw [HQ2.out]; rintro e w' ⟨rfl, rfl⟩)
      | (go_at_call 34; refine (HX.out).mono ?_; rintro e w' ⟨rfl, rfl⟩))
    go_ret3
    exact ⟨rfl, rfl⟩
  rw [if_neg h2] at hF1
  have HQ2 : Hid (decide (c = 47 ∧ r.head? = some 42) = false) := decide_eq_false h2
  clear h2
  by_cases h2 : M.dgt c.toNat = true
  · rw [if_pos h2] at hF1
    have HX : Hid (∀ w, Calls Try.prog 36 #[.string s] w fun e w' => e = .returned (.tuple #[.int .i64 (f1 : Nat), .int .i64 (f2 : Nat), .int .i64 (f3 : Nat)]) ∧ w = w') := by
      intro w
      have := HNUM.out w
      rw [← hF1] at this
      exact this
    have HQ3 := hide h2
    clear h2 hF1
    go_enter Try.func22, Try.ntmps22
    go_wp2_with (first
      | (go_at_call 32; refine (HP1.out _).mono ?_; rw [HQ1.out]; rintro e w' ⟨rfl, rfl⟩)
      | (go_at_call 32; refine (HP2.out _).mono ?_; rw [HQ2.out]; rintro e w' ⟨rfl, rfl⟩)
      | (go_at_call 35; refine (HDG.out _).mono ?_; rw [HQ3.out]; rintro e w' ⟨rfl, rfl⟩)
      | (go_at_call 36; refine (HX.out _).mono ?_; rintro e w' ⟨rfl, rfl⟩))
    go_ret3
    exact ⟨rfl, rfl⟩
  rw [if_neg h2] at hF1
  have HQ3 := hide (Bool.eq_false_iff.2 h2)
  clear h2
  by_cases h2 : M.ltr c.toNat = true
  · rw [if_pos h2] at hF1
    cases hF1
    have HQ4 := hide h2
    clear h2
    go_enter Try.func22, Try.ntmps22
    go_wp2_with (first
      | (go_at_call 32; refine (HP1.out _).mono ?_; rw [HQ1.out]; rintro e w' ⟨rfl, rfl⟩)
      | (go_at_call 32; refine (HP2.out _).mono ?_; rw [HQ2.out]; rintro e w' ⟨rfl, rfl⟩)
      | (go_at_call 35; refine (HDG.out _).mono ?_; rw [HQ3.out]; rintro e w' ⟨rfl, rfl⟩)
      | (go_at_call 37; refine (HLT.out _).mono ?_; rw [HQ4.out]; rintro e w' ⟨rfl, rfl⟩)
      | (go_at_call 38; refine (HWORD.out _).mono ?_; rintro e w' ⟨rfl, rfl⟩))
    go_ret3
    exact ⟨rfl, rfl⟩
  rw [if_neg h2] at hF1
  have HQ4 := hide (Bool.eq_false_iff.2 h2)
  clear h2
  by_cases h2 : c = 39
  · rw [if_pos h2] at hF1
    have HX : Hid (∀ w, Calls Try.prog 39 #[.string s] w fun e w' => e = .returned (.tuple #[.int .i64 (f1 : Nat), .int .i64 (f2 : Nat), .int .i64 (f3 : Nat)]) ∧ w = w') := by
      intro w
      have := HREG.out w
      rw [← hF1] at this
      exact this
    have hq : ((s[0].toNat : Int) == 39) = true := by rw [H39.out.2 h2]; rfl
    clear h2 hF1
    go_enter Try.func22, Try.ntmps22
    go_wp2_with (first
      | (go_at_call 32; refine (HP1.out _).mono ?_; rw [HQ1.out]; rintro e w' ⟨rfl, rfl⟩)
      | (go_at_call 32; refine (HP2.out _).mono ?_; rw [HQ2.out]; rintro e w' ⟨rfl, rfl⟩)
      | (go_at_call 35; refine (HDG.out _).mono ?_; rw [HQ3.out]; rintro e w' ⟨rfl, rfl⟩)
      | (go_at_call 37; refine (HLT.out _).mono ?_; rw [HQ4.out]; rintro e w' ⟨rfl, rfl⟩)
      | (go_at_call 39; refine (HX.out _).mono ?_; rintro e w' ⟨rfl, rfl⟩))
    go_ret3
    exact ⟨rfl, rfl⟩
  rw [if_neg h2] at hF1
  have HX : Hid (∀ w, Calls Try.prog 40 #[.string s] w fun e w' => e = .returned (.tuple #[.int .i64 (f1 : Nat), .int .i64 (f2 : Nat), .int .i64 (f3 : Nat)]) ∧ w = w') := by
    intro w
    have := HSIG.out w
    rw [← hF1] at this
    exact this
  have hq : ((s[0].toNat : Int) == 39) = false := by rw [beq_eq_false_iff_ne]; exact fun h => h2 (H39.out.1 h)
  clear h2 hF1
  go_enter Try.func22, Try.ntmps22
  go_wp2_with (first
    | (go_at_call 32; refine (HP1.out _).mono ?_; rw [HQ1.out]; rintro e w' ⟨rfl, rfl⟩)
    | (go_at_call 32; refine (HP2.out _).mono ?_; rw [HQ2.out]; rintro e w' ⟨rfl, rfl⟩)
    | (go_at_call 35; refine (HDG.out _).mono ?_; rw [HQ3.out]; rintro e w' ⟨rfl, rfl⟩)
    | (go_at_call 37; refine (HLT.out _).mono ?_; rw [HQ4.out]; rintro e w' ⟨rfl, rfl⟩)
    | (go_at_call 40; refine (HX.out _).mono ?_; rintro e w' ⟨rfl, rfl⟩))
  go_ret3
  exact ⟨rfl, rfl⟩
end Go.Proofs.Ytjiencifdpopdaa
