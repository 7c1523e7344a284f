/- The kinds by the program: of which class one is, of which sort one is, which kids one asks, and whether kids are those. No conditions beyond the bounds that each statement names. -/
import Derived.Test.YtdccodnompalbaaG
namespace Go.Proofs.Ytdccodnompalbaa
open Go.RowKit Go.Shelf

def isOneM (k c : Int) : Bool :=
  if c = 1 then (k == 2 || (k == 3 || k == 4)) else if c = 2 then (decide (20 ≤ k) && decide (k ≤ 26)) else if c = 3 then (k == 30 || k == 31)
  else if c = 4 then (k == 6 || (decide (40 ≤ k) && decide (k ≤ 62) && !(k == 49 || (k == 51 || k == 61)))) else if c = 5 then (decide (70 ≤ k) && decide (k ≤ 74)) else false

theorem isOne_any (k c : Int) (w : World) : Calls Try.prog 34 #[.int .i64 k, .int .i64 c] w fun e w' => e = .returned (.bool (isOneM k c)) ∧ w = w' := by
  obtain ⟨R, hR⟩ : ∃ R, R = isOneM k c := ⟨_, rfl⟩
  have HR := hide hR
  rw [← hR]
  clear hR
  by_cases c1 : c = 1
  · subst c1
    by_cases h2 : k = 2
    · subst h2; have e : R = true := HR.out; subst e; go_enter Try.func34, Try.ntmps34; go_wp2; go_ret; first | exact ⟨rfl, rfl⟩ | (refine ⟨ret_bool ?_, rfl⟩; first | (simp [*]; done) | (simp; omega))
    by_cases h3 : k = 3
    · subst h3; have e : R = true := HR.out; subst e; go_enter Try.func34, Try.ntmps34; go_wp2; go_ret; first | exact ⟨rfl, rfl⟩ | (refine ⟨ret_bool ?_, rfl⟩; first | (simp [*]; done) | (simp; omega))
    by_cases h4 : k = 4
    · subst h4; have e : R = true := HR.out; subst e; go_enter Try.func34, Try.ntmps34; go_wp2; go_ret; first | exact ⟨rfl, rfl⟩ | (refine ⟨ret_bool ?_, rfl⟩; first | (simp [*]; done) | (simp; omega))
    · have e : R = false := by rw [HR.out]; simp [isOneM, h2, h3, h4]
      subst e; go_enter Try.func34, Try.ntmps34; go_wp2; go_ret; first | exact ⟨rfl, rfl⟩ | (refine ⟨ret_bool ?_, rfl⟩; first | (simp [*]; done) | (simp; omega))
  by_cases c2 : c = 2
  · subst c2
    rcases Int.lt_or_le k 20 with h | h
    · have e : R = false := by rw [HR.out]; simp [isOneM]; omega
      subst e; go_enter Try.func34, Try.ntmps34; go_wp2; go_ret; first | exact ⟨rfl, rfl⟩ | (refine ⟨ret_bool ?_, rfl⟩; first | (simp [*]; done) | (simp; omega))
    rcases Int.lt_or_le 26 k with h' | h'
    · have e : R = false := by rw [HR.out]; simp [isOneM]; omega
      subst e; go_enter Try.func34, Try.ntmps34; go_wp2; go_ret; first | exact ⟨rfl, rfl⟩ | (refine ⟨ret_bool ?_, rfl⟩; first | (simp [*]; done) | (simp; omega))
    · have e : R = true := by rw [HR.out]; simp [isOneM]; omega
      subst e; go_enter Try.func34, Try.ntmps34; go_wp2; go_ret; first | exact ⟨rfl, rfl⟩ | (refine ⟨ret_bool ?_, rfl⟩; first | (simp [*]; done) | (simp; omega))
  by_cases c3 : c = 3
  · subst c3
    by_cases h2 : k = 30
    · subst h2; have e : R = true := HR.out; subst e; go_enter Try.func34, Try.ntmps34; go_wp2; go_ret; first | exact ⟨rfl, rfl⟩ | (refine ⟨ret_bool ?_, rfl⟩; first | (simp [*]; done) | (simp; omega))
    by_cases h3 : k = 31
    · subst h3; have e : R = true := HR.out; subst e; go_enter Try.func34, Try.ntmps34; go_wp2; go_ret; first | exact ⟨rfl, rfl⟩ | (refine ⟨ret_bool ?_, rfl⟩; first | (simp [*]; done) | (simp; omega))
    · have e : R = false := by rw [HR.out]; simp [isOneM, h2, h3]
      subst e; go_enter Try.func34, Try.ntmps34; go_wp2; go_ret; first | exact ⟨rfl, rfl⟩ | (refine ⟨ret_bool ?_, rfl⟩; first | (simp [*]; done) | (simp; omega))
  by_cases c4 : c = 4
  · subst c4
    by_cases h6 : k = 6
    · subst h6; have e : R = true := HR.out; subst e; go_enter Try.func34, Try.ntmps34; go_wp2; go_ret; first | exact ⟨rfl, rfl⟩ | (refine ⟨ret_bool ?_, rfl⟩; first | (simp [*]; done) | (simp; omega))
    by_cases h49 : k = 49
    · subst h49; have e : R = false := HR.out; subst e; go_enter Try.func34, Try.ntmps34; go_wp2; go_ret; first | exact ⟨rfl, rfl⟩ | (refine ⟨ret_bool ?_, rfl⟩; first | (simp [*]; done) | (simp; omega))
    by_cases h51 : k = 51
    · subst h51; have e : R = false := HR.out; subst e; go_enter Try.func34, Try.ntmps34; go_wp2; go_ret; first | exact ⟨rfl, rfl⟩ | (refine ⟨ret_bool ?_, rfl⟩; first | (simp [*]; done) | (simp; omega))
    by_cases h61 : k = 61
    · subst h61; have e : R = false := HR.out; subst e; go_enter Try.func34, Try.ntmps34; go_wp2; go_ret; first | exact ⟨rfl, rfl⟩ | (refine ⟨ret_bool ?_, rfl⟩; first | (simp [*]; done) | (simp; omega))
    rcases Int.lt_or_le k 40 with h | h
    · have e : R = false := by rw [HR.out]; simp [isOneM, h6]; omega
      subst e; go_enter Try.func34, Try.ntmps34; go_wp2; go_ret; first | exact ⟨rfl, rfl⟩ | (refine ⟨ret_bool ?_, rfl⟩; first | (simp [*]; done) | (simp; omega))
    rcases Int.lt_or_le 62 k with h' | h'
    · have e : R = false := by rw [HR.out]; simp [isOneM, h6]; omega
      subst e; go_enter Try.func34, Try.ntmps34; go_wp2; go_ret; first | exact ⟨rfl, rfl⟩ | (refine ⟨ret_bool ?_, rfl⟩; first | (simp [*]; done) | (simp; omega))
    · have e : R = true := by rw [HR.out]; simp [isOneM, h49, h51, h61, h, h']
      subst e; go_enter Try.func34, Try.ntmps34; go_wp2; go_ret; first | exact ⟨rfl, rfl⟩ | (refine ⟨ret_bool ?_, rfl⟩; first | (simp [*]; done) | (simp; omega))
  by_cases c5 : c = 5
  · subst c5
    rcases Int.lt_or_le k 70 with h | h
    · have e : R = false := by rw [HR.out]; simp [isOneM]; omega
      subst e; go_enter Try.func34, Try.ntmps34; go_wp2; go_ret; first | exact ⟨rfl, rfl⟩ | (refine ⟨ret_bool ?_, rfl⟩; first | (simp [*]; done) | (simp; omega))
    rcases Int.lt_or_le 74 k with h' | h'
    · have e : R = false := by rw [HR.out]; simp [isOneM]; omega
      subst e; go_enter Try.func34, Try.ntmps34; go_wp2; go_ret; first | exact ⟨rfl, rfl⟩ | (refine ⟨ret_bool ?_, rfl⟩; first | (simp [*]; done) | (simp; omega))
    · have e : R = true := by rw [HR.out]; simp [isOneM]; omega
      subst e; go_enter Try.func34, Try.ntmps34; go_wp2; go_ret; first | exact ⟨rfl, rfl⟩ | (refine ⟨ret_bool ?_, rfl⟩; first | (simp [*]; done) | (simp; omega))
  · have e : R = false := by rw [HR.out]; simp [isOneM, c1, c2, c3, c4, c5]
    subst e; go_enter Try.func34, Try.ntmps34; go_wp2; go_ret; first | exact ⟨rfl, rfl⟩ | (refine ⟨ret_bool ?_, rfl⟩; first | (simp [*]; done) | (simp; omega))

/-- Of a sort: a kind stands for itself; 0: for nothing. -/
def isOfM (k s : Int) : Bool :=
  if s = 0 then false else if s = 100 then isOneM k 1 else if s = 101 then isOneM k 2 else if s = 102 then (k == 0 || isOneM k 2) else if s = 103 then isOneM k 3
  else if s = 104 then isOneM k 4 else if s = 105 then (k == 0 || isOneM k 4) else if s = 106 then (k == 0 || (k == 53 || k == 59)) else if s = 107 then isOneM k 5 else k == s

theorem isOf_any (k s : Int) (w : World) : Calls Try.prog 61 #[.int .i64 k, .int .i64 s] w fun e w' => e = .returned (.bool (isOfM k s)) ∧ w = w' := by
  have ho := fun c w => isOne_any k c w
  obtain ⟨R, hR⟩ : ∃ R, R = isOfM k s := ⟨_, rfl⟩
  have HR := hide hR
  rw [← hR]
  clear hR
  by_cases s0 : s = 0
  · subst s0; have e : R = false := HR.out; subst e; go_enter Try.func61, Try.ntmps61; go_wp2; go_ret; first | exact ⟨rfl, rfl⟩ | (refine ⟨ret_bool ?_, rfl⟩; first | (simp [*]; done) | (simp; omega))
  by_cases s1 : s = 100
  · subst s1; go_enter Try.func61, Try.ntmps61; go_wp2_with (go_at_call 34; refine (ho 1 _).mono ?_; rintro e w2 ⟨rfl, rfl⟩); go_ret; exact ⟨ret_bool HR.out.symm, rfl⟩
  by_cases s2 : s = 101
  · subst s2; go_enter Try.func61, Try.ntmps61; go_wp2_with (go_at_call 34; refine (ho 2 _).mono ?_; rintro e w2 ⟨rfl, rfl⟩); go_ret; exact ⟨ret_bool HR.out.symm, rfl⟩
  by_cases s3 : s = 102
  · subst s3
    by_cases h0 : k = 0
    · subst h0; have e : R = true := HR.out; subst e; go_enter Try.func61, Try.ntmps61; go_wp2; go_ret; first | exact ⟨rfl, rfl⟩ | (refine ⟨ret_bool ?_, rfl⟩; first | (simp [*]; done) | (simp; omega))
    · have e : R = isOneM k 2 := by rw [HR.out]; simp [isOfM, h0]
      subst e; go_enter Try.func61, Try.ntmps61; go_wp2_with (go_at_call 34; refine (ho 2 _).mono ?_; rintro e w2 ⟨rfl, rfl⟩); go_ret; first | exact ⟨rfl, rfl⟩ | (refine ⟨ret_bool ?_, rfl⟩; first | (simp [*]; done) | (simp; omega))
  by_cases s4 : s = 103
  · subst s4; go_enter Try.func61, Try.ntmps61; go_wp2_with (go_at_call 34; refine (ho 3 _).mono ?_; rintro e w2 ⟨rfl, rfl⟩); go_ret; exact ⟨ret_bool HR.out.symm, rfl⟩
  by_cases s5 : s = 104
  · subst s5; go_enter Try.func61, Try.ntmps61; go_wp2_with (go_at_call 34; refine (ho 4 _).mono ?_; rintro e w2 ⟨rfl, rfl⟩); go_ret; exact ⟨ret_bool HR.out.symm, rfl⟩
  by_cases s6 : s = 105
  · subst s6
    by_cases h0 : k = 0
    · subst h0; have e : R = true := HR.out; subst e; go_enter Try.func61, Try.ntmps61; go_wp2; go_ret; first | exact ⟨rfl, rfl⟩ | (refine ⟨ret_bool ?_, rfl⟩; first | (simp [*]; done) | (simp; omega))
    · have e : R = isOneM k 4 := by rw [HR.out]; simp [isOfM, h0]
      subst e; go_enter Try.func61, Try.ntmps61; go_wp2_with (go_at_call 34; refine (ho 4 _).mono ?_; rintro e w2 ⟨rfl, rfl⟩); go_ret; first | exact ⟨rfl, rfl⟩ | (refine ⟨ret_bool ?_, rfl⟩; first | (simp [*]; done) | (simp; omega))
  by_cases s7 : s = 106
  · subst s7
    by_cases h0 : k = 0
    · subst h0; have e : R = true := HR.out; subst e; go_enter Try.func61, Try.ntmps61; go_wp2; go_ret; first | exact ⟨rfl, rfl⟩ | (refine ⟨ret_bool ?_, rfl⟩; first | (simp [*]; done) | (simp; omega))
    by_cases h53 : k = 53
    · subst h53; have e : R = true := HR.out; subst e; go_enter Try.func61, Try.ntmps61; go_wp2; go_ret; first | exact ⟨rfl, rfl⟩ | (refine ⟨ret_bool ?_, rfl⟩; first | (simp [*]; done) | (simp; omega))
    by_cases h59 : k = 59
    · subst h59; have e : R = true := HR.out; subst e; go_enter Try.func61, Try.ntmps61; go_wp2; go_ret; first | exact ⟨rfl, rfl⟩ | (refine ⟨ret_bool ?_, rfl⟩; first | (simp [*]; done) | (simp; omega))
    · have e : R = false := by rw [HR.out]; simp [isOfM, h0, h53, h59]
      subst e; go_enter Try.func61, Try.ntmps61; go_wp2; go_ret; first | exact ⟨rfl, rfl⟩ | (refine ⟨ret_bool ?_, rfl⟩; first | (simp [*]; done) | (simp; omega))
  by_cases s8 : s = 107
  · subst s8; go_enter Try.func61, Try.ntmps61; go_wp2_with (go_at_call 34; refine (ho 5 _).mono ?_; rintro e w2 ⟨rfl, rfl⟩); go_ret; exact ⟨ret_bool HR.out.symm, rfl⟩
  · have e : R = (k == s) := by rw [HR.out]; simp [isOfM, s0, s1, s2, s3, s4, s5, s6, s7, s8]
    subst e; clear HR ho; go_enter Try.func61, Try.ntmps61; go_wp2; go_ret; first | exact ⟨rfl, rfl⟩ | (refine ⟨ret_bool ?_, rfl⟩; first | (simp [*]; done) | (simp; omega))
end Go.Proofs.Ytdccodnompalbaa
