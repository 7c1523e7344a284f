/- Words by the program: names, regions, cases, operators. No conditions beyond the bounds that each statement names. -/
import Derived.Test.YtdccodnompalbaaK4
import Derived.BigQuiet
namespace Go.Proofs.Ytdccodnompalbaa
open Go.RowKit Go.Shelf

def ltr (n : Nat) : Bool := (decide (65 ≤ n) && decide (n ≤ 90)) || ((decide (97 ≤ n) && decide (n ≤ 122)) || n == 95)
def dgt (n : Nat) : Bool := decide (48 ≤ n) && decide (n ≤ 57)
/-- Byte i; 0 behind the end. -/
def byteN (s : ByteArray) (i : Nat) : Nat := if h : i < s.size then s[i].toNat else 0
def okByte (n i : Nat) : Bool := ltr n || (dgt n && i != 0)
/-- Letters, digits and _, and no digit first. -/
def wordM (s : ByteArray) : Bool := s.size != 0 && allN (fun i => okByte (byteN s i) i) s.size
theorem byteN_of (s : ByteArray) {i : Nat} (h : i < s.size) : byteN s i = s[i].toNat := by simp [byteN, h]
theorem ltr_dgt {n : Nat} (h : dgt n = true) : ltr n = false := by
  simp only [dgt, Bool.and_eq_true, decide_eq_true_eq] at h
  rw [Bool.eq_false_iff]; simp [ltr]; omega

theorem empty_of (s : ByteArray) : s.toList.isEmpty = !s.size != 0 := by
  rw [ByteArray.toList_eq]
  have : s.data.toList.length = s.size := by simp
  rw [← this]
  cases s.data.toList <;> rfl

theorem isLetter_any (n : Nat) (w : World) : Calls Try.prog 71 #[.int .u8 n] w fun e w' => e = .returned (.bool (ltr n)) ∧ w = w' := by
  go_enter Try.func71, Try.ntmps71
  go_wp2
  all_goals (go_ret; refine ⟨ret_bool ?_, rfl⟩; rw [Bool.eq_iff_iff]; simp [ltr]; try omega)

set_option maxHeartbeats 1000000 in
theorem isWord_any (s : ByteArray) (w : World) (hs : s.size ≤ maxLen) : Calls Try.prog 62 #[.string s] w fun e w' => e = .returned (.bool (wordM s)) ∧ w = w' := by
  have hs' : s.size ≤ 9223372036854775807 := hs
  have HR := hide (show wordM s = (s.size != 0 && allN (fun i => okByte (byteN s i) i) s.size) from rfl)
  generalize wordM s = R at *
  go_enter Try.func62, Try.ntmps62
  go_wp2
  go_loop [7] (fun i => ∃ k : Nat, k ≤ s.size ∧ i = .int .i64 k ∧ ∀ j, j < k → okByte (byteN s j) j = true) (fun i => s.size - (intOf i).toNat)
  case atStart => exact ⟨0, Nat.zero_le _, rfl, fun j h => by omega⟩
  case round =>
    obtain ⟨k, hk, rfl, hall⟩ := hrel
    have HALL := hide hall
    clear hall
    rcases Nat.lt_or_ge k s.size with hlt | hge
    · have hl := fun w => isLetter_any s[k].toNat w
      have hk1 : (k : Int) < (s.size : Int) := by omega
      have HN : Hid (okByte s[k].toNat k = false → false = R) := hide fun h => by
        rw [HR.out, allN_false hlt (by rw [byteN_of s hlt]; exact h)]; simp
      have HY : Hid (okByte s[k].toNat k = true → ∀ j, j < k + 1 → okByte (byteN s j) j = true) := hide fun h j hj => by
        by_cases e : j = k
        · subst e; rw [byteN_of s hlt]; exact h
        · exact HALL.out j (by omega)
      obtain ⟨n, hn⟩ : ∃ n, n = s[k].toNat := ⟨_, rfl⟩
      rw [← hn] at HN HY hl
      clear HALL
      have hn' : s[k].toNat = n := hn.symm
      clear hn
      by_cases hd : 48 ≤ n ∧ n ≤ 57
      · obtain ⟨d1, d2⟩ := hd
        have hdg : dgt n = true := by simp [dgt, d1, d2]
        have hlf := ltr_dgt hdg
        rcases k with _ | k
        · have HN' := hide (HN.out (by simp [okByte, hlf]))
          clear HN HY hl hdg hlf
          go_wp2
          go_ret
          exact ⟨ret_bool HN'.out, rfl⟩
        · have HY' := hide (HY.out (by simp [okByte, hdg]))
          have hk0 : ((k + 1 : Nat) : Int) ≠ 0 := by omega
          clear HN HY hl hdg hlf
          go_wp2
          go_round
          case rel => exact ⟨k + 1 + 1, by omega, by go_num, HY'.out⟩
          case measure => simp [intOf]; omega
      · have hdg : dgt n = false := by rw [Bool.eq_false_iff]; simp [dgt]; omega
        rcases Nat.lt_or_ge n 48 with d1 | d1
        · cases hl1 : ltr n
          · have HN' := hide (HN.out (by simp [okByte, hl1, hdg]))
            rw [hl1] at hl
            clear HN HY hdg hd hl1
            go_wp2_with (go_at_call 71; refine (hl _).mono ?_; rintro e w' ⟨rfl, rfl⟩)
            go_ret
            exact ⟨ret_bool HN'.out, rfl⟩
          · have HY' := hide (HY.out (by simp [okByte, hl1]))
            rw [hl1] at hl
            clear HN HY hdg hd hl1
            go_wp2_with (go_at_call 71; refine (hl _).mono ?_; rintro e w' ⟨rfl, rfl⟩)
            go_round
            case rel => exact ⟨k + 1, by omega, by go_num, HY'.out⟩
            case measure => simp [intOf]; omega
        · have d2 : 57 < n := by omega
          cases hl1 : ltr n
          · have HN' := hide (HN.out (by simp [okByte, hl1, hdg]))
            rw [hl1] at hl
            clear HN HY hdg hd hl1
            go_wp2_with (go_at_call 71; refine (hl _).mono ?_; rintro e w' ⟨rfl, rfl⟩)
            go_ret
            exact ⟨ret_bool HN'.out, rfl⟩
          · have HY' := hide (HY.out (by simp [okByte, hl1]))
            rw [hl1] at hl
            clear HN HY hdg hd hl1
            go_wp2_with (go_at_call 71; refine (hl _).mono ?_; rintro e w' ⟨rfl, rfl⟩)
            go_round
            case rel => exact ⟨k + 1, by omega, by go_num, HY'.out⟩
            case measure => simp [intOf]; omega
    · have he : k = s.size := by omega
      subst he
      have HA : Hid (allN (fun i => okByte (byteN s i) i) s.size = true) := hide (by rw [allN_iff]; exact HALL.out)
      clear HALL
      go_wp2
      all_goals (go_ret; refine ⟨ret_bool ?_, rfl⟩; rw [HR.out, HA.out]; simp)
      all_goals exact empty_of s
def keyLs : List (List UInt8) := [[115, 116, 114, 117, 99, 116], [99, 104, 111, 105, 99, 101], [99, 111, 112, 121], [102, 110], [108, 101, 116], [109, 117, 116], [105, 102], [101, 108, 115, 101], [119, 104, 105, 108, 101], [108, 111, 111, 112], [98, 114, 101, 97, 107], [99, 111, 110, 116, 105, 110, 117, 101], [114, 101, 116, 117, 114, 110], [109, 97, 116, 99, 104], [116, 114, 117, 101], [102, 97, 108, 115, 101], [119, 104, 101, 114, 101], [66, 111, 120], [86, 101, 99], [105, 110, 116], [98, 111, 111, 108], [117, 110, 105, 116]]
def keyM (s : ByteArray) : Bool := keyLs.any fun x => s.toList == x
/-- A name; a region. -/
def nameM (s : ByteArray) : Bool := wordM s && (s.toList != [95] && !keyM s)

set_option maxHeartbeats 4000000 in
theorem keyword_any (s : ByteArray) (w : World) : Calls Try.prog 63 #[.string s] w fun e w' => e = .returned (.bool (keyM s)) ∧ w = w' := by
  unfold keyM
  have HR : Hid ((keyLs.any fun x => s.toList == x) = (s.toList == [115, 116, 114, 117, 99, 116] || (s.toList == [99, 104, 111, 105, 99, 101] || (s.toList == [99, 111, 112, 121] || (s.toList == [102, 110] || (s.toList == [108, 101, 116] || (s.toList == [109, 117, 116] || (s.toList == [105, 102] || (s.toList == [101, 108, 115, 101] || (s.toList == [119, 104, 105, 108, 101] || (s.toList == [108, 111, 111, 112] || (s.toList == [98, 114, 101, 97, 107] || (s.toList == [99, 111, 110, 116, 105, 110, 117, 101] || (s.toList == [114, 101, 116, 117, 114, 110] || (s.toList == [109, 97, 116, 99, 104] || (s.toList == [116, 114, 117, 101] || (s.toList == [102, 97, 108, 115, 101] || (s.toList == [119, 104, 101, 114, 101] || (s.toList == [66, 111, 120] || (s.toList == [86, 101, 99] || (s.toList == [105, 110, 116] || (s.toList == [98, 111, 111, 108] || (s.toList == [117, 110, 105, 116]))))))))))))))))))))))) := by unfold Hid keyLs; simp only [List.any_cons, List.any_nil, Bool.or_false]
  generalize (keyLs.any fun x => s.toList == x) = R at *
  go_enter Try.func63, Try.ntmps63
  go_wp2
  all_goals (first | (exfalso; simp_all; done) | (go_ret; refine ⟨ret_bool ?_, rfl⟩; rw [HR.out]; simp_all))

theorem isName_any (s : ByteArray) (w : World) (hs : s.size ≤ maxLen) : Calls Try.prog 49 #[.string s] w fun e w' => e = .returned (.bool (nameM s)) ∧ w = w' := by
  have hw := fun w => isWord_any s w hs
  have hk := fun w => keyword_any s w
  have HR := hide (show nameM s = (wordM s && (s.toList != [95] && !keyM s)) from rfl)
  generalize nameM s = R at *
  generalize wordM s = A at *
  generalize keyM s = K at *
  cases A
  · go_enter Try.func49, Try.ntmps49
    go_wp2_with (go_at_call 62; refine (hw _).mono ?_; rintro e w' ⟨rfl, rfl⟩)
    go_ret
    exact ⟨ret_bool (by rw [HR.out]; rfl), rfl⟩
  · by_cases h : s.toList = [95]
    · rw [show (s.toList != [95]) = false by simp [h]] at HR
      go_enter Try.func49, Try.ntmps49
      go_wp2_with (go_at_call 62; refine (hw _).mono ?_; rintro e w' ⟨rfl, rfl⟩)
      go_ret
      exact ⟨ret_bool (by rw [HR.out]; rfl), rfl⟩
    · rw [show (s.toList != [95]) = true by simp [h]] at HR
      go_enter Try.func49, Try.ntmps49
      go_wp2_with (first | (go_at_call 62; refine (hw _).mono ?_; rintro e w' ⟨rfl, rfl⟩) | (go_at_call 63; refine (hk _).mono ?_; rintro e w' ⟨rfl, rfl⟩))
      go_ret
      exact ⟨ret_bool (by rw [HR.out]; simp [h]), rfl⟩
end Go.Proofs.Ytdccodnompalbaa
