/- Cases by the document's own answer. No conditions beyond the bounds that each statement names. -/
import Derived.Test.YtdccodnompalbaaD1
namespace Go.Proofs.Ytdccodnompalbaa
open Go.RowKit Go.Shelf

theorem occ58 (l : List UInt8) (i : Nat) : Lib.occAt l [58, 58] i = true ↔ l[i]? = some 58 ∧ l[i + 1]? = some 58 := by
  have h0 : l[i]? = (l.drop i)[0]? := by simp
  have h1 : l[i + 1]? = (l.drop i)[1]? := by simp
  rw [h0, h1]
  unfold Lib.occAt
  generalize l.drop i = r
  match r with
  | [] => simp [List.isPrefixOf]
  | [a] => simp [List.isPrefixOf]
  | a :: b :: t =>
    simp [List.isPrefixOf]
    constructor <;> (rintro ⟨h1, h2⟩; exact ⟨h1.symm, h2.symm⟩)
theorem word_no (s : ByteArray) (k : Nat) (hk : k < s.size) (h : s[k].toNat = 58) : wordM s = false := by
  rw [wordM, allN_false hk (by rw [byteN_of s hk, h]; rfl), Bool.and_false]
theorem name_no (s : ByteArray) (k : Nat) (hk : k < s.size) (h : s[k].toNat = 58) : nameM s = false := by rw [nameM, word_no s k hk h, Bool.false_and]
theorem at_of (s : ByteArray) (k : Nat) (hk : k < s.size) : s.data.toList[k]? = some s[k] := by
  rw [List.getElem?_eq_getElem (by simpa using hk)]; simp; rfl
theorem at58 (s : ByteArray) (k : Nat) (hk : k < s.size) : s.data.toList[k]? = some 58 ↔ s[k].toNat = 58 := by
  rw [at_of s k hk]
  constructor
  · intro h; have := Option.some.inj h; rw [this]; rfl
  · intro h; rw [show s[k] = 58 from UInt8.toNat_inj.1 h]
theorem bs_take (s : ByteArray) (k : Nat) : bs (s.data.toList.take k) = s.extract 0 k := by
  refine ByteArray.ext (Array.toList_inj.1 ?_); simp [bs]
theorem bs_drop (s : ByteArray) (k : Nat) : bs (s.data.toList.drop k) = s.extract k s.size := by
  refine ByteArray.ext (Array.toList_inj.1 ?_)
  simp only [bs, ByteArray.data_extract, Array.toList_extract, List.extract_eq_take_drop]
  rw [List.take_of_length_le (by simp)]

theorem case_hit (s : ByteArray) (k : Nat) (hk1 : k + 1 < s.size) (hj : ∀ j (h : j < s.size), j < k → ¬ s[j].toNat = 58) (hk : s[k].toNat = 58) :
    caseM s = (decide (s[k + 1].toNat = 58) && (nameM (s.extract 0 k) && nameM (s.extract (k + 2) s.size))) := by
  have hl : s.data.toList.length = s.size := by simp
  by_cases h : s[k + 1].toNat = 58
  · have hi : Lib.index s.data.toList [58, 58] = k := Lib.index_first (by omega) ((occ58 _ _).2 ⟨(at58 s k (by omega)).2 hk, (at58 s (k + 1) hk1).2 h⟩) fun j hjk => by
      rw [Bool.eq_false_iff]
      intro ho
      exact hj j (by omega) hjk ((at58 s j (by omega)).1 ((occ58 _ _).1 ho).1)
    have hc : Lib.cut s.data.toList [58, 58] = (s.data.toList.take k, s.data.toList.drop (k + 2), true) := by
      unfold Lib.cut; rw [hi, if_pos (by omega)]; rfl
    rw [caseM, hc, bs_take, bs_drop, decide_eq_true h]
  · rw [decide_eq_false h, Bool.false_and]
    rcases Lib.index_spec s.data.toList [58, 58] with ⟨hi, _⟩ | ⟨i, hi, hile, ho, _⟩
    · have hc : Lib.cut s.data.toList [58, 58] = (s.data.toList, [], false) := by
        unfold Lib.cut; rw [hi, if_neg (by omega)]
      rw [caseM, hc, Bool.false_and]
    · obtain ⟨o1, o2⟩ := (occ58 _ _).1 ho
      have hilt : i < s.size := by have := (List.getElem?_eq_some_iff.1 o1).1; omega
      have hi2 : i + 1 < s.size := by have := (List.getElem?_eq_some_iff.1 o2).1; omega
      have hik : k < i := by
        rcases Nat.lt_trichotomy i k with h1 | h1 | h1
        · exact absurd ((at58 s i hilt).1 o1) (hj i hilt h1)
        · subst h1; exact absurd ((at58 s (i + 1) hi2).1 o2) h
        · exact h1
      have hc : Lib.cut s.data.toList [58, 58] = (s.data.toList.take i, s.data.toList.drop (i + 2), true) := by
        unfold Lib.cut; rw [hi, if_pos (by omega)]; rfl
      have hn : nameM (s.extract 0 i) = false := by
        have hki : k < (s.extract 0 i).size := by simp; omega
        refine name_no _ k hki ((at58 _ k hki).1 ?_)
        rw [show (s.extract 0 i).data.toList = s.data.toList.take i by simp, List.getElem?_take_of_lt hik]
        exact (at58 s k (by omega)).2 hk
      rw [caseM, hc, bs_take, hn]; rfl
theorem case_miss (s : ByteArray) (hj : ∀ j (h : j < s.size), j + 1 < s.size → ¬ s[j].toNat = 58) : caseM s = false := by
  have hl : s.data.toList.length = s.size := by simp
  rcases Lib.index_spec s.data.toList [58, 58] with ⟨hi, _⟩ | ⟨i, hi, hile, ho, _⟩
  · have hc : Lib.cut s.data.toList [58, 58] = (s.data.toList, [], false) := by
      unfold Lib.cut; rw [hi, if_neg (by omega)]
    rw [caseM, hc, Bool.false_and]
  · obtain ⟨o1, o2⟩ := (occ58 _ _).1 ho
    have hi2 : i + 1 < s.size := by have := (List.getElem?_eq_some_iff.1 o2).1; omega
    exact absurd ((at58 s i (by omega)).1 o1) (hj i (by omega) hi2)

set_option maxHeartbeats 2000000 in
theorem refCase_any (s : ByteArray) (w : World) (hs : s.size < 4294967281) : Calls Try.prog 70 #[.string s] w fun e w' => e = .returned (.bool (caseM s)) ∧ Below w.heap.size w w' := by
  have HH := hide fun k h1 h2 h3 => case_hit s k h1 h2 h3
  have HM := hide (case_miss s)
  have HA := hide fun k w => refName_any (s.extract 0 k) w (by simp; unfold maxLen; omega)
  have HB := hide fun k w => refName_any (s.extract (k + 2) s.size) w (by simp; unfold maxLen; omega)
  generalize caseM s = R at *
  go_enter Try.func70, Try.ntmps70
  go_wp2
  go_loop [3] (fun i => ∃ k : Nat, k ≤ s.size ∧ i = .int .i64 k ∧ ∀ j (h : j < s.size), j < k → ¬ s[j].toNat = 58) (fun i => s.size - (intOf i).toNat)
  case atStart => exact ⟨0, Nat.zero_le _, rfl, fun j _ h => by omega⟩
  case round =>
    obtain ⟨k, hk, rfl, hall⟩ := hrel
    have HALL := hide hall
    clear hall
    rcases Nat.lt_or_ge (k + 1) s.size with hlt | hge
    · have hi' : (k : Int) + 1 < (s.size : Int) := by omega
      have hk0 : k < s.size := by omega
      by_cases h58 : s[k].toNat = 58
      · have hb : ((s[k].toNat : Int) == 58) = true := by simp [h58]
        have HR := hide (HH.out k hlt HALL.out h58)
        have ha := fun w => HA.out k w
        have hbb := fun w => HB.out k w
        generalize nameM (s.extract 0 k) = A at *
        generalize nameM (s.extract (k + 2) s.size) = B at *
        clear h58 HH HM HALL HA HB
        by_cases h59 : s[k + 1].toNat = 58
        · have hb2 : ((s[k + 1].toNat : Int) == 58) = true := by simp [h59]
          have HR' := hide (show R = (A && B) by rw [HR.out, decide_eq_true h59, Bool.true_and])
          clear HR h59
          cases A
          · go_wp2_with (first | (go_at_call 55; refine (ha _).mono ?_; clear ha; rintro e w' ⟨rfl, hb'⟩; have HB1 := hide hb'; clear hb') | (go_at_call 55; refine (hbb _).mono ?_; clear hbb; rintro e w' ⟨rfl, hb'⟩; have HB2 := hide (bl_trans HB1.out hb'); clear hb'))
            go_ret
            exact ⟨ret_bool (by rw [HR'.out]; simp), HB1.out⟩
          · go_wp2_with (first | (go_at_call 55; refine (ha _).mono ?_; clear ha; rintro e w' ⟨rfl, hb'⟩; have HB1 := hide hb'; clear hb') | (go_at_call 55; refine (hbb _).mono ?_; clear hbb; rintro e w' ⟨rfl, hb'⟩; have HB2 := hide (bl_trans HB1.out hb'); clear hb'))
            go_ret
            exact ⟨ret_bool (by rw [HR'.out]; simp), HB2.out⟩
        · have hb2 : ((s[k + 1].toNat : Int) == 58) = false := by simp; omega
          have HR' := hide (show R = false by rw [HR.out, decide_eq_false h59, Bool.false_and])
          clear HR h59
          go_wp2
          go_ret
          exact ⟨ret_bool (by rw [HR'.out]), Below.refl _ _⟩
      · have hb : ((s[k].toNat : Int) == 58) = false := by simp; omega
        have H58 := hide h58
        clear h58 HH HM HA HB
        go_wp2
        go_round
        case rel => exact ⟨k + 1, by omega, by go_num, fun j h hj => by
          by_cases e : j = k
          · subst e; exact H58.out
          · exact HALL.out j h (by omega)⟩
        case measure => simp [intOf]; omega
    · have hi' : ¬ (k : Int) + 1 < (s.size : Int) := by omega
      have HR := hide (HM.out fun j h h1 => HALL.out j h (by omega))
      clear HH HM HA HB HALL
      go_wp2
      go_ret
      exact ⟨ret_bool (by rw [HR.out]), Below.refl _ _⟩
end Go.Proofs.Ytdccodnompalbaa
