/- What a text begins with, by the program: words, numbers, regions, signs, comments. No conditions beyond the bounds that each statement names. -/
import Derived.Test.YtjiencifdpopdaaA
namespace Go.Proofs.Ytjiencifdpopdaa
open Go.RowKit

theorem tw_go (p : UInt8 → Bool) : ∀ (l : List UInt8) (k : Nat) (hk : k < l.length), k ≤ (l.takeWhile p).length → (p l[k] = true → k + 1 ≤ (l.takeWhile p).length) ∧ (p l[k] = false → (l.takeWhile p).length = k)
  | c :: r, 0, _, _ => by
    rw [List.takeWhile_cons]
    refine ⟨fun h => ?_, fun h => ?_⟩
    · simp at h; simp [h]
    · simp at h; simp [h]
  | c :: r, k + 1, hk, h => by
    rw [List.takeWhile_cons] at h ⊢
    by_cases hc : p c = true
    · rw [if_pos hc] at h ⊢
      have := tw_go p r k (by simpa using hk) (by simpa using h)
      simpa using this
    · rw [if_neg hc] at h; simp at h
  | [], _, hk, _ => by simp at hk

theorem word_go (l : List UInt8) (k : Nat) (hk : k < l.length) (h : k ≤ M.word l) : (M.isL l[k] = true ∨ 0 < k ∧ M.isD l[k] = true → k + 1 ≤ M.word l) ∧ (M.isL l[k] = false → k = 0 ∨ M.isD l[k] = false → M.word l = k) := by
  match l, k, hk with
  | c :: r, 0, _ =>
    rw [M.word_cons]
    refine ⟨fun h => ?_, fun h _ => ?_⟩
    · rcases h with h | h
      · simp at h; rw [if_pos h]; omega
      · omega
    · simp at h; simp [h]
  | c :: r, k + 1, hk =>
    rw [M.word_cons] at h ⊢
    by_cases hc : M.isL c = true
    · rw [if_pos hc] at h ⊢
      have := tw_go M.isLD r k (by simpa using hk) (by omega)
      refine ⟨fun h1 => ?_, fun h1 h2 => ?_⟩
      · have := this.1 (by simp at h1; simp [M.isLD]; exact h1); omega
      · have := this.2 (by simp at h1 h2; simp [M.isLD, h1, h2]); omega
    · rw [if_neg hc] at h; omega

theorem at_of (s : ByteArray) (k : Nat) (hk : k < s.size) : s.data.toList[k]'(by simpa using hk) = s[k] := by simp; rfl
theorem len_of (s : ByteArray) : s.data.toList.length = s.size := by simp

set_option maxHeartbeats 1000000 in
theorem word_any (s : ByteArray) (w : World) (hs : s.size ≤ 1000000) : Calls Try.prog 38 #[.string s] w fun e w' => e = .returned (.int .i64 (M.word s.data.toList)) ∧ w = w' := by
  have HL := hide fun n w => isLetter_any n w
  have HD := hide fun n w => isDigit_any n w
  have hle := M.word_le s.data.toList
  rw [len_of] at hle
  have HG := hide fun k (hk : k < s.size) (h : k ≤ M.word s.data.toList) => word_go s.data.toList k (by simpa using hk) h
  generalize M.word s.data.toList = W at *
  go_enter Try.func38, Try.ntmps38
  go_wp2
  go_loop [3] (fun i => ∃ k : Nat, k ≤ W ∧ i = .int .i64 k) (fun i => s.size - (intOf i).toNat)
  case atStart => exact ⟨0, Nat.zero_le _, rfl⟩
  case round =>
    obtain ⟨k, hk, rfl⟩ := hrel
    by_cases hlt : k < s.size
    · have hg := HG.out k hlt hk
      rw [at_of s k hlt] at hg
      obtain ⟨hg1, hg2⟩ := hg
      have H1 := hide hg1
      have H2 := hide hg2
      clear hg1 hg2
      have hd : decide ((k : Int) < (s.size : Int)) = true := by simp; omega
      by_cases hL : M.ltr s[k].toNat = true
      · have HT := hide (H1.out (.inl hL))
        have HB := hide hL
        clear hL
        go_wp2_with (go_at_call 37; refine (HL.out _ _).mono ?_; rw [HB.out]; rintro e w' ⟨rfl, rfl⟩)
        go_round
        case rel => exact ⟨k + 1, HT.out, by go_num⟩
        case measure => simp [intOf]; omega
      · have HB := hide (Bool.eq_false_iff.2 hL)
        clear hL
        by_cases h0 : 0 < k
        · have hd0 : decide ((0 : Int) < (k : Int)) = true := by simp; omega
          have H0 := hide h0
          clear h0
          by_cases hD : M.dgt s[k].toNat = true
          · have HT := hide (H1.out (.inr ⟨H0.out, hD⟩))
            have HC := hide hD
            clear hD
            go_wp2_with (first
              | (go_at_call 37; refine (HL.out _ _).mono ?_; rw [HB.out]; rintro e w' ⟨rfl, rfl⟩)
              | (go_at_call 35; refine (HD.out _ _).mono ?_; rw [HC.out]; rintro e w' ⟨rfl, rfl⟩))
            go_round
            case rel => exact ⟨k + 1, HT.out, by go_num⟩
            case measure => simp [intOf]; omega
          · have HC := hide (Bool.eq_false_iff.2 hD)
            have HT := hide (H2.out HB.out (.inr HC.out))
            clear hD
            go_wp2_with (first
              | (go_at_call 37; refine (HL.out _ _).mono ?_; rw [HB.out]; rintro e w' ⟨rfl, rfl⟩)
              | (go_at_call 35; refine (HD.out _ _).mono ?_; rw [HC.out]; rintro e w' ⟨rfl, rfl⟩))
            go_ret
            exact ⟨ret_int (by rw [HT.out]), rfl⟩
        · have HT := hide (H2.out HB.out (.inl (by omega)))
          obtain rfl : k = 0 := by omega
          clear h0
          go_wp2_with (go_at_call 37; refine (HL.out _ _).mono ?_; rw [HB.out]; rintro e w' ⟨rfl, rfl⟩)
          go_ret
          exact ⟨ret_int (by rw [HT.out]; rfl), rfl⟩
    · have HT : Hid (W = k) := by unfold Hid; omega
      obtain rfl : k = s.size := by omega
      clear hlt
      go_wp2
      go_ret
      exact ⟨ret_int (by rw [HT.out]), rfl⟩

theorem num_go (l : List UInt8) (k : Nat) (hk : k < l.length) (h0 : 1 ≤ k) (h48 : ¬ l[0] = 48) (h : k ≤ M.num l) : (M.isD l[k] = true → k + 1 ≤ M.num l) ∧ (M.isD l[k] = false → M.num l = k) := by
  match l, k, hk with
  | c :: r, 0, _ => omega
  | c :: r, k + 1, hk =>
    rw [M.num_cons, if_neg (by simpa using h48)] at h ⊢
    have := tw_go M.isD r k (by simpa using hk) (by omega)
    refine ⟨fun h1 => ?_, fun h1 => ?_⟩
    · have := this.1 (by simpa using h1); omega
    · have := this.2 (by simpa using h1); omega

theorem ret_three {a b c d e f : Int} (h1 : a = b) (h2 : c = d) (h3 : e = f) : Ending.returned (.tuple #[.int .i64 a, .int .i64 c, .int .i64 e]) = .returned (.tuple #[.int .i64 b, .int .i64 d, .int .i64 f]) := by rw [h1, h2, h3]
/-- What a function of three numbers answers. -/
def v3 (p : Nat × Nat × Nat) : Value := .tuple #[.int .i64 p.1, .int .i64 p.2.1, .int .i64 p.2.2]

theorem take_of (s : ByteArray) (n : Nat) : (s.extract 0 n).data.toList = s.data.toList.take n := by simp

set_option maxHeartbeats 1000000 in
theorem number_any (s : ByteArray) (w : World) (hs : s.size ≤ 1000000) (h0 : 0 < s.size) :
    Calls Try.prog 36 #[.string s] w fun e w' => e = .returned (v3 (if M.big (s.data.toList.take (M.num s.data.toList)) = true then (1, 0, 22) else (1, M.num s.data.toList, 0))) ∧ w = w' := by
  have HD := hide fun n w => isDigit_any n w
  have hle := M.num_le s.data.toList
  rw [len_of] at hle
  have hpos : 1 ≤ M.num s.data.toList := by
    match hl : s.data.toList with
    | [] => have := len_of s; rw [hl] at this; simp at this; omega
    | c :: r => exact M.num_pos c r
  have hbig : M.big (s.data.toList.take (M.num s.data.toList)) = (decide (19 < M.num s.data.toList) || (M.num s.data.toList == 19 && M.gtB (s.data.toList.take (M.num s.data.toList)) M.most)) := by
    unfold M.big; rw [List.length_take, len_of, Nat.min_eq_left hle]
  have HBG := hide hbig
  clear hbig
  obtain ⟨R, hR⟩ : ∃ R : Nat × Nat × Nat, R = (if M.big (s.data.toList.take (M.num s.data.toList)) = true then (1, 0, 22) else (1, M.num s.data.toList, 0)) := ⟨_, rfl⟩
  rw [← hR]
  have h00 := at_of s 0 h0
  by_cases hc : s[0] = 48
  · have hn : M.num s.data.toList = 1 := by
      match hl : s.data.toList with
      | [] => have := len_of s; rw [hl] at this; simp at this; omega
      | c :: r =>
        rw [M.num_cons, if_pos]
        have : s.data.toList[0]'(by simpa using h0) = c := by simp [hl]
        rw [← this, h00, hc]
    rw [hn] at HBG hle
    have HF : Hid (M.big (s.data.toList.take 1) = false) := by have := HBG.out; simp at this; exact this
    rw [hn, HF.out, if_neg (by decide)] at hR
    have HR := hide hR
    clear hR
    have hd : ((s[0].toNat : Int) == 48) = true := by rw [hc]; rfl
    clear hn hpos HBG h00
    go_enter Try.func36, Try.ntmps36
    go_wp2
    go_loop [3] (fun i => i = .int .i64 1) (fun i => 0)
    case atStart => rfl
    case round =>
      obtain rfl := hrel
      go_wp2
      refine bodyPost_ret (v := v3 (1, 1, 0)) (by simp [results, Try.results36, go_sem, v3]) rfl ?_
      exact ⟨by rw [HR.out], rfl⟩
  · have HG := hide fun k (hk : k < s.size) (h1 : 1 ≤ k) (h : k ≤ M.num s.data.toList) => num_go s.data.toList k (by simpa using hk) h1 (by rw [h00]; exact hc) h
    have hd : ¬ (s[0].toNat : Int) = 48 := by
      intro e; exact hc (UInt8.toNat_inj.1 (by show s[0].toNat = 48; omega))
    have HT2 : Hid (M.gtB (s.data.toList.take (M.num s.data.toList)) M.most = !(Op.bytesLess (s.extract 0 (M.num s.data.toList)).toList [57, 50, 50, 51, 51, 55, 50, 48, 51, 54, 56, 53, 52, 55, 55, 53, 56, 48, 55] || (s.extract 0 (M.num s.data.toList)).toList == [57, 50, 50, 51, 51, 55, 50, 48, 51, 54, 56, 53, 52, 55, 55, 53, 56, 48, 55])) := by
      unfold Hid; rw [ByteArray.toList_eq, take_of]; rfl
    have HR := hide hR
    clear hR
    generalize M.num s.data.toList = N at *
    clear hc h00
    have h3 : (decide ((19 : Int) < (N : Int)) = true ∧ M.big (s.data.toList.take N) = true) ∨ (decide ((19 : Int) < (N : Int)) = false ∧ ((N : Int) == 19) = false ∧ M.big (s.data.toList.take N) = false) ∨ N = 19 := by
      rcases Nat.lt_trichotomy N 19 with h | h | h
      · right; left
        exact ⟨by simp; omega, by simp; omega, by rw [HBG.out]; simp; omega⟩
      · exact .inr (.inr h)
      · left
        exact ⟨by simp; omega, by rw [HBG.out]; simp; omega⟩
    have H3 := hide h3
    clear h3
    go_enter Try.func36, Try.ntmps36
    go_wp2
    go_loop [3] (fun i => ∃ k : Nat, 1 ≤ k ∧ k ≤ N ∧ i = .int .i64 k) (fun i => s.size - (intOf i).toNat)
    case atStart => exact ⟨1, Nat.le_refl _, hpos, rfl⟩
    case round =>
      obtain ⟨k, hk1, hk, rfl⟩ := hrel
      by_cases hlt : k < s.size
      · have hg := HG.out k hlt hk1 hk
        rw [at_of s k hlt] at hg
        obtain ⟨hg1, hg2⟩ := hg
        have H1 := hide hg1
        have H2 := hide hg2
        clear hg1 hg2
        by_cases hD : M.dgt s[k].toNat = true
        · have HT := hide (H1.out hD)
          have HC := hide hD
          clear hD
          go_wp2_with fail
          refine (HD.out _ _).mono ?_
          rw [HC.out]
          rintro e w' ⟨rfl, rfl⟩
          go_wp2
          go_round
          case rel => exact ⟨k + 1, by omega, HT.out, by go_num⟩
          case measure => simp [intOf]; omega
        · have HC := hide (Bool.eq_false_iff.2 hD)
          have hT := H2.out HC.out
          clear hD H1 H2 HG
          subst hT
          go_wp2_with fail
          refine (HD.out _ _).mono ?_
          rw [HC.out]
          rintro e w' ⟨rfl, rfl⟩
          rcases H3.out with ⟨hn, hb⟩ | ⟨hn, hn2, hb⟩ | hn
          · have HB := hide hb
            clear hb
            go_wp2
            refine bodyPost_ret (v := v3 (1, 0, 22)) (by simp [results, Try.results36, go_sem, v3]) rfl ?_
            exact ⟨by rw [HR.out, HB.out]; rfl, rfl⟩
          · have HB := hide hb
            clear hb
            go_wp2
            refine bodyPost_ret (v := v3 (1, N, 0)) (by simp [results, Try.results36, go_sem, v3]) rfl ?_
            exact ⟨by rw [HR.out, HB.out]; rfl, rfl⟩
          · subst hn
            go_wp2
            · have hh : (!Op.bytesLess (s.extract 0 19).toList [57, 50, 50, 51, 51, 55, 50, 48, 51, 54, 56, 53, 52, 55, 55, 53, 56, 48, 55]) = true ∧ (!(s.extract 0 19).toList == [57, 50, 50, 51, 51, 55, 50, 48, 51, 54, 56, 53, 52, 55, 55, 53, 56, 48, 55]) = true := by assumption
              refine bodyPost_ret (v := v3 (1, 0, 22)) (by simp [results, Try.results36, go_sem, v3]) rfl ?_
              have e1 := HT2.out; have e2 := HBG.out; have e3 := HR.out
              have hb : M.big (s.data.toList.take 19) = true := by rw [e2, e1, Bool.not_or, hh.1, hh.2]; rfl
              exact ⟨by rw [e3, hb]; rfl, rfl⟩
            · have hh : (!Op.bytesLess (s.extract 0 19).toList [57, 50, 50, 51, 51, 55, 50, 48, 51, 54, 56, 53, 52, 55, 55, 53, 56, 48, 55]) = false ∨ (!(s.extract 0 19).toList == [57, 50, 50, 51, 51, 55, 50, 48, 51, 54, 56, 53, 52, 55, 55, 53, 56, 48, 55]) = false := by assumption
              refine bodyPost_ret (v := v3 (1, 19, 0)) (by simp [results, Try.results36, go_sem, v3]) rfl ?_
              have e1 := HT2.out; have e2 := HBG.out; have e3 := HR.out
              have hb : M.big (s.data.toList.take 19) = false := by rw [e2, e1, Bool.not_or]; rcases hh with h | h <;> rw [h] <;> simp
              exact ⟨by rw [e3, hb]; rfl, rfl⟩
      · obtain rfl : k = N := by omega
        obtain rfl : k = s.size := by omega
        clear hlt HG
        rcases H3.out with ⟨hn, hb⟩ | ⟨hn, hn2, hb⟩ | hn
        · have HB := hide hb
          clear hb
          go_wp2
          refine bodyPost_ret (v := v3 (1, 0, 22)) (by simp [results, Try.results36, go_sem, v3]) rfl ?_
          exact ⟨by rw [HR.out, HB.out]; rfl, rfl⟩
        · have HB := hide hb
          clear hb
          go_wp2
          refine bodyPost_ret (v := v3 (1, s.size, 0)) (by simp [results, Try.results36, go_sem, v3]) rfl ?_
          exact ⟨by rw [HR.out, HB.out]; rfl, rfl⟩
        · have hsz : (s.size : Int) = 19 := by omega
          go_wp2
          · have hh : (!Op.bytesLess (s.extract 0 19).toList [57, 50, 50, 51, 51, 55, 50, 48, 51, 54, 56, 53, 52, 55, 55, 53, 56, 48, 55]) = true ∧ (!(s.extract 0 19).toList == [57, 50, 50, 51, 51, 55, 50, 48, 51, 54, 56, 53, 52, 55, 55, 53, 56, 48, 55]) = true := by assumption
            refine bodyPost_ret (v := v3 (1, 0, 22)) (by simp [results, Try.results36, go_sem, v3]) rfl ?_
            have e1 := HT2.out; have e2 := HBG.out; have e3 := HR.out
            rw [hn] at e1 e2 e3
            have hb : M.big (s.data.toList.take 19) = true := by rw [e2, e1, Bool.not_or, hh.1, hh.2]; rfl
            exact ⟨by rw [e3, hb]; rfl, rfl⟩
          · have hh : (!Op.bytesLess (s.extract 0 19).toList [57, 50, 50, 51, 51, 55, 50, 48, 51, 54, 56, 53, 52, 55, 55, 53, 56, 48, 55]) = false ∨ (!(s.extract 0 19).toList == [57, 50, 50, 51, 51, 55, 50, 48, 51, 54, 56, 53, 52, 55, 55, 53, 56, 48, 55]) = false := by assumption
            refine bodyPost_ret (v := v3 (1, 19, 0)) (by simp [results, Try.results36, go_sem, v3]) rfl ?_
            have e1 := HT2.out; have e2 := HBG.out; have e3 := HR.out
            rw [hn] at e1 e2 e3
            have hb : M.big (s.data.toList.take 19) = false := by rw [e2, e1, Bool.not_or]; rcases hh with h | h <;> rw [h] <;> simp
            exact ⟨by rw [e3, hb]; rfl, rfl⟩
end Go.Proofs.Ytjiencifdpopdaa
