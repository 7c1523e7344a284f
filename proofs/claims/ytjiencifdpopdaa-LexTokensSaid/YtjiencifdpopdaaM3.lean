/- The document's own kinds of tokens, and the longest beginning that is one. Of no program; no conditions beyond those that each statement names. -/
import Derived.Test.YtjiencifdpopdaaM2
namespace Go.Proofs.Ytjiencifdpopdaa
namespace M

def wordB : List UInt8 → Bool
  | [] => false
  | c :: r => isL c && r.all isLD
def signs : List (List UInt8) := [[40], [41], [123], [125], [91], [93], [44], [59], [58], [58, 58], [46], [45, 62], [61, 62], [61], [61, 61], [33, 61], [60], [60, 61], [62], [62, 61], [43], [45], [42], [47], [37], [33], [38], [38, 38], [124, 124]]
def regB : List UInt8 → Bool
  | [] => false
  | c :: r => c == 39 && wordB r
def numB : List UInt8 → Bool
  | [] => false
  | c :: r => (isD c && r.all isD) && (r.isEmpty || !(c == 48))
/-- The kind of a text that is one token; 0: it is none. -/
def kindR (l : List UInt8) : Nat := if wordB l = true then 2 else if signs.contains l = true then 4 else if regB l = true then 3 else if numB l = true then 1 else 0

theorem sign_one (c : UInt8) : signs.contains [c] = one c := by
  rw [Bool.eq_iff_iff]; simp [signs, one]
theorem sign_two (c d : UInt8) : signs.contains [c, d] = two [c, d] := by
  rw [Bool.eq_iff_iff]; simp [signs, two]
theorem sign_more (c d e : UInt8) (r : List UInt8) : signs.contains (c :: d :: e :: r) = false := by
  simp [signs]

theorem toNat_ne {c : UInt8} (k : UInt8) (h : ¬ c.toNat = k.toNat) : ¬ c = k := fun e => h (by rw [e])
theorem L_not_D {c : UInt8} (h : isL c = true) : isD c = false := by
  simp [isL, ltr] at h; simp [isD, dgt]; omega
theorem L_not_39 {c : UInt8} (h : isL c = true) : ¬ c = 39 := by rintro rfl; revert h; decide
theorem D_not_39 {c : UInt8} (h : isD c = true) : ¬ c = 39 := by rintro rfl; revert h; decide
theorem LD_not_sign {c : UInt8} (h : isLD c = true) (r : List UInt8) : signs.contains (c :: r) = false := by
  rw [Bool.eq_false_iff]
  intro hs
  simp [signs] at hs
  have hc : c = 40 ∨ c = 41 ∨ c = 123 ∨ c = 125 ∨ c = 91 ∨ c = 93 ∨ c = 44 ∨ c = 59 ∨ c = 58 ∨ c = 46 ∨ c = 45 ∨ c = 61 ∨ c = 33 ∨ c = 60 ∨ c = 62 ∨ c = 43 ∨ c = 42 ∨ c = 47 ∨ c = 37 ∨ c = 38 ∨ c = 124 := by
    rcases hs with ⟨rfl, _⟩ | ⟨rfl, _⟩ | ⟨rfl, _⟩ | ⟨rfl, _⟩ | ⟨rfl, _⟩ | ⟨rfl, _⟩ | ⟨rfl, _⟩ | ⟨rfl, _⟩ | ⟨rfl, _⟩ | ⟨rfl, _⟩ | ⟨rfl, _⟩ | ⟨rfl, _⟩ | ⟨rfl, _⟩ | ⟨rfl, _⟩ | ⟨rfl, _⟩ | ⟨rfl, _⟩ | ⟨rfl, _⟩ | ⟨rfl, _⟩ | ⟨rfl, _⟩ | ⟨rfl, _⟩ | ⟨rfl, _⟩ | ⟨rfl, _⟩ | ⟨rfl, _⟩ | ⟨rfl, _⟩ | ⟨rfl, _⟩ | ⟨rfl, _⟩ | ⟨rfl, _⟩ | ⟨rfl, _⟩ | ⟨rfl, _⟩ <;> decide
  rcases hc with rfl | rfl | rfl | rfl | rfl | rfl | rfl | rfl | rfl | rfl | rfl | rfl | rfl | rfl | rfl | rfl | rfl | rfl | rfl | rfl | rfl <;> revert h <;> decide
theorem LD_of_L {c : UInt8} (h : isL c = true) : isLD c = true := by simp [isLD, h]
theorem LD_of_D {c : UInt8} (h : isD c = true) : isLD c = true := by simp [isLD, h]

theorem kind_L {c : UInt8} (h : isL c = true) (r : List UInt8) : kindR (c :: r) = if r.all isLD = true then 2 else 0 := by
  unfold kindR
  by_cases hr : r.all isLD = true
  · rw [if_pos (by simp [wordB, h]; simpa using hr), if_pos hr]
  · rw [if_neg (by simp only [wordB, h, Bool.true_and]; exact hr), if_neg (by rw [LD_not_sign (LD_of_L h)]; decide), if_neg (by simp [regB, L_not_39 h]), if_neg (by simp [numB, L_not_D h]), if_neg hr]
theorem kind_D {c : UInt8} (h : isD c = true) (r : List UInt8) : kindR (c :: r) = if r.all isD = true ∧ (r = [] ∨ ¬ c = 48) then 1 else 0 := by
  have hL : ¬ isL c = true := fun e => by rw [L_not_D e] at h; cases h
  unfold kindR
  rw [if_neg (by simp [wordB, hL]), if_neg (by rw [LD_not_sign (LD_of_D h)]; decide), if_neg (by simp [regB, D_not_39 h])]
  by_cases hr : r.all isD = true ∧ (r = [] ∨ ¬ c = 48)
  · rw [if_pos hr, if_pos]
    obtain ⟨h1, h2⟩ := hr
    simp only [numB, h, h1, Bool.true_and]
    rcases h2 with rfl | h2
    · rfl
    · simp [h2]
  · rw [if_neg hr, if_neg]
    intro hn
    simp only [numB, h, Bool.true_and, Bool.and_eq_true, Bool.or_eq_true] at hn
    refine hr ⟨hn.1, ?_⟩
    rcases hn.2 with h2 | h2
    · left; simpa using h2
    · right; simpa using h2
theorem kind_39 (r : List UInt8) : kindR (39 :: r) = if wordB r = true then 3 else 0 := by
  unfold kindR
  have hL : isL 39 = false := by decide
  have hD : isD 39 = false := by decide
  rw [if_neg (by simp [wordB, hL]), if_neg (by simp [signs])]
  by_cases h : wordB r = true
  · rw [if_pos h, if_pos (by simp [regB, h])]
  · rw [if_neg h, if_neg (by simp [regB, h]), if_neg (by simp [numB, hD])]
theorem kind_sign {c : UInt8} (h1 : ¬ isL c = true) (h2 : ¬ isD c = true) (h3 : ¬ c = 39) (r : List UInt8) : kindR (c :: r) = if signs.contains (c :: r) = true then 4 else 0 := by
  unfold kindR
  rw [if_neg (by simp [wordB, h1])]
  by_cases h : signs.contains (c :: r) = true
  · rw [if_pos h, if_pos h]
  · rw [if_neg h, if_neg h, if_neg (by simp [regB, h3]), if_neg (by simp [numB, h2])]

theorem tw_all (p : UInt8 → Bool) : ∀ (r : List UInt8) (j : Nat), j ≤ r.length → ((r.take j).all p = true ↔ j ≤ (r.takeWhile p).length)
  | [], j, h => by simp at h; subst h; simp
  | c :: r, 0, _ => by simp
  | c :: r, j + 1, h => by
    rw [List.take_succ_cons, List.all_cons, List.takeWhile_cons]
    by_cases hc : p c = true
    · rw [if_pos hc, hc, Bool.true_and, tw_all p r j (by simpa using h)]; simp
    · rw [if_neg hc]; simp [hc]

/-- The longest beginning that is a token. -/
def Prof (l : List UInt8) (k n : Nat) : Prop :=
  kindR (l.take n) = k ∧ k ≠ 0 ∧ 1 ≤ n ∧ n ≤ l.length ∧ (∀ j, 2 ≤ j → j ≤ n → kindR (l.take j) ≠ 0) ∧ (n < l.length → kindR (l.take (n + 1)) = 0)

theorem prof_num {c : UInt8} (r : List UInt8) (h : isD c = true) : Prof (c :: r) 1 (num (c :: r)) := by
  have hle := num_le (c :: r)
  have hpos := num_pos c r
  have key : ∀ j, 1 ≤ j → j ≤ (c :: r).length → kindR ((c :: r).take j) = if j ≤ num (c :: r) then 1 else 0 := by
    intro j hj hjl
    match j, hj with
    | j + 1, _ =>
      rw [List.take_succ_cons, kind_D h]
      simp at hjl
      have hta := tw_all isD r j hjl
      rw [num_cons]
      by_cases h0 : c = 48
      · rw [if_pos h0]
        by_cases hj0 : j = 0
        · subst hj0; simp
        · rw [if_neg (show ¬ j + 1 ≤ 1 by omega), if_neg]
          rintro ⟨_, e | e⟩
          · exact ne_of_len (n := j) (by rw [List.length_take]; omega) (by omega) e
          · exact e h0
      · rw [if_neg h0]
        by_cases hj1 : j ≤ (r.takeWhile isD).length
        · rw [if_pos ⟨hta.2 hj1, .inr h0⟩, if_pos (by omega)]
        · rw [if_neg (fun e => hj1 (hta.1 e.1)), if_neg (by omega)]
  refine ⟨by rw [key _ hpos hle, if_pos (Nat.le_refl _)], by decide, hpos, hle, fun j h2 hjn => ?_, fun hn => ?_⟩
  · rw [key j (by omega) (by omega), if_pos hjn]; decide
  · rw [key _ (by omega) (by omega), if_neg (by omega)]

theorem prof_word {c : UInt8} (r : List UInt8) (h : isL c = true) : Prof (c :: r) 2 (word (c :: r)) := by
  have hle := word_le (c :: r)
  have hw : word (c :: r) = (r.takeWhile isLD).length + 1 := by rw [word_cons, if_pos h]
  have key : ∀ j, 1 ≤ j → j ≤ (c :: r).length → kindR ((c :: r).take j) = if j ≤ word (c :: r) then 2 else 0 := by
    intro j hj hjl
    match j, hj with
    | j + 1, _ =>
      rw [List.take_succ_cons, kind_L h]
      simp at hjl
      have hta := tw_all isLD r j hjl
      rw [hw]
      by_cases hj1 : j ≤ (r.takeWhile isLD).length
      · rw [if_pos (hta.2 hj1), if_pos (by omega)]
      · rw [if_neg (fun e => hj1 (hta.1 e)), if_neg (by omega)]
  refine ⟨by rw [key _ (by omega) hle, if_pos (Nat.le_refl _)], by decide, by omega, hle, fun j h2 hjn => ?_, fun hn => ?_⟩
  · rw [key j (by omega) (by omega), if_pos hjn]; decide
  · rw [key _ (by omega) (by omega), if_neg (by omega)]

theorem prof_region (r : List UInt8) (h : word r ≠ 0) : Prof (39 :: r) 3 (word r + 1) := by
  match r, h with
  | [], h => simp [word] at h
  | d :: r, h =>
    have hd : isL d = true := by rw [word_cons] at h; by_cases hd : isL d = true; exact hd; rw [if_neg hd] at h; exact absurd rfl h
    have hle := word_le (d :: r)
    have hw : word (d :: r) = (r.takeWhile isLD).length + 1 := by rw [word_cons, if_pos hd]
    have key : ∀ j, 2 ≤ j → j ≤ (39 :: d :: r).length → kindR ((39 :: d :: r).take j) = if j ≤ word (d :: r) + 1 then 3 else 0 := by
      intro j hj hjl
      match j, hj with
      | j + 2, _ =>
        rw [List.take_succ_cons, List.take_succ_cons, kind_39]
        simp at hjl
        have : wordB (d :: r.take j) = true ↔ j ≤ (r.takeWhile isLD).length := by
          rw [← tw_all isLD r j hjl]; simp [wordB, hd]
        rw [hw]
        by_cases hj1 : j ≤ (r.takeWhile isLD).length
        · rw [if_pos (this.2 hj1), if_pos (by omega)]
        · rw [if_neg (fun e => hj1 (this.1 e)), if_neg (by omega)]
    have hl : (39 :: d :: r).length = (d :: r).length + 1 := rfl
    refine ⟨by rw [key _ (by omega) (by omega), if_pos (Nat.le_refl _)], by decide, by omega, by omega, fun j h2 hjn => ?_, fun hn => ?_⟩
    · rw [key j h2 (by omega), if_pos hjn]; decide
    · rw [key _ (by omega) (by omega), if_neg (by omega)]

theorem two_pre (c d : UInt8) (r : List UInt8) : two (c :: d :: r) = two [c, d] := rfl

/-- No blank and no comment: the longest beginning that is a token is what the text begins with. -/
theorem first_prof (l : List UInt8) (k n e : Nat) (hl : l ≠ []) (h : first l = (k, n, e)) (h1 : ¬ (k = 0)) :
    (e = 0 ∧ Prof l k n ∧ (k = 1 → big (l.take n) = false)) ∨ (e = 22 ∧ Prof l 1 (num l) ∧ big (l.take (num l)) = true) ∨ (e = 20 ∧ kindR (l.take 1) = 0 ∧ kindR (l.take 2) = 0) := by
  match l, hl with
  | c :: r, _ =>
    rw [first_cons] at h
    by_cases c1 : isB c = true
    · rw [if_pos c1] at h; cases h; exact absurd rfl h1
    rw [if_neg c1] at h
    by_cases c2 : c = 47 ∧ r.head? = some 47
    · rw [if_pos c2] at h; cases h; exact absurd rfl h1
    rw [if_neg c2] at h
    by_cases c3 : c = 47 ∧ r.head? = some 42
    · rw [if_pos c3] at h
      split at h <;> (cases h; exact absurd rfl h1)
    rw [if_neg c3] at h
    by_cases c4 : isD c = true
    · rw [if_pos c4] at h
      have hp := prof_num r c4
      by_cases hb : big ((c :: r).take (num (c :: r))) = true
      · rw [if_pos hb] at h; cases h; exact .inr (.inl ⟨rfl, hp, hb⟩)
      · rw [if_neg hb] at h; cases h; exact .inl ⟨rfl, hp, fun _ => by simpa using hb⟩
    rw [if_neg c4] at h
    by_cases c5 : isL c = true
    · rw [if_pos c5] at h; cases h; exact .inl ⟨rfl, prof_word r c5, fun e => absurd e (by decide)⟩
    rw [if_neg c5] at h
    by_cases c6 : c = 39
    · subst c6
      rw [if_pos rfl] at h
      by_cases hw : word r = 0
      · rw [if_pos hw] at h; cases h
        refine .inr (.inr ⟨rfl, by rw [List.take_succ_cons, kind_39]; rfl, ?_⟩)
        rw [List.take_succ_cons, kind_39, if_neg]
        cases r with
        | nil => simp [wordB]
        | cons d r =>
          rw [word_cons] at hw
          by_cases hd : isL d = true
          · rw [if_pos hd] at hw; omega
          · simp [wordB, hd]
      · rw [if_neg hw] at h; cases h; exact .inl ⟨rfl, prof_region r hw, fun e => absurd e (by decide)⟩
    rw [if_neg c6] at h
    have hk := fun x => kind_sign c5 c4 c6 x
    have k1 : kindR ((c :: r).take 1) = if one c = true then 4 else 0 := by rw [List.take_succ_cons, List.take_zero, hk, sign_one]
    have k2 : ∀ d s, r = d :: s → kindR ((c :: r).take 2) = if two (c :: r) = true then 4 else 0 := by
      rintro d s rfl; rw [List.take_succ_cons, List.take_succ_cons, List.take_zero, hk, sign_two, ← two_pre c d s]
    have k3 : ∀ d e s, r = d :: e :: s → kindR ((c :: r).take 3) = 0 := by
      rintro d e s rfl; rw [List.take_succ_cons, List.take_succ_cons, List.take_succ_cons, List.take_zero, hk, sign_more]; rfl
    by_cases c7 : two (c :: r) = true
    · rw [if_pos c7] at h; cases h
      left
      match r, c7, k2, k3 with
      | [], c7, _, _ => simp [two] at c7
      | d :: s, c7, k2, k3 =>
        have e2 := k2 d s rfl
        rw [if_pos c7] at e2
        refine ⟨rfl, ⟨e2, by decide, by omega, by simp, fun j h2 hj => ?_, fun hn => ?_⟩, fun e => absurd e (by decide)⟩
        · obtain rfl : j = 2 := by omega
          rw [e2]; decide
        · match s, hn, k3 with
          | [], hn, _ => simp at hn
          | e :: s, _, k3 => exact k3 d e s rfl
    rw [if_neg c7] at h
    by_cases c8 : one c = true
    · rw [if_pos c8] at h k1; cases h
      refine .inl ⟨rfl, ⟨k1, by decide, by omega, by simp, fun j h2 hj => by omega, fun hn => ?_⟩, fun e => absurd e (by decide)⟩
      match r, hn, k2, c7 with
      | [], hn, _, _ => simp at hn
      | d :: s, _, k2, c7 => rw [k2 d s rfl, if_neg c7]
    · rw [if_neg c8] at h k1; cases h
      refine .inr (.inr ⟨rfl, k1, ?_⟩)
      match r, k2, c7, k1 with
      | [], _, _, k1 => exact k1
      | d :: s, k2, c7, _ => rw [k2 d s rfl, if_neg c7]
end M
end Go.Proofs.Ytjiencifdpopdaa
