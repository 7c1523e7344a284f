/- A source's tokens as a function of lists of bytes: what the first one is, what all are, and what cutting and joining do to them. Of no program; no conditions beyond those that each statement names. -/
import Derived.KernelRfl
import Derived.WalkKit
namespace Go.Proofs.Ytjiencifdpopdaa
namespace M

def ltr (n : Nat) : Bool := n == 95 || (decide (65 ≤ n) && decide (n ≤ 90)) || (decide (97 ≤ n) && decide (n ≤ 122))
def dgt (n : Nat) : Bool := decide (48 ≤ n) && decide (n ≤ 57)
def bln (n : Nat) : Bool := n == 32 || n == 9 || n == 10
def isL (c : UInt8) : Bool := ltr c.toNat
def isD (c : UInt8) : Bool := dgt c.toNat
def isB (c : UInt8) : Bool := bln c.toNat
def isLD (c : UInt8) : Bool := isL c || isD c

/-- How many bytes of a word a text begins with. -/
def word : List UInt8 → Nat
  | [] => 0
  | c :: r => if isL c = true then (r.takeWhile isLD).length + 1 else 0
/-- The length of the number that a text begins with. -/
def num : List UInt8 → Nat
  | [] => 0
  | c :: r => if c = 48 then 1 else (r.takeWhile isD).length + 1
def most : List UInt8 := [57, 50, 50, 51, 51, 55, 50, 48, 51, 54, 56, 53, 52, 55, 55, 53, 56, 48, 55]
/-- Is a text of bytes greater than another, byte by byte? -/
def gtB (a b : List UInt8) : Bool := !(Op.bytesLess a b || a == b)
def big (l : List UInt8) : Bool := decide (19 < l.length) || (l.length == 19 && gtB l most)
def notEnd (c : UInt8) : Bool := !(c == 10)
def lineC (l : List UInt8) : Nat := (l.takeWhile notEnd).length
/-- Where a comment's end begins. -/
def endC : List UInt8 → Option Nat
  | [] => none
  | [_] => none
  | a :: b :: r => if a = 42 ∧ b = 47 then some 0 else (endC (b :: r)).map (· + 1)
def two : List UInt8 → Bool
  | a :: b :: _ => [((58 : UInt8), (58 : UInt8)), (45, 62), (61, 62), (61, 61), (33, 61), (60, 61), (62, 61), (38, 38), (124, 124)].contains (a, b)
  | _ => false
def one (c : UInt8) : Bool := [(40 : UInt8), 41, 123, 125, 91, 93, 44, 59, 58, 46, 61, 60, 62, 43, 45, 42, 47, 37, 33, 38].contains c

/-- What a text begins with: the kind, how many bytes, the fault. -/
def first : List UInt8 → Nat × Nat × Nat
  | [] => (0, 0, 0)
  | c :: r =>
    if isB c = true then (0, 1, 0)
    else if c = 47 ∧ r.head? = some 47 then (0, lineC (c :: r), 0)
    else if c = 47 ∧ r.head? = some 42 then (match endC (r.drop 1) with | none => (0, 0, 21) | some e => (0, e + 4, 0))
    else if isD c = true then (if big ((c :: r).take (num (c :: r))) = true then (1, 0, 22) else (1, num (c :: r), 0))
    else if isL c = true then (2, word (c :: r), 0)
    else if c = 39 then (if word r = 0 then (3, 0, 20) else (3, word r + 1, 0))
    else if two (c :: r) = true then (4, 2, 0) else if one c = true then (4, 1, 0) else (4, 0, 20)

theorem first_cons (c : UInt8) (r : List UInt8) : first (c :: r) =
    if isB c = true then (0, 1, 0)
    else if c = 47 ∧ r.head? = some 47 then (0, lineC (c :: r), 0)
    else if c = 47 ∧ r.head? = some 42 then (match endC (r.drop 1) with | none => (0, 0, 21) | some e => (0, e + 4, 0))
    else if isD c = true then (if big ((c :: r).take (num (c :: r))) = true then (1, 0, 22) else (1, num (c :: r), 0))
    else if isL c = true then (2, word (c :: r), 0)
    else if c = 39 then (if word r = 0 then (3, 0, 20) else (3, word r + 1, 0))
    else if two (c :: r) = true then (4, 2, 0) else if one c = true then (4, 1, 0) else (4, 0, 20) := rfl
theorem word_cons (c : UInt8) (r : List UInt8) : word (c :: r) = if isL c = true then (r.takeWhile isLD).length + 1 else 0 := rfl
theorem num_cons (c : UInt8) (r : List UInt8) : num (c :: r) = if c = 48 then 1 else (r.takeWhile isD).length + 1 := rfl

theorem tw_le (p : UInt8 → Bool) (l : List UInt8) : (l.takeWhile p).length ≤ l.length := by
  induction l with
  | nil => simp
  | cons a l ih => rw [List.takeWhile_cons]; split <;> simp <;> omega
theorem tw_take (p : UInt8 → Bool) (l : List UInt8) (m : Nat) (h : (l.takeWhile p).length ≤ m) : (l.take m).takeWhile p = l.takeWhile p := by
  induction l generalizing m with
  | nil => simp
  | cons a l ih =>
    rw [List.takeWhile_cons] at h ⊢
    by_cases ha : p a = true
    · rw [if_pos ha] at h ⊢
      cases m with
      | zero => simp at h
      | succ m => rw [List.take_succ_cons, List.takeWhile_cons, if_pos ha, ih m (by simpa using h)]
    · rw [if_neg ha] at h ⊢
      cases m with
      | zero => simp
      | succ m => rw [List.take_succ_cons, List.takeWhile_cons, if_neg ha]
theorem tw_app (p : UInt8 → Bool) (l z : List UInt8) (h : (l.takeWhile p).length < l.length ∨ ∀ c, z.head? = some c → p c = false) : (l ++ z).takeWhile p = l.takeWhile p := by
  induction l with
  | nil =>
    rcases h with h | h
    · simp at h
    · cases z with
      | nil => rfl
      | cons c z => simp [h c rfl]
  | cons a l ih =>
    rw [List.cons_append, List.takeWhile_cons, List.takeWhile_cons]
    by_cases ha : p a = true
    · rw [if_pos ha, if_pos ha, ih]
      rcases h with h | h
      · left; rw [List.takeWhile_cons, if_pos ha] at h; simpa using h
      · exact .inr h
    · rw [if_neg ha, if_neg ha]

theorem endC_le : ∀ (l : List UInt8) (e : Nat), endC l = some e → e + 2 ≤ l.length
  | [], _, h => by simp [endC] at h
  | [_], _, h => by simp [endC] at h
  | a :: b :: r, e, h => by
    rw [endC] at h
    split at h
    · cases h; simp
    · obtain ⟨x, hx, rfl⟩ := Option.map_eq_some_iff.1 h
      have := endC_le (b :: r) x hx
      simp at this ⊢; omega
theorem endC_take : ∀ (l : List UInt8) (e m : Nat), endC l = some e → e + 2 ≤ m → endC (l.take m) = some e
  | [], _, _, h, _ => by simp [endC] at h
  | [_], _, _, h, _ => by simp [endC] at h
  | a :: b :: r, e, m, h, hm => by
    match m, hm with
    | m + 2, hm =>
      rw [List.take_succ_cons, List.take_succ_cons, endC]
      rw [endC] at h
      split at h
      · rw [if_pos (by assumption)]; exact h
      · rw [if_neg (by assumption)]
        obtain ⟨x, hx, rfl⟩ := Option.map_eq_some_iff.1 h
        have := endC_take (b :: r) x (m + 1) hx (by omega)
        rw [List.take_succ_cons] at this
        rw [this]; rfl
theorem endC_app : ∀ (l z : List UInt8) (e : Nat), endC l = some e → endC (l ++ z) = some e
  | [], _, _, h => by simp [endC] at h
  | [_], _, _, h => by simp [endC] at h
  | a :: b :: r, z, e, h => by
    rw [List.cons_append, List.cons_append, endC]
    rw [endC] at h
    split at h
    · rw [if_pos (by assumption)]; exact h
    · rw [if_neg (by assumption)]
      obtain ⟨x, hx, rfl⟩ := Option.map_eq_some_iff.1 h
      have := endC_app (b :: r) z x hx
      rw [List.cons_append] at this
      rw [this]; rfl

theorem word_le (l : List UInt8) : word l ≤ l.length := by
  cases l with
  | nil => simp [word]
  | cons c r => rw [word_cons]; have := tw_le isLD r; split <;> simp <;> omega
theorem num_le (l : List UInt8) : num l ≤ l.length := by
  cases l with
  | nil => simp [num]
  | cons c r => rw [num_cons]; have := tw_le isD r; split <;> simp <;> omega
theorem num_pos (c : UInt8) (r : List UInt8) : 0 < num (c :: r) := by rw [num_cons]; split <;> omega
theorem two_len (l : List UInt8) (h : two l = true) : 2 ≤ l.length := by
  match l, h with
  | a :: b :: r, _ => simp
  | [], h => simp [two] at h
  | [_], h => simp [two] at h

/-- What a text begins with has a byte or more, and lies in it. -/
theorem first_pos (l : List UInt8) (k n : Nat) (hl : l ≠ []) (h : first l = (k, n, 0)) : 0 < n ∧ n ≤ l.length := by
  match l, hl with
  | c :: r, _ =>
    have hw := word_le (c :: r)
    have hw2 := word_le r
    have hn := num_le (c :: r)
    have hp := num_pos c r
    rw [first_cons] at h
    split at h
    · cases h; simp
    · split at h
      · rename_i h1
        cases h
        have := tw_le notEnd (c :: r)
        refine ⟨?_, this⟩
        unfold lineC
        rw [List.takeWhile_cons, if_pos (by rw [h1.1]; rfl)]; simp
      · split at h
        · rename_i h1
          split at h
          · cases h
          · rename_i e he
            cases h
            have := endC_le _ _ he
            refine ⟨by omega, ?_⟩
            cases r with
            | nil => simp at this
            | cons d r => simp at this ⊢; omega
        · split at h
          · split at h
            · cases h
            · cases h; exact ⟨hp, hn⟩
          · split at h
            · cases h
              refine ⟨?_, hw⟩
              rw [word_cons, if_pos (by assumption)]; omega
            · split at h
              · split at h
                · cases h
                · cases h; simp; omega
              · split at h
                · cases h
                  rename_i h1
                  exact ⟨by omega, two_len _ h1⟩
                · split at h
                  · cases h; simp
                  · cases h

theorem word_take (l : List UInt8) (m : Nat) (h : word l ≤ m) : word (l.take m) = word l := by
  cases l with
  | nil => simp
  | cons c r =>
    rw [word_cons] at h ⊢
    by_cases hc : isL c = true
    · rw [if_pos hc] at h
      cases m with
      | zero => omega
      | succ m => rw [List.take_succ_cons, if_pos hc, word_cons, if_pos hc]; rw [tw_take isLD r m (by omega)]
    · cases m with
      | zero => simp [hc, word]
      | succ m => rw [List.take_succ_cons, if_neg hc, word_cons, if_neg hc]
theorem num_take (l : List UInt8) (m : Nat) (h : num l ≤ m) : num (l.take m) = num l := by
  cases l with
  | nil => simp
  | cons c r =>
    rw [num_cons] at h ⊢
    by_cases hc : c = 48
    · rw [if_pos hc] at h
      cases m with
      | zero => omega
      | succ m => rw [List.take_succ_cons, if_pos hc, num_cons, if_pos hc]
    · rw [if_neg hc] at h
      cases m with
      | zero => omega
      | succ m => rw [List.take_succ_cons, if_neg hc, num_cons, if_neg hc]; rw [tw_take isD r m (by omega)]

theorem head_take (r : List UInt8) (m : Nat) : (r.take m).head? = if m = 0 then none else r.head? := by
  cases m <;> cases r <;> simp

/-- What a text begins with is told by so many bytes of it. -/
theorem first_take (l : List UInt8) (k n m : Nat) (hl : l ≠ []) (h : first l = (k, n, 0)) (hm : n ≤ m) : first (l.take m) = (k, n, 0) := by
  have hpos := first_pos l k n hl h
  match l, hl, m, hm with
  | c :: r, _, 0, hm => omega
  | c :: r, _, m + 1, hm =>
    rw [List.take_succ_cons]
    rw [first_cons] at h ⊢
    by_cases c1 : isB c = true
    · rw [if_pos c1] at h ⊢; exact h
    rw [if_neg c1] at h ⊢
    by_cases c2 : c = 47 ∧ r.head? = some 47
    · rw [if_pos c2] at h
      cases h
      have h2 : 2 ≤ lineC (c :: r) := by
        obtain ⟨rfl, h47⟩ := c2
        cases r with
        | nil => cases h47
        | cons d r => simp at h47; subst h47; simp [lineC, notEnd]
      rw [if_pos ⟨c2.1, by rw [head_take, if_neg (by omega)]; exact c2.2⟩]
      have := tw_take notEnd (c :: r) (m + 1) hm
      rw [List.take_succ_cons] at this
      unfold lineC; rw [this]
    rw [if_neg c2] at h
    have c2' : ¬ (c = 47 ∧ (r.take m).head? = some 47) := by
      rw [head_take]; rintro ⟨a, b⟩; split at b
      · cases b
      · exact c2 ⟨a, b⟩
    rw [if_neg c2']
    by_cases c3 : c = 47 ∧ r.head? = some 42
    · rw [if_pos c3] at h
      split at h
      · cases h
      · rename_i e he
        cases h
        have hd : (r.take m).drop 1 = (r.drop 1).take (m - 1) := by rw [List.drop_take]
        rw [if_pos ⟨c3.1, by rw [head_take, if_neg (by omega)]; exact c3.2⟩, hd, endC_take _ e (m - 1) he (by omega)]
    rw [if_neg c3] at h
    have c3' : ¬ (c = 47 ∧ (r.take m).head? = some 42) := by
      rw [head_take]; rintro ⟨a, b⟩; split at b
      · cases b
      · exact c3 ⟨a, b⟩
    rw [if_neg c3']
    by_cases c4 : isD c = true
    · rw [if_pos c4] at h ⊢
      split at h
      · cases h
      · rename_i hb
        cases h
        have e := num_take (c :: r) (m + 1) hm
        rw [List.take_succ_cons] at e
        rw [e]
        have e2 : (c :: List.take m r).take (num (c :: r)) = (c :: r).take (num (c :: r)) := by
          rw [← List.take_succ_cons, List.take_take, Nat.min_eq_left hm]
        rw [e2, if_neg hb]
    rw [if_neg c4] at h ⊢
    by_cases c5 : isL c = true
    · rw [if_pos c5] at h ⊢
      cases h
      have e := word_take (c :: r) (m + 1) hm
      rw [List.take_succ_cons] at e
      rw [e]
    rw [if_neg c5] at h ⊢
    by_cases c6 : c = 39
    · rw [if_pos c6] at h ⊢
      split at h
      · cases h
      · rename_i hw
        cases h
        rw [word_take r m (by omega), if_neg hw]
    rw [if_neg c6] at h ⊢
    by_cases c7 : two (c :: r) = true
    · rw [if_pos c7] at h
      cases h
      have : two (c :: r.take m) = true := by
        match r, m, c7, hm with
        | d :: r, m + 1, c7, hm => simpa [two] using c7
        | [], _, c7, _ => simp [two] at c7
        | _ :: _, 0, _, hm => omega
      rw [if_pos this]
    rw [if_neg c7] at h
    have c7' : ¬ two (c :: r.take m) = true := by
      intro h2
      match r, m, h2 with
      | d :: r, m + 1, h2 => exact c7 (by simpa [two] using h2)
      | [], 0, h2 => simp [two] at h2
      | [], m + 1, h2 => simp [two] at h2
      | _ :: _, 0, h2 => simp [two] at h2
    rw [if_neg c7']
    exact h

/-- A byte that ends what stands ahead of it. -/
def Sep (l : List UInt8) (k : Nat) (z : List UInt8) : Prop := ∀ c, z.head? = some c → (c = 10 ∨ k ≠ 0 ∧ (isB c = true ∨ c = 47 ∧ l ≠ [47]))

theorem B_cases {c : UInt8} (h : isB c = true) : c = 32 ∨ c = 9 ∨ c = 10 := by
  have e : ∀ n : Nat, n < 256 → c.toNat = n → c = UInt8.ofNat n := fun n hn h => by rw [← h]; simp
  simp [isB, bln] at h
  rcases h with (h | h) | h
  · exact .inl (e 32 (by omega) h)
  · exact .inr (.inl (e 9 (by omega) h))
  · exact .inr (.inr (e 10 (by omega) h))

theorem sep_not {l : List UInt8} {k : Nat} {c : UInt8} (h : c = 10 ∨ k ≠ 0 ∧ (isB c = true ∨ c = 47 ∧ l ≠ [47])) : c = 32 ∨ c = 9 ∨ c = 10 ∨ (c = 47 ∧ l ≠ [47]) := by
  rcases h with h | ⟨_, h | h⟩
  · exact .inr (.inr (.inl h))
  · rcases B_cases h with h | h | h
    · exact .inl h
    · exact .inr (.inl h)
    · exact .inr (.inr (.inl h))
  · exact .inr (.inr (.inr h))

theorem two_second (a : UInt8) (z : List UInt8) (h : ∀ c, z.head? = some c → c = 32 ∨ c = 9 ∨ c = 10 ∨ c = 47) : two (a :: z) = false := by
  match z, h with
  | [], _ => rfl
  | c :: z, h =>
    rcases h c rfl with rfl | rfl | rfl | rfl <;> simp [two]

/-- More behind a text leaves what it begins with. -/
theorem first_app (l z : List UInt8) (k n : Nat) (hl : l ≠ []) (h : first l = (k, n, 0)) (hz : n < l.length ∨ Sep l k z) : first (l ++ z) = (k, n, 0) := by
  have hpos := first_pos l k n hl h
  match l, hl with
  | c :: r, _ =>
    rw [List.cons_append]
    have hzc : r = [] → n < (c :: r).length ∨ (∀ d, z.head? = some d → d = 32 ∨ d = 9 ∨ d = 10 ∨ (d = 47 ∧ c ≠ 47)) := by
      intro hr
      rcases hz with h1 | h1
      · exact .inl h1
      · right; intro d hd
        rcases sep_not (h1 d hd) with h2 | h2 | h2 | ⟨h2, h3⟩
        · exact .inl h2
        · exact .inr (.inl h2)
        · exact .inr (.inr (.inl h2))
        · refine .inr (.inr (.inr ⟨h2, fun e => h3 ?_⟩)); rw [hr, e]
    have hzs : n < (c :: r).length ∨ ∀ d, z.head? = some d → isLD d = false ∧ isD d = false := by
      rcases hz with h1 | h1
      · exact .inl h1
      · right; intro d hd
        rcases sep_not (h1 d hd) with rfl | rfl | rfl | ⟨rfl, _⟩ <;> decide
    have hhead : ∀ x : UInt8, (x = 47 ∨ x = 42) → c = 47 → (n = 1 ∨ r ≠ []) → ((r ++ z).head? = some x ↔ r.head? = some x) := by
      intro x hx hc hn
      cases r with
      | cons d r => simp
      | nil =>
        rcases hn with rfl | h0
        · rcases hzc rfl with h1 | h1
          · simp at h1
          · constructor
            · intro hd
              rcases h1 x hd with rfl | rfl | rfl | ⟨rfl, h2⟩
              · rcases hx with h | h <;> cases h
              · rcases hx with h | h <;> cases h
              · rcases hx with h | h <;> cases h
              · exact absurd hc h2
            · intro hd; cases hd
        · exact absurd rfl h0
    have hn1 : n = 1 ∨ r ≠ [] := by
      cases r with
      | nil => left; simp at hpos; omega
      | cons => right; simp
    rw [first_cons] at h ⊢
    by_cases c1 : isB c = true
    · rw [if_pos c1] at h ⊢; exact h
    rw [if_neg c1] at h ⊢
    by_cases c2 : c = 47 ∧ r.head? = some 47
    · rw [if_pos c2] at h
      cases h
      rw [if_pos ⟨c2.1, (hhead 47 (.inl rfl) c2.1 hn1).2 c2.2⟩]
      have := tw_app notEnd (c :: r) z (by
        rcases hz with h1 | h1
        · exact .inl h1
        · right; intro d hd
          rcases h1 d hd with rfl | ⟨h2, _⟩
          · rfl
          · exact absurd rfl h2)
      rw [List.cons_append] at this
      unfold lineC; rw [this]
    rw [if_neg c2] at h
    have c2' : ¬ (c = 47 ∧ (r ++ z).head? = some 47) := fun ⟨a, b⟩ => c2 ⟨a, (hhead 47 (.inl rfl) a hn1).1 b⟩
    rw [if_neg c2']
    by_cases c3 : c = 47 ∧ r.head? = some 42
    · rw [if_pos c3] at h
      split at h
      · cases h
      · rename_i e he
        cases h
        have hr : r ≠ [] := by intro e; rw [e] at c3; cases c3.2
        have hd : (r ++ z).drop 1 = r.drop 1 ++ z := by cases r with | nil => exact absurd rfl hr | cons => rfl
        rw [if_pos ⟨c3.1, (hhead 42 (.inr rfl) c3.1 hn1).2 c3.2⟩, hd, endC_app _ z e he]
    rw [if_neg c3] at h
    have c3' : ¬ (c = 47 ∧ (r ++ z).head? = some 42) := fun ⟨a, b⟩ => c3 ⟨a, (hhead 42 (.inr rfl) a hn1).1 b⟩
    rw [if_neg c3']
    by_cases c4 : isD c = true
    · rw [if_pos c4] at h ⊢
      split at h
      · cases h
      · rename_i hb
        cases h
        have e : num (c :: (r ++ z)) = num (c :: r) := by
          rw [num_cons, num_cons]
          by_cases h0 : c = 48
          · rw [if_pos h0, if_pos h0]
          · rw [if_neg h0, if_neg h0, tw_app isD r z]
            rcases hzs with h1 | h1
            · left; rw [num_cons, if_neg h0] at h1; simpa using h1
            · exact .inr fun d hd => (h1 d hd).2
        rw [e]
        have e2 : (c :: (r ++ z)).take (num (c :: r)) = (c :: r).take (num (c :: r)) := by
          rw [← List.cons_append, List.take_append_of_le_length hpos.2]
        rw [e2, if_neg hb]
    rw [if_neg c4] at h ⊢
    by_cases c5 : isL c = true
    · rw [if_pos c5] at h ⊢
      cases h
      rw [word_cons, if_pos c5] at hzs
      rw [word_cons, word_cons, if_pos c5, if_pos c5, tw_app isLD r z (by
        rcases hzs with h1 | h1
        · left; simpa using h1
        · exact .inr fun d hd => (h1 d hd).1)]
    rw [if_neg c5] at h ⊢
    by_cases c6 : c = 39
    · rw [if_pos c6] at h ⊢
      split at h
      · cases h
      · rename_i hw
        cases h
        have e : word (r ++ z) = word r := by
          cases r with
          | nil => simp [word] at hw
          | cons d r =>
            rw [List.cons_append]
            rw [word_cons] at hw hzs
            split at hw
            · rename_i hd
              rw [if_pos hd] at hzs
              rw [word_cons, word_cons, if_pos hd, if_pos hd, tw_app isLD r z (by
                rcases hzs with h1 | h1
                · left; simp at h1; exact h1
                · exact .inr fun d hd => (h1 d hd).1)]
            · exact absurd rfl hw
        rw [e, if_neg hw]
    rw [if_neg c6] at h ⊢
    have e7 : two (c :: (r ++ z)) = two (c :: r) ∨ (n < (c :: r).length ∧ r = []) := by
      cases r with
      | cons d r => left; rfl
      | nil =>
        rcases hzc rfl with h1 | h1
        · exact .inr ⟨h1, rfl⟩
        · left
          rw [List.nil_append, two_second c z (fun d hd => by
            rcases h1 d hd with h2 | h2 | h2 | ⟨h2, _⟩ <;> simp [h2])]
          rfl
    rcases e7 with e7 | ⟨h1, rfl⟩
    · rw [e7]; exact h
    · simp at h1; omega
end M
end Go.Proofs.Ytjiencifdpopdaa
