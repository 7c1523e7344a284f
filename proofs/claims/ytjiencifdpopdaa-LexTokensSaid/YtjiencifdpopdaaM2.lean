/- All tokens of a text: how they stand in it, and what joining, cutting and putting blanks between do to them. Of no program; no conditions beyond those that each statement names. -/
import Derived.Test.YtjiencifdpopdaaM
namespace Go.Proofs.Ytjiencifdpopdaa
namespace M

theorem ne_of_len {l : List UInt8} {n : Nat} (h : l.length = n) (h0 : 0 < n) : l ≠ [] := by rintro rfl; simp at h; omega

structure Tok where
  kind : Nat
  text : List UInt8
  at_ : Nat

/-- The tokens from a place on, and the first fault that is met (its kind and place). -/
def toks : Nat → Nat → List UInt8 → List Tok × Option (Nat × Nat)
  | 0, _, _ => ([], none)
  | _ + 1, _, [] => ([], none)
  | f + 1, a, c :: r =>
    if (first (c :: r)).2.2 = 0 then
      if (first (c :: r)).1 = 0 then toks f (a + (first (c :: r)).2.1) ((c :: r).drop (first (c :: r)).2.1)
      else (⟨(first (c :: r)).1, (c :: r).take (first (c :: r)).2.1, a⟩ :: (toks f (a + (first (c :: r)).2.1) ((c :: r).drop (first (c :: r)).2.1)).1,
        (toks f (a + (first (c :: r)).2.1) ((c :: r).drop (first (c :: r)).2.1)).2)
    else ([], some ((first (c :: r)).2.2, a))
def T (a : Nat) (l : List UInt8) : List Tok × Option (Nat × Nat) := toks l.length a l

theorem toks_fuel : ∀ (f a : Nat) (l : List UInt8), l.length ≤ f → toks f a l = T a l := by
  intro f
  induction f using Nat.strongRecOn with
  | ind f ih =>
    intro a l hl
    match f, l, ih, hl with
    | 0, [], _, _ => rfl
    | f + 1, [], _, _ => rfl
    | 0, c :: r, _, hl => simp at hl
    | f + 1, c :: r, ih, hl =>
      unfold T
      rw [List.length_cons, toks, toks]
      by_cases h : (first (c :: r)).2.2 = 0
      · rw [if_pos h, if_pos h]
        have hp := first_pos (c :: r) (first (c :: r)).1 (first (c :: r)).2.1 (by simp) (by rw [← h])
        have hd : ((c :: r).drop (first (c :: r)).2.1).length ≤ r.length := by rw [List.length_drop]; simp; omega
        have e1 := ih f (by omega) (a + (first (c :: r)).2.1) ((c :: r).drop (first (c :: r)).2.1) (by simp at hl; omega)
        rw [e1]
        have e2 : toks r.length (a + (first (c :: r)).2.1) ((c :: r).drop (first (c :: r)).2.1) = T (a + (first (c :: r)).2.1) ((c :: r).drop (first (c :: r)).2.1) := by
          by_cases hlt : r.length < f + 1
          · exact ih r.length hlt _ _ hd
          · simp at hl; omega
        rw [e2]
      · rw [if_neg h, if_neg h]

theorem T_nil (a : Nat) : T a [] = ([], none) := rfl
theorem T_eq (a : Nat) (l : List UInt8) (hl : l ≠ []) : T a l =
    if (first l).2.2 = 0 then
      if (first l).1 = 0 then T (a + (first l).2.1) (l.drop (first l).2.1)
      else (⟨(first l).1, l.take (first l).2.1, a⟩ :: (T (a + (first l).2.1) (l.drop (first l).2.1)).1, (T (a + (first l).2.1) (l.drop (first l).2.1)).2)
    else ([], some ((first l).2.2, a)) := by
  match l, hl with
  | c :: r, _ =>
    conv => lhs; unfold T
    rw [List.length_cons, toks]
    by_cases h : (first (c :: r)).2.2 = 0
    · rw [if_pos h, if_pos h]
      have hp := first_pos (c :: r) (first (c :: r)).1 (first (c :: r)).2.1 (by simp) (by rw [← h])
      rw [toks_fuel r.length _ _ (by rw [List.length_drop]; simp; omega)]
    · rw [if_neg h, if_neg h]
theorem T_err {a k n e : Nat} {l : List UInt8} (hl : l ≠ []) (h : first l = (k, n, e)) (he : e ≠ 0) : T a l = ([], some (e, a)) := by
  rw [T_eq a l hl, h]; exact if_neg he
theorem T_gap {a n : Nat} {l : List UInt8} (hl : l ≠ []) (h : first l = (0, n, 0)) : T a l = T (a + n) (l.drop n) := by
  rw [T_eq a l hl, h]; rfl
theorem T_tok {a k n : Nat} {l : List UInt8} (hl : l ≠ []) (h : first l = (k, n, 0)) (hk : k ≠ 0) :
    T a l = (⟨k, l.take n, a⟩ :: (T (a + n) (l.drop n)).1, (T (a + n) (l.drop n)).2) := by
  rw [T_eq a l hl, h]; exact (if_pos rfl).trans (if_neg hk)

theorem T_cases (l : List UInt8) : l = [] ∨ (l ≠ [] ∧ ∃ k n e, first l = (k, n, e) ∧ e ≠ 0) ∨ (l ≠ [] ∧ ∃ n, first l = (0, n, 0) ∧ 0 < n ∧ n ≤ l.length) ∨
    (l ≠ [] ∧ ∃ k n, first l = (k, n, 0) ∧ k ≠ 0 ∧ 0 < n ∧ n ≤ l.length) := by
  by_cases hl : l = []
  · exact .inl hl
  · obtain ⟨k, n, e, h⟩ : ∃ k n e, first l = (k, n, e) := ⟨_, _, _, rfl⟩
    by_cases he : e = 0
    · subst he
      have hp := first_pos l k n hl h
      by_cases hk : k = 0
      · subst hk; exact .inr (.inr (.inl ⟨hl, n, h, hp⟩))
      · exact .inr (.inr (.inr ⟨hl, k, n, h, hk, hp⟩))
    · exact .inr (.inl ⟨hl, k, n, e, h, he⟩)

def sh (d : Nat) (t : Tok) : Tok := ⟨t.kind, t.text, t.at_ + d⟩
theorem T_shift (d : Nat) (l : List UInt8) : ∀ a, T (a + d) l = ((T a l).1.map (sh d), (T a l).2.map fun p => (p.1, p.2 + d)) := by
  induction hn : l.length using Nat.strongRecOn generalizing l with
  | ind m ih =>
    intro a
    rcases T_cases l with rfl | ⟨hl, k, n, e, h, he⟩ | ⟨hl, n, h, h0, h1⟩ | ⟨hl, k, n, h, hk, h0, h1⟩
    · rfl
    · rw [T_err hl h he, T_err hl h he]; rfl
    · rw [T_gap hl h, T_gap hl h, show a + d + n = (a + n) + d by omega]
      exact ih _ (by rw [List.length_drop]; omega) _ rfl _
    · rw [T_tok hl h hk, T_tok hl h hk, show a + d + n = (a + n) + d by omega, ih _ (by rw [List.length_drop]; omega) _ rfl]
      rfl

/-- The first token, how it stands in the text, and what is left. -/
theorem T_head (l : List UInt8) : ∀ (a : Nat) (t : Tok) (ts : List Tok) (f : Option (Nat × Nat)), T a l = (t :: ts, f) →
    ∃ p n k, t = ⟨k, (l.drop p).take n, a + p⟩ ∧ k ≠ 0 ∧ 0 < n ∧ p + n ≤ l.length ∧ first (l.drop p) = (k, n, 0) ∧ T (a + p + n) (l.drop (p + n)) = (ts, f) ∧
      (∀ b, T b (l.take p) = ([], none)) ∧
      ∀ z, first ((l.drop p).take n ++ z) = (k, n, 0) → T a (l.take (p + n) ++ z) = (t :: (T (a + p + n) z).1, (T (a + p + n) z).2) := by
  induction hn : l.length using Nat.strongRecOn generalizing l with
  | ind m ih =>
    intro a t ts f hT
    rcases T_cases l with rfl | ⟨hl, k, n, e, h, he⟩ | ⟨hl, n, h, h0, h1⟩ | ⟨hl, k, n, h, hk, h0, h1⟩
    · cases hT
    · rw [T_err hl h he] at hT; cases hT
    · rw [T_gap hl h] at hT
      obtain ⟨p, q, k, e1, e2, e3, e4, e5, e6, e7, e8⟩ := ih _ (by rw [List.length_drop]; omega) (l.drop n) rfl (a + n) t ts f hT
      rw [List.length_drop] at e4
      rw [List.drop_drop] at e1 e5 e6 e8
      have hlen : (l.take (n + p + q)).length = n + p + q := by rw [List.length_take]; omega
      refine ⟨n + p, q, k, by rw [e1, Nat.add_assoc], e2, e3, by omega, e5, ?_, ?_, ?_⟩
      · rw [show a + (n + p) + q = a + n + p + q by omega, show n + p + q = n + (p + q) by omega]; exact e6
      · intro b
        have hne : l.take (n + p) ≠ [] := ne_of_len (n := n + p) (by rw [List.length_take]; omega) (by omega)
        rw [T_gap hne (first_take l 0 n _ hl h (by omega)), List.drop_take, Nat.add_sub_cancel_left]
        exact e7 _
      · intro z hz
        have hne : l.take (n + p + q) ≠ [] := by intro h; have := congrArg List.length h; rw [hlen] at this; simp at this; omega
        have hf := first_app (l.take (n + p + q)) z 0 n hne (first_take l 0 n (n + p + q) hl h (by omega)) (.inl (by rw [hlen]; omega))
        have hne2 : l.take (n + p + q) ++ z ≠ [] := by simp [hne]
        rw [T_gap hne2 hf, List.drop_append_of_le_length (by rw [hlen]; omega), List.drop_take, show n + p + q - n = p + q by omega, show a + (n + p) + q = a + n + p + q by omega]
        exact e8 z hz
    · rw [T_tok hl h hk] at hT
      injection hT with h2 h3
      injection h2 with h4 h5
      refine ⟨0, n, k, by rw [List.drop_zero, Nat.add_zero]; exact h4.symm, hk, h0, by omega, h, ?_, fun b => by rw [List.take_zero]; rfl, ?_⟩
      · rw [Nat.add_zero, Nat.zero_add, ← h5, ← h3]
      · intro z hz
        rw [List.drop_zero] at hz
        rw [Nat.zero_add, Nat.add_zero]
        have hlen : (l.take n).length = n := by rw [List.length_take]; omega
        have hne : l.take n ++ z ≠ [] := by intro h; have := congrArg List.length h; rw [List.length_append, hlen] at this; simp at this; omega
        rw [T_tok hne hz hk, List.drop_append_of_le_length (by omega), List.drop_of_length_le (l := l.take n) (by omega), List.nil_append, List.take_append_of_le_length (by omega), List.take_take, Nat.min_self, ← h4]

theorem T_texts : ∀ (ts : List Tok) (l : List UInt8) (a : Nat) (f : Option (Nat × Nat)), T a l = (ts, f) → ∀ t ∈ ts, first t.text = (t.kind, t.text.length, 0) ∧ t.kind ≠ 0 ∧ t.text ≠ [] ∧ (∀ c ∈ t.text, c ∈ l)
  | [], _, _, _, _ => fun t ht => absurd ht List.not_mem_nil
  | t :: ts, l, a, f, h => by
    obtain ⟨p, n, k, rfl, e2, e3, e4, e5, e6, e7, e8⟩ := T_head l a t ts f h
    have hlen : ((l.drop p).take n).length = n := by rw [List.length_take, List.length_drop]; omega
    have hne : l.drop p ≠ [] := by intro h; have := congrArg List.length h; rw [List.length_drop] at this; simp at this; omega
    intro u hu
    rcases List.mem_cons.1 hu with rfl | hu
    · refine ⟨?_, e2, ?_, fun c hc => List.mem_of_mem_drop (List.mem_of_mem_take hc)⟩
      · show first ((l.drop p).take n) = (k, ((l.drop p).take n).length, 0)
        rw [hlen]; exact first_take _ k n n hne e5 (Nat.le_refl _)
      · intro h; have := congrArg List.length h; rw [hlen] at this; simp at this; omega
    · obtain ⟨g1, g2, g3, g4⟩ := T_texts ts _ _ _ e6 u hu
      exact ⟨g1, g2, g3, fun c hc => List.mem_of_mem_drop (g4 c hc)⟩

/-- How many tokens, and how long they are. -/
theorem T_len : ∀ (ts : List Tok) (l : List UInt8) (a : Nat) (f : Option (Nat × Nat)), T a l = (ts, f) → ts.length ≤ l.length ∧ (ts.map fun t => t.text.length).sum ≤ l.length ∧ ∀ t ∈ ts, a ≤ t.at_ ∧ t.at_ + t.text.length ≤ a + l.length
  | [], _, _, _, _ => ⟨Nat.zero_le _, Nat.zero_le _, fun t ht => absurd ht List.not_mem_nil⟩
  | t :: ts, l, a, f, h => by
    obtain ⟨p, n, k, rfl, e2, e3, e4, e5, e6, e7, e8⟩ := T_head l a t ts f h
    have hlen : ((l.drop p).take n).length = n := by rw [List.length_take, List.length_drop]; omega
    obtain ⟨g1, g2, g3⟩ := T_len ts _ _ _ e6
    rw [List.length_drop] at g1 g2 g3
    refine ⟨by simp; omega, by simp at g2 hlen ⊢; omega, fun u hu => ?_⟩
    rcases List.mem_cons.1 hu with rfl | hu
    · show a ≤ a + p ∧ a + p + ((l.drop p).take n).length ≤ _; rw [hlen]; omega
    · have := g3 u hu; omega

theorem T_fault : ∀ (l : List UInt8) (a : Nat) (e q : Nat), (T a l).2 = some (e, q) → e ≠ 0 ∧ a ≤ q ∧ q < a + l.length := by
  intro l
  induction hn : l.length using Nat.strongRecOn generalizing l with
  | ind m ih =>
    intro a e q hT
    rcases T_cases l with rfl | ⟨hl, k, n, e, h, he⟩ | ⟨hl, n, h, h0, h1⟩ | ⟨hl, k, n, h, hk, h0, h1⟩
    · cases hT
    · rw [T_err hl h he] at hT; cases hT
      have : 0 < l.length := List.length_pos_iff.2 hl
      exact ⟨he, Nat.le_refl _, by omega⟩
    · rw [T_gap hl h] at hT
      have := ih _ (by rw [List.length_drop]; omega) (l.drop n) rfl _ _ _ hT
      rw [List.length_drop] at this; omega
    · rw [T_tok hl h hk] at hT
      have := ih _ (by rw [List.length_drop]; omega) (l.drop n) rfl _ _ _ hT
      rw [List.length_drop] at this; omega

/-- Two texts with the end of a line between. -/
theorem T_pairs (b : List UInt8) : ∀ (l : List UInt8) (a : Nat), (T a l).2 = none → T a (l ++ 10 :: b) = ((T a l).1 ++ (T (a + l.length + 1) b).1, (T (a + l.length + 1) b).2) := by
  intro l
  induction hn : l.length using Nat.strongRecOn generalizing l with
  | ind m ih =>
    intro a hT
    have sep : ∀ k, Sep l k (10 :: b) := fun k c hc => by simp at hc; exact .inl hc.symm
    rcases T_cases l with rfl | ⟨hl, k, n, e, h, he⟩ | ⟨hl, n, h, h0, h1⟩ | ⟨hl, k, n, h, hk, h0, h1⟩
    · rw [List.nil_append, T_gap (n := 1) (by simp) rfl, T_nil, ← hn]; rfl
    · rw [T_err hl h he] at hT; cases hT
    · rw [T_gap hl h] at hT
      have hi := ih _ (by rw [List.length_drop]; omega) (l.drop n) rfl (a + n) hT
      rw [T_gap (by simp) (first_app l _ 0 n hl h (.inr (sep 0))), List.drop_append_of_le_length h1, hi, T_gap hl h, List.length_drop, show a + n + (l.length - n) + 1 = a + m + 1 by omega]
    · rw [T_tok hl h hk] at hT
      have hi := ih _ (by rw [List.length_drop]; omega) (l.drop n) rfl (a + n) hT
      rw [T_tok (by simp) (first_app l _ k n hl h (.inr (sep k))) hk, List.drop_append_of_le_length h1, List.take_append_of_le_length h1, hi, T_tok hl h hk, List.length_drop, show a + n + (l.length - n) + 1 = a + m + 1 by omega]
      rfl

/-- The kinds and texts alone. -/
def kt (ts : List Tok) : List (Nat × List UInt8) := ts.map fun t => (t.kind, t.text)

/-- Texts with a blank between each two. -/
def join : List (List UInt8) → List UInt8
  | [] => []
  | [x] => x
  | x :: y :: r => x ++ 32 :: join (y :: r)

theorem T_join : ∀ (ts : List Tok), (∀ t ∈ ts, first t.text = (t.kind, t.text.length, 0) ∧ t.kind ≠ 0 ∧ t.text ≠ []) → ∀ a, kt (T a (join (ts.map Tok.text))).1 = kt ts ∧ (T a (join (ts.map Tok.text))).2 = none
  | [], _, _ => ⟨rfl, rfl⟩
  | [t], h, a => by
    obtain ⟨h1, h2, h3⟩ := h t (by simp)
    show kt (T a t.text).1 = kt [t] ∧ _
    rw [show join ([t].map Tok.text) = t.text from rfl, T_tok h3 h1 h2, List.drop_length, T_nil, List.take_length]
    exact ⟨rfl, rfl⟩
  | t :: u :: r, h, a => by
    obtain ⟨h1, h2, h3⟩ := h t (by simp)
    have hi := T_join (u :: r) (fun x hx => h x (List.mem_cons_of_mem _ hx)) (a + t.text.length + 1)
    rw [show join ((t :: u :: r).map Tok.text) = t.text ++ 32 :: join ((u :: r).map Tok.text) from rfl]
    have hf := first_app t.text (32 :: join ((u :: r).map Tok.text)) t.kind t.text.length h3 h1 (.inr fun c hc => by simp at hc; subst hc; exact .inr ⟨h2, .inl rfl⟩)
    rw [T_tok (by simp) hf h2, List.drop_left, List.take_left, T_gap (n := 1) (by simp) rfl]
    exact ⟨by show (t.kind, t.text) :: _ = (t.kind, t.text) :: _; rw [show (List.drop 1 (32 :: join ((u :: r).map Tok.text))) = join ((u :: r).map Tok.text) from rfl]; exact congrArg _ hi.1, hi.2⟩

/-- Cut behind a token, with something else behind it. -/
theorem T_cut : ∀ (i : Nat) (ts : List Tok) (l : List UInt8) (a : Nat) (t : Tok), T a l = (ts, none) → ts[i]? = some t →
    ∃ m, t.at_ + t.text.length = a + m ∧ m ≤ l.length ∧ T (a + m) (l.drop m) = (ts.drop (i + 1), none) ∧
      ∀ z, first (t.text ++ z) = (t.kind, t.text.length, 0) → T a (l.take m ++ z) = (ts.take (i + 1) ++ (T (a + m) z).1, (T (a + m) z).2)
  | _, [], _, _, _, _, hi => by simp at hi
  | 0, u :: ts, l, a, t, h, hi => by
    simp at hi; subst hi
    obtain ⟨p, n, k, rfl, e2, e3, e4, e5, e6, e7, e8⟩ := T_head l a u ts none h
    have hlen : ((l.drop p).take n).length = n := by rw [List.length_take, List.length_drop]; omega
    refine ⟨p + n, ?_, e4, ?_, fun z hz => ?_⟩
    · show a + p + ((l.drop p).take n).length = _; rw [hlen]; omega
    · rw [← Nat.add_assoc]; exact e6
    · have hz' : first ((l.drop p).take n ++ z) = (k, n, 0) := by
        have : first ((l.drop p).take n ++ z) = (k, ((l.drop p).take n).length, 0) := hz
        rw [hlen] at this; exact this
      rw [← Nat.add_assoc, e8 z hz']; rfl
  | i + 1, u :: ts, l, a, t, h, hi => by
    obtain ⟨p, n, k, hu, e2, e3, e4, e5, e6, e7, e8⟩ := T_head l a u ts none h
    rw [List.getElem?_cons_succ] at hi
    obtain ⟨m, g1, g2, g3, g4⟩ := T_cut i ts (l.drop (p + n)) (a + p + n) t e6 hi
    rw [List.length_drop] at g2
    have hts := T_len ts _ _ _ e6
    have htm : t ∈ ts := List.mem_of_getElem? hi
    have ht0 : 0 < t.text.length := List.length_pos_iff.2 (T_texts ts _ _ _ e6 t htm).2.2.1
    have hm : 0 < m := by have := (hts.2.2 t htm).1; omega
    refine ⟨p + n + m, by omega, by omega, ?_, fun z hz => ?_⟩
    · rw [show a + (p + n + m) = a + p + n + m by omega, ← List.drop_drop]; exact g3
    · have hcut : l.take (p + n + m) ++ z = l.take (p + n) ++ ((l.drop (p + n)).take m ++ z) := by rw [List.take_add, List.append_assoc]
      have hne : l.drop p ≠ [] := by intro h; have := congrArg List.length h; rw [List.length_drop] at this; simp at this; omega
      have hl2 : ((l.drop p).take (n + m)).length = n + m := by rw [List.length_take, List.length_drop]; omega
      have hne2 : (l.drop p).take (n + m) ≠ [] := by intro h; have := congrArg List.length h; rw [hl2] at this; simp at this; omega
      have hf := first_app _ z k n hne2 (first_take _ k n (n + m) hne e5 (by omega)) (.inl (by omega))
      rw [List.take_add, List.append_assoc, List.drop_drop] at hf
      rw [hcut, e8 _ hf, g4 z hz, show a + (p + n + m) = a + p + n + m by omega]
      rfl
end M
end Go.Proofs.Ytjiencifdpopdaa
