/- Plain facts on lists of bytes, their lines and places. No program, no world; no conditions beyond those that each statement names. -/
import Derived.Lib.SplitLaws
import Derived.Lib.LastIndexByte
import Derived.Lib.IndexLaws
namespace Go.Proofs.YtcgiifcikcfdaaaDoor.M
open Go

/-- A text's lines. -/
def lns : List UInt8 → List (List UInt8)
  | [] => [[]]
  | c :: r => if c = 10 then [] :: lns r else
    match lns r with
    | [] => [[c]]
    | h :: t => (c :: h) :: t

/-- The line and the column of a place, both from 0 on. -/
def pos (l : List UInt8) : Nat → Nat × Nat
  | 0 => (0, 0)
  | k + 1 => if l[k]? = some 10 then ((pos l k).1 + 1, 0) else ((pos l k).1, (pos l k).2 + 1)

theorem pos_succ (l : List UInt8) (k : Nat) : pos l (k + 1) = if l[k]? = some 10 then ((pos l k).1 + 1, 0) else ((pos l k).1, (pos l k).2 + 1) := rfl

/-- The place of a line and a column. -/
def atR : List UInt8 → Nat → Nat → Option Nat
  | _, 0, 0 => some 0
  | [], _, _ => none
  | c :: r, 0, j + 1 => if c = 10 then none else (atR r 0 j).map (· + 1)
  | c :: r, i + 1, j => if c = 10 then (atR r i j).map (· + 1) else (atR r (i + 1) j).map (· + 1)

theorem atR_c0 (c : UInt8) (r : List UInt8) (j : Nat) : atR (c :: r) 0 (j + 1) = if c = 10 then none else (atR r 0 j).map (· + 1) := rfl
theorem atR_cS (c : UInt8) (r : List UInt8) (i j : Nat) : atR (c :: r) (i + 1) j = if c = 10 then (atR r i j).map (· + 1) else (atR r (i + 1) j).map (· + 1) := by cases j <;> rfl
theorem lns_nl (c : UInt8) (r : List UInt8) (hc : c = 10) : lns (c :: r) = [] :: lns r := by simp [lns, hc]
theorem lns_co (c : UInt8) (r x : List UInt8) (y : List (List UInt8)) (hc : ¬ c = 10) (hl : lns r = x :: y) : lns (c :: r) = (c :: x) :: y := by simp [lns, hc, hl]

theorem lns_ne (l : List UInt8) : lns l ≠ [] := by
  cases l with
  | nil => simp [lns]
  | cons c r =>
    unfold lns
    split
    · simp
    · split <;> simp

theorem lns_form (l : List UInt8) : ∃ a b, lns l = a ++ [b] := ⟨_, _, (List.dropLast_concat_getLast (lns_ne l)).symm⟩

theorem lns_snoc (p : List UInt8) (c : UInt8) : ∀ a b, lns p = a ++ [b] → lns (p ++ [c]) = if c = 10 then a ++ [b, []] else a ++ [b ++ [c]] := by
  induction p with
  | nil =>
    intro a b h
    have h' : a = [] ∧ b = [] := by
      cases a with
      | nil => simp [lns] at h; exact ⟨rfl, h⟩
      | cons x y => simp [lns] at h
    obtain ⟨rfl, rfl⟩ := h'
    by_cases hc : c = 10 <;> simp [lns, hc]
  | cons d r ih =>
    intro a b h
    by_cases hd : d = 10
    · simp only [lns, hd, if_pos, List.cons_append] at h ⊢
      cases a with
      | nil => simp at h; exact absurd h.2 (lns_ne r)
      | cons x y =>
        simp at h
        rw [ih y b h.2, ← h.1]
        split <;> simp
    · simp only [lns, if_neg hd, List.cons_append] at h ⊢
      obtain ⟨a', b', e⟩ := lns_form r
      have e2 := ih a' b' e
      rw [e2]
      rw [e] at h
      cases a' with
      | nil =>
        simp at h
        cases a with
        | nil =>
          simp at h
          subst h
          by_cases hc : c = 10 <;> simp [hc]
        | cons x y => simp at h
      | cons x' y' =>
        simp at h
        cases a with
        | nil => simp at h
        | cons x y =>
          simp at h
          obtain ⟨rfl, rfl, rfl⟩ := h
          by_cases hc : c = 10 <;> simp [hc]

theorem lns_append (q : List UInt8) : ∀ p a b h t, lns p = a ++ [b] → lns q = h :: t → lns (p ++ q) = a ++ (b ++ h) :: t := by
  induction q with
  | nil =>
    intro p a b h t hp hq
    simp [lns] at hq
    obtain ⟨rfl, rfl⟩ := hq
    simpa using hp
  | cons c q ih =>
    intro p a b h t hp hq
    have e := lns_snoc p c a b hp
    rw [show p ++ c :: q = (p ++ [c]) ++ q by simp]
    obtain ⟨h', t', hq'⟩ : ∃ h' t', lns q = h' :: t' := by
      cases hh : lns q with
      | nil => exact absurd hh (lns_ne q)
      | cons x y => exact ⟨x, y, rfl⟩
    by_cases hc : c = 10
    · rw [if_pos hc] at e
      rw [ih (p ++ [c]) (a ++ [b]) [] h' t' (by simpa using e) hq']
      simp [lns, hc, hq'] at hq
      obtain ⟨rfl, rfl⟩ := hq
      simp
    · rw [if_neg hc] at e
      rw [ih (p ++ [c]) a (b ++ [c]) h' t' e hq']
      simp [lns, hc, hq'] at hq
      obtain ⟨rfl, rfl⟩ := hq
      simp

/-- The first line of a text. -/
theorem lns_head (q : List UInt8) : ∃ t, lns q = q.take (if Lib.indexByte q 10 = -1 then q.length else (Lib.indexByte q 10).toNat) :: t := by
  induction q with
  | nil => exact ⟨[], by simp [lns]⟩
  | cons c r ih =>
    obtain ⟨t, ht⟩ := ih
    have hge := Lib.indexByte_ge r 10
    by_cases hc : c = 10
    · exact ⟨lns r, by simp [lns, hc, Lib.indexByte]⟩
    · refine ⟨t, ?_⟩
      simp only [lns, if_neg hc, ht, Lib.indexByte, beq_iff_eq]
      by_cases hn : Lib.indexByte r 10 = -1
      · simp [hn]
      · have h1 : ¬ (Lib.indexByte r 10 + 1 = -1) := by omega
        have h2 : (Lib.indexByte r 10 + 1).toNat = (Lib.indexByte r 10).toNat + 1 := by omega
        simp [hn, h1, h2]

/-- The last line of a text, and how many there are: its place behind all. -/
theorem lns_last (l : List UInt8) : ∀ k, k ≤ l.length → ∃ a b, lns (l.take k) = a ++ [b] ∧ a.length = (pos l k).1 ∧ b.length = (pos l k).2 ∧ ∃ x, l.take k = x ++ b := by
  intro k
  induction k with
  | zero => intro _; exact ⟨[], [], by simp [lns], rfl, rfl, [], rfl⟩
  | succ k ih =>
    intro hk
    obtain ⟨a, b, h1, h2, h3, x, h4⟩ := ih (by omega)
    have ht : l.take (k + 1) = l.take k ++ [l[k]] := by rw [List.take_succ_eq_append_getElem (by omega)]
    have hg : l[k]? = some l[k] := List.getElem?_eq_getElem (by omega)
    have e := lns_snoc (l.take k) l[k] a b h1
    rw [ht, e]
    unfold pos
    by_cases hc : l[k] = 10
    · rw [if_pos hc, if_pos (by rw [hg, hc])]
      exact ⟨a ++ [b], [], by simp, by simp [h2], rfl, l.take k ++ [l[k]], by simp⟩
    · rw [if_neg hc, if_neg (by rw [hg]; simpa using hc)]
      exact ⟨a, b ++ [l[k]], rfl, h2, by simp [h3], x, by rw [h4]; simp⟩

theorem pos_le (l : List UInt8) (k : Nat) : (pos l k).1 + (pos l k).2 ≤ k := by
  induction k with
  | zero => exact Nat.le_refl _
  | succ k ih => unfold pos; split <;> simp <;> omega

theorem pos_count (l : List UInt8) : ∀ k, k ≤ l.length → (l.take k).count 10 = (pos l k).1 := by
  intro k
  induction k with
  | zero => intro _; rfl
  | succ k ih =>
    intro hk
    have hg : l[k]? = some l[k] := List.getElem?_eq_getElem (by omega)
    rw [List.take_succ_eq_append_getElem (by omega), List.count_append, ih (by omega), pos_succ]
    by_cases hc : l[k] = 10
    · rw [if_pos (by rw [hg, hc]), hc]; rfl
    · rw [if_neg (by rw [hg]; simpa using hc)]
      simp [hc]

theorem lastIdx_take (s : ByteArray) (c : Int) (k : Nat) (hk : k ≤ s.size) : ∀ j, j ≤ k → Lib.lastIdx (s.extract 0 k) c j = Lib.lastIdx s c j := by
  intro j
  induction j with
  | zero => intro _; rfl
  | succ j ih =>
    intro hj
    have e : ((s.extract 0 k).data[j]!) = s.data[j]! := by
      have h1 : j < s.data.size := by have := hk; show j < s.size; omega
      have h2 : j < (s.extract 0 k).data.size := by simp [ByteArray.data_extract]; omega
      rw [getElem!_pos _ j h2, getElem!_pos _ j h1]
      simp [ByteArray.data_extract]
    unfold Lib.lastIdx
    rw [e, ih (by omega)]

theorem pos_last (s : ByteArray) : ∀ k, k ≤ s.size → Lib.lastIndexByte (s.extract 0 k) 10 + 1 + ((pos s.data.toList k).2 : Int) = k := by
  intro k hk
  have hsz : (s.extract 0 k).size = k := by simp; omega
  unfold Lib.lastIndexByte
  rw [hsz, lastIdx_take s 10 k hk k (Nat.le_refl _)]
  clear hsz
  induction k with
  | zero => rfl
  | succ k ih =>
    have ih := ih (by omega)
    have h1 : k < s.data.size := by show k < s.size; omega
    have hb : (s.data[k]!) = s.data[k] := getElem!_pos _ k h1
    have hg : s.data.toList[k]? = some s.data[k] := by simp
    rw [pos_succ]
    unfold Lib.lastIdx
    rw [hb]
    by_cases hc : s.data[k] = 10
    · rw [if_pos (by rw [hc]; rfl), if_pos (by rw [hg, hc])]; simp
    · rw [if_neg (by intro e; exact hc (UInt8.toNat_inj.1 (by have : (s.data[k].toNat : Int) = 10 := e; show s.data[k].toNat = 10; omega))), if_neg (by rw [hg]; simpa using hc)]
      simp; omega


theorem atR_zero (l : List UInt8) : atR l 0 0 = some 0 := by cases l <;> rfl

/-- Behind the place of a line's head the rest of the text counts on. -/
theorem atR_shift : ∀ (l : List UInt8) (i k : Nat), atR l i 0 = some k → ∀ m j, atR l (i + m) j = (atR (l.drop k) m j).map (· + k)
  | [], 0, k, h, m, j => by
    simp [atR] at h
    subst h
    simp
  | [], i + 1, k, h, m, j => by simp [atR] at h
  | c :: r, 0, k, h, m, j => by
    simp [atR] at h
    subst h
    simp
  | c :: r, i + 1, k, h, m, j => by
    rw [atR_cS] at h
    rw [show i + 1 + m = (i + m) + 1 by omega, atR_cS]
    by_cases hc : c = 10
    · rw [if_pos hc] at h ⊢
      obtain ⟨k', hk', rfl⟩ := Option.map_eq_some_iff.1 h
      rw [atR_shift r i k' hk' m j, List.drop_succ_cons, Option.map_map]
      rfl
    · rw [if_neg hc] at h ⊢
      obtain ⟨k', hk', rfl⟩ := Option.map_eq_some_iff.1 h
      rw [show i + m + 1 = (i + 1) + m by omega, atR_shift r (i + 1) k' hk' m j, List.drop_succ_cons, Option.map_map]
      rfl

/-- In a text without a byte A. -/
theorem atR_none : ∀ (d : List UInt8), Lib.indexByte d 10 = -1 → (∀ m j, atR d (m + 1) j = none) ∧ ∀ j, atR d 0 j = if j ≤ d.length then some j else none
  | [], _ => ⟨fun _ _ => rfl, fun j => by cases j <;> simp [atR]⟩
  | c :: r, h => by
    have hge := Lib.indexByte_ge r 10
    unfold Lib.indexByte at h
    by_cases hc : c = 10
    · simp [hc] at h
    · have hr : Lib.indexByte r 10 = -1 := by
        rw [if_neg (by simpa using hc)] at h
        by_cases hn : Lib.indexByte r 10 = -1
        · exact hn
        · rw [if_neg (by simpa using hn)] at h; omega
      obtain ⟨h1, h2⟩ := atR_none r hr
      refine ⟨fun m j => ?_, fun j => ?_⟩
      · unfold atR; rw [if_neg hc, h1]; rfl
      · cases j with
        | zero => simp [atR]
        | succ j => unfold atR; rw [if_neg hc, h2]; by_cases hj : j ≤ r.length <;> simp [hj]

/-- In a text whose first byte A is at o. -/
theorem atR_some : ∀ (d : List UInt8) (o : Nat), Lib.indexByte d 10 = o →
    o < d.length ∧ atR d 1 0 = some (o + 1) ∧ ∀ j, atR d 0 j = if j ≤ o then some j else none
  | [], o, h => by simp [Lib.indexByte] at h
  | c :: r, o, h => by
    have hge := Lib.indexByte_ge r 10
    unfold Lib.indexByte at h
    by_cases hc : c = 10
    · rw [if_pos (by simpa using hc)] at h
      have ho : o = 0 := by omega
      subst ho
      refine ⟨by simp, ?_, fun j => ?_⟩
      · unfold atR; rw [if_pos hc, atR_zero]; rfl
      · cases j with
        | zero => simp [atR]
        | succ j => unfold atR; rw [if_pos hc]; simp
    · rw [if_neg (by simpa using hc)] at h
      by_cases hn : Lib.indexByte r 10 = -1
      · rw [if_pos (by simpa using hn)] at h; omega
      · rw [if_neg (by simpa using hn)] at h
        obtain ⟨o', ho'⟩ : ∃ o', o = o' + 1 := ⟨o - 1, by omega⟩
        subst ho'
        obtain ⟨h1, h2, h3⟩ := atR_some r o' (by omega)
        refine ⟨by simp; omega, ?_, fun j => ?_⟩
        · unfold atR; rw [if_neg hc, h2]; rfl
        · cases j with
          | zero => simp [atR]
          | succ j => unfold atR; rw [if_neg hc, h3]; by_cases hj : j ≤ o' <;> simp [hj]

/-- A place has its line and column, and they have it. -/
theorem pos_cons (c : UInt8) (r : List UInt8) : ∀ k, pos (c :: r) (k + 1) = if c = 10 then ((pos r k).1 + 1, (pos r k).2) else if (pos r k).1 = 0 then (0, (pos r k).2 + 1) else pos r k := by
  intro k
  induction k with
  | zero => rw [pos_succ]; by_cases hc : c = 10 <;> simp [hc, pos]
  | succ k ih =>
    rw [pos_succ, ih, pos_succ r k]
    rw [List.getElem?_cons_succ]
    by_cases hc : c = 10
    · simp only [if_pos hc]
      by_cases hg : r[k]? = some 10 <;> simp [hg]
    · simp only [if_neg hc]
      by_cases hg : r[k]? = some 10
      · simp only [if_pos hg]
        by_cases h0 : (pos r k).1 = 0 <;> simp [h0]
      · simp only [if_neg hg]
        by_cases h0 : (pos r k).1 = 0 <;> simp [h0]

theorem atR_pos : ∀ (l : List UInt8) (k : Nat), k ≤ l.length → atR l (pos l k).1 (pos l k).2 = some k
  | l, 0, _ => by simp [pos, atR_zero]
  | [], k + 1, h => by simp at h
  | c :: r, k + 1, h => by
    have ih := atR_pos r k (by simpa using h)
    rw [pos_cons]
    by_cases hc : c = 10
    · rw [if_pos hc]
      show atR (c :: r) ((pos r k).1 + 1) (pos r k).2 = _
      unfold atR
      rw [if_pos hc, ih]; rfl
    · rw [if_neg hc]
      by_cases h0 : (pos r k).1 = 0
      · rw [if_pos h0]
        show atR (c :: r) 0 ((pos r k).2 + 1) = _
        unfold atR
        rw [if_neg hc, ← h0, ih]; rfl
      · rw [if_neg h0]
        obtain ⟨i, hi⟩ : ∃ i, (pos r k).1 = i + 1 := ⟨(pos r k).1 - 1, by omega⟩
        rw [hi]
        unfold atR
        rw [if_neg hc, ← hi, ih]; rfl

theorem pos_atR : ∀ (l : List UInt8) (i j k : Nat), atR l i j = some k → k ≤ l.length ∧ pos l k = (i, j)
  | [], 0, 0, k, h => by simp [atR] at h; subst h; exact ⟨Nat.le_refl _, rfl⟩
  | c :: r, 0, 0, k, h => by simp [atR] at h; subst h; exact ⟨Nat.zero_le _, rfl⟩
  | [], 0, j + 1, k, h => by simp [atR] at h
  | [], i + 1, j, k, h => by simp [atR] at h
  | c :: r, 0, j + 1, k, h => by
    unfold atR at h
    by_cases hc : c = 10
    · rw [if_pos hc] at h; cases h
    · rw [if_neg hc] at h
      obtain ⟨k', hk', rfl⟩ := Option.map_eq_some_iff.1 h
      obtain ⟨h1, h2⟩ := pos_atR r 0 j k' hk'
      exact ⟨by simpa using h1, by rw [pos_cons, if_neg hc, h2]; rfl⟩
  | c :: r, i + 1, j, k, h => by
    unfold atR at h
    by_cases hc : c = 10
    · rw [if_pos hc] at h
      obtain ⟨k', hk', rfl⟩ := Option.map_eq_some_iff.1 h
      obtain ⟨h1, h2⟩ := pos_atR r i j k' hk'
      exact ⟨by simpa using h1, by rw [pos_cons, if_pos hc, h2]⟩
    · rw [if_neg hc] at h
      obtain ⟨k', hk', rfl⟩ := Option.map_eq_some_iff.1 h
      obtain ⟨h1, h2⟩ := pos_atR r (i + 1) j k' hk'
      exact ⟨by simpa using h1, by rw [pos_cons, if_neg hc, h2]; rfl⟩

/-- As many bytes as the first lines have, with their ends. -/
def st (ls : List (List UInt8)) (i : Nat) : Nat := ((ls.take i).map (fun t => t.length + 1)).sum

theorem st_zero (ls : List (List UInt8)) : st ls 0 = 0 := rfl
theorem st_succ (ls : List (List UInt8)) (i : Nat) (h : i < ls.length) : st ls (i + 1) = st ls i + (ls[i].length + 1) := by
  unfold st
  rw [List.take_succ_eq_append_getElem h, List.map_append, List.sum_append]
  simp
theorem st_cons (x : List UInt8) (ls : List (List UInt8)) (i : Nat) : st (x :: ls) (i + 1) = x.length + 1 + st ls i := by simp [st]

/-- A line's place by the lines themselves. -/
theorem atR_lns : ∀ (l : List UInt8) (i j : Nat), atR l i j = if i < (lns l).length ∧ j ≤ ((lns l).getD i []).length then some (st (lns l) i + j) else none
  | [], 0, 0 => by simp [atR, lns, st]
  | c :: r, 0, 0 => by
    have := List.length_pos_iff.2 (lns_ne (c :: r))
    simp [atR, st, this]
  | [], 0, j + 1 => by simp [atR, lns]
  | [], i + 1, j => by simp [atR, lns]
  | c :: r, 0, j + 1 => by
    rw [atR_c0]
    by_cases hc : c = 10
    · rw [if_pos hc, lns_nl c r hc]; simp
    · rw [if_neg hc, atR_lns r 0 j]
      cases hl : lns r with
      | nil => exact absurd hl (lns_ne r)
      | cons x y =>
        rw [lns_co c r x y hc hl]
        by_cases hj : j ≤ x.length <;> simp [hj, st]
  | c :: r, i + 1, j => by
    rw [atR_cS]
    by_cases hc : c = 10
    · rw [if_pos hc, atR_lns r i j, lns_nl c r hc]
      simp only [List.length_cons, List.getD_cons_succ, st_cons]
      by_cases h : i < (lns r).length ∧ j ≤ ((lns r).getD i []).length
      · rw [if_pos h, if_pos ⟨by omega, h.2⟩]; simp; omega
      · rw [if_neg h, if_neg (fun e => h ⟨by omega, e.2⟩)]; rfl
    · rw [if_neg hc, atR_lns r (i + 1) j]
      cases hl : lns r with
      | nil => exact absurd hl (lns_ne r)
      | cons x y =>
        rw [lns_co c r x y hc hl]
        simp only [List.length_cons, List.getD_cons_succ, st_cons]
        by_cases h : i + 1 < y.length + 1 ∧ j ≤ (y.getD i []).length
        · rw [if_pos h, if_pos h]; simp; omega
        · rw [if_neg h, if_neg h]; rfl

end Go.Proofs.YtcgiifcikcfdaaaDoor.M
