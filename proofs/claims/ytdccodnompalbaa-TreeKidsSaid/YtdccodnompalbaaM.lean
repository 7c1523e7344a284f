/- Trees of nodes as plain data, and what is reckoned of them: of no program. No conditions. -/
import Derived.Test.YtdccodnompalbaaProg
namespace Go.Proofs.Ytdccodnompalbaa

/-- A node: kind, text, number, the slice that its kids lie in, the kids, its place; or the node that holds nothing. -/
inductive NT where
  | nul
  | mk (k : Int) (t : ByteArray) (n : Int) (s : Value) (len : Nat) (kid : Nat → NT) (a : Int)

namespace NT
def k : NT → Int | nul => 0 | mk k _ _ _ _ _ _ => k
def t : NT → ByteArray | nul => ⟨#[]⟩ | mk _ t _ _ _ _ _ => t
def n : NT → Int | nul => 0 | mk _ _ n _ _ _ _ => n
def s : NT → Value | nul => .slice none 0 0 | mk _ _ _ s _ _ _ => s
def len : NT → Nat | nul => 0 | mk _ _ _ _ l _ _ => l
def kid : NT → Nat → NT | nul => fun _ => nul | mk _ _ _ _ _ f _ => f
def a : NT → Int | nul => 0 | mk _ _ _ _ _ _ a => a
/-- As a value. -/
def val (T : NT) : Value := .agg #[.int .i64 T.k, .string T.t, .int .i64 T.n, T.s, .int .i64 T.a]
end NT

theorem NT.ind {P : NT → Prop} (h : ∀ T : NT, (∀ i, i < T.len → P (T.kid i)) → P T) : ∀ T, P T
  | .nul => h _ fun _ hi => absurd hi (Nat.not_lt_zero _)
  | .mk _ _ _ _ _ kid _ => h _ fun i _ => NT.ind h (kid i)

/-- f(0) + .. + f(n-1) -/
def sumN (f : Nat → Nat) : Nat → Nat | 0 => 0 | i + 1 => sumN f i + f i
/-- the greatest of 0, f(0), .., f(n-1) -/
def maxN (f : Nat → Nat) : Nat → Nat | 0 => 0 | i + 1 => max (maxN f i) (f i)
/-- f(0) ++ .. ++ f(n-1) -/
def flatN {α : Type} (f : Nat → List α) : Nat → List α | 0 => [] | i + 1 => flatN f i ++ f i
/-- f handed on, as long as it isn't below 0 -/
def greatN (f : Nat → Int → Int) (m : Int) : Nat → Int | 0 => m | i + 1 => if 0 ≤ greatN f m i then f i (greatN f m i) else greatN f m i
/-- f at all of 0 .. n-1 -/
def allN (f : Nat → Bool) : Nat → Bool | 0 => true | i + 1 => allN f i && f i

def NT.size : NT → Nat | .nul => 1 | .mk _ _ _ _ len kid _ => 1 + sumN (fun i => (kid i).size) len
def NT.depth : NT → Nat | .nul => 1 | .mk _ _ _ _ len kid _ => maxN (fun i => (kid i).depth) len + 1
def NT.great : NT → Int → Int → Int
  | .nul, deep, many => if deep < 1 ∨ many < 0 then -1 else many - 1 - ((⟨#[]⟩ : ByteArray).size : Int) / 50
  | .mk _ t _ _ len kid _, deep, many => if deep < 1 ∨ many < 0 then -1 else greatN (fun i m => (kid i).great (deep - 1) m) (many - 1 - (t.size : Int) / 50) len

/-- The role of kid i. -/
def roleM (kind : Int) (r : Int) (i : Nat) : Int :=
  if kind = 5 then r else if kind = 9 then 2 else if kind = 2 ∨ kind = 3 ∨ kind = 4 then (if i = 0 then 1 else if i = 1 then 2 else 0) else if kind = 23 then (if i = 0 then 2 else 0) else 0

/-- A node, how deep it lies, its role. -/
abbrev Spot := NT × Int × Int
/-- All nodes, in order. -/
def NT.pres : NT → Int → Int → List Spot
  | .nul, d, r => [(.nul, d, r)]
  | .mk k t n s len kid a, d, r => (.mk k t n s len kid a, d, r) :: flatN (fun i => (kid i).pres (d + 1) (roleM k r i)) len

theorem flatN_len {α : Type} (f : Nat → List α) : ∀ n, (flatN f n).length = sumN (fun i => (f i).length) n
  | 0 => rfl
  | n + 1 => by simp [flatN, sumN, flatN_len f n]
theorem sumN_congr {f g : Nat → Nat} : ∀ {n : Nat}, (∀ i, i < n → f i = g i) → sumN f n = sumN g n
  | 0, _ => rfl
  | n + 1, h => by simp only [sumN]; rw [sumN_congr fun i hi => h i (by omega), h n (by omega)]
theorem NT.pres_len : ∀ (T : NT) (d r : Int), (T.pres d r).length = T.size
  | .nul, _, _ => rfl
  | .mk k t n s len kid a, d, r => by
    simp only [NT.pres, NT.size, List.length_cons, flatN_len]
    rw [sumN_congr (g := fun i => (kid i).size) fun i _ => NT.pres_len (kid i) (d + 1) (roleM k r i)]
    omega
theorem NT.size_pos (T : NT) : 1 ≤ T.size := by cases T <;> simp [NT.size]
theorem NT.depth_pos (T : NT) : 1 ≤ T.depth := by cases T <;> simp [NT.depth]
theorem NT.great_eq (T : NT) (deep many : Int) : T.great deep many = if deep < 1 ∨ many < 0 then -1 else greatN (fun i m => (T.kid i).great (deep - 1) m) (many - 1 - (T.t.size : Int) / 50) T.len := by
  cases T <;> rfl
theorem NT.size_eq (T : NT) : T.size = 1 + sumN (fun i => (T.kid i).size) T.len := by cases T <;> rfl
theorem NT.depth_eq (T : NT) : T.depth = maxN (fun i => (T.kid i).depth) T.len + 1 := by cases T <;> rfl
theorem NT.pres_eq (T : NT) (d r : Int) : T.pres d r = (T, d, r) :: flatN (fun i => (T.kid i).pres (d + 1) (roleM T.k r i)) T.len := by cases T <;> rfl
theorem sumN_le {f : Nat → Nat} : ∀ {n i : Nat}, i < n → f i ≤ sumN f n
  | 0, _, h => by omega
  | n + 1, i, h => by
    simp only [sumN]
    by_cases e : i = n
    · subst e; omega
    · have := sumN_le (f := f) (n := n) (i := i) (by omega); omega
theorem maxN_le {f : Nat → Nat} : ∀ {n i : Nat}, i < n → f i ≤ maxN f n
  | 0, _, h => by omega
  | n + 1, i, h => by
    simp only [maxN]
    by_cases e : i = n
    · subst e; omega
    · have := maxN_le (f := f) (n := n) (i := i) (by omega); omega
theorem maxN_bound {f : Nat → Nat} {b : Nat} : ∀ {n : Nat}, (∀ i, i < n → f i ≤ b) → maxN f n ≤ b
  | 0, _ => Nat.zero_le _
  | n + 1, h => by
    simp only [maxN]
    have := maxN_bound (f := f) (b := b) (n := n) fun i hi => h i (by omega)
    have := h n (by omega)
    omega

/-! What a node that isn't too great is. -/
theorem greatN_neg {f : Nat → Int → Int} {m : Int} {i : Nat} (h : greatN f m i < 0) : ∀ d, greatN f m (i + d) = greatN f m i
  | 0 => rfl
  | d + 1 => by
    rw [← Nat.add_assoc]
    simp only [greatN]
    rw [greatN_neg h d]
    simp [show ¬ 0 ≤ greatN f m i by omega]
theorem greatN_up {f : Nat → Int → Int} {m : Int} {n i : Nat} (hi : i ≤ n) (h : 0 ≤ greatN f m n) : 0 ≤ greatN f m i := by
  rcases Int.lt_or_le (greatN f m i) 0 with hl | hl
  · have := greatN_neg hl (n - i)
    rw [show i + (n - i) = n by omega] at this
    omega
  · exact hl

/-- Texts of at most b bytes. -/
def NT.short (b : Nat) : NT → Prop | .nul => True | .mk _ t _ _ len kid _ => t.size ≤ b ∧ ∀ i, i < len → (kid i).short b
theorem NT.short_eq (b : Nat) (T : NT) : T.short b ↔ (T.t.size ≤ b ∧ ∀ i, i < T.len → (T.kid i).short b) := by
  cases T with
  | nul => exact ⟨fun _ => ⟨Nat.zero_le _, fun i hi => absurd hi (Nat.not_lt_zero _)⟩, fun _ => trivial⟩
  | mk => rfl
/-- Texts of at most b bytes, at most b kids each. -/
def NT.sized (b : Nat) : NT → Prop | .nul => True | .mk _ t _ _ len kid _ => t.size ≤ b ∧ len ≤ b ∧ ∀ i, i < len → (kid i).sized b
theorem NT.sized_eq (b : Nat) (T : NT) : T.sized b ↔ (T.t.size ≤ b ∧ T.len ≤ b ∧ ∀ i, i < T.len → (T.kid i).sized b) := by
  cases T with
  | nul => exact ⟨fun _ => ⟨Nat.zero_le _, Nat.zero_le _, fun i hi => absurd hi (Nat.not_lt_zero _)⟩, fun _ => trivial⟩
  | mk => rfl

theorem NT.great_spec : ∀ (T : NT) (deep many : Int), 0 ≤ T.great deep many → T.great deep many + T.size ≤ many ∧ (T.depth : Int) ≤ deep ∧ ∀ b : Nat, many * 50 ≤ (b : Int) → T.short b
  | .nul, deep, many, h => by
    simp only [NT.great] at h ⊢
    split at h
    · omega
    · rename_i hh
      simp only [if_neg hh]
      have e : ((⟨#[]⟩ : ByteArray).size : Int) = 0 := rfl
      rw [e] at h ⊢
      exact ⟨by simp only [NT.size]; omega, by simp only [NT.depth]; omega, fun _ _ => trivial⟩
  | .mk k t n s len kid a, deep, many, h => by
    simp only [NT.great] at h ⊢
    split at h
    · omega
    · rename_i hh
      simp only [if_neg hh]
      have key : ∀ j, j ≤ len → greatN (fun i m => (kid i).great (deep - 1) m) (many - 1 - (t.size : Int) / 50) j + sumN (fun i => (kid i).size) j ≤ many - 1 - (t.size : Int) / 50 ∧
          (maxN (fun i => (kid i).depth) j : Int) ≤ deep - 1 ∧ ∀ b : Nat, many * 50 ≤ (b : Int) → ∀ i, i < j → (kid i).short b := by
        intro j
        induction j with
        | zero => intro _; exact ⟨by simp [greatN, sumN], by simp [maxN]; omega, fun b _ i hi => by omega⟩
        | succ j ih =>
          intro hj
          obtain ⟨h1, h2, h3⟩ := ih (by omega)
          have hu := greatN_up (show j ≤ len by omega) h
          have hu' := greatN_up (show j + 1 ≤ len by omega) h
          simp only [greatN, if_pos hu] at hu' ⊢
          obtain ⟨g1, g2, g3⟩ := NT.great_spec (kid j) _ _ hu'
          refine ⟨by simp only [sumN]; omega, by simp only [maxN]; omega, fun b hb i hi => ?_⟩
          by_cases e : i = j
          · subst e; exact g3 b (by omega)
          · exact h3 b hb i (by omega)
      obtain ⟨h1, h2, h3⟩ := key len (Nat.le_refl _)
      refine ⟨by simp only [NT.size]; omega, by simp only [NT.depth]; omega, fun b hb => ?_⟩
      rw [NT.short_eq]
      exact ⟨by show t.size ≤ b; omega, h3 b hb⟩
end Go.Proofs.Ytdccodnompalbaa
