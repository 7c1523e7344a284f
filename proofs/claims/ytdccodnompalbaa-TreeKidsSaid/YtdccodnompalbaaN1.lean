/- Trees made of trees, node by node, and what they have in common: of no program. No conditions. -/
import Derived.Test.YtdccodnompalbaaM
namespace Go.Proofs.Ytdccodnompalbaa

/-- A tree made of another, wherever its kids lie: each number by f, each place by g. -/
def Made (f : Int → Int → Int) (g : Int → Int) : NT → NT → Prop
  | .nul, U => U.k = 0 ∧ U.t = ⟨#[]⟩ ∧ U.n = f 0 0 ∧ U.a = g 0 ∧ U.len = 0
  | .mk k t n _ len kid a, U => U.k = k ∧ U.t = t ∧ U.n = f k n ∧ U.a = g a ∧ U.len = len ∧ ∀ i, i < len → Made f g (kid i) (U.kid i)
theorem made_eq (f : Int → Int → Int) (g : Int → Int) (T U : NT) : Made f g T U ↔ (U.k = T.k ∧ U.t = T.t ∧ U.n = f T.k T.n ∧ U.a = g T.a ∧ U.len = T.len ∧ ∀ i, i < T.len → Made f g (T.kid i) (U.kid i)) := by
  cases T with
  | nul => exact ⟨fun ⟨h1, h2, h3, h4, h5⟩ => ⟨h1, h2, h3, h4, h5, fun i hi => absurd hi (Nat.not_lt_zero _)⟩, fun ⟨h1, h2, h3, h4, h5, _⟩ => ⟨h1, h2, h3, h4, h5⟩⟩
  | mk => rfl

theorem maxN_congr {f g : Nat → Nat} : ∀ {n : Nat}, (∀ i, i < n → f i = g i) → maxN f n = maxN g n
  | 0, _ => rfl
  | n + 1, h => by simp only [maxN]; rw [maxN_congr fun i hi => h i (by omega), h n (by omega)]
theorem allN_all {f : Nat → Bool} : ∀ {n : Nat}, (∀ i, i < n → f i = true) → allN f n = true
  | 0, _ => rfl
  | n + 1, h => by simp only [allN]; rw [allN_all fun i hi => h i (by omega), h n (by omega)]; rfl
theorem allN_get {f : Nat → Bool} : ∀ {n i : Nat}, allN f n = true → i < n → f i = true
  | 0, _, _, hi => absurd hi (Nat.not_lt_zero _)
  | n + 1, i, h, hi => by
    simp only [allN, Bool.and_eq_true] at h
    by_cases e : i = n
    · subst e; exact h.2
    · exact allN_get h.1 (by omega)

section
variable {f : Int → Int → Int} {g : Int → Int}
theorem Made.size : ∀ {T U : NT}, Made f g T U → U.size = T.size := by
  intro T
  induction T using NT.ind with
  | _ T ih =>
    intro U h
    obtain ⟨_, _, _, _, h5, h6⟩ := (made_eq f g T U).1 h
    rw [NT.size_eq, NT.size_eq, h5, sumN_congr fun i hi => ih i hi (h6 i hi)]
theorem Made.depth : ∀ {T U : NT}, Made f g T U → U.depth = T.depth := by
  intro T
  induction T using NT.ind with
  | _ T ih =>
    intro U h
    obtain ⟨_, _, _, _, h5, h6⟩ := (made_eq f g T U).1 h
    rw [NT.depth_eq, NT.depth_eq, h5, maxN_congr fun i hi => ih i hi (h6 i hi)]
theorem Made.short {b : Nat} : ∀ {T U : NT}, Made f g T U → T.short b → U.short b := by
  intro T
  induction T using NT.ind with
  | _ T ih =>
    intro U h hs
    obtain ⟨_, h2, _, _, h5, h6⟩ := (made_eq f g T U).1 h
    obtain ⟨s1, s2⟩ := (NT.short_eq _ _).1 hs
    exact (NT.short_eq _ _).2 ⟨by rw [h2]; exact s1, fun i hi => ih i (by omega) (h6 i (by omega)) (s2 i (by omega))⟩
theorem Made.sized {b : Nat} : ∀ {T U : NT}, Made f g T U → T.sized b → U.sized b := by
  intro T
  induction T using NT.ind with
  | _ T ih =>
    intro U h hs
    obtain ⟨_, h2, _, _, h5, h6⟩ := (made_eq f g T U).1 h
    obtain ⟨s1, s2, s3⟩ := (NT.sized_eq _ _).1 hs
    exact (NT.sized_eq _ _).2 ⟨by rw [h2]; exact s1, by rw [h5]; exact s2, fun i hi => ih i (by omega) (h6 i (by omega)) (s3 i (by omega))⟩
end

/-- Two lists, one by one. -/
inductive F2 {α β : Type} (R : α → β → Prop) : List α → List β → Prop
  | nil : F2 R [] []
  | cons {a b l m} : R a b → F2 R l m → F2 R (a :: l) (b :: m)
namespace F2
variable {α β : Type} {R : α → β → Prop}
theorem len : ∀ {l : List α} {m : List β}, F2 R l m → l.length = m.length
  | _, _, .nil => rfl
  | _, _, .cons _ h => by simp [len h]
theorem append : ∀ {l : List α} {m : List β} {l' : List α} {m' : List β}, F2 R l m → F2 R l' m' → F2 R (l ++ l') (m ++ m')
  | _, _, _, _, .nil, h => h
  | _, _, _, _, .cons h1 h2, h => .cons h1 (append h2 h)
theorem mono {S : α → β → Prop} (hi : ∀ a b, R a b → S a b) : ∀ {l : List α} {m : List β}, F2 R l m → F2 S l m
  | _, _, .nil => .nil
  | _, _, .cons h1 h2 => .cons (hi _ _ h1) (mono hi h2)
theorem at_ : ∀ {l : List α} {m : List β}, F2 R l m → ∀ {i : Nat} {a : α} {b : β}, l[i]? = some a → m[i]? = some b → R a b
  | _, _, .cons h1 h2, 0, a, b, ha, hb => by simp at ha hb; subst ha hb; exact h1
  | _, _, .cons h1 h2, i + 1, a, b, ha, hb => at_ h2 (by simpa using ha) (by simpa using hb)
theorem flat {f : Nat → List α} {h : Nat → List β} : ∀ {n : Nat}, (∀ i, i < n → F2 R (f i) (h i)) → F2 R (flatN f n) (flatN h n)
  | 0, _ => .nil
  | n + 1, k => (flat fun i hi => k i (by omega)).append (k n (by omega))
theorem find {p : α → Bool} {q : β → Bool} : ∀ {l : List α} {m : List β}, F2 R l m → (∀ a b, R a b → p a = q b) → (l.find? p = none ∧ m.find? q = none) ∨ ∃ a b, l.find? p = some a ∧ m.find? q = some b ∧ R a b
  | _, _, .nil, _ => .inl ⟨rfl, rfl⟩
  | _, _, .cons (a := a) (b := b) h1 h2, k => by
    rw [List.find?_cons, List.find?_cons, k a b h1]
    cases q b
    · exact find h2 k
    · exact .inr ⟨a, b, rfl, rfl, h1⟩
/-- Where nothing of the first list is found, nothing of the second is. -/
theorem none {p : α → Bool} {q : β → Bool} : ∀ {l : List α} {m : List β}, F2 R l m → (∀ a b, R a b → q b = true → p a = true) → l.find? p = .none → m.find? q = .none
  | _, _, .nil, _, _ => rfl
  | _, _, .cons (a := a) (b := b) h1 h2, k, h => by
    rw [List.find?_cons] at h ⊢
    have hk := k a b h1
    cases hq : q b
    · cases hp : p a
      · rw [hp] at h; exact none h2 k h
      · rw [hp] at h; cases h
    · rw [hk hq] at h; cases h
end F2

/-- The spots of a tree and of one made of it. -/
theorem Made.pres {f : Int → Int → Int} {g : Int → Int} : ∀ {T U : NT}, Made f g T U → ∀ d r, F2 (fun x y : Spot => Made f g x.1 y.1 ∧ y.2 = x.2) (T.pres d r) (U.pres d r) := by
  intro T
  induction T using NT.ind with
  | _ T ih =>
    intro U h d r
    obtain ⟨h1, _, _, _, h5, h6⟩ := (made_eq f g T U).1 h
    rw [NT.pres_eq, NT.pres_eq, h5, h1]
    exact .cons ⟨h, rfl⟩ (F2.flat fun i hi => ih i hi (h6 i hi) (d + 1) (roleM T.k r i))

/-- Are two trees alike, wherever they stand? -/
def sameM : NT → NT → Bool
  | .nul, U => decide (0 = U.k) && ((⟨#[]⟩ : ByteArray).toList == U.t.toList) && decide (0 = U.n) && decide (0 = U.len)
  | .mk k t n _ len kid _, U => decide (k = U.k) && (t.toList == U.t.toList) && decide (n = U.n) && decide (len = U.len) && allN (fun i => sameM (kid i) (U.kid i)) len
theorem sameM_eq (T U : NT) : sameM T U = (decide (T.k = U.k) && (T.t.toList == U.t.toList) && decide (T.n = U.n) && decide (T.len = U.len) && allN (fun i => sameM (T.kid i) (U.kid i)) T.len) := by
  cases T with
  | nul => show _ = (_ && true); rw [Bool.and_true]; rfl
  | mk => rfl

/-- A copy. -/
abbrev Copied := Made (fun _ n => n) (fun a => a)
theorem Made.same {g : Int → Int} : ∀ {T U : NT}, Made (fun _ n => n) g T U → sameM T U = true := by
  intro T
  induction T using NT.ind with
  | _ T ih =>
    intro U h
    obtain ⟨h1, h2, h3, _, h5, h6⟩ := (made_eq _ _ T U).1 h
    rw [sameM_eq, h1, h2, h3, h5, allN_all fun i hi => ih i hi (h6 i hi)]
    simp
theorem Made.comp {f f' : Int → Int → Int} {g g' : Int → Int} : ∀ {T U V : NT}, Made f g T U → Made f' g' U V → Made (fun k n => f' k (f k n)) (fun a => g' (g a)) T V := by
  intro T
  induction T using NT.ind with
  | _ T ih =>
    intro U V h h'
    obtain ⟨h1, h2, h3, h4, h5, h6⟩ := (made_eq _ _ T U).1 h
    obtain ⟨k1, k2, k3, k4, k5, k6⟩ := (made_eq _ _ U V).1 h'
    exact (made_eq _ _ T V).2 ⟨k1.trans h1, k2.trans h2, by rw [k3, h1, h3], by rw [k4, h4], k5.trans h5, fun i hi => ih i hi (h6 i hi) (k6 i (by omega))⟩
/-- Made twice of one. -/
theorem Made.both {f f' : Int → Int → Int} {g g' : Int → Int} (hf : ∀ k n, f' k n = f k n) (hg : ∀ a, g' a = g a) : ∀ {T U V : NT}, Made f g T U → Made f' g' T V → Copied U V := by
  intro T
  induction T using NT.ind with
  | _ T ih =>
    intro U V h h'
    obtain ⟨h1, h2, h3, h4, h5, h6⟩ := (made_eq _ _ T U).1 h
    obtain ⟨k1, k2, k3, k4, k5, k6⟩ := (made_eq _ _ T V).1 h'
    exact (made_eq _ _ U V).2 ⟨k1.trans h1.symm, k2.trans h2.symm, by rw [k3, h3, hf], by rw [k4, h4, hg], k5.trans h5.symm, fun i hi => ih i (by omega) (h6 i (by omega)) (k6 i (by omega))⟩
theorem Made.congr {f f' : Int → Int → Int} {g g' : Int → Int} (hf : ∀ k n, f' k n = f k n) (hg : ∀ a, g' a = g a) : ∀ {T U : NT}, Made f g T U → Made f' g' T U := by
  intro T
  induction T using NT.ind with
  | _ T ih =>
    intro U h
    obtain ⟨h1, h2, h3, h4, h5, h6⟩ := (made_eq _ _ T U).1 h
    exact (made_eq _ _ T U).2 ⟨h1, h2, by rw [h3, hf], by rw [h4, hg], h5, fun i hi => ih i hi (h6 i hi)⟩

/-- A number without that of a local. -/
def bareN (k n : Int) : Int := if k = 6 then 0 else if (k = 30 ∨ k = 71) ∧ 0 ≤ n then n % 2 else n
theorem bareN_twice (k n : Int) : bareN k (bareN k n) = bareN k n := by
  unfold bareN
  by_cases h6 : k = 6
  · simp [h6]
  · by_cases h : (k = 30 ∨ k = 71) ∧ 0 ≤ n
    · have : (k = 30 ∨ k = 71) ∧ 0 ≤ n % 2 := ⟨h.1, by omega⟩
      simp only [if_neg h6, if_pos h, if_pos this]
      omega
    · simp only [if_neg h6, if_neg h]
abbrev Bared := Made bareN (fun _ => 0)
/-- What is bare, made bare, is the same. -/
theorem bared_twice {T U V : NT} (h : Bared T U) (h' : Bared U V) : Copied U V :=
  Made.both (f := bareN) (g := fun _ => 0) (f' := fun k n => bareN k (bareN k n)) (g' := fun _ => 0) bareN_twice (fun _ => rfl) h (h.comp h')
end Go.Proofs.Ytdccodnompalbaa
