/- Types as trees, in memory; whether one is right: what the program answers. Conditions: those that each statement names. -/
import GoSem.Core.Utf8
import Derived.Test.YtkplfedpkamogaaDoorProg
import Derived.Test.YtkplfedpkamogaaDoorDd

namespace Go.Proofs.Kd

inductive TT where
  | nul
  | mk (k : Int) (nm : ByteArray) (r : Int) (u : Bool) (m : Nat) (regs : Nat → Int) (n : Nat) (kids : Nat → TT)
def TT.k : TT → Int | .nul => 0 | .mk k _ _ _ _ _ _ _ => k
def TT.nm : TT → ByteArray | .nul => ⟨#[]⟩ | .mk _ nm _ _ _ _ _ _ => nm
def TT.r : TT → Int | .nul => 0 | .mk _ _ r _ _ _ _ _ => r
def TT.u : TT → Bool | .nul => false | .mk _ _ _ u _ _ _ _ => u
def TT.m : TT → Nat | .nul => 0 | .mk _ _ _ _ m _ _ _ => m
def TT.regs : TT → Nat → Int | .nul => fun _ => 0 | .mk _ _ _ _ _ regs _ _ => regs
def TT.n : TT → Nat | .nul => 0 | .mk _ _ _ _ _ _ n _ => n
def TT.kid : TT → Nat → TT | .nul => fun _ => .nul | .mk _ _ _ _ _ _ _ kids => kids

/-- Whether one of k from i on is so. -/
def anyF (f : Nat → Bool) : Nat → Nat → Bool
  | _, 0 => false
  | i, k + 1 => f i || anyF f (i + 1) k
def maxF (f : Nat → Int) : Nat → Nat → Int → Int
  | _, 0, a => a
  | i, k + 1, a => maxF f (i + 1) k (max a (f i))
theorem anyF_false {f : Nat → Bool} : ∀ {k i : Nat}, anyF f i k = false → ∀ j, i ≤ j → j < i + k → f j = false
  | 0, i, _, j, h1, h2 => absurd h2 (by omega)
  | k + 1, i, h, j, h1, h2 => by
    simp only [anyF, Bool.or_eq_false_iff] at h
    rcases Nat.lt_or_ge i j with hl | hl
    · exact anyF_false h.2 j hl (by omega)
    · rw [show j = i by omega]; exact h.1

def great : TT → Int → Bool
  | .nul, _ => true
  | .mk _ nm _ _ m _ n kids, deep => decide (deep < 1) || decide (100 < n) || decide (100 < m) || decide (1000 < nm.size) || anyF (fun i => great (kids i) (deep - 1)) 0 n
def depth : TT → Int
  | .nul => 1
  | .mk _ _ _ _ _ _ n kids => 1 + maxF (fun i => depth (kids i)) 0 n 0

theorem maxF_le {f : Nat → Int} {b : Int} : ∀ {k i : Nat} {a : Int}, a ≤ b → (∀ j, i ≤ j → j < i + k → f j ≤ b) → maxF f i k a ≤ b
  | 0, _, _, h, _ => h
  | k + 1, i, a, h, hf => by
    unfold maxF
    exact maxF_le (by have := hf i (by omega) (by omega); omega) (fun j h1 h2 => hf j (by omega) (by omega))
theorem maxF_ge {f : Nat → Int} : ∀ {k i : Nat} {a : Int}, a ≤ maxF f i k a
  | 0, _, a => Int.le_refl a
  | k + 1, i, a => by
    unfold maxF
    exact Int.le_trans (by omega) (maxF_ge (k := k) (i := i + 1) (a := max a (f i)))
theorem depth_pos : ∀ T : TT, 1 ≤ depth T
  | .nul => Int.le_refl 1
  | .mk _ _ _ _ _ _ n kids => by unfold depth; have := maxF_ge (f := fun i => depth (kids i)) (i := 0) (k := n) (a := 0); omega
theorem great_depth : ∀ (T : TT) (d : Int), great T d = false → depth T ≤ d
  | .nul, _, h => by cases h
  | .mk k nm r u m regs n kids, d, h => by
    simp only [great, Bool.or_eq_false_iff, decide_eq_false_iff_not] at h
    obtain ⟨⟨⟨⟨h1, h2⟩, h3⟩, h4⟩, h5⟩ := h
    unfold depth
    have : maxF (fun i => depth (kids i)) 0 n 0 ≤ d - 1 := maxF_le (by omega) fun j _ hj => great_depth (kids j) (d - 1) (anyF_false h5 j (by omega) hj)
    omega

def isDig (b : Nat) : Bool := decide (48 ≤ b) && decide (b ≤ 57)
def isWd (b : Nat) : Bool := decide (97 ≤ b) && decide (b ≤ 122) || decide (65 ≤ b) && decide (b ≤ 90) || isDig b || decide (b = 95)
def sInt : ByteArray := ⟨#[105, 110, 116]⟩
def sBool : ByteArray := ⟨#[98, 111, 111, 108]⟩
def sUnit : ByteArray := ⟨#[117, 110, 105, 116]⟩
/-- Byte i of a text. -/
def at' (s : ByteArray) (i : Nat) : Nat := (s.data.toList.getD i 0).toNat
def word (s : ByteArray) : Bool :=
  decide (1 ≤ s.size) && decide (s.size ≤ 200) && !isDig (at' s 0) && !decide (s.data.toList = sInt.data.toList) && !decide (s.data.toList = sBool.data.toList) && !decide (s.data.toList = sUnit.data.toList) && !anyF (fun i => !isWd (at' s i)) 0 s.size

/-- Part by part, as the document has it. -/
def rfits : TT → Bool
  | .nul => false
  | .mk k nm r u m regs n kids =>
    let ref := decide (k = 4); let box := decide (k = 5) || decide (k = 6); let data := decide (k = 7)
    if decide (k < 1) || decide (7 < k) || (!ref && (!decide (r = 0) || u)) || (!data && (!decide (nm.data.toList = []) || decide (0 < m))) then false
    else if decide (r < 0) || decide (500 < r) || (data && !word nm) || decide (20 < m) then false
    else if anyF (fun i => decide (regs i < 0) || decide (500 < regs i)) 0 m then false
    else if ref || box then decide (n = 1) && rfits (kids 0)
    else decide (n = 0)
def rright (T : TT) : Bool := decide (depth T ≤ 60) && rfits T

/-- As the program has it. -/
def kright : TT → Int → Bool
  | .nul, _ => false
  | .mk k nm r u m regs n kids, deep =>
    if 60 < deep then false
    else if k = 1 ∨ k = 2 ∨ k = 3 then decide (nm.data.toList = []) && (decide (r = 0) && !u) && decide (m = 0) && decide (n = 0)
    else if k = 4 then decide (nm.data.toList = []) && (decide (0 ≤ r) && decide (r ≤ 500)) && decide (m = 0) && (decide (n = 1) && kright (kids 0) (deep + 1))
    else if k = 5 ∨ k = 6 then decide (nm.data.toList = []) && (decide (r = 0) && !u) && decide (m = 0) && (decide (n = 1) && kright (kids 0) (deep + 1))
    else if k = 7 then word nm && (decide (r = 0) && !u) && (decide (m ≤ 20) && !anyF (fun i => !(decide (0 ≤ regs i) && decide (regs i ≤ 500))) 0 m) && decide (n = 0)
    else false

theorem anyF_congr {f g : Nat → Bool} : ∀ {k i : Nat}, (∀ j, f j = g j) → anyF f i k = anyF g i k
  | 0, _, _ => rfl
  | k + 1, i, h => by simp only [anyF, h, anyF_congr (k := k) (i := i + 1) h]
theorem reg_eq (regs : Nat → Int) (m : Nat) : anyF (fun i => !(decide (0 ≤ regs i) && decide (regs i ≤ 500))) 0 m = anyF (fun i => decide (regs i < 0) || decide (500 < regs i)) 0 m :=
  anyF_congr fun j => by
    rcases Int.lt_or_le (regs j) 0 with h | h <;> rcases Int.lt_or_le 500 (regs j) with h' | h' <;> simp [h, h', Int.not_lt.2, Int.not_le.2] <;> omega

theorem kright_eq : ∀ (T : TT) (d : Int), kright T d = (decide (depth T + d ≤ 61) && rfits T)
  | .nul, d => by simp [kright, rfits]
  | .mk k nm r u m regs n kids, d => by
    have hd := depth_pos (.mk k nm r u m regs n kids)
    unfold kright
    by_cases h0 : 60 < d
    · rw [if_pos h0, decide_eq_false (by omega)]; rfl
    · rw [if_neg h0]
      have hleaf : n = 0 → decide (depth (.mk k nm r u m regs n kids) + d ≤ 61) = true := fun e => by subst e; simp [depth, maxF]; omega
      have hone : n = 1 → depth (.mk k nm r u m regs n kids) = 1 + depth (kids 0) := fun e => by
        subst e
        have := depth_pos (kids 0)
        simp only [depth, maxF]; omega
      have hk := kright_eq (kids 0) (d + 1)
      unfold rfits
      have kids1 : n = 1 → (decide (depth (.mk k nm r u m regs n kids) + d ≤ 61) && rfits (kids 0)) = (decide (depth (kids 0) + (d + 1) ≤ 61) && rfits (kids 0)) := fun e => by rw [hone e]; congr 2; exact propext ⟨fun h => by omega, fun h => by omega⟩
      by_cases h1 : k = 1 ∨ k = 2 ∨ k = 3
      · rw [if_pos h1]
        have e1 : decide (k < 1) = false := decide_eq_false (by omega)
        have e2 : decide (7 < k) = false := decide_eq_false (by omega)
        have e3 : decide (k = 4) = false := decide_eq_false (by omega)
        have e4 : decide (k = 5) = false := decide_eq_false (by omega)
        have e5 : decide (k = 6) = false := decide_eq_false (by omega)
        have e6 : decide (k = 7) = false := decide_eq_false (by omega)
        simp only [e1, e2, e3, e4, e5, e6, Bool.not_false, Bool.false_or, Bool.true_and, Bool.false_and, Bool.or_false]
        by_cases a1 : nm.data.toList = [] <;> by_cases a2 : r = 0 <;> cases u <;> by_cases a3 : m = 0 <;> by_cases a4 : n = 0 <;> simp [a1, a2, a3, a4, anyF] <;> first | done | (have := hleaf a4; simp_all) | omega
      · rw [if_neg h1]
        by_cases h4 : k = 4
        · subst h4
          rw [if_pos rfl]
          by_cases a1 : nm.data.toList = [] <;> by_cases a2 : r < 0 <;> by_cases a2' : 500 < r <;> by_cases a3 : m = 0 <;> by_cases a4 : n = 1 <;> simp [a1, a2, a2', a3, a4, anyF] <;> first | done | omega | skip
          all_goals first | (have := kids1 a4; rw [← hk] at this; simp_all <;> omega) | skip
        · rw [if_neg h4]
          by_cases h5 : k = 5 ∨ k = 6
          · rw [if_pos h5]
            have e1 : decide (k < 1) = false := decide_eq_false (by omega)
            have e2 : decide (7 < k) = false := decide_eq_false (by omega)
            have e6 : decide (k = 7) = false := decide_eq_false (by omega)
            have e5 : (decide (k = 5) || decide (k = 6)) = true := by simpa using h5
            simp only [e1, e2, h4, e5, e6, decide_false, Bool.not_false, Bool.false_or, Bool.true_and, Bool.false_and, Bool.or_false, Bool.or_true]
            by_cases a1 : nm.data.toList = [] <;> by_cases a2 : r = 0 <;> cases u <;> by_cases a3 : m = 0 <;> by_cases a4 : n = 1 <;> simp [a1, a2, a3, a4, anyF] <;> first | done | omega | skip
            all_goals first | (have := kids1 a4; rw [← hk] at this; simp_all <;> omega) | skip
          · rw [if_neg h5]
            by_cases h7 : k = 7
            · subst h7
              rw [if_pos rfl, reg_eq]
              cases hw : word nm <;> by_cases a2 : r = 0 <;> cases u <;> by_cases a3 : 20 < m <;> cases hr : anyF (fun i => decide (regs i < 0) || decide (500 < regs i)) 0 m <;> by_cases a4 : n = 0 <;> simp [a2, a3, a4] <;> first | done | omega | skip
              all_goals first | (have := hleaf a4; simp_all <;> omega) | skip
            · rw [if_neg h7]
              have : k < 1 ∨ 7 < k := by omega
              simp [this]
theorem right_eq (T : TT) : kright T 1 = rright T := by
  rw [kright_eq, rright]
  congr 2
  exact propext ⟨fun h => by omega, fun h => by omega⟩
end Go.Proofs.Kd

namespace Go.Proofs.Kd

theorem get_at (s : ByteArray) (i : Nat) : (s.get! i).toNat = at' s i := by
  unfold at'
  rw [List.getD_eq_getElem?_getD, Array.getElem?_toList]
  have : s.get! i = s.data[i]! := rfl
  rw [this, getElem!_def]
  cases s.data[i]? <;> rfl
theorem at_lt (s : ByteArray) (i : Nat) : at' s i < 256 := UInt8.toNat_lt _
/-- A rune behind the byte's own range is no letter. -/
theorem decode_wd (s : ByteArray) (i : Nat) : isWd (Utf8.decode s i).1 = isWd (at' s i) ∧ isDig (Utf8.decode s i).1 = isDig (at' s i) ∧ (isWd (at' s i) = true → (Utf8.decode s i).2 = 1) := by
  have key : ((Utf8.decode s i).1 = at' s i ∧ (Utf8.decode s i).2 = 1) ∨ (128 ≤ (Utf8.decode s i).1 ∧ 128 ≤ at' s i) := by
    simp only [Utf8.decode, get_at, Nat.add_zero, Utf8.runeError]
    split
    · exact .inl ⟨rfl, rfl⟩
    · rename_i h
      refine .inr ⟨?_, by omega⟩
      repeat' split
      all_goals first | (simp only [Bool.and_eq_true, decide_eq_true_eq] at *; omega) | (show 128 ≤ _; omega)
  rcases key with ⟨h1, h2⟩ | ⟨h1, h2⟩
  · rw [h1]; exact ⟨rfl, rfl, fun _ => h2⟩
  · have big : ∀ b, 128 ≤ b → isWd b = false ∧ isDig b = false := fun b hb => by
      simp [isWd, isDig]; omega
    rw [(big _ h1).1, (big _ h1).2, (big _ h2).1, (big _ h2).2]
    exact ⟨rfl, rfl, fun h => by cases h⟩
end Go.Proofs.Kd

namespace Go.Proofs.Kd
open Go Go.Proofs.De Go.Proofs.Tryd
set_option maxRecDepth 100000
set_option maxHeartbeats 4000000

/-- What is told of the package's variables. -/
structure Gl where
  ng : Nat
  G : World → Prop
  keep : ∀ w w' : World, (∀ b, b < ng → w'.heap[b]? = w.heap[b]?) → G w → G w'
noncomputable def XX (g : Gl) : Cx := ⟨prog, g.ng, g.G, g.keep⟩

def regRow (regs : Nat → Int) (i : Nat) : List AV := [.lit (.int .i64 (regs i))]
def TT.rows : TT → Nat → List AV
  | .nul => fun _ => []
  | .mk _ _ _ _ _ _ _ kids => fun i => [.lit (.int .i64 (kids i).k), .lit (.string (kids i).nm), .lit (.int .i64 (kids i).r), .lit (.bool (kids i).u), .rslc 1 (kids i).m (regRow (kids i).regs), .rslc 6 (kids i).n (kids i).rows]
def TT.cells (T : TT) : List AV := [.lit (.int .i64 T.k), .lit (.string T.nm), .lit (.int .i64 T.r), .lit (.bool T.u), .rslc 1 T.m (regRow T.regs), .rslc 6 T.n T.rows]

/-- No list longer than memory bears. -/
def TT.ok : TT → Prop
  | .nul => False
  | .mk _ nm _ _ m _ n kids => nm.size ≤ 9223372036854775807 ∧ m ≤ 9223372036854775807 ∧ n ≤ 9223372036854775807 ∧ ∀ i, i < n → (kids i).ok

theorem great_ok (g : Gl) : ∀ (T : TT) (deep : Int), T.ok → -100 ≤ deep → deep ≤ 1000000 → PureCall (XX g) 10 [.agg T.cells, .lit (.int .i64 deep)] (.lit (.bool (great T deep)))
  | .nul, _, hok, _, _ => hok.elim
  | .mk k nm r u m regs n kids, deep, hok, hd0, hd => by
    intro M
    refine SimCall.of_body (fn := f10) func10 (by decide) ?_
    conv => whnf
    obtain ⟨k1, k2, k3, k4⟩ := hok
    repeat' (first | (refine Need.mk rfl ?_; conv => whnf) | (refine Need.mk (by decide) ?_; conv => whnf) | (refine Need.mk (of_decide_eq_true rfl) ?_; conv => whnf) | (refine Need.mk (by omega) ?_; conv => whnf) | (refine Need.mk ⟨rfl, by omega, by omega⟩ ?_; conv => whnf) | (refine Need.mk ⟨rfl, rfl⟩ ?_; conv => whnf) | (refine Need.mk ⟨rfl, rfl, rfl, by simp⟩ ?_; conv => whnf) | (refine Need.mk ⟨rfl, rfl, Nat.le_refl _⟩ ?_; conv => whnf) | (refine Need.mk ⟨by omega, by omega⟩ ?_; conv => whnf) | (refine Need.mk ⟨rfl, rfl, by omega⟩ ?_; conv => whnf) | (refine Need.mk ⟨rfl, by omega⟩ ?_; conv => whnf) | (refine Br.intro (fun h => ?_) (fun h => ?_) <;> ((try simp at h) <;> (conv => whnf))))
    all_goals first | (refine ⟨congrArg (fun b => AV.lit (.bool b)) ?_, rfl⟩; simp_all [great, TT.n, TT.m, TT.nm] <;> omega) | skip
    rename_i h1 h2 h3; have h4 := h
    simp [TT.n, TT.m, TT.nm] at h1 h2 h3 h4
    have hw3 : IntKind.i64.wrap (deep - 1) = deep - 1 := wrap_id (by omega) (by omega)
    refine LoopK.ix (fun j : Nat => ⟨mkE 39 [(1, .lit (.int .i64 deep)), (4, .lit (.bool false)), (28, .rslc 6 n (TT.mk k nm r u m regs n kids).rows), (29, .lit (.int .i64 (n : Nat))), (30, .lit (.int .i64 (j : Nat)))], [.ext M], 1⟩)
      (fun j => j ≤ n ∧ great (.mk k nm r u m regs n kids) deep = anyF (fun i => great (kids i) (deep - 1)) j (n - j)) (fun j => n - j) 0 ?_ ?_ ?_
    · refine Weak.norm [0] rfl rfl ⟨?_, rfl, rfl⟩
      conv => whnf
      repeat (first | trivial | refine ⟨Or.inl rfl, ?_⟩ | refine ⟨Or.inr rfl, ?_⟩)
    · refine ⟨Nat.zero_le _, ?_⟩
      simp [great]
      omega
    · rintro j ⟨hj, hg⟩
      conv => whnf
      refine Br.intro (fun h5 => ?_) (fun h5 => ?_)
      · conv => whnf
        simp at h5
        have h5' : j < (TT.mk k nm r u m regs n kids).n := h5
        repeat (first | (refine Need.mk rfl ?_; conv => whnf) | (refine Need.mk (by decide) ?_; conv => whnf) | (refine Need.mk (of_decide_eq_true rfl) ?_; conv => whnf) | (refine Need.mk (by omega) ?_; conv => whnf) | (refine Need.mk ⟨rfl, by omega, by omega⟩ ?_; conv => whnf) | (refine Need.mk ⟨rfl, rfl⟩ ?_; conv => whnf) | (refine Need.mk ⟨rfl, rfl, rfl, by simp⟩ ?_; conv => whnf) | (refine Need.mk ⟨rfl, rfl, Nat.le_refl _⟩ ?_; conv => whnf) | (refine Need.mk ⟨by omega, by omega⟩ ?_; conv => whnf) | (refine Need.mk ⟨rfl, rfl, by omega⟩ ?_; conv => whnf) | (refine Need.mk ⟨rfl, by omega⟩ ?_; conv => whnf))
        refine (great_ok g (kids j) _ (k4 _ h5) ?_ ?_).use ?_ rfl ?_
        · rw [hw3]; omega
        · rw [hw3]; omega
        · rfl
        · rw [hw3]
          conv => whnf
          refine Br.intro (fun h6 => ?_) (fun h6 => ?_)
          · conv => whnf
            refine ⟨congrArg (fun b => AV.lit (.bool b)) ?_, rfl⟩
            rw [hg, show n - j = (n - j - 1) + 1 by omega, anyF, h6]; rfl
          · conv => whnf
            have hw4 : IntKind.i64.wrap ((j : Int) + 1) = ((j + 1 : Nat) : Int) := by rw [wrap_id (by omega) (by omega)]; omega
            refine ⟨j + 1, ⟨h5, ?_⟩, (show n - (j + 1) < n - j by omega), Weak.norm [0] rfl rfl ⟨?_, rfl, rfl⟩⟩
            · rw [hg, show n - j = (n - (j + 1)) + 1 by omega, anyF, h6]; rfl
            · conv => whnf
              repeat (first | trivial | refine ⟨Or.inl rfl, ?_⟩ | refine ⟨Or.inr rfl, ?_⟩ | refine ⟨Or.inr (congrArg (fun z => AV.lit (.int .i64 z)) hw4), ?_⟩)
      · conv => whnf
        refine ⟨congrArg (fun b => AV.lit (.bool b)) ?_, rfl⟩
        simp at h5
        rw [hg, show n - j = 0 by omega, anyF]
end Go.Proofs.Kd

namespace Go.Proofs.Kd
open Go Go.Proofs.De Go.Proofs.Tryd
set_option maxRecDepth 100000
set_option maxHeartbeats 4000000

theorem depth_ok (g : Gl) : ∀ (T : TT), T.ok → depth T ≤ 1000000 → PureCall (XX g) 21 [.agg T.cells] (.lit (.int .i64 (depth T)))
  | .nul, hok, _ => hok.elim
  | .mk k nm r u m regs n kids, hok, hd => by
    intro M
    refine SimCall.of_body (fn := f21) func21 (by decide) ?_
    conv => whnf
    obtain ⟨k1, k2, k3, k4⟩ := hok
    repeat' (first | (refine Need.mk rfl ?_; conv => whnf) | (refine Need.mk (by decide) ?_; conv => whnf) | (refine Need.mk (of_decide_eq_true rfl) ?_; conv => whnf) | (refine Need.mk (by omega) ?_; conv => whnf) | (refine Need.mk ⟨rfl, by omega, by omega⟩ ?_; conv => whnf) | (refine Need.mk ⟨rfl, rfl⟩ ?_; conv => whnf) | (refine Need.mk ⟨rfl, rfl, rfl, by simp⟩ ?_; conv => whnf) | (refine Need.mk ⟨rfl, rfl, Nat.le_refl _⟩ ?_; conv => whnf) | (refine Need.mk ⟨by omega, by omega⟩ ?_; conv => whnf) | (refine Need.mk ⟨rfl, rfl, by omega⟩ ?_; conv => whnf) | (refine Need.mk ⟨rfl, by omega⟩ ?_; conv => whnf) | (refine Br.intro (fun h => ?_) (fun h => ?_) <;> ((try simp at h) <;> (conv => whnf))))
    have hkid : ∀ i, i < n → depth (kids i) ≤ 999999 := fun i hi => by
      unfold depth at hd
      have : ∀ (f : Nat → Int) (k j : Nat) (a : Int) (i : Nat), j ≤ i → i < j + k → f i ≤ maxF f j k a := by
        intro f k
        induction k with
        | zero => intro j a i h1 h2; omega
        | succ k ih =>
          intro j a i h1 h2
          unfold maxF
          rcases Nat.lt_or_ge j i with h | h
          · exact ih (j + 1) _ i h (by omega)
          · have : i = j := by omega
            subst this
            exact Int.le_trans (by omega) (maxF_ge (k := k) (i := i + 1) (a := max a (f i)))
      have := this (fun i => depth (kids i)) n 0 0 i (Nat.zero_le _) (by omega)
      omega
    refine LoopK.ix (fun p : Nat × Int => ⟨mkE 22 [(1, .bptr 1 0), (3, .lit (.int .i64 p.2)), (7, .lit (.int .i64 (n : Nat))), (8, .lit (.int .i64 (p.1 : Nat)))], [.ext M, .box (TT.mk k nm r u m regs n kids).cells], 1⟩)
      (fun p => p.1 ≤ n ∧ 0 ≤ p.2 ∧ p.2 ≤ 999999 ∧ depth (.mk k nm r u m regs n kids) = 1 + maxF (fun i => depth (kids i)) p.1 (n - p.1) p.2) (fun p => n - p.1) (0, 0) ?_ ?_ ?_
    · refine Weak.le ⟨?_, rfl, rfl⟩
      conv => whnf
      repeat (first | trivial | refine ⟨Or.inl rfl, ?_⟩ | refine ⟨Or.inr rfl, ?_⟩)
    · refine ⟨Nat.zero_le _, by omega, by omega, ?_⟩
      simp [depth]
    · rintro p ⟨hj, hl, hu, hg⟩
      conv => whnf
      refine Br.intro (fun h5 => ?_) (fun h5 => ?_)
      · conv => whnf
        simp at h5
        have h5' : p.1 < (TT.mk k nm r u m regs n kids).n := h5
        repeat (first | (refine Need.mk rfl ?_; conv => whnf) | (refine Need.mk (by decide) ?_; conv => whnf) | (refine Need.mk (of_decide_eq_true rfl) ?_; conv => whnf) | (refine Need.mk (by omega) ?_; conv => whnf) | (refine Need.mk ⟨rfl, by omega, by omega⟩ ?_; conv => whnf) | (refine Need.mk ⟨rfl, rfl⟩ ?_; conv => whnf) | (refine Need.mk ⟨rfl, rfl, rfl, by simp⟩ ?_; conv => whnf) | (refine Need.mk ⟨rfl, rfl, Nat.le_refl _⟩ ?_; conv => whnf) | (refine Need.mk ⟨by omega, by omega⟩ ?_; conv => whnf) | (refine Need.mk ⟨rfl, rfl, by omega⟩ ?_; conv => whnf) | (refine Need.mk ⟨rfl, by omega⟩ ?_; conv => whnf))
        have hq := hkid p.1 h5
        have hq1 := depth_pos (kids p.1)
        refine (depth_ok g (kids p.1) (k4 _ h5) (by omega)).use ?_ rfl ?_
        · rfl
        · conv => whnf
          repeat' (first | (refine Need.mk rfl ?_; conv => whnf) | (refine Need.mk (by decide) ?_; conv => whnf) | (refine Need.mk (of_decide_eq_true rfl) ?_; conv => whnf) | (refine Need.mk (by omega) ?_; conv => whnf) | (refine Need.mk ⟨rfl, by omega, by omega⟩ ?_; conv => whnf) | (refine Need.mk ⟨rfl, rfl⟩ ?_; conv => whnf) | (refine Need.mk ⟨rfl, rfl, rfl, by simp⟩ ?_; conv => whnf) | (refine Need.mk ⟨rfl, rfl, Nat.le_refl _⟩ ?_; conv => whnf) | (refine Need.mk ⟨by omega, by omega⟩ ?_; conv => whnf) | (refine Need.mk ⟨rfl, rfl, by omega⟩ ?_; conv => whnf) | (refine Need.mk ⟨rfl, by omega⟩ ?_; conv => whnf) | (refine Br.intro (fun h => ?_) (fun h => ?_) <;> ((try simp at h) <;> (conv => whnf))))
          all_goals
            have hw4 : IntKind.i64.wrap ((p.1 : Int) + 1) = ((p.1 + 1 : Nat) : Int) := by rw [wrap_id (by omega) (by omega)]; omega
            refine ⟨(p.1 + 1, max p.2 (depth (kids p.1))), ⟨h5, by simp only; omega, by simp only; omega, ?_⟩, (show n - (p.1 + 1) < n - p.1 by omega), Weak.le ⟨?_, rfl, rfl⟩⟩
            · rw [hg, show n - p.1 = (n - (p.1 + 1)) + 1 by omega, maxF]
            · conv => whnf
              repeat (first | trivial | refine ⟨Or.inl rfl, ?_⟩ | refine ⟨Or.inr rfl, ?_⟩ | refine ⟨Or.inr (congrArg (fun z => AV.lit (.int .i64 z)) hw4), ?_⟩)
      · conv => whnf
        simp at h5
        repeat' (first | (refine Need.mk rfl ?_; conv => whnf) | (refine Need.mk (by decide) ?_; conv => whnf) | (refine Need.mk (of_decide_eq_true rfl) ?_; conv => whnf) | (refine Need.mk (by omega) ?_; conv => whnf) | (refine Need.mk ⟨rfl, by omega, by omega⟩ ?_; conv => whnf) | (refine Need.mk ⟨rfl, rfl⟩ ?_; conv => whnf) | (refine Need.mk ⟨rfl, rfl, rfl, by simp⟩ ?_; conv => whnf) | (refine Need.mk ⟨rfl, rfl, Nat.le_refl _⟩ ?_; conv => whnf) | (refine Need.mk ⟨by omega, by omega⟩ ?_; conv => whnf) | (refine Need.mk ⟨rfl, rfl, by omega⟩ ?_; conv => whnf) | (refine Need.mk ⟨rfl, by omega⟩ ?_; conv => whnf) | (refine Br.intro (fun h => ?_) (fun h => ?_) <;> ((try simp at h) <;> (conv => whnf))))
        all_goals
          refine ⟨congrArg (fun z => AV.lit (.int .i64 z)) ?_, rfl⟩
          rw [hg, show n - p.1 = 0 by omega, maxF]
          exact wrap_id (by omega) (by omega)

theorem isDigit_ok (g : Gl) (b : Nat) : PureCall (XX g) 68 [.lit (.int .i32 b)] (.lit (.bool (isDig b))) := by
  intro M
  refine SimCall.of_body (fn := f68) func68 (by decide) ?_
  conv => whnf
  repeat' (first | (refine Need.mk rfl ?_; conv => whnf) | (refine Need.mk (by decide) ?_; conv => whnf) | (refine Need.mk (of_decide_eq_true rfl) ?_; conv => whnf) | (refine Need.mk (by omega) ?_; conv => whnf) | (refine Need.mk ⟨rfl, by omega, by omega⟩ ?_; conv => whnf) | (refine Need.mk ⟨rfl, rfl⟩ ?_; conv => whnf) | (refine Need.mk ⟨rfl, rfl, rfl, by simp⟩ ?_; conv => whnf) | (refine Need.mk ⟨rfl, rfl, Nat.le_refl _⟩ ?_; conv => whnf) | (refine Need.mk ⟨by omega, by omega⟩ ?_; conv => whnf) | (refine Need.mk ⟨rfl, rfl, by omega⟩ ?_; conv => whnf) | (refine Need.mk ⟨rfl, by omega⟩ ?_; conv => whnf) | (refine Br.intro (fun h => ?_) (fun h => ?_) <;> ((try simp at h) <;> (conv => whnf))))
  all_goals (refine ⟨congrArg (fun b => AV.lit (.bool b)) ?_, rfl⟩; rw [Bool.eq_iff_iff]; first | (simp [isDig]; done) | (simp [isDig]; omega) | (simp_all [isDig]; done) | (simp_all [isDig]; omega))
theorem isLetter_ok (g : Gl) (b : Nat) : PureCall (XX g) 67 [.lit (.int .i32 b)] (.lit (.bool (isWd b))) := by
  intro M
  refine SimCall.of_body (fn := f67) func67 (by decide) ?_
  conv => whnf
  repeat' (first | (refine Need.mk rfl ?_; conv => whnf) | (refine Need.mk (by decide) ?_; conv => whnf) | (refine Need.mk (of_decide_eq_true rfl) ?_; conv => whnf) | (refine Need.mk (by omega) ?_; conv => whnf) | (refine Need.mk ⟨rfl, by omega, by omega⟩ ?_; conv => whnf) | (refine Need.mk ⟨rfl, rfl⟩ ?_; conv => whnf) | (refine Need.mk ⟨rfl, rfl, rfl, by simp⟩ ?_; conv => whnf) | (refine Need.mk ⟨rfl, rfl, Nat.le_refl _⟩ ?_; conv => whnf) | (refine Need.mk ⟨by omega, by omega⟩ ?_; conv => whnf) | (refine Need.mk ⟨rfl, rfl, by omega⟩ ?_; conv => whnf) | (refine Need.mk ⟨rfl, by omega⟩ ?_; conv => whnf) | (refine (isDigit_ok g b).use rfl rfl ?_; conv => whnf) | (refine Br.intro (fun h => ?_) (fun h => ?_) <;> ((try simp at h) <;> (conv => whnf))))
  all_goals (refine ⟨congrArg (fun b => AV.lit (.bool b)) ?_, rfl⟩; rw [Bool.eq_iff_iff]; first | (simp [isWd, isDig]; done) | (simp [isWd, isDig]; omega) | (simp_all [isWd, isDig]; done) | (simp_all [isWd, isDig]; omega))
theorem isRegion_ok (g : Gl) (r : Int) : PureCall (XX g) 47 [.lit (.int .i64 r)] (.lit (.bool (decide (0 ≤ r) && decide (r ≤ 500)))) := by
  intro M
  refine SimCall.of_body (fn := f47) func47 (by decide) ?_
  conv => whnf
  repeat' (first | (refine Need.mk rfl ?_; conv => whnf) | (refine Need.mk (by decide) ?_; conv => whnf) | (refine Need.mk (of_decide_eq_true rfl) ?_; conv => whnf) | (refine Need.mk (by omega) ?_; conv => whnf) | (refine Need.mk ⟨rfl, by omega, by omega⟩ ?_; conv => whnf) | (refine Need.mk ⟨rfl, rfl⟩ ?_; conv => whnf) | (refine Need.mk ⟨rfl, rfl, rfl, by simp⟩ ?_; conv => whnf) | (refine Need.mk ⟨rfl, rfl, Nat.le_refl _⟩ ?_; conv => whnf) | (refine Need.mk ⟨by omega, by omega⟩ ?_; conv => whnf) | (refine Need.mk ⟨rfl, rfl, by omega⟩ ?_; conv => whnf) | (refine Need.mk ⟨rfl, by omega⟩ ?_; conv => whnf) | (refine Br.intro (fun h => ?_) (fun h => ?_) <;> ((try simp at h) <;> (conv => whnf))))
  all_goals (refine ⟨congrArg (fun b => AV.lit (.bool b)) ?_, rfl⟩; rw [Bool.eq_iff_iff]; first | (simp []; done) | (simp []; omega) | (simp_all []; done) | (simp_all []; omega))
theorem noRef_ok (g : Gl) (T : TT) : PureCall (XX g) 46 [.agg T.cells] (.lit (.bool (decide (T.r = 0) && !T.u))) := by
  intro M
  refine SimCall.of_body (fn := f46) func46 (by decide) ?_
  conv => whnf
  repeat' (first | (refine Need.mk rfl ?_; conv => whnf) | (refine Need.mk (by decide) ?_; conv => whnf) | (refine Need.mk (of_decide_eq_true rfl) ?_; conv => whnf) | (refine Need.mk (by omega) ?_; conv => whnf) | (refine Need.mk ⟨rfl, by omega, by omega⟩ ?_; conv => whnf) | (refine Need.mk ⟨rfl, rfl⟩ ?_; conv => whnf) | (refine Need.mk ⟨rfl, rfl, rfl, by simp⟩ ?_; conv => whnf) | (refine Need.mk ⟨rfl, rfl, Nat.le_refl _⟩ ?_; conv => whnf) | (refine Need.mk ⟨by omega, by omega⟩ ?_; conv => whnf) | (refine Need.mk ⟨rfl, rfl, by omega⟩ ?_; conv => whnf) | (refine Need.mk ⟨rfl, by omega⟩ ?_; conv => whnf) | (refine Br.intro (fun h => ?_) (fun h => ?_) <;> ((try simp at h) <;> (conv => whnf))))
  all_goals (refine ⟨congrArg (fun b => AV.lit (.bool b)) ?_, rfl⟩; rw [Bool.eq_iff_iff]; first | (simp []; done) | (simp []; omega) | (simp_all []; done) | (simp_all []; omega))
theorem word_ok (g : Gl) (s : ByteArray) (hs : s.size ≤ 9223372036854775807) : PureCall (XX g) 51 [.lit (.string s)] (.lit (.bool (word s))) := by
  intro M
  have hat : ∀ i, (s.data[i]?.getD 0).toNat = at' s i := fun i => by simp [at']
  refine SimCall.of_body (fn := f51) func51 (by decide) ?_
  conv => whnf
  repeat' (first | (refine Need.mk rfl ?_; conv => whnf) | (refine Need.mk (by decide) ?_; conv => whnf) | (refine Need.mk (of_decide_eq_true rfl) ?_; conv => whnf) | (refine Need.mk (by omega) ?_; conv => whnf) | (refine Need.mk ⟨rfl, by omega, by omega⟩ ?_; conv => whnf) | (refine Need.mk ⟨rfl, rfl⟩ ?_; conv => whnf) | (refine Need.mk ⟨rfl, rfl, rfl, by simp⟩ ?_; conv => whnf) | (refine Need.mk ⟨rfl, rfl, Nat.le_refl _⟩ ?_; conv => whnf) | (refine Need.mk ⟨by omega, by omega⟩ ?_; conv => whnf) | (refine Need.mk ⟨rfl, rfl, by omega⟩ ?_; conv => whnf) | (refine Need.mk ⟨rfl, by omega⟩ ?_; conv => whnf) | (refine Br.intro (fun h => ?_) (fun h => ?_) <;> ((try simp at h) <;> (conv => whnf))))
  all_goals first | (refine ⟨congrArg (fun b => AV.lit (.bool b)) ?_, rfl⟩; rw [Bool.eq_iff_iff]; first | (simp [word, isDig, at', sInt, sBool, sUnit]; done) | (simp [word, isDig, at', sInt, sBool, sUnit]; omega) | (simp_all [word, isDig, at', sInt, sBool, sUnit]; done) | (simp_all [word, isDig, at', sInt, sBool, sUnit]; omega)) | skip
  all_goals
    have hw0 : word s = !anyF (fun i => !isWd (at' s i)) 0 s.size := by
      have e1 : decide (1 ≤ s.size) = true := by simp; omega
      have e2 : decide (s.size ≤ 200) = true := by simp; omega
      have e3 : isDig (at' s 0) = false := by simp [isDig, at']; omega
      simp [word, sInt, sBool, sUnit, *]
    refine LoopK.ix (fun j : Nat => ⟨mkE 73 [(0, .lit (.string s)), (2, .lit (.bool false)), (3, .lit (.int .i64 (j : Nat)))], [.ext M], 1⟩)
      (fun j => j ≤ s.size ∧ word s = !anyF (fun i => !isWd (at' s i)) j (s.size - j)) (fun j => s.size - j) 0 ?_ ⟨Nat.zero_le _, by simpa using hw0⟩ ?_
    · exact Weak.slots rfl ⟨rfl, rfl, rfl, trivial⟩ rfl rfl
    · rintro j ⟨hj, hg⟩
      conv => whnf
      repeat' (first | (refine Need.mk rfl ?_; conv => whnf) | (refine Need.mk (by decide) ?_; conv => whnf) | (refine Need.mk (of_decide_eq_true rfl) ?_; conv => whnf) | (refine Need.mk (by omega) ?_; conv => whnf) | (refine Need.mk ⟨rfl, by omega, by omega⟩ ?_; conv => whnf) | (refine Need.mk ⟨rfl, rfl⟩ ?_; conv => whnf) | (refine Need.mk ⟨rfl, rfl, rfl, by simp⟩ ?_; conv => whnf) | (refine Need.mk ⟨rfl, rfl, Nat.le_refl _⟩ ?_; conv => whnf) | (refine Need.mk ⟨by omega, by omega⟩ ?_; conv => whnf) | (refine Need.mk ⟨rfl, rfl, by omega⟩ ?_; conv => whnf) | (refine Need.mk ⟨rfl, by omega⟩ ?_; conv => whnf) | (refine Br.intro (fun h => ?_) (fun h => ?_) <;> ((try simp at h) <;> (conv => whnf))))
      all_goals first
        | (refine ⟨congrArg (fun b => AV.lit (.bool b)) ?_, rfl⟩
           rw [hg, show s.size - j = 0 by omega, anyF]; rfl)
        | (refine ⟨congrArg (fun b => AV.lit (.bool b)) ?_, rfl⟩
           rw [hg, show s.size - j = (s.size - (j + 1)) + 1 by omega, anyF]
           have hb : isWd (at' s j) = false := by rw [← hat]; simp only [isWd, isDig, Bool.or_eq_false_iff, Bool.and_eq_false_iff, decide_eq_false_iff_not]; omega
           simp [hb])
        | (have hw4 : IntKind.i64.wrap ((j : Int) + 1) = ((j + 1 : Nat) : Int) := by rw [wrap_id (by omega) (by omega)]; omega
           have hb : isWd (at' s j) = true := by rw [← hat]; simp only [isWd, isDig, Bool.or_eq_true, Bool.and_eq_true, decide_eq_true_eq]; omega
           refine ⟨j + 1, ⟨by omega, ?_⟩, (show s.size - (j + 1) < s.size - j by omega), Weak.slots rfl ⟨rfl, rfl, congrArg (fun z => AV.lit (.int .i64 z)) hw4, trivial⟩ rfl rfl⟩
           rw [hg, show s.size - j = (s.size - (j + 1)) + 1 by omega, anyF, hb]; rfl)
        | trace_state
end Go.Proofs.Kd

namespace Go.Proofs.Kd
open Go Go.Proofs.De Go.Proofs.Tryd
set_option maxRecDepth 100000
set_option maxHeartbeats 4000000

theorem areRegs_ok (g : Gl) (regs : Nat → Int) (m : Nat) (hm : m ≤ 9223372036854775807) : PureCall (XX g) 50 [.rslc 1 m (regRow regs)] (.lit (.bool (decide (m ≤ 20) && !anyF (fun i => !(decide (0 ≤ regs i) && decide (regs i ≤ 500))) 0 m))) := by
  intro M
  refine SimCall.of_body (fn := f50) func50 (by decide) ?_
  conv => whnf
  repeat' (first | (refine Need.mk rfl ?_; conv => whnf) | (refine Need.mk (by decide) ?_; conv => whnf) | (refine Need.mk (of_decide_eq_true rfl) ?_; conv => whnf) | (refine Need.mk (by omega) ?_; conv => whnf) | (refine Need.mk ⟨rfl, by omega, by omega⟩ ?_; conv => whnf) | (refine Need.mk ⟨rfl, rfl⟩ ?_; conv => whnf) | (refine Need.mk ⟨rfl, rfl, rfl, by simp⟩ ?_; conv => whnf) | (refine Need.mk ⟨rfl, rfl, Nat.le_refl _⟩ ?_; conv => whnf) | (refine Need.mk ⟨by omega, by omega⟩ ?_; conv => whnf) | (refine Need.mk ⟨rfl, rfl, by omega⟩ ?_; conv => whnf) | (refine Need.mk ⟨rfl, by omega⟩ ?_; conv => whnf) | (refine Br.intro (fun h => ?_) (fun h => ?_) <;> ((try simp at h) <;> (conv => whnf))))
  all_goals first | (refine ⟨congrArg (fun b => AV.lit (.bool b)) ?_, rfl⟩; rw [Bool.eq_iff_iff]; first | (simp []; done) | (simp []; omega) | (simp_all []; done) | (simp_all []; omega)) | skip
  refine LoopK.ix (fun j : Nat => ⟨mkE 18 [(2, .lit (.bool false)), (8, .rslc 1 m (regRow regs)), (9, .lit (.int .i64 (m : Nat))), (10, .lit (.int .i64 (j : Nat)))], [.ext M], 1⟩)
    (fun j => j ≤ m ∧ (decide (m ≤ 20) && !anyF (fun i => !(decide (0 ≤ regs i) && decide (regs i ≤ 500))) 0 m) = !anyF (fun i => !(decide (0 ≤ regs i) && decide (regs i ≤ 500))) j (m - j)) (fun j => m - j) 0 ?_ ⟨Nat.zero_le _, ?_⟩ ?_
  · exact Weak.slots rfl ⟨rfl, rfl, rfl, rfl, trivial⟩ rfl rfl
  · have : m ≤ 20 := by omega
    simp [this]
  · rintro j ⟨hj, hg⟩
    conv => whnf
    repeat' (first | (refine Need.mk rfl ?_; conv => whnf) | (refine Need.mk (by decide) ?_; conv => whnf) | (refine Need.mk (of_decide_eq_true rfl) ?_; conv => whnf) | (refine Need.mk (by omega) ?_; conv => whnf) | (refine Need.mk ⟨rfl, by omega, by omega⟩ ?_; conv => whnf) | (refine Need.mk ⟨rfl, rfl⟩ ?_; conv => whnf) | (refine Need.mk ⟨rfl, rfl, rfl, by simp⟩ ?_; conv => whnf) | (refine Need.mk ⟨rfl, rfl, Nat.le_refl _⟩ ?_; conv => whnf) | (refine Need.mk ⟨by omega, by omega⟩ ?_; conv => whnf) | (refine Need.mk ⟨rfl, rfl, by omega⟩ ?_; conv => whnf) | (refine Need.mk ⟨rfl, by omega⟩ ?_; conv => whnf) | (refine (isRegion_ok g (regs (j : Int).toNat)).use rfl rfl ?_; conv => whnf) | (refine Br.intro (fun h => ?_) (fun h => ?_) <;> ((try simp at h) <;> (conv => whnf))))
    all_goals first
      | (refine ⟨congrArg (fun b => AV.lit (.bool b)) ?_, rfl⟩
         rw [hg, show m - j = 0 by omega, anyF]; rfl)
      | (refine ⟨congrArg (fun b => AV.lit (.bool b)) ?_, rfl⟩
         rw [hg, show m - j = (m - (j + 1)) + 1 by omega, anyF]
         have hb : (decide (0 ≤ regs j) && decide (regs j ≤ 500)) = false := by simp at h ⊢; omega
         simp [hb])
      | (have hw4 : IntKind.i64.wrap ((j : Int) + 1) = ((j + 1 : Nat) : Int) := by rw [wrap_id (by omega) (by omega)]; omega
         have hb : (decide (0 ≤ regs j) && decide (regs j ≤ 500)) = true := by simp at h ⊢; omega
         refine ⟨j + 1, ⟨by omega, ?_⟩, (show m - (j + 1) < m - j by omega), Weak.slots rfl ⟨rfl, rfl, rfl, congrArg (fun z => AV.lit (.int .i64 z)) hw4, trivial⟩ rfl rfl⟩
         rw [hg, show m - j = (m - (j + 1)) + 1 by omega, anyF, hb]; rfl)
      | trace_state

/-- A letter too many, at a place: as the program asks. -/
def badL (s : ByteArray) (i : Nat) : Bool := !isWd (at' s i) || (decide (i = 0) && isDig (at' s i))
theorem anyF_from {f : Nat → Bool} : ∀ {k i : Nat}, (∀ j, i ≤ j → f j = false) → anyF f i k = false
  | 0, _, _ => rfl
  | k + 1, i, h => by simp only [anyF, h i (Nat.le_refl _), anyF_from (k := k) (i := i + 1) fun j hj => h j (by omega)]; rfl
theorem badL_any (s : ByteArray) : ∀ (k i : Nat), 0 < i → anyF (badL s) i k = anyF (fun i => !isWd (at' s i)) i k
  | 0, _, _ => rfl
  | k + 1, i, h => by
    simp only [anyF, badL_any s k (i + 1) (by omega)]
    congr 1
    simp [badL]; omega
theorem badL_word (s : ByteArray) (h1 : 1 ≤ s.size) (h2 : s.size ≤ 200) (h3 : ¬ s.data.toList = [105, 110, 116]) (h4 : ¬ s.data.toList = [98, 111, 111, 108]) (h5 : ¬ s.data.toList = [117, 110, 105, 116]) : word s = !anyF (badL s) 0 s.size := by
  obtain ⟨k, hk⟩ : ∃ k, s.size = k + 1 := ⟨s.size - 1, by omega⟩
  have e1 : decide (1 ≤ s.size) = true := by simp; omega
  have e2 : decide (s.size ≤ 200) = true := by simp; omega
  unfold word
  rw [e1, e2, decide_eq_false (by simpa [sInt] using h3), decide_eq_false (by simpa [sBool] using h4), decide_eq_false (by simpa [sUnit] using h5), hk]
  simp only [anyF, badL_any s k 1 (by omega), badL]
  cases isWd (at' s 0) <;> cases isDig (at' s 0) <;> simp

theorem isName_ok (g : Gl) (s : ByteArray) (hs : s.size ≤ 9223372036854775807) : PureCall (XX g) 49 [.lit (.string s)] (.lit (.bool (word s))) := by
  intro M
  refine SimCall.of_body (fn := f49) func49 (by decide) ?_
  conv => whnf
  have hsz : s.size = s.data.toList.length := by simp
  repeat' (first | (refine Need.mk rfl ?_; conv => whnf) | (refine Need.mk (by decide) ?_; conv => whnf) | (refine Need.mk (of_decide_eq_true rfl) ?_; conv => whnf) | (refine Need.mk (by omega) ?_; conv => whnf) | (refine Need.mk ⟨rfl, by omega, by omega⟩ ?_; conv => whnf) | (refine Need.mk ⟨rfl, rfl⟩ ?_; conv => whnf) | (refine Need.mk ⟨rfl, rfl, rfl, by simp⟩ ?_; conv => whnf) | (refine Need.mk ⟨rfl, rfl, Nat.le_refl _⟩ ?_; conv => whnf) | (refine Need.mk ⟨by omega, by omega⟩ ?_; conv => whnf) | (refine Need.mk ⟨rfl, rfl, by omega⟩ ?_; conv => whnf) | (refine Need.mk ⟨rfl, by omega⟩ ?_; conv => whnf) | (refine Br.intro (fun h => ?_) (fun h => ?_) <;> ((try simp at h) <;> (conv => whnf))))
  all_goals first
    | (refine ⟨congrArg (fun b => AV.lit (.bool b)) ?_, rfl⟩
       have hl : s.data.toList = [] := by simp; assumption
       simp only [word, hsz, hl]; rfl)
    | (refine ⟨congrArg (fun b => AV.lit (.bool b)) ?_, rfl⟩
       have hl : s.data.toList = [105, 110, 116] := by assumption
       simp [word, sInt, hl])
    | (refine ⟨congrArg (fun b => AV.lit (.bool b)) ?_, rfl⟩
       have hl : s.data.toList = [98, 111, 111, 108] := by assumption
       simp [word, sBool, hl])
    | (refine ⟨congrArg (fun b => AV.lit (.bool b)) ?_, rfl⟩
       have hl : s.data.toList = [117, 110, 105, 116] := by assumption
       simp [word, sUnit, hl])
    | (refine ⟨congrArg (fun b => AV.lit (.bool b)) ?_, rfl⟩
       have hl : decide (s.size ≤ 200) = false := by simp; omega
       simp only [word, hl, Bool.and_false, Bool.false_and])
    | skip
  have h1 : 1 ≤ s.size := by
    rw [hsz]
    rcases Nat.eq_zero_or_pos s.data.toList.length with h0 | h0
    · exact absurd (List.eq_nil_of_length_eq_zero h0) (by simp; assumption)
    · exact h0
  clear hsz
  have hw0 := badL_word s h1 (by omega) (by assumption) (by assumption) (by assumption)
  refine LoopK.ix (fun j : Nat => ⟨mkE 41 [(2, .lit (.bool false)), (25, .bptr 1 0)], [.ext M, .iter s j], 1⟩)
    (fun j => j ≤ s.size ∧ word s = !anyF (badL s) j (s.size - j)) (fun j => s.size - j) 0 ?_ ⟨Nat.zero_le _, by simpa using hw0⟩ ?_
  · exact Weak.slots rfl ⟨rfl, rfl, trivial⟩ rfl rfl
  · rintro j ⟨hj, hg⟩
    obtain ⟨d1, d2, d3⟩ := decode_wd s j
    conv => whnf
    repeat' (first | (refine Need.mk rfl ?_; conv => whnf) | (refine Need.mk (by decide) ?_; conv => whnf) | (refine Need.mk (of_decide_eq_true rfl) ?_; conv => whnf) | (refine Need.mk (by omega) ?_; conv => whnf) | (refine Need.mk ⟨rfl, by omega, by omega⟩ ?_; conv => whnf) | (refine Need.mk ⟨rfl, rfl⟩ ?_; conv => whnf) | (refine Need.mk ⟨rfl, rfl, rfl, by simp⟩ ?_; conv => whnf) | (refine Need.mk ⟨rfl, rfl, Nat.le_refl _⟩ ?_; conv => whnf) | (refine Need.mk ⟨by omega, by omega⟩ ?_; conv => whnf) | (refine Need.mk ⟨rfl, rfl, by omega⟩ ?_; conv => whnf) | (refine Need.mk ⟨rfl, by omega⟩ ?_; conv => whnf) | (refine (isLetter_ok g (Utf8.decode s j).1).use rfl rfl ?_; conv => whnf) | (refine (isDigit_ok g (Utf8.decode s j).1).use rfl rfl ?_; conv => whnf) | (refine Br.intro (fun h => ?_) (fun h => ?_) <;> ((try simp at h) <;> (conv => whnf))))
    all_goals first
      | (refine ⟨congrArg (fun b => AV.lit (.bool b)) ?_, rfl⟩
         rw [hg, show s.size - j = 0 by omega, anyF]; rfl)
      | (refine ⟨congrArg (fun b => AV.lit (.bool b)) ?_, rfl⟩
         have hb : badL s j = true := by simp only [badL, ← d1, ← d2]; clear hg hw0 d1 d2 d3; simp_all
         rw [hg, show s.size - j = (s.size - (j + 1)) + 1 by omega, anyF, hb]; rfl)
      | (have hb : badL s j = false := by simp only [badL, ← d1, ← d2]; clear hg hw0 d1 d2 d3; simp_all
         have hl : isWd (at' s j) = true := by
           have := hb; simp only [badL, Bool.or_eq_false_iff] at this
           simpa using this.1
         refine ⟨j + 1, ⟨by omega, ?_⟩, (show s.size - (j + 1) < s.size - j by omega), Weak.slots rfl ⟨rfl, rfl, trivial⟩ (congrArg (fun q => [Ob.ext M, Ob.iter s q]) (show j + (Utf8.decode s j).2 = j + 1 by rw [d3 hl])) rfl⟩
         rw [hg, show s.size - j = (s.size - (j + 1)) + 1 by omega, anyF, hb]; rfl)
      | trace_state
end Go.Proofs.Kd

namespace Go.Proofs.Kd
open Go Go.Proofs.De Go.Proofs.Tryd
set_option maxRecDepth 100000
set_option maxHeartbeats 4000000

theorem held_ok (g : Gl) (n : Nat) (kids : Nat → TT) (row : Nat → List AV) (hrow : ∀ i, row i = (kids i).cells) (deep : Int) (hd : -1000 ≤ deep) (hd2 : deep ≤ 1000000)
    (hkid : 0 < n → PureCall (XX g) 32 [.agg (kids 0).cells, .lit (.int .i64 (deep + 1))] (.lit (.bool (kright (kids 0) (deep + 1))))) :
    PureCall (XX g) 48 [.rslc 6 n row, .lit (.int .i64 deep)] (.lit (.bool (decide (n = 1) && kright (kids 0) (deep + 1)))) := by
  intro M
  obtain rfl : row = fun i => (kids i).cells := funext hrow
  refine SimCall.of_body (fn := f48) func48 (by decide) ?_
  have hw : IntKind.i64.wrap (deep + 1) = deep + 1 := wrap_id (by omega) (by omega)
  have hkid' : 0 < n → PureCall (XX g) 32 [.agg (kids 0).cells, .lit (.int .i64 (IntKind.i64.wrap (deep + 1)))] (.lit (.bool (kright (kids 0) (deep + 1)))) := by rw [hw]; exact hkid
  conv => whnf
  repeat' (first | (refine Need.mk rfl ?_; conv => whnf) | (refine Need.mk (by decide) ?_; conv => whnf) | (refine Need.mk (of_decide_eq_true rfl) ?_; conv => whnf) | (refine Need.mk (by omega) ?_; conv => whnf) | (refine Need.mk ⟨rfl, by omega, by omega⟩ ?_; conv => whnf) | (refine Need.mk ⟨rfl, rfl⟩ ?_; conv => whnf) | (refine Need.mk ⟨rfl, rfl, rfl, by simp⟩ ?_; conv => whnf) | (refine Need.mk ⟨rfl, rfl, Nat.le_refl _⟩ ?_; conv => whnf) | (refine Need.mk ⟨by omega, by omega⟩ ?_; conv => whnf) | (refine Need.mk ⟨rfl, rfl, by omega⟩ ?_; conv => whnf) | (refine Need.mk ⟨rfl, by omega⟩ ?_; conv => whnf) | (refine (hkid' (by omega)).use rfl rfl ?_; conv => whnf) | (refine Br.intro (fun h => ?_) (fun h => ?_) <;> ((try simp at h) <;> (conv => whnf))))
  all_goals first
    | (refine ⟨congrArg (fun b => AV.lit (.bool b)) ?_, rfl⟩
       have hn1 : n = 1 := by omega
       simp [hn1]; done)
    | (refine ⟨congrArg (fun b => AV.lit (.bool b)) ?_, rfl⟩
       have hn1 : ¬ n = 1 := by omega
       simp [hn1]; done)
    | trace_state
theorem kright_ok (g : Gl) : ∀ (T : TT) (deep : Int), T.ok → 1 ≤ deep → deep ≤ 61 → PureCall (XX g) 32 [.agg T.cells, .lit (.int .i64 deep)] (.lit (.bool (kright T deep)))
  | .nul, _, hok, _, _ => hok.elim
  | .mk k nm r u m regs n kids, deep, hok, hd, hd2 => by
    obtain ⟨k1, k2, k3, k4⟩ := hok
    have hheld : deep ≤ 60 → PureCall (XX g) 48 [.rslc 6 n (TT.mk k nm r u m regs n kids).rows, .lit (.int .i64 deep)] (.lit (.bool (decide (n = 1) && kright (kids 0) (deep + 1)))) := fun h6 =>
      held_ok g n kids _ (fun i => rfl) deep (by omega) (by omega) fun h0 => kright_ok g (kids 0) (deep + 1) (k4 0 h0) (by omega) (by omega)
    intro M
    refine SimCall.of_body (fn := f32) func32 (by decide) ?_
    conv => whnf
    repeat' (first | (refine Need.mk rfl ?_; conv => whnf) | (refine Need.mk (by decide) ?_; conv => whnf) | (refine Need.mk (of_decide_eq_true rfl) ?_; conv => whnf) | (refine Need.mk (by omega) ?_; conv => whnf) | (refine Need.mk ⟨rfl, by omega, by omega⟩ ?_; conv => whnf) | (refine Need.mk ⟨rfl, rfl⟩ ?_; conv => whnf) | (refine Need.mk ⟨rfl, rfl, rfl, by simp⟩ ?_; conv => whnf) | (refine Need.mk ⟨rfl, rfl, Nat.le_refl _⟩ ?_; conv => whnf) | (refine Need.mk ⟨by omega, by omega⟩ ?_; conv => whnf) | (refine Need.mk ⟨rfl, rfl, by omega⟩ ?_; conv => whnf) | (refine Need.mk ⟨rfl, by omega⟩ ?_; conv => whnf) | (refine (noRef_ok g (TT.mk k nm r u m regs n kids)).use rfl rfl ?_; conv => whnf) | (refine (isRegion_ok g r).use rfl rfl ?_; conv => whnf) | (refine (isName_ok g nm k1).use rfl rfl ?_; conv => whnf) | (refine (areRegs_ok g regs m k2).use rfl rfl ?_; conv => whnf) | (refine (hheld (by omega)).use rfl rfl ?_; conv => whnf) | (refine Br.intro (fun h => ?_) (fun h => ?_) <;> ((try simp at h) <;> (conv => whnf))))
    all_goals clear hheld k4 k1 k2 k3
    all_goals simp only [TT.k, TT.nm, TT.r, TT.u, TT.m, TT.n] at *
    all_goals first
      | (refine ⟨congrArg (fun b => AV.lit (.bool b)) ?_, rfl⟩; rw [Bool.eq_iff_iff]; first | (simp [kright]; done) | (simp [kright]; omega) | (simp_all [kright]; done) | (simp_all [kright]; omega))
      | (refine ⟨congrArg (fun b => AV.lit (.bool b)) ?_, rfl⟩
         by_cases hz : n = 0 <;> simp_all [kright]; done)
      | (refine ⟨congrArg (fun b => AV.lit (.bool b)) ?_, rfl⟩
         simp_all [kright]; done)
      | trace_state
theorem right_ok (g : Gl) (T : TT) (hok : T.ok) : PureCall (XX g) 12 [.agg T.cells] (.lit (.bool (rright T))) := by
  intro M
  refine SimCall.of_body (fn := f12) func12 (by decide) ?_
  conv => whnf
  repeat' (first | (refine Need.mk rfl ?_; conv => whnf) | (refine Need.mk (by decide) ?_; conv => whnf) | (refine Need.mk (of_decide_eq_true rfl) ?_; conv => whnf) | (refine Need.mk (by omega) ?_; conv => whnf) | (refine Need.mk ⟨rfl, by omega, by omega⟩ ?_; conv => whnf) | (refine Need.mk ⟨rfl, rfl⟩ ?_; conv => whnf) | (refine Need.mk ⟨rfl, rfl, rfl, by simp⟩ ?_; conv => whnf) | (refine Need.mk ⟨rfl, rfl, Nat.le_refl _⟩ ?_; conv => whnf) | (refine Need.mk ⟨by omega, by omega⟩ ?_; conv => whnf) | (refine Need.mk ⟨rfl, rfl, by omega⟩ ?_; conv => whnf) | (refine Need.mk ⟨rfl, by omega⟩ ?_; conv => whnf) | (refine (kright_ok g T 1 hok (by decide) (by decide)).use rfl rfl ?_; conv => whnf) | (refine Br.intro (fun h => ?_) (fun h => ?_) <;> ((try simp at h) <;> (conv => whnf))))
  exact ⟨congrArg (fun b => AV.lit (.bool b)) (right_eq T), rfl⟩
end Go.Proofs.Kd
