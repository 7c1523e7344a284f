/- Calls with own blocks; regions that draw their order. Of no program; conditions: those that each statement names. -/
import Derived.Test.YtkplfedpkamogaaDoorDb

namespace Go.Proofs.De
open Go.RowKit

/-- Numbers on the spot: behind the others' blocks, in order. -/
def toLoc (sel : List Nat) (i : Nat) : Option Nat := match idx sel i with | some k => some (k + 1) | none => none
def toGlob (bk : List Nat) (k : Nat) : Option Nat := match k with | 0 => none | k + 1 => bk[k]?
def Rho.loc (ρ : Rho) (sel : List Nat) : Rho := fun k => match toGlob sel k with | some i => ρ i | none => none
/-- What is written back. -/
def putBack (m : Nat → Option Nat) : List Nat → List Ob → List Ob → List Ob
  | i :: bk, o :: os, hp => putBack m bk os (setN hp i (renO m o))
  | _, _, hp => hp
def Rho.back (ρ ρ1 : Rho) (bk : List Nat) : Rho := fun i => match idx bk i with
  | some k => match ρ1 (k + 1) with | some v => some v | none => ρ i
  | none => ρ i

theorem idx_some : ∀ {l : List Nat} {i k : Nat}, distinct l = true → l[k]? = some i → idx l i = some k := by
  intro l i k hd hk
  cases h : idx l i with
  | none =>
    exfalso
    have : ∀ (l : List Nat) (k : Nat), l[k]? = some i → (idx l i).isSome = true := by
      intro l
      induction l with
      | nil => intro k h; cases h
      | cons z l ih =>
        intro k h
        simp only [idx]
        split
        · rfl
        · rename_i hne
          cases k with
          | zero => cases h; exact absurd rfl hne
          | succ k =>
            have := ih k h
            cases hi : idx l i with
            | none => rw [hi] at this; cases this
            | some q => rfl
    have := this l k hk
    rw [h] at this; cases this
  | some k' => rw [distinct_at hd (idx_at h) hk]

theorem putBack_len (m : Nat → Option Nat) : ∀ (bk : List Nat) (os hp : List Ob), (putBack m bk os hp).length = hp.length
  | [], _, _ => rfl
  | _ :: _, [], _ => rfl
  | i :: bk, o :: os, hp => by simp only [putBack, putBack_len m bk os, setN_eq, List.length_set]
theorem putBack_at (m : Nat → Option Nat) : ∀ (bk : List Nat) (os hp : List Ob), bk.length ≤ os.length → distinct bk = true → ∀ (i : Nat) (y : Ob), (putBack m bk os hp)[i]? = some y →
    (∃ (k : Nat) (o : Ob), bk[k]? = some i ∧ os[k]? = some o ∧ y = renO m o) ∨ (idx bk i = none ∧ hp[i]? = some y)
  | [], os, hp, _, _, i, y, h => .inr ⟨rfl, h⟩
  | j :: bk, [], hp, hl, _, i, y, h => absurd hl (by simp)
  | j :: bk, o :: os, hp, hl, hd, i, y, h => by
    simp only [putBack] at h
    simp only [distinct, Bool.and_eq_true] at hd
    rcases putBack_at m bk os _ (by simpa using hl) hd.2 i y h with ⟨k, o', e1, e2, e3⟩ | ⟨e1, e2⟩
    · exact .inl ⟨k + 1, o', e1, e2, e3⟩
    · rw [setN_eq, List.getElem?_set] at e2
      by_cases e : j = i
      · rw [if_pos e] at e2
        split at e2
        · cases e2; exact .inl ⟨0, o, by rw [← e]; rfl, rfl, rfl⟩
        · cases e2
      · rw [if_neg e] at e2
        refine .inr ⟨?_, e2⟩
        simp only [idx, if_neg e, e1]

theorem FlatRep.sub {w : World} {O O' : Nat → Prop} (hs : ∀ b, O' b → O b) {wd : Nat} {rows : List (List AV)} {xs : List Value} (h : FlatRep w O wd rows xs) : FlatRep w O' wd rows xs :=
  fun i r hr => ⟨(h i r hr).1, fun j c hc => let ⟨u, e, k⟩ := (h i r hr).2 j c hc; ⟨u, e, k.sub hs⟩⟩
theorem ObRep.ren {w : World} {O O' : Nat → Prop} {ρ ρ' : Rho} {m : Nat → Option Nat} (hm : Carries m ρ ρ') (hs : ∀ b, O' b → O b) {i k : Nat} (hk : ∀ v, ρ i = some v → ρ' k = some v) {o : Ob} (h : ObRep w O ρ i o) : ObRep w O' ρ' k (renO m o) := by
  cases o with
  | none => trivial
  | box cs =>
    obtain ⟨g, et, vs, h1, h2, h3, h4⟩ := h
    refine ⟨g, et, vs, hk _ h1, h2, by rw [renCs_len]; exact h3, fun j c hc => ?_⟩
    obtain ⟨d, e1, rfl⟩ := renCs_at hc
    obtain ⟨u, e2, e3⟩ := h4 j d e1
    exact ⟨u, e2, renC_rep hm hs e3⟩
  | row et wd rows =>
    obtain ⟨v, xs, h1, h2, h3, h4⟩ := h
    exact ⟨v, xs, hk _ h1, h2, h3.sub hs, h4⟩
  | fz et wd rows =>
    obtain ⟨v, xs, h1, h2, h3, h4, h5⟩ := h
    exact ⟨v, xs, hk _ h1, h2, h3.sub hs, h4, fun b hb k => h5 b hb (hs b k)⟩
  | ext M => exact h
  | iter s p => obtain ⟨g, h1, h2⟩ := h; exact ⟨g, hk _ h1, h2⟩
theorem Blk_some {w : World} {O : Nat → Prop} {ρ ρ' : Rho} {m : Nat → Option Nat} {i k b : Nat} {o : Ob} (ho : ObRep w O ρ i o) (hk : ∀ v, ρ i = some v → ρ' k = some v) (h : Blk ρ' k b (renO m o)) : Blk ρ i b o := by
  cases o with
  | none => exact h
  | box cs =>
    obtain ⟨g, et, vs, h1, _⟩ := ho
    obtain ⟨v, e1, e2⟩ := h
    rw [hk _ h1] at e1; cases e1
    exact ⟨_, h1, e2⟩
  | row et wd rows =>
    obtain ⟨v', xs, h1, _⟩ := ho
    obtain ⟨v, e1, e2⟩ := h
    rw [hk _ h1] at e1; cases e1
    exact ⟨_, h1, e2⟩
  | fz et wd rows => exact h
  | iter s p =>
    obtain ⟨g, h1, _⟩ := ho
    obtain ⟨v, e1, e2⟩ := h
    rw [hk _ h1] at e1; cases e1
    exact ⟨_, h1, e2⟩
  | ext M => exact h

section
variable {X : Cx} {w w' : World} {ρ : Rho} {hp : List Ob} {sel : List Nat}

/-- What isn't a chosen one's block. -/
def notSel (ρ : Rho) (hp : List Ob) (sel : List Nat) (b : Nat) : Prop := ∀ (k i : Nat) (x : Ob), sel[k]? = some i → hp[i]? = some x → ¬ Blk ρ i b x
noncomputable def locHp (w : World) (ρ : Rho) (hp : List Ob) (sel : List Nat) : List Ob := .ext (others w ρ hp (notSel ρ hp sel)) :: renOs (toLoc sel) hp sel

theorem carries_loc : Carries (toLoc sel) ρ (ρ.loc sel) := by
  intro i k v h hv
  unfold toLoc at h
  split at h
  · rename_i k' e
    cases h
    simp only [Rho.loc, toGlob, idx_at e]
    exact hv
  · cases h
theorem loc_at {k : Nat} {o : Ob} (h : (locHp w ρ hp sel)[k + 1]? = some o) : ∃ i, sel[k]? = some i ∧ ρ.loc sel (k + 1) = ρ i ∧ ((∃ x, hp[i]? = some x ∧ o = renO (toLoc sel) x) ∨ o = .none) := by
  obtain ⟨i, e1, e2⟩ := renOs_at (l := sel) (j := k) h
  exact ⟨i, e1, by simp only [Rho.loc, toGlob, e1], e2⟩
theorem loc_blk {k b : Nat} {o : Ob} (h : (locHp w ρ hp sel)[k + 1]? = some o) (hb : Blk (ρ.loc sel) (k + 1) b o) : ∃ i x, sel[k]? = some i ∧ hp[i]? = some x ∧ o = renO (toLoc sel) x ∧ Blk ρ i b x := by
  obtain ⟨i, e1, e2, e3⟩ := loc_at h
  rcases e3 with ⟨x, e4, rfl⟩ | rfl
  · refine ⟨i, x, e1, e4, rfl, ?_⟩
    cases x <;> simp only [renO, Blk, e2] at hb ⊢ <;> exact hb
  · exact hb.elim
theorem loc_own (hh : Hp X w ρ hp) {b : Nat} : Own (ρ.loc sel) (locHp w ρ hp sel) b ↔ Own ρ hp b := by
  constructor
  · rintro ⟨k, o, h1, h2⟩
    cases k with
    | zero =>
      cases h1
      simp only [Blk, Option.isSome_iff_exists] at h2
      obtain ⟨o, ho⟩ := h2
      exact (others_some ho).1.1
    | succ k =>
      obtain ⟨i, x, _, e2, _, e3⟩ := loc_blk h1 h2
      exact ⟨i, x, e2, e3⟩
  · rintro ⟨i, x, h1, h2⟩
    by_cases hs : ∃ k : Nat, sel[k]? = some i
    · obtain ⟨k, hk⟩ := hs
      have hren : ∀ (l : List Nat) (k : Nat), l[k]? = some i → (renOs (toLoc sel) hp l)[k]? = some (renO (toLoc sel) x) := by
        intro l
        induction l with
        | nil => intro k h; cases h
        | cons z l ih =>
          intro k h
          cases k with
          | zero => cases h; simp [renOs, h1]
          | succ k => exact ih k h
      refine ⟨k + 1, _, hren sel k hk, ?_⟩
      have e2 : ρ.loc sel (k + 1) = ρ i := by simp only [Rho.loc, toGlob, hk]
      cases x <;> simp only [renO, Blk, e2] at h2 ⊢ <;> exact h2
    · refine ⟨0, _, rfl, ?_⟩
      have ho : Own ρ hp b := ⟨i, x, h1, h2⟩
      have hn : notSel ρ hp sel b := fun k j y e1 e2 e3 => hs ⟨k, by rw [e1, hh.inj i j x y b h1 h2 e2 e3]⟩
      have hlt := own_size hh ho
      simp only [Blk, others, if_pos (And.intro ho hn), Array.getElem?_eq_getElem hlt]
      rfl
theorem loc_own' (hh : Hp X w ρ hp) : Own (ρ.loc sel) (locHp w ρ hp sel) = Own ρ hp := funext fun _ => propext (loc_own hh)

theorem Hp.loc (hh : Hp X w ρ hp) (hd : distinct sel = true) : Hp X w (ρ.loc sel) (locHp w ρ hp sel) := by
  refine ⟨hh.glob, hh.ng, ?_, fun b k => hh.low b ((loc_own hh).1 k), ?_, ?_, ?_⟩
  · intro k v b h1 h2
    simp only [Rho.loc] at h1
    split at h1
    · exact hh.lt _ v b h1 h2
    · cases h1
  · intro k l x y b a1 a2 b1 b2
    have mixed : ∀ (k : Nat) (o : Ob), (locHp w ρ hp sel)[k + 1]? = some o → Blk (ρ.loc sel) (k + 1) b o → ¬ notSel ρ hp sel b := by
      intro k o h1 h2 hn
      obtain ⟨i, x, e1, e2, _, e3⟩ := loc_blk h1 h2
      exact hn k i x e1 e2 e3
    have zero : ∀ (o : Ob), (locHp w ρ hp sel)[0]? = some o → Blk (ρ.loc sel) 0 b o → notSel ρ hp sel b := by
      intro o h1 h2
      cases h1
      simp only [Blk, Option.isSome_iff_exists] at h2
      obtain ⟨o, ho⟩ := h2
      exact (others_some ho).1.2
    cases k with
    | zero =>
      cases l with
      | zero => rfl
      | succ l => exact absurd (zero x a1 a2) (mixed l y b1 b2)
    | succ k =>
      cases l with
      | zero => exact absurd (zero y b1 b2) (mixed k x a1 a2)
      | succ l =>
        obtain ⟨i, x', e1, e2, _, e3⟩ := loc_blk a1 a2
        obtain ⟨j, y', f1, f2, _, f3⟩ := loc_blk b1 b2
        have := hh.inj i j x' y' b e2 e3 f2 f3
        subst this
        rw [distinct_at hd e1 f1]
  · intro k o hk
    rw [loc_own' hh]
    cases k with
    | zero => cases hk; exact fun b o e => (others_some e).2
    | succ k =>
      obtain ⟨i, e1, e2, e3⟩ := loc_at hk
      rcases e3 with ⟨x, e4, rfl⟩ | rfl
      · exact (hh.has i x e4).ren carries_loc (fun _ h => h) (fun v hv => e2.trans hv)
      · trivial
  · intro k hk
    simp only [locHp, List.length_cons, renOs_len] at hk
    cases k with
    | zero => omega
    | succ k =>
      have : sel[k]? = none := List.getElem?_eq_none (by omega)
      simp only [Rho.loc, toGlob, this]

/-- How the chosen ones are put back, with new ones. -/
structure Back (ρ : Rho) (hp : List Ob) (sel bk : List Nat) : Prop where
  dist : distinct bk = true
  old : ∀ (k i : Nat), sel[k]? = some i → bk[k]? = some i
  new : ∀ (k i : Nat), sel.length ≤ k → bk[k]? = some i → ρ i = none
  lt : ∀ (k i : Nat), bk[k]? = some i → i < hp.length

theorem lift {bk : List Nat} (hh : Hp X w ρ hp) (hb : Back ρ hp sel bk) {ρ1 : Rho} {os : List Ob} (hos : bk.length ≤ os.length)
    (h1 : Hp X w' ρ1 (.ext (others w ρ hp (notSel ρ hp sel)) :: os)) (ht : Tr w (Own ρ hp) w' (Own ρ1 (.ext (others w ρ hp (notSel ρ hp sel)) :: os))) (hle : (ρ.loc sel).le ρ1) :
    Hp X w' (ρ.back ρ1 bk) (putBack (toGlob bk) bk os hp) ∧ Tr w (Own ρ hp) w' (Own (ρ.back ρ1 bk) (putBack (toGlob bk) bk os hp)) ∧ ρ.le (ρ.back ρ1 bk) ∧ Carries (toGlob bk) ρ1 (ρ.back ρ1 bk) ∧
      (∀ b, Own (ρ.back ρ1 bk) (putBack (toGlob bk) bk os hp) b → Own ρ1 (.ext (others w ρ hp (notSel ρ hp sel)) :: os) b) := by
  have hcar : Carries (toGlob bk) ρ1 (ρ.back ρ1 bk) := by
    intro k i v hk hv
    cases k with
    | zero => cases hk
    | succ k =>
      have := idx_some hb.dist hk
      simp only [Rho.back, this, hv]
  have hrle : ρ.le (ρ.back ρ1 bk) := by
    intro i v hv
    simp only [Rho.back]
    cases e : idx bk i with
    | none => exact hv
    | some k =>
      have hk := idx_at e
      by_cases hks : k < sel.length
      · have h2 := hb.old k _ (List.getElem?_eq_getElem hks)
        rw [hk] at h2
        have h3 : sel[k]? = some i := by rw [List.getElem?_eq_getElem hks, ← Option.some.inj h2]
        have h4 := hle (k + 1) v (by simp only [Rho.loc, toGlob, h3]; exact hv)
        simp only [h4]
      · rw [hb.new k i (by omega) hk] at hv; cases hv
  have hat := putBack_at (toGlob bk) bk os hp hos hb.dist
  have hback : ∀ (k i : Nat), bk[k]? = some i → ∀ v, ρ1 (k + 1) = some v → ρ.back ρ1 bk i = some v := fun k i hk v hv => hcar (k + 1) i v hk hv
  have hext : ∀ b, Own ρ hp b → notSel ρ hp sel b → Blk ρ1 0 b (.ext (others w ρ hp (notSel ρ hp sel))) := by
    intro b ho hn
    have hlt := own_size hh ho
    simp only [Blk, others, if_pos (And.intro ho hn), Array.getElem?_eq_getElem hlt]
    rfl
  have hnin : ∀ i b y, idx bk i = none → hp[i]? = some y → Blk ρ i b y → notSel ρ hp sel b := by
    intro i b y hi hy hbl k j x e1 e2 e3
    have := hh.inj i j y x b hy hbl e2 e3
    subst this
    have := idx_some hb.dist (hb.old k i e1)
    rw [hi] at this; cases this
  have hold : ∀ i b y, idx bk i = none → (Blk (ρ.back ρ1 bk) i b y ↔ Blk ρ i b y) := by
    intro i b y hi
    have : ρ.back ρ1 bk i = ρ i := by simp only [Rho.back, hi]
    cases y <;> simp only [Blk, this]
  have hsub : ∀ b, Own (ρ.back ρ1 bk) (putBack (toGlob bk) bk os hp) b → Own ρ1 (.ext (others w ρ hp (notSel ρ hp sel)) :: os) b := by
    rintro b ⟨i, y, e1, e2⟩
    rcases hat i y e1 with ⟨k, o, f1, f2, rfl⟩ | ⟨f1, f2⟩
    · exact ⟨k + 1, o, f2, Blk_some (h1.has (k + 1) o f2) (hback k i f1) e2⟩
    · have e3 := (hold i b y f1).1 e2
      exact ⟨0, _, rfl, hext b ⟨i, y, f2, e3⟩ (hnin i b y f1 f2 e3)⟩
  have ht2 : Tr w (Own ρ hp) w' (Own (ρ.back ρ1 bk) (putBack (toGlob bk) bk os hp)) := ⟨ht.os, ht.tape, ht.output, ht.size, fun b hlt hn => ⟨(ht.keep b hlt hn).1, fun k => (ht.keep b hlt hn).2 (hsub b k)⟩⟩
  refine ⟨⟨h1.glob, h1.ng, ?_, fun b k => h1.low b (hsub b k), ?_, ?_, ?_⟩, ht2, hrle, hcar, hsub⟩
  · intro i v b hi hv
    simp only [Rho.back] at hi
    split at hi
    · split at hi
      · rename_i k _ _ u e; cases hi; exact h1.lt _ _ b e hv
      · exact Nat.lt_of_lt_of_le (hh.lt i v b hi hv) ht.size
    · exact Nat.lt_of_lt_of_le (hh.lt i v b hi hv) ht.size
  · intro i j x y b a1 a2 b1 b2
    rcases hat i x a1 with ⟨k, o, f1, f2, rfl⟩ | ⟨f1, f2⟩
    · have f3 := Blk_some (h1.has (k + 1) o f2) (hback k i f1) a2
      rcases hat j y b1 with ⟨l, q, g1, g2, rfl⟩ | ⟨g1, g2⟩
      · have g3 := Blk_some (h1.has (l + 1) q g2) (hback l j g1) b2
        have := h1.inj (k + 1) (l + 1) o q b f2 f3 g2 g3
        have hkl : k = l := by omega
        subst hkl
        rw [f1] at g1; exact Option.some.inj g1
      · have g3 := (hold j b y g1).1 b2
        have := h1.inj 0 (k + 1) _ o b rfl (hext b ⟨j, y, g2, g3⟩ (hnin j b y g1 g2 g3)) f2 f3
        omega
    · have f3 := (hold i b x f1).1 a2
      rcases hat j y b1 with ⟨l, q, g1, g2, rfl⟩ | ⟨g1, g2⟩
      · have g3 := Blk_some (h1.has (l + 1) q g2) (hback l j g1) b2
        have := h1.inj 0 (l + 1) _ q b rfl (hext b ⟨i, x, f2, f3⟩ (hnin i b x f1 f2 f3)) g2 g3
        omega
      · exact hh.inj i j x y b f2 f3 g2 ((hold j b y g1).1 b2)
  · intro i y hi
    rcases hat i y hi with ⟨k, o, f1, f2, rfl⟩ | ⟨f1, f2⟩
    · exact (h1.has (k + 1) o f2).ren hcar hsub (hback k i f1)
    · refine ObRep.mono ht2 hrle (fun b hbl => ?_) (fun v b e1 e2 => hh.lt i v b e1 e2) (hh.has i y f2)
      have ho : Own ρ hp b := ⟨i, y, f2, hbl⟩
      have hn := hnin i b y f1 f2 hbl
      have hlt := own_size hh ho
      have hm : others w ρ hp (notSel ρ hp sel) b = some w.heap[b] := by unfold others; rw [if_pos ⟨ho, hn⟩, Array.getElem?_eq_getElem hlt]
      rw [h1.has 0 _ rfl b _ hm, Array.getElem?_eq_getElem hlt]
  · intro i hi
    rw [putBack_len] at hi
    have hno : idx bk i = none := by
      cases e : idx bk i with
      | none => rfl
      | some k => have := hb.lt k i (idx_at e); omega
    simp only [Rho.back, hno]
    exact hh.free i hi
end
end Go.Proofs.De

namespace Go.Proofs.De
open Go.RowKit

/-- A call that is handed some own blocks: what it gives, and what these are then. -/
def HeapCall (X : Cx) (f : FuncId) (args : List AV) (hpl : List Ob) (r : AV) (os : List Ob) : Prop :=
  ∀ M : Nat → Option Obj, SimCall X f args (.ext M :: hpl) fun c hp' => c = r ∧ ∃ extra, hp' = .ext M :: (os ++ extra)

def upTo (k : Nat) : Nat → List Nat
  | 0 => []
  | n + 1 => k :: upTo (k + 1) n
theorem upTo_at : ∀ {n k j i : Nat}, (upTo k n)[j]? = some i → i = k + j ∧ j < n
  | 0, k, j, i, h => by cases h
  | n + 1, k, 0, i, h => by cases h; exact ⟨rfl, by omega⟩
  | n + 1, k, j + 1, i, h => by obtain ⟨h1, h2⟩ := upTo_at (n := n) (k := k + 1) (j := j) h; exact ⟨by omega, by omega⟩
theorem upTo_len : ∀ (n k : Nat), (upTo k n).length = n
  | 0, _ => rfl
  | n + 1, k => congrArg (· + 1) (upTo_len n (k + 1))
theorem putBack_more (m : Nat → Option Nat) : ∀ (bk : List Nat) (os extra hp : List Ob), bk.length ≤ os.length → putBack m bk (os ++ extra) hp = putBack m bk os hp
  | [], _, _, _, _ => by simp [putBack]
  | i :: bk, [], extra, hp, h => absurd h (by simp)
  | i :: bk, o :: os, extra, hp, h => by
    simp only [List.cons_append, putBack]
    exact putBack_more m bk os extra _ (by simpa using h)
def allLt (n : Nat) : List Nat → Bool
  | [] => true
  | x :: l => decide (x < n) && allLt n l
theorem allLt_at : ∀ {n : Nat} {l : List Nat} {j i : Nat}, allLt n l = true → l[j]? = some i → i < n
  | n, [], j, i, _, h => by cases h
  | n, x :: l, 0, i, h1, h => by cases h; simp only [allLt, Bool.and_eq_true, decide_eq_true_eq] at h1; exact h1.1
  | n, x :: l, j + 1, i, h1, h => by simp only [allLt, Bool.and_eq_true] at h1; exact allLt_at h1.2 h

section
variable {X : Cx} {w w' : World} {ρ : Rho} {hp : List Ob} {sel : List Nat}

theorem Hp.mores (hh : Hp X w ρ hp) : ∀ n : Nat, Hp X w ρ (hp ++ List.replicate n .none) ∧ Own ρ (hp ++ List.replicate n .none) = Own ρ hp
  | 0 => by simpa using hh
  | n + 1 => by
    obtain ⟨h1, h2⟩ := Hp.mores hh n
    rw [List.replicate_succ', ← List.append_assoc]
    exact ⟨h1.more, by rw [own_more, h2]⟩
theorem renVs_get {m : Nat → Option Nat} : ∀ {l : List AV} {j : Nat} {d : AV}, l[j]? = some d → (renVs m l)[j]? = some (renV m d)
  | [], j, d, h => by cases h
  | y :: l, 0, d, h => by cases h; rfl
  | y :: l, j + 1, d, h => renVs_get (l := l) h

theorem HeapCall.use {f : FuncId} {args : List AV} {r : AV} {os : List Ob} (sel : List Nat) (h : HeapCall X f (renVs (toLoc sel) args) (renOs (toLoc sel) hp sel) r os) (hd : distinct sel = true) (hlt : allLt hp.length sel = true) (hlen : sel.length ≤ os.length)
    {K : AV → List Ob → Prop} (hk : K (renV (toGlob (sel ++ upTo hp.length (os.length - sel.length))) r) (putBack (toGlob (sel ++ upTo hp.length (os.length - sel.length))) (sel ++ upTo hp.length (os.length - sel.length)) os (hp ++ List.replicate (os.length - sel.length) .none))) : SimCall X f args hp K := by
  refine ⟨(h fun _ => none).fn, fun ρ w vs hh hs hv => ?_⟩
  generalize hn : os.length - sel.length = n at hk
  obtain ⟨hm, hown⟩ := hh.mores n
  let bk := sel ++ upTo hp.length n
  have hbl : bk.length = os.length := by simp only [bk, List.length_append, upTo_len]; omega
  have hbk : Back ρ (hp ++ List.replicate n .none) sel bk := by
    refine ⟨?_, fun k i e => by rw [List.getElem?_append_left (List.getElem?_eq_some_iff.1 e).1]; exact e, fun k i e1 e2 => ?_, fun k i e => ?_⟩
    · -- all unlike
      have key : ∀ (l : List Nat) (k n : Nat), distinct l = true → (∀ (j i : Nat), l[j]? = some i → i < k) → distinct (l ++ upTo k n) = true := by
        intro l
        induction l with
        | nil =>
          intro k n _ _
          induction n generalizing k with
          | zero => rfl
          | succ n ih =>
            simp only [List.nil_append, upTo, distinct, Bool.and_eq_true]
            refine ⟨?_, by simpa using ih (k + 1)⟩
            cases e : idx (upTo (k + 1) n) k with
            | none => rfl
            | some q => have := (upTo_at (idx_at e)).1; omega
        | cons x l ih =>
          intro k n hd hl
          simp only [distinct, Bool.and_eq_true] at hd
          simp only [List.cons_append, distinct, Bool.and_eq_true]
          refine ⟨?_, ih k n hd.2 fun j i e => hl (j + 1) i e⟩
          cases e : idx (l ++ upTo k n) x with
          | none => rfl
          | some q =>
            exfalso
            have h1 := idx_at e
            rw [List.getElem?_append] at h1
            split at h1
            · have h2 := idx_some hd.2 h1
              rw [h2] at hd; cases hd.1
            · have h2 := (upTo_at h1).1
              have h3 := hl 0 x rfl
              omega
      exact key sel hp.length n hd fun j i e => allLt_at hlt e
    · simp only [bk] at e2
      rw [List.getElem?_append_right e1] at e2
      have := (upTo_at e2).1
      exact hh.free i (by omega)
    · simp only [bk] at e
      rw [List.getElem?_append] at e
      split at e
      · have := allLt_at hlt e
        simp; omega
      · obtain ⟨h1, h2⟩ := upTo_at e
        simp; omega
  have hsel : renOs (toLoc sel) (hp ++ List.replicate n .none) sel = renOs (toLoc sel) hp sel := by
    have key : ∀ l : List Nat, allLt hp.length l = true → renOs (toLoc sel) (hp ++ List.replicate n .none) l = renOs (toLoc sel) hp l := by
      intro l
      induction l with
      | nil => intro _; rfl
      | cons x l ih =>
        intro hl
        simp only [allLt, Bool.and_eq_true, decide_eq_true_eq] at hl
        simp only [renOs, ih hl.2, List.getElem?_append_left hl.1]
    exact key sel hlt
  have hcall := h (others w ρ (hp ++ List.replicate n .none) (notSel ρ (hp ++ List.replicate n .none) sel))
  have hl := hm.loc hd
  have hol := loc_own' (sel := sel) hm
  unfold locHp at hl hol
  rw [hsel] at hl hol
  refine (hcall.sim (ρ.loc sel) w vs hl (by rw [hs, renVs_len]) (fun j c hc => ?_)).mono ?_
  · obtain ⟨d, e1, rfl⟩ := renVs_at hc
    obtain ⟨u, e2, e3⟩ := hv j d e1
    refine ⟨u, e2, ?_⟩
    rw [hol, hown]
    exact renV_rep carries_loc (fun _ h => h) e3
  · rintro e w' ⟨v, c, hp1, ρ1, rfl, ⟨rfl, extra, rfl⟩, h1, ht, hle, hrep⟩
    rw [hol] at ht
    have hle2 : bk.length ≤ (os ++ extra).length := Nat.le_trans (Nat.le_of_eq hbl) (by simp)
    obtain ⟨k1, k2, k3, k4, k5⟩ := lift hm hbk hle2 h1 ht hle
    rw [putBack_more _ bk os extra _ (by rw [hbl]; exact Nat.le_refl _)] at k1 k2 k5
    exact ⟨v, _, _, _, rfl, hk, k1, by rw [hown] at k2; exact k2, k3, renV_rep k4 k5 hrep⟩
end
end Go.Proofs.De

namespace Go.Proofs.De
open Go.RowKit

/-- What one operation does, told once: its slot, what it looks at, which own blocks it is shown, which ones it writes, and what these are then. -/
structure Step where
  dst : Option Tmp
  looks : List Tmp
  sel : List Nat
  bk : List Nat
  os : List Ob
  val : AV
def ap (r : Step) (s : St) : St := ({ s with hp := putBack (toGlob r.bk) r.bk r.os s.hp } : St).put r.dst r.val

def tmpsOf : List Operand → List Tmp
  | [] => []
  | .tmp t :: l => t :: tmpsOf l
  | _ :: l => tmpsOf l
def looksOf (ops : Array Oper) (o : Oper) : List Tmp :=
  (match o.guard with
   | some (j, _) => (match ops.toList[j]? with | some oj => (match oj.dst with | some d => [d] | none => []) | none => [])
   | none => []) ++ tmpsOf o.op.operands.toList
def hasN : List Nat → Nat → Bool
  | [], _ => false
  | x :: l, i => (x == i) || hasN l i
theorem hasN_iff : ∀ {l : List Nat} {i : Nat}, hasN l i = true ↔ i ∈ l
  | [], i => by simp [hasN]
  | x :: l, i => by simp only [hasN, Bool.or_eq_true, beq_iff_eq, List.mem_cons, hasN_iff]; constructor <;> (rintro (h | h); exact .inl h.symm; exact .inr h)
/-- Slots but for those looked at: whatever. -/
def keepE (looks : List Tmp) : Nat → List AV → List AV
  | _, [] => []
  | t, c :: l => (if hasN looks t then c else .any) :: keepE looks (t + 1) l
theorem keepE_at {looks : List Tmp} : ∀ {l : List AV} {t j : Nat}, (keepE looks t l)[j]? = (l[j]?).map fun c => if hasN looks (t + j) then c else .any
  | [], t, j => by simp [keepE]
  | c :: l, t, 0 => by simp [keepE]
  | c :: l, t, j + 1 => by
    simp only [keepE, List.getElem?_cons_succ, keepE_at (l := l)]
    rw [show t + 1 + j = t + (j + 1) by omega]
/-- The state that an operation is shown. -/
def locSt (looks : List Tmp) (sel : List Nat) (s : St) (M : Nat → Option Obj) : St := ⟨renVs (toLoc sel) (keepE looks 0 s.env), .ext M :: renOs (toLoc sel) s.hp sel, sel.length + 1⟩

def guardV (ops : Array Oper) (s : St) (o : Oper) : Option Bool :=
  match o.guard with
  | none => some true
  | some (j, want) => match ops.toList[j]? with
    | some oj => match oj.dst with
      | some d => match nth s.env d with
        | .lit (.bool b) => some (b == want)
        | .tup [] => some false
        | _ => none
      | none => none
    | none => none

/-- That an operation does what is told of it, from any state that shows it the same. -/
def StepOK (X : Cx) (ops : Array Oper) (o : Oper) (r : Step) (s : St) : Prop :=
  r.dst = o.dst ∧
  ((guardV ops s o = some false ∧ r.bk = [] ∧ r.val = .tup []) ∨
   (guardV ops s o = some true ∧ r.bk = [] ∧ ∀ M, ∃ c, vopK X.P (locSt r.looks r.sel s M) o (fun c' => c' = c) ∧ renV (toGlob r.sel) c = r.val) ∨
   (guardV ops s o = some true ∧ (r.sel.length ≤ r.bk.length ∧ r.bk.length ≤ r.os.length) ∧ ∃ c0, renV (toGlob r.bk) c0 = r.val ∧ ∀ M, aop X (locSt r.looks r.sel s M) o fun c hp' => c = c0 ∧ ∃ extra, hp' = .ext M :: (r.os ++ extra)))

section
variable {X : Cx} {B : Base} {ρ : Rho} {s : St} {a : Act} {w : World}

theorem local_rel (h : RelAt X B ρ s a w) (looks : List Tmp) {sel : List Nat} (hd : distinct sel = true) :
    RelAt X ⟨w, ρ.loc sel, locHp w ρ s.hp sel⟩ (ρ.loc sel) (locSt looks sel s (others w ρ s.hp (notSel ρ s.hp sel))) a w := by
  have hl := h.hp.loc hd
  refine ⟨hl, by simp only [locSt, renVs_len]; rw [← h.len]; clear hl; generalize s.env = l; revert l; suffices ∀ (l : List AV) (t : Nat), (keepE looks t l).length = l.length from fun l => this l 0; intro l; induction l with
    | nil => intro t; rfl
    | cons c l ih => intro t; simp [keepE, ih], fun t c hc => ?_, h.defers, Tr.refl _ _, Rho.le.refl _, ?_, hl.free⟩
  · obtain ⟨d, e1, rfl⟩ := renVs_at hc
    rw [keepE_at] at e1
    cases e2 : s.env[t]? with
    | none => rw [e2] at e1; cases e1
    | some c0 =>
      rw [e2] at e1
      simp only [Option.map_some, Option.some.injEq] at e1
      obtain ⟨u, k1, k2⟩ := h.env t c0 e2
      refine ⟨u, k1, ?_⟩
      have : Own (ρ.loc sel) (locSt looks sel s (others w ρ s.hp (notSel ρ s.hp sel))).hp = Own ρ s.hp := loc_own' h.hp
      rw [this]
      split at e1
      · subst e1; exact renV_rep carries_loc (fun _ h => h) k2
      · subst e1; trivial
  · simp [locSt, locHp, renOs_len]

theorem guardV_ok (h : RelAt X B ρ s a w) {ops : Array Oper} {o : Oper} {b : Bool} (hg : guardV ops s o = some b) : Region.wanted o (yielded ops a.tmps) = b := by
  unfold guardV at hg
  have hk : guardK ops s o (fun _ => b = true) (fun _ => b = false) := by
    unfold guardK
    cases e : o.guard with
    | none => rw [e] at hg; cases hg; rfl
    | some p =>
      obtain ⟨j, want⟩ := p
      rw [e] at hg
      cases e1 : ops.toList[j]? with
      | none => simp only [e1] at hg; cases hg
      | some oj =>
        cases e2 : oj.dst with
        | none => simp only [e1, e2] at hg; cases hg
        | some d =>
          simp only [e1, e2] at hg ⊢
          split at hg
          · rename_i b' e3
            simp only [e3]
            cases hg
            refine Br.intro (fun h => ?_) (fun h => ?_)
            · rw [St.knK_eq (by rw [e3]; revert h; cases b' <;> cases want <;> simp)]; exact h
            · rw [St.knK_eq (by rw [e3]; revert h; cases b' <;> cases want <;> simp)]; exact h
          · rename_i e3
            simp only [e3]
            cases hg; rfl
          · cases hg
  rcases guard_ok h hk with ⟨e1, e2⟩ | ⟨e1, e2⟩
  · rw [e1, e2]
  · rw [e1, e2]

/-- One operation, from any state that shows it the same as the one that it was told of. -/
theorem step_ok {ops : Array Oper} {i : Nat} {o : Oper} {r : Step} {s0 : St} (hi : ops[i]? = some o) (hr : StepOK X ops o r s0) (h : RelAt X B ρ s a w) (hgd : guardV ops s o = guardV ops s0 o)
    (hloc : ∀ M, locSt r.looks r.sel s M = locSt r.looks r.sel s0 M) (hd : distinct r.sel = true) (hb : r.sel.length ≤ r.bk.length → Back ρ s.hp r.sel r.bk) {Q : Exit → Act → World → Prop} {K : Act → World → Prop}
    (hK : ∀ a' w' ρ', RelAt X B ρ' (ap r s) a' w' → (∀ id, idx r.bk id = none → ρ' id = ρ id) → K a' w') : wpOp X.P ops Q i K a w := by
  obtain ⟨hdst, hr⟩ := hr
  have hap : r.bk = [] → (ap r s) = s.put r.dst r.val := fun e => by simp [ap, e, putBack]
  unfold wpOp
  rw [hi]
  simp only
  rcases hr with ⟨g, e1, e2⟩ | ⟨g, e1, e2⟩ | ⟨g, e1, e2⟩
  · rw [← hgd] at g
    rw [guardV_ok h g]
    simp only [Bool.false_eq_true, if_false]
    refine hK _ _ ρ ?_ fun _ _ => rfl
    rw [hap e1, hdst, e2]
    exact h.put o.dst ⟨#[], rfl, rfl, fun j c hc => by cases hc⟩
  · rw [← hgd] at g
    rw [guardV_ok h g]
    simp only [if_true]
    obtain ⟨c, k1, k2⟩ := e2 (others w ρ s.hp (notSel ρ s.hp r.sel))
    rw [← hloc] at k1
    obtain ⟨c', u, rfl, q1, q2⟩ := vop_sound (local_rel h r.looks hd) o k1
    refine .inl ?_
    unfold Oper.wp
    rw [q1]
    refine hK _ _ ρ ?_ fun _ _ => rfl
    rw [hap e1, hdst, ← k2]
    refine h.put o.dst ?_
    have hol : Own (ρ.loc r.sel) (locSt r.looks r.sel s (others w ρ s.hp (notSel ρ s.hp r.sel))).hp = Own ρ s.hp := loc_own' h.hp
    rw [hol] at q2
    refine renV_rep ?_ (fun _ h => h) q2
    intro k i v hk hv
    simp only [Rho.loc, hk] at hv
    exact hv
  · rw [← hgd] at g
    rw [guardV_ok h g]
    simp only [if_true]
    refine .inl ?_
    obtain ⟨c0, q0, e2⟩ := e2
    have k1 := e2 (others w ρ s.hp (notSel ρ s.hp r.sel))
    rw [← hloc] at k1
    refine aop_sound (local_rel h r.looks hd) o k1 K Q fun c hp' ρ1 u w' ⟨q1, extra, q2⟩ q3 q4 => ?_
    subst q2
    subst q1
    have hol : Own (ρ.loc r.sel) (locHp w ρ s.hp r.sel) = Own ρ s.hp := loc_own' h.hp
    have ht := q3.tr
    simp only at ht
    rw [hol] at ht
    have hback : Back ρ s.hp r.sel r.bk := hb e1.1
    have e1 := e1.2
    obtain ⟨k1, k2, k3, k4, k5⟩ := lift h.hp hback (by rw [List.length_append]; omega) q3.hp ht q3.ext
    rw [putBack_more _ r.bk r.os extra _ e1] at k1 k2 k5
    refine hK _ _ (ρ.back ρ1 r.bk) ?_ fun id hid => by simp only [Rho.back, hid]
    have h2 := (h.step k1 k2 k3).put o.dst (renV_rep k4 k5 q4)
    rw [q0] at h2
    unfold ap
    rw [hdst]
    exact h2
end
end Go.Proofs.De

namespace Go.Proofs.De
open Go.RowKit

section
variable {P : Program} {ops : Array Oper} {md : Region.Mode} {Q : Exit → Act → World → Prop}

/-- No operation waits for a later one. -/
def backB (md : Region.Mode) (ops : Array Oper) : Bool := (List.range ops.size).all fun i => ((ops[i]?).map fun o => o.after.all fun e => !Region.binds md e || decide (e.on < i)).getD true
theorem backB_at (h : backB md ops = true) {i : Nat} {o : Oper} (ho : ops[i]? = some o) : ∀ e ∈ o.after, Region.binds md e = true → e.on < i := by
  intro e he hb
  unfold backB at h
  rw [List.all_eq_true] at h
  have hi : i < ops.size := (Array.getElem?_eq_some_iff.1 ho).1
  have h1 := h i (List.mem_range.2 hi)
  rw [ho] at h1
  simp only [Option.map_some, Option.getD_some] at h1
  rw [Array.all_eq_true'] at h1
  have h2 := h1 e he
  rw [hb] at h2
  simpa using h2

/-- How many are still to be done. -/
def leftN (listed : Array Bool) (n : Nat) : Nat := ((List.range n).filter fun i => !listed.getD i true).length
theorem leftN_zero {listed : Array Bool} {n : Nat} (h : leftN listed n = 0) : ∀ i, i < n → listed.getD i true = true := fun i hi => by
  unfold leftN at h
  rw [List.length_eq_zero_iff, List.filter_eq_nil_iff] at h
  have := h i (List.mem_range.2 hi)
  simpa using this
theorem getD_setL {listed : Array Bool} {i j : Nat} (d : Bool) : (listed.setIfInBounds i true).getD j d = if i = j ∧ i < listed.size then true else listed.getD j d := by
  simp only [Array.getD_eq_getD_getElem?, Array.getElem?_setIfInBounds]
  by_cases h : i = j
  · subst h
    by_cases hs : i < listed.size
    · simp [hs]
    · simp [hs]
  · simp [h]
theorem cnt_set {p q : Nat → Bool} {i : Nat} (hp : p i = true) (hq : q i = false) (hne : ∀ j, j ≠ i → q j = p j) : ∀ n, ((List.range n).filter q).length + (if i < n then 1 else 0) = ((List.range n).filter p).length
  | 0 => by simp
  | n + 1 => by
    have ih := cnt_set hp hq hne n
    rw [List.range_succ, List.filter_append, List.filter_append, List.length_append, List.length_append]
    have hs : ∀ r : Nat → Bool, (List.filter r [n]).length = if r n = true then 1 else 0 := fun r => by
      simp only [List.filter_cons, List.filter_nil]
      by_cases h : r n = true
      · rw [if_pos h, if_pos h]; rfl
      · rw [if_neg h, if_neg h]; rfl
    rw [hs q, hs p]
    by_cases e : n = i
    · subst e
      rw [if_neg (Nat.lt_irrefl n)] at ih
      have h1 : n < n + 1 := Nat.lt_succ_self n
      rw [hp, hq, if_pos h1]
      simp only [if_true, Bool.false_eq_true, if_false]
      omega
    · rw [hne n e]
      have h : (if i < n + 1 then 1 else 0) = (if i < n then 1 else 0) := by
        by_cases h : i < n
        · have h1 : i < n + 1 := by omega
          rw [if_pos h, if_pos h1]
        · have h1 : ¬ i < n + 1 := by omega
          rw [if_neg h, if_neg h1]
      rw [h]
      omega
theorem filter_set {listed : Array Bool} {i : Nat} (hs : i < listed.size) (hu : listed.getD i true = false) (n : Nat) : ((List.range n).filter fun j => !(listed.setIfInBounds i true).getD j true).length + (if i < n then 1 else 0) = ((List.range n).filter fun j => !listed.getD j true).length :=
  cnt_set (i := i) (by rw [hu]; rfl) (by rw [getD_setL, if_pos ⟨rfl, hs⟩]; rfl) (fun j hj => by rw [getD_setL, if_neg (fun h => hj h.1.symm)]) n

/-- The law. -/
theorem wpAny_inv (Inv : Array Bool → Act → World → Prop) (hback : backB md ops = true)
    (hstep : ∀ (listed : Array Bool) (a : Act) (w : World) (i : Nat) (o : Oper), ops[i]? = some o → listed.size = ops.size → listed.getD i true = false → (∀ e ∈ o.after, Region.binds md e = true → listed.getD e.on false = true) →
      Inv listed a w → wpOp P ops Q i (Inv (listed.setIfInBounds i true)) a w)
    (hend : ∀ (listed : Array Bool) (a : Act) (w : World), (∀ i, i < ops.size → listed.getD i true = true) → Inv listed a w → Q .normal a w) :
    ∀ (fuel : Nat) (listed : Array Bool) (a : Act) (w : World), listed.size = ops.size → leftN listed ops.size = fuel → Inv listed a w → wpAny P md ops Q fuel listed a w
  | 0, listed, a, w, hs, hl, hi => by
    have hall := leftN_zero hl
    refine ⟨?_, hend listed a w hall hi⟩
    rw [List.eq_nil_iff_forall_not_mem]
    intro j hj
    obtain ⟨h1, o, ho, _⟩ := mem_ready.1 hj
    rw [hall j (Array.getElem?_eq_some_iff.1 ho).1] at h1
    cases h1
  | fuel + 1, listed, a, w, hs, hl, hi => by
    refine ⟨fun h0 => ?_, fun i him => ?_⟩
    · exfalso
      have hex : ∃ i, i < ops.size ∧ listed.getD i true = false := by
        have hne : ((List.range ops.size).filter fun i => !listed.getD i true) ≠ [] := fun h => by unfold leftN at hl; rw [h] at hl; cases hl
        obtain ⟨i, him⟩ := List.exists_mem_of_ne_nil _ hne
        rw [List.mem_filter, List.mem_range] at him
        exact ⟨i, him.1, by simpa using him.2⟩
      -- the first of them is ready
      have hmin : ∃ i, i < ops.size ∧ listed.getD i true = false ∧ ∀ j, j < i → listed.getD j true = true := by
        obtain ⟨i, hi1, hi2⟩ := hex
        induction i using Nat.strongRecOn with
        | _ i ih =>
          by_cases h : ∃ j, j < i ∧ listed.getD j true = false
          · obtain ⟨j, hj, hj2⟩ := h
            exact ih j hj (by omega) hj2
          · refine ⟨i, hi1, hi2, fun j hj => ?_⟩
            cases hq : listed.getD j true with
            | true => rfl
            | false => exact absurd ⟨j, hj, hq⟩ h
      obtain ⟨i, hi1, hi2, hi3⟩ := hmin
      obtain ⟨o, ho⟩ : ∃ o, ops[i]? = some o := ⟨_, Array.getElem?_eq_getElem hi1⟩
      have : i ∈ Region.ready md ops listed := mem_ready.2 ⟨hi2, o, ho, fun e he hb => by
        have hlt := backB_at hback ho e he hb
        have h1 := hi3 e.on hlt
        have hb2 : e.on < listed.size := by rw [hs]; omega
        simp only [Array.getD_eq_getD_getElem?, Array.getElem?_eq_getElem hb2, Option.getD_some] at h1 ⊢
        exact h1⟩
      rw [h0] at this
      cases this
    · obtain ⟨hu, o, ho, hdep⟩ := mem_ready.1 him
      have hlt : i < ops.size := (Array.getElem?_eq_some_iff.1 ho).1
      refine wpOp_mono (fun a' w' h => wpAny_inv Inv hback hstep hend fuel _ a' w' (by simpa using hs) ?_ h) (hstep listed a w i o ho hs hu hdep hi)
      have := filter_set (listed := listed) (i := i) (by omega) hu ops.size
      rw [if_pos hlt] at this
      unfold leftN at hl ⊢
      omega

/-- The same for the region as it stands. -/
theorem wp_region_inv {id : Nat} {a : Act} {w : World} (Inv : Array Bool → Act → World → Prop) (hm : P.follows .mixedOrders = true) (hback : backB .any ops = true)
    (h0 : Inv (Array.replicate ops.size false) a w.drew)
    (hstep : ∀ (listed : Array Bool) (a : Act) (w : World) (i : Nat) (o : Oper), ops[i]? = some o → listed.size = ops.size → listed.getD i true = false → (∀ e ∈ o.after, Region.binds .any e = true → listed.getD e.on false = true) →
      Inv listed a w → wpOp P ops Q i (Inv (listed.setIfInBounds i true)) a w)
    (hend : ∀ (listed : Array Bool) (a : Act) (w : World), (∀ i, i < ops.size → listed.getD i true = true) → Inv listed a w → Q .normal a w) : (Code.region id ops true).wp P Q a w := by
  refine wp_region_any hm (wpAny_inv Inv hback hstep hend _ _ a _ (by simp) ?_ h0)
  unfold leftN
  have : ((List.range ops.size).filter fun i => !(Array.replicate ops.size false).getD i true) = List.range ops.size := by
    rw [List.filter_eq_self]
    intro i hi
    rw [List.mem_range] at hi
    simp [Array.getD_eq_getD_getElem?, hi]
  rw [this, List.length_range]
end

/-! Steps in whatever order. -/
def foldS (S : Nat → Bool) : Nat → List Step → St → St
  | _, [], s => s
  | k, r :: l, s => foldS S (k + 1) l (if S k then ap r s else s)

def noneIn : List Nat → List Nat → Bool
  | [], _ => true
  | x :: l, m => !hasN m x && noneIn l m
theorem noneIn_at : ∀ {l m : List Nat}, noneIn l m = true → ∀ i, i ∈ l → i ∉ m
  | x :: l, m, h, i, hi, hm => by
    simp only [noneIn, Bool.and_eq_true, Bool.not_eq_true'] at h
    cases hi with
    | head => have := hasN_iff.2 hm; rw [h.1] at this; cases this
    | tail _ hi => exact noneIn_at h.2 i hi hm
def dstL (r : Step) : List Nat := match r.dst with | some d => [d] | none => []
/-- Two steps have nothing to do with each other. -/
def indep (r q : Step) : Bool := noneIn (dstL r) (dstL q) && noneIn (dstL r) q.looks && noneIn (dstL q) r.looks && noneIn r.bk q.sel && noneIn r.bk q.bk && noneIn q.bk r.sel
/-- A step by itself. -/
def sound1 (n0 n : Nat) (r : Step) : Bool := distinct r.bk && distinct r.sel && allLt n r.bk && decide (r.bk.length ≤ r.os.length) && (r.bk.isEmpty || r.bk.take r.sel.length == r.sel) && (r.bk.drop r.sel.length).all fun i => decide (n0 ≤ i)

theorem setN_get {α : Type} (l : List α) (i : Nat) (y : α) (j : Nat) : (setN l i y)[j]? = if i = j then (l[j]?).map fun _ => y else l[j]? := by
  rw [setN_eq, List.getElem?_set]
  by_cases e : i = j
  · subst e
    rw [if_pos rfl, if_pos rfl]
    by_cases h : i < l.length
    · rw [if_pos h, List.getElem?_eq_getElem h]; rfl
    · rw [if_neg h, List.getElem?_eq_none (by omega)]; rfl
  · rw [if_neg e, if_neg e]
theorem putBack_get (m : Nat → Option Nat) : ∀ (bk : List Nat) (os hp : List Ob), bk.length ≤ os.length → distinct bk = true → ∀ i : Nat, (putBack m bk os hp)[i]? = match idx bk i with | some k => (hp[i]?).map (fun _ => renO m (os.getD k .none)) | none => hp[i]?
  | [], os, hp, _, _, i => rfl
  | j :: bk, [], hp, hl, _, i => absurd hl (by simp)
  | j :: bk, o :: os, hp, hl, hd, i => by
    simp only [distinct, Bool.and_eq_true] at hd
    simp only [putBack]
    rw [putBack_get m bk os _ (by simpa using hl) hd.2 i, setN_get]
    by_cases e : j = i
    · subst e
      have hno : idx bk j = none := by
        cases h : idx bk j with
        | none => rfl
        | some q => rw [h] at hd; cases hd.1
      simp only [hno, if_true, idx]
      rfl
    · simp only [if_neg e, idx]
      cases h : idx bk i with
      | none => rfl
      | some q => simp
theorem ap_env (r : Step) (s : St) (t : Nat) : (ap r s).env[t]? = if r.dst = some t then (s.env[t]?).map fun _ => r.val else s.env[t]? := by
  unfold ap St.put
  cases e : r.dst with
  | none => simp
  | some d =>
    simp only [setN_get]
    by_cases h : d = t
    · subst h; simp
    · rw [if_neg h, if_neg (fun k => h (Option.some.inj k))]
theorem ap_hp {r : Step} (hl : r.bk.length ≤ r.os.length) (hd : distinct r.bk = true) (s : St) (i : Nat) : (ap r s).hp[i]? = match idx r.bk i with | some k => (s.hp[i]?).map (fun _ => renO (toGlob r.bk) (r.os.getD k .none)) | none => s.hp[i]? := by
  have : (ap r s).hp = putBack (toGlob r.bk) r.bk r.os s.hp := by unfold ap St.put; cases r.dst <;> rfl
  rw [this]
  exact putBack_get _ _ _ _ hl hd i
theorem ap_base (r : Step) (s : St) : (ap r s).base = s.base := by unfold ap St.put; cases r.dst <;> rfl
theorem st_ext {s s' : St} (h1 : ∀ t : Nat, s.env[t]? = s'.env[t]?) (h2 : ∀ i : Nat, s.hp[i]? = s'.hp[i]?) (h3 : s.base = s'.base) : s = s' := by
  obtain ⟨e, h, b⟩ := s
  obtain ⟨e', h', b'⟩ := s'
  simp only at h1 h2 h3
  rw [List.ext_getElem? h1, List.ext_getElem? h2, h3]
theorem idx_none_of {l : List Nat} {i : Nat} (h : i ∉ l) : idx l i = none := by
  cases e : idx l i with
  | none => rfl
  | some k => exact absurd (List.mem_of_getElem? (idx_at e)) h
theorem idx_mem {l : List Nat} {i k : Nat} (h : idx l i = some k) : i ∈ l := List.mem_of_getElem? (idx_at h)

theorem ap_comm {r q : Step} (hr : r.bk.length ≤ r.os.length) (hrd : distinct r.bk = true) (hq : q.bk.length ≤ q.os.length) (hqd : distinct q.bk = true) (hi : indep r q = true) (s : St) : ap q (ap r s) = ap r (ap q s) := by
  simp only [indep, Bool.and_eq_true] at hi
  obtain ⟨⟨⟨⟨⟨i1, _⟩, _⟩, _⟩, i5⟩, _⟩ := hi
  refine st_ext (fun t => ?_) (fun i => ?_) (by simp only [ap_base])
  · simp only [ap_env]
    by_cases h1 : r.dst = some t
    · have h2 : q.dst ≠ some t := fun h2 => noneIn_at i1 t (by simp [dstL, h1]) (by simp [dstL, h2])
      simp only [h1, if_true, if_neg h2]
    · simp only [if_neg h1]
  · simp only [ap_hp hr hrd, ap_hp hq hqd]
    cases h1 : idx r.bk i with
    | none => rfl
    | some k =>
      have h2 : idx q.bk i = none := idx_none_of (noneIn_at i5 i (idx_mem h1))
      simp only [h2]

theorem foldS_ap {S : Nat → Bool} {r : Step} (hr : r.bk.length ≤ r.os.length) (hrd : distinct r.bk = true) : ∀ (l : List Step) (k : Nat) (s : St), (∀ (j : Nat) (q : Step), l[j]? = some q → q.bk.length ≤ q.os.length ∧ distinct q.bk = true) → (∀ (j : Nat) (q : Step), l[j]? = some q → S (k + j) = true → indep r q = true) →
    foldS S k l (ap r s) = ap r (foldS S k l s)
  | [], k, s, _, _ => rfl
  | q :: l, k, s, hw, hi => by
    simp only [foldS]
    have h1 := hw 0 q rfl
    have ih := fun s => foldS_ap (S := S) hr hrd l (k + 1) s (fun j q h => hw (j + 1) q h) (fun j q h e => hi (j + 1) q h (by rw [show k + (j + 1) = k + 1 + j by omega]; exact e))
    cases e : S k with
    | false => simp only [Bool.false_eq_true, if_false]; exact ih s
    | true =>
      simp only [if_true]
      rw [ap_comm hr hrd h1.1 h1.2 (hi 0 q rfl e)]
      exact ih _
theorem foldS_congr {S S' : Nat → Bool} : ∀ (l : List Step) (k : Nat) (s : St), (∀ j, k ≤ j → S j = S' j) → foldS S k l s = foldS S' k l s
  | [], _, _, _ => rfl
  | r :: l, k, s, h => by simp only [foldS, h k (Nat.le_refl k)]; exact foldS_congr l (k + 1) _ fun j hj => h j (by omega)
/-- One step more: done last or in its place. -/
theorem foldS_more {S : Nat → Bool} {i : Nat} {r : Step} (hS : S i = false) : ∀ (l : List Step) (k : Nat) (s : St), k ≤ i → l[i - k]? = some r → (∀ (j : Nat) (q : Step), l[j]? = some q → q.bk.length ≤ q.os.length ∧ distinct q.bk = true) →
    (∀ (j : Nat) (q : Step), l[j]? = some q → i < k + j → S (k + j) = true → indep r q = true) → foldS (fun j => S j || j == i) k l s = ap r (foldS S k l s)
  | [], k, s, _, h, _, _ => by cases h
  | q :: l, k, s, hk, h, hw, hi => by
    by_cases e : k = i
    · subst e
      rw [Nat.sub_self] at h
      have hqr : q = r := Option.some.inj h
      subst hqr
      simp only [foldS, hS, Bool.false_or, beq_self_eq_true, if_true, Bool.false_eq_true, if_false]
      have h0 := hw 0 q rfl
      rw [foldS_congr (S' := S) l (k + 1) _ fun j hj => by
        have : (j == k) = false := by simp; omega
        simp [this]]
      exact foldS_ap h0.1 h0.2 l (k + 1) s (fun j q h => hw (j + 1) q h) (fun j q h e => hi (j + 1) q h (by omega) (by rw [show k + (j + 1) = k + 1 + j by omega]; exact e))
    · have hne : (k == i) = false := by simp [e]
      simp only [foldS, hne, Bool.or_false]
      refine foldS_more hS l (k + 1) _ (by omega) ?_ (fun j q h => hw (j + 1) q h) (fun j q h e1 e2 => hi (j + 1) q h (by omega) (by rw [show k + (j + 1) = k + 1 + j by omega]; exact e2))
      rw [show i - k = i - (k + 1) + 1 by omega] at h
      exact h
/-- Where the orders part, a slot that isn't written, a block that isn't written, is the same. -/
theorem foldS_env {S S' : Nat → Bool} {t : Nat} : ∀ (l : List Step) (k : Nat) (s s' : St), s.env[t]? = s'.env[t]? → (∀ (j : Nat) (q : Step), l[j]? = some q → S (k + j) ≠ S' (k + j) → q.dst ≠ some t) → (foldS S k l s).env[t]? = (foldS S' k l s').env[t]?
  | [], k, s, s', h, _ => h
  | q :: l, k, s, s', h, hd => by
    simp only [foldS]
    refine foldS_env l (k + 1) _ _ ?_ (fun j q h e => hd (j + 1) q h (by rw [show k + (j + 1) = k + 1 + j by omega]; exact e))
    cases e1 : S k <;> cases e2 : S' k <;> simp only [if_true, Bool.false_eq_true, if_false, ap_env]
    · exact h
    · rw [if_neg (hd 0 q rfl (by rw [Nat.add_zero, e1, e2]; decide))]; exact h
    · rw [if_neg (hd 0 q rfl (by rw [Nat.add_zero, e1, e2]; decide))]; exact h
    · rw [h]
theorem foldS_hp {S S' : Nat → Bool} {i : Nat} : ∀ (l : List Step) (k : Nat) (s s' : St), s.hp[i]? = s'.hp[i]? → (∀ (j : Nat) (q : Step), l[j]? = some q → q.bk.length ≤ q.os.length ∧ distinct q.bk = true) → (∀ (j : Nat) (q : Step), l[j]? = some q → S (k + j) ≠ S' (k + j) → i ∉ q.bk) → (foldS S k l s).hp[i]? = (foldS S' k l s').hp[i]?
  | [], k, s, s', h, _, _ => h
  | q :: l, k, s, s', h, hw, hd => by
    simp only [foldS]
    have hq := hw 0 q rfl
    refine foldS_hp l (k + 1) _ _ ?_ (fun j q h => hw (j + 1) q h) (fun j q h e => hd (j + 1) q h (by rw [show k + (j + 1) = k + 1 + j by omega]; exact e))
    cases e1 : S k <;> cases e2 : S' k <;> simp only [if_true, Bool.false_eq_true, if_false, ap_hp hq.1 hq.2]
    · exact h
    · rw [idx_none_of (hd 0 q rfl (by rw [Nat.add_zero, e1, e2]; decide))]; exact h
    · rw [idx_none_of (hd 0 q rfl (by rw [Nat.add_zero, e1, e2]; decide))]; exact h
    · rw [h]
theorem foldS_len {S : Nat → Bool} : ∀ (l : List Step) (k : Nat) (s : St), (foldS S k l s).env.length = s.env.length ∧ (foldS S k l s).hp.length = s.hp.length ∧ (foldS S k l s).base = s.base
  | [], _, _ => ⟨rfl, rfl, rfl⟩
  | q :: l, k, s => by
    simp only [foldS]
    obtain ⟨h1, h2, h3⟩ := foldS_len (S := S) l (k + 1) (if S k then ap q s else s)
    rw [h1, h2, h3]
    cases S k with
    | false => exact ⟨rfl, rfl, rfl⟩
    | true =>
      simp only [if_true, ap_base]
      unfold ap St.put
      cases q.dst <;> simp [setN_eq, putBack_len]
end Go.Proofs.De

namespace Go.Proofs.De
open Go.RowKit

def befOf (acc : List (List Nat)) : List Edge → List Nat
  | [] => []
  | e :: l => if Region.binds .any e then e.on :: (acc.getD e.on [] ++ befOf acc l) else befOf acc l
def befs : List Oper → List (List Nat) → List (List Nat)
  | [], acc => acc
  | o :: r, acc => befs r (acc ++ [befOf acc o.after.toList])
theorem befOf_mem {acc : List (List Nat)} : ∀ {l : List Edge} {i : Nat}, i ∈ befOf acc l → ∃ e, e ∈ l ∧ Region.binds .any e = true ∧ (i = e.on ∨ i ∈ acc.getD e.on [])
  | e :: l, i, h => by
    simp only [befOf] at h
    split at h
    · rename_i hb
      simp only [List.mem_cons, List.mem_append] at h
      rcases h with h | h | h
      · exact ⟨e, List.mem_cons_self, hb, .inl h⟩
      · exact ⟨e, List.mem_cons_self, hb, .inr h⟩
      · obtain ⟨e', h1, h2⟩ := befOf_mem h; exact ⟨e', List.mem_cons_of_mem _ h1, h2⟩
    · obtain ⟨e', h1, h2⟩ := befOf_mem h; exact ⟨e', List.mem_cons_of_mem _ h1, h2⟩
theorem befs_closed {S : Nat → Bool} : ∀ (l : List Oper) (acc : List (List Nat)), (∀ (j : Nat) (o : Oper), l[j]? = some o → S (acc.length + j) = true → ∀ e ∈ o.after, Region.binds .any e = true → S e.on = true) →
    (∀ (j : Nat) (m : List Nat), acc[j]? = some m → S j = true → ∀ i ∈ m, S i = true) → ∀ (j : Nat) (m : List Nat), (befs l acc)[j]? = some m → S j = true → ∀ i ∈ m, S i = true
  | [], acc, _, h2 => h2
  | o :: r, acc, h1, h2 => by
    refine befs_closed r _ (fun j o' h e => h1 (j + 1) o' h (by simpa [Nat.add_assoc, Nat.add_comm 1] using e)) ?_
    intro j m hj hS i hi
    rw [List.getElem?_append] at hj
    split at hj
    · exact h2 j m hj hS i hi
    · rename_i hlt
      have hjl : j = acc.length := by
        have := (List.getElem?_eq_some_iff.1 hj).1
        simp at this; omega
      subst hjl
      rw [Nat.sub_self] at hj
      cases hj
      obtain ⟨e, k1, k2, k3⟩ := befOf_mem hi
      have hSe := h1 0 o rfl (by simpa using hS) e (by simpa using k1) k2
      rcases k3 with rfl | k3
      · exact hSe
      · cases hm : acc[e.on]? with
        | none => simp [List.getD, hm] at k3
        | some m' => exact h2 e.on m' hm hSe i (by simpa [List.getD, hm] using k3)
theorem befs_len : ∀ (l : List Oper) (acc : List (List Nat)), (befs l acc).length = acc.length + l.length
  | [], acc => rfl
  | o :: r, acc => by simp only [befs, befs_len r, List.length_append, List.length_cons, List.length_nil]; omega

def backE (i : Nat) : List Edge → Bool
  | [] => true
  | e :: l => (!Region.binds .any e || decide (e.on < i)) && backE i l
def backO : Nat → List Oper → Bool
  | _, [] => true
  | i, o :: l => backE i o.after.toList && backO (i + 1) l
theorem backE_at {i : Nat} : ∀ {l : List Edge}, backE i l = true → ∀ e ∈ l, (!Region.binds .any e || decide (e.on < i)) = true
  | e :: l, h, e', he => by
    simp only [backE, Bool.and_eq_true] at h
    cases he with
    | head => exact h.1
    | tail _ he => exact backE_at h.2 e' he
theorem backO_at : ∀ {l : List Oper} {k j : Nat} {o : Oper}, backO k l = true → l[j]? = some o → backE (k + j) o.after.toList = true
  | [], k, j, o, _, h => by cases h
  | x :: l, k, 0, o, h1, h => by simp only [backO, Bool.and_eq_true] at h1; cases h; exact h1.1
  | x :: l, k, j + 1, o, h1, h => by
    simp only [backO, Bool.and_eq_true] at h1
    have := backO_at h1.2 h
    rwa [show k + 1 + j = k + (j + 1) by omega] at this
theorem backO_ok {ops : Array Oper} (h : backO 0 ops.toList = true) : backB .any ops = true := by
  unfold backB
  rw [List.all_eq_true]
  intro i hi
  rw [List.mem_range] at hi
  rw [Array.getElem?_eq_getElem hi]
  simp only [Option.map_some, Option.getD_some]
  rw [Array.all_eq_true']
  intro e he
  have := backO_at (j := i) (o := ops[i]) h (by rw [Array.getElem?_toList, Array.getElem?_eq_getElem hi])
  rw [Nat.zero_add] at this
  exact backE_at this e (by simpa using he)

def news (r : Step) : List Nat := r.bk.drop r.sel.length
def pairOK (bs : List (List Nat)) (steps : List Step) (i j : Nat) : Bool :=
  match steps[i]?, steps[j]?, bs[i]? with
  | some r, some q, some b => (hasN b j || indep q r) && noneIn (news r) q.bk
  | _, _, _ => false
def chk (n0 n : Nat) (ops : Array Oper) (steps : List Step) : Bool :=
  backO 0 ops.toList && decide (steps.length = ops.toList.length) && steps.all (sound1 n0 n) && (List.range ops.toList.length).all fun i => (List.range i).all fun j => pairOK (befs ops.toList []) steps i j

section
variable {X : Cx} {ops : Array Oper} {steps : List Step} {n0 n : Nat}

structure Chk (n0 n : Nat) (ops : Array Oper) (steps : List Step) : Prop where
  back : backB .any ops = true
  len : steps.length = ops.size
  one : ∀ (i : Nat) (r : Step), steps[i]? = some r → sound1 n0 n r = true
  pair : ∀ (i j : Nat) (r q : Step), j < i → steps[i]? = some r → steps[j]? = some q → (∃ b, (befs ops.toList [])[i]? = some b ∧ (j ∈ b ∨ indep q r = true)) ∧ noneIn (news r) q.bk = true
theorem chk_ok (h : chk n0 n ops steps = true) : Chk n0 n ops steps := by
  simp only [chk, Bool.and_eq_true, decide_eq_true_eq, List.all_eq_true] at h
  obtain ⟨⟨⟨h1, h2⟩, h3⟩, h4⟩ := h
  simp only [Array.length_toList] at h2 h4
  refine ⟨backO_ok h1, h2, fun i r hi => h3 r (List.mem_of_getElem? hi), fun i j r q hij hi hj => ?_⟩
  have hlt : i < ops.size := by rw [← h2]; exact (List.getElem?_eq_some_iff.1 hi).1
  have := h4 i (List.mem_range.2 hlt) j (List.mem_range.2 hij)
  unfold pairOK at this
  rw [hi, hj] at this
  cases hb : (befs ops.toList [])[i]? with
  | none => rw [hb] at this; cases this
  | some b =>
    rw [hb] at this
    simp only [Bool.and_eq_true, Bool.or_eq_true] at this
    exact ⟨⟨b, rfl, this.1.imp hasN_iff.1 id⟩, this.2⟩

theorem keep_same {looks : List Tmp} {l l' : List AV} (hl : l.length = l'.length) (h : ∀ t, t ∈ looks → l[t]? = l'[t]?) : keepE looks 0 l = keepE looks 0 l' := by
  apply List.ext_getElem?
  intro t
  rw [keepE_at, keepE_at, Nat.zero_add]
  by_cases ht : hasN looks t = true
  · rw [h t (hasN_iff.1 ht)]
  · simp only [ht]
    by_cases hlt : t < l.length
    · rw [List.getElem?_eq_getElem hlt, List.getElem?_eq_getElem (by omega)]; rfl
    · rw [List.getElem?_eq_none (by omega), List.getElem?_eq_none (by omega)]
theorem renOs_same {m : Nat → Option Nat} {hp hp' : List Ob} : ∀ {l : List Nat}, (∀ i ∈ l, hp[i]? = hp'[i]?) → renOs m hp l = renOs m hp' l
  | [], _ => rfl
  | x :: l, h => by
    simp only [renOs, h x List.mem_cons_self, renOs_same (l := l) fun i hi => h i (List.mem_cons_of_mem _ hi)]

theorem draw_sound {id : Nat} {Q : Exit → St → Prop} {s : St} (N : Nat) (hm : X.P.follows .mixedOrders = true) (hc : chk s.hp.length (s.hp.length + N) ops steps = true)
    (hst : ∀ (i : Nat) (o : Oper) (r : Step), ops[i]? = some o → steps[i]? = some r → r.looks = looksOf ops o ∧ StepOK X ops o r (foldS (fun j => decide (j < i)) 0 steps { s with hp := s.hp ++ List.replicate N .none }))
    (hQ : Q .normal (foldS (fun _ => true) 0 steps { s with hp := s.hp ++ List.replicate N .none })) : CodeOK X (.region id ops true) Q s := by
  obtain ⟨hback, hlen, hone, hpair⟩ := chk_ok hc
  rintro B a w ⟨ρ, hr⟩
  have hwell : ∀ (j : Nat) (q : Step), steps[j]? = some q → q.bk.length ≤ q.os.length ∧ distinct q.bk = true := fun j q h => by
    have := hone j q h
    simp only [sound1, Bool.and_eq_true, decide_eq_true_eq] at this
    exact ⟨this.1.1.2, this.1.1.1.1.1⟩
  -- the relation between two operations
  let S : Array Bool → Nat → Bool := fun listed i => listed.getD i false
  let s0 : St := { s with hp := s.hp ++ List.replicate N .none }
  let Closed : (Nat → Bool) → Prop := fun S => ∀ (j : Nat) (o : Oper), ops[j]? = some o → S j = true → ∀ e ∈ o.after, Region.binds .any e = true → S e.on = true
  have hbef : ∀ S : Nat → Bool, Closed S → ∀ (i j : Nat) (b : List Nat), (befs ops.toList [])[i]? = some b → S i = true → j ∈ b → S j = true := fun S hS i j b hb hi hj =>
    befs_closed ops.toList [] (fun j o h e => hS j o (by simpa using h) (by simpa using e)) (fun j m h => by cases h) i b hb hi j hj
  refine wp_region_inv (fun listed a w => ∃ ρ, RelAt X B ρ (foldS (S listed) 0 steps s0) a w ∧ listed.size = ops.size ∧ (∀ (i : Nat) (r : Step), steps[i]? = some r → S listed i = false → ∀ id ∈ news r, ρ id = none) ∧ Closed (S listed)) hm hback ?_ ?_ ?_
  · obtain ⟨k1, k2⟩ := hr.hp.mores N
    have hS : S (Array.replicate ops.size false) = fun _ => false := funext fun i => by
      simp only [S, Array.getD_eq_getD_getElem?]
      by_cases h : i < ops.size
      · simp [h]
      · simp [h]
    have hf : ∀ (l : List Step) (k : Nat) (s : St), foldS (fun _ => false) k l s = s := by
      intro l
      induction l with
      | nil => intro k s; rfl
      | cons q l ih => intro k s; simp only [foldS, Bool.false_eq_true, if_false]; exact ih _ _
    refine ⟨ρ, ?_, by simp, ?_, ?_⟩
    · rw [hS, hf]
      have hh := (k1.same (w' := w.drew) rfl)
      have ht : Tr w (Own ρ s.hp) w.drew (Own ρ s0.hp) := ⟨rfl, rfl, rfl, Nat.le_refl _, fun b _ hn => ⟨rfl, by rw [k2]; exact hn⟩⟩
      exact hr.step hh ht (Rho.le.refl ρ)
    · intro i r hi _ id hid
      have := hone i r hi
      simp only [sound1, Bool.and_eq_true, List.all_eq_true, decide_eq_true_eq] at this
      exact hr.hp.free id (this.2 id hid)
    · rw [hS]; intro j o _ h; cases h
  · rintro listed a w i o ho hsz hun hdep ⟨ρ, hrel, _, hnew, hcl⟩
    have hi : i < ops.size := (Array.getElem?_eq_some_iff.1 ho).1
    have hil : i < steps.length := by rw [hlen]; exact hi
    obtain ⟨r, hri⟩ : ∃ r, steps[i]? = some r := ⟨_, List.getElem?_eq_getElem hil⟩
    obtain ⟨hlook, hok⟩ := hst i o r ho hri
    have hSi : S listed i = false := by
      simp only [S, Array.getD_eq_getD_getElem?] at hun ⊢
      have hb2 : i < listed.size := by rw [hsz]; exact hi
      rw [Array.getElem?_eq_getElem hb2] at hun ⊢
      exact hun
    -- who is done and who isn't, but for order, have nothing to do with it
    have hind : ∀ (j : Nat) (q : Step), steps[j]? = some q → S listed j ≠ decide (j < i) → (∀ t, t ∈ r.looks → q.dst ≠ some t) ∧ (∀ id, id ∈ r.sel → id ∉ q.bk) := by
      intro j q hq hne
      have hji : j ≠ i := by rintro rfl; rw [hSi] at hne; simp at hne
      have both : (indep q r = true ∨ indep r q = true) := by
        by_cases hlt : j < i
        · have hSj : S listed j = false := by
            cases h : S listed j with
            | false => rfl
            | true => rw [h] at hne; simp [hlt] at hne
          obtain ⟨⟨b, hb, hp⟩, _⟩ := hpair i j r q hlt hri hq
          rcases hp with hp | hp
          · exfalso
            -- all that are ahead of it are done
            let S' : Nat → Bool := fun k => S listed k || k == i
            have hcl' : Closed S' := by
              intro k o' hk hS' e he hbind
              simp only [S', Bool.or_eq_true, beq_iff_eq] at hS' ⊢
              rcases hS' with h | rfl
              · exact .inl (hcl k o' hk h e he hbind)
              · rw [ho] at hk; cases hk
                exact .inl (hdep e he hbind)
            have := hbef S' hcl' i j b hb (by simp [S']) hp
            simp only [S', Bool.or_eq_true, beq_iff_eq, hSj] at this
            rcases this with h | h
            · cases h
            · exact hji h
          · exact .inl hp
        · have hSj : S listed j = true := by
            cases h : S listed j with
            | true => rfl
            | false => rw [h] at hne; simp [hlt] at hne
          obtain ⟨⟨b, hb, hp⟩, _⟩ := hpair j i q r (by omega) hq hri
          rcases hp with hp | hp
          · have := hbef (S listed) hcl j i b hb hSj hp
            rw [hSi] at this; cases this
          · exact .inr hp
      rcases both with hb | hb
      · simp only [indep, Bool.and_eq_true] at hb
        obtain ⟨⟨⟨⟨⟨_, h2⟩, _⟩, h4⟩, _⟩, _⟩ := hb
        exact ⟨fun t ht hd => noneIn_at h2 t (by simp [dstL, hd]) ht, fun id hid hbk => noneIn_at h4 id hbk hid⟩
      · simp only [indep, Bool.and_eq_true] at hb
        obtain ⟨⟨⟨⟨⟨_, _⟩, h3⟩, _⟩, _⟩, h6⟩ := hb
        exact ⟨fun t ht hd => noneIn_at h3 t (by simp [dstL, hd]) ht, fun id hid hbk => noneIn_at h6 id hbk hid⟩
    have henv : ∀ t, t ∈ r.looks → (foldS (S listed) 0 steps s0).env[t]? = (foldS (fun j => decide (j < i)) 0 steps s0).env[t]? := fun t ht =>
      foldS_env steps 0 s0 s0 rfl fun j q hq hne => (hind j q hq (by simpa using hne)).1 t ht
    have hhp : ∀ id, id ∈ r.sel → (foldS (S listed) 0 steps s0).hp[id]? = (foldS (fun j => decide (j < i)) 0 steps s0).hp[id]? := fun id hid =>
      foldS_hp steps 0 s0 s0 rfl hwell fun j q hq hne => (hind j q hq (by simpa using hne)).2 id hid
    have hl1 := foldS_len (S := S listed) steps 0 s0
    have hl2 := foldS_len (S := fun j => decide (j < i)) steps 0 s0
    have hloc : ∀ M, locSt r.looks r.sel (foldS (S listed) 0 steps s0) M = locSt r.looks r.sel (foldS (fun j => decide (j < i)) 0 steps s0) M := fun M => by
      simp only [locSt]
      rw [keep_same (hl1.1.trans hl2.1.symm) henv, renOs_same hhp]
    have hgd : guardV ops (foldS (S listed) 0 steps s0) o = guardV ops (foldS (fun j => decide (j < i)) 0 steps s0) o := by
      unfold guardV
      cases hg : o.guard with
      | none => rfl
      | some p =>
        obtain ⟨j, want⟩ := p
        cases e1 : ops.toList[j]? with
        | none => simp only [e1]
        | some oj =>
          cases e2 : oj.dst with
          | none => simp only [e1, e2]
          | some d =>
            simp only [e1, e2]
            have : d ∈ r.looks := by rw [hlook]; simp [looksOf, hg, e1, e2]
            rw [nth_eq, nth_eq, henv d this]
    have h1 := hone i r hri
    simp only [sound1, Bool.and_eq_true, Bool.or_eq_true, List.all_eq_true, decide_eq_true_eq, beq_iff_eq] at h1
    obtain ⟨⟨⟨⟨⟨d1, d2⟩, d3⟩, d4⟩, d5⟩, d6⟩ := h1
    refine step_ok ho hok hrel hgd hloc d2 (fun hle => ?_) (fun a' w' ρ' hrel' hsame => ?_)
    · refine ⟨d1, fun k id hk => ?_, fun k id hk hkb => ?_, fun k id hk => ?_⟩
      · rcases d5 with d5 | d5
        · have : r.bk = [] := by simpa using d5
          rw [this] at hle
          have := (List.getElem?_eq_some_iff.1 hk).1
          simp at hle
          rw [hle] at this; simp at this
        · have := (List.getElem?_eq_some_iff.1 hk).1
          rw [← d5, List.getElem?_take, if_pos this] at hk
          exact hk
      · refine hnew i r hri hSi id ?_
        refine List.mem_of_getElem? (i := k - r.sel.length) ?_
        simp only [news, List.getElem?_drop]
        rw [show r.sel.length + (k - r.sel.length) = k by omega]
        exact hkb
      · have := allLt_at d3 hk
        rw [hl1.2.1]
        simp only [s0, List.length_append, List.length_replicate]
        exact this
    · have hS' : S (listed.setIfInBounds i true) = fun j => S listed j || j == i := funext fun j => by
        simp only [S, getD_setL]
        by_cases h : i = j
        · subst h
          rw [if_pos ⟨rfl, by omega⟩]; simp
        · rw [if_neg (fun k => h k.1)]
          have : (j == i) = false := by simp; exact fun k => h k.symm
          simp [this]
      refine ⟨ρ', ?_, by simpa using hsz, ?_, ?_⟩
      · rw [hS', foldS_more hSi steps 0 s0 (Nat.zero_le _) (by simpa using hri) hwell ?_]
        · exact hrel'
        · intro j q hq hij hSj
          rw [Nat.zero_add] at hij hSj
          obtain ⟨⟨b, hb, hp⟩, _⟩ := hpair j i q r hij hq hri
          rcases hp with hp | hp
          · have := hbef (S listed) hcl j i b hb hSj hp
            rw [hSi] at this; cases this
          · exact hp
      · intro j q hq hSj id hid
        rw [hS'] at hSj
        simp only [Bool.or_eq_false_iff, beq_eq_false_iff_ne, ne_eq] at hSj
        rw [hsame id (idx_none_of ?_)]
        · exact hnew j q hq hSj.1 id hid
        · -- a new number of one isn't written by another
          rcases Nat.lt_or_ge i j with hlt | hge
          · exact noneIn_at (hpair j i q r hlt hq hri).2 id hid
          · have hlt : j < i := by omega
            obtain ⟨⟨b, hb, hp⟩, hnn⟩ := hpair i j r q hlt hri hq
            rcases hp with hp | hp
            · exfalso
              let S' : Nat → Bool := fun k => S listed k || k == i
              have hcl' : Closed S' := by
                intro k o' hk hS'' e he hbind
                simp only [S', Bool.or_eq_true, beq_iff_eq] at hS'' ⊢
                rcases hS'' with h | rfl
                · exact .inl (hcl k o' hk h e he hbind)
                · rw [ho] at hk; cases hk
                  exact .inl (hdep e he hbind)
              have := hbef S' hcl' i j b hb (by simp [S']) hp
              simp only [S', Bool.or_eq_true, beq_iff_eq, hSj.1] at this
              rcases this with h | h
              · cases h
              · exact hSj.2 h
            · simp only [indep, Bool.and_eq_true] at hp
              intro hbk
              exact noneIn_at hp.1.2 id (List.mem_of_mem_drop hid) hbk
      · rw [hS']
        intro k o' hk hSk e he hbind
        simp only [Bool.or_eq_true, beq_iff_eq] at hSk ⊢
        rcases hSk with h | rfl
        · exact .inl (hcl k o' hk h e he hbind)
        · rw [ho] at hk; cases hk
          exact .inl (hdep e he hbind)
  · rintro listed a w hall ⟨ρ, hrel, hsz, _, _⟩
    refine ⟨_, hQ, ρ, ?_⟩
    have : foldS (S listed) 0 steps s0 = foldS (fun _ => true) 0 steps s0 := by
      have key : ∀ (l : List Step) (k : Nat) (s : St), k + l.length = ops.size → foldS (S listed) k l s = foldS (fun _ => true) k l s := by
        intro l
        induction l with
        | nil => intro k s _; rfl
        | cons q l ih =>
          intro k s hk
          simp only [List.length_cons] at hk
          have h1 : S listed k = true := by
            have := hall k (by omega)
            simp only [S, Array.getD_eq_getD_getElem?] at this ⊢
            cases hk2 : listed[k]? with
            | none => have := Array.getElem?_eq_none_iff.1 hk2; omega
            | some b => rw [hk2] at this; exact this
          simp only [foldS, h1, if_true]
          exact ih (k + 1) _ (by omega)
      exact key steps 0 s0 (by omega)
    rw [← this]; exact hrel
end
end Go.Proofs.De

namespace Go.Proofs.De
open Go.RowKit

section
variable {P : Program} {s : St} {o : Oper} {K : AV → Prop}

theorem reckonK_det (h : reckonK P s o K) : ∃ c, K c ∧ reckonK P s o fun c' => c' = c := by
  unfold reckonK at h ⊢
  split at h
  · split at h
    · rename_i e; exact ⟨_, h, by rw [if_pos e]⟩
    · exact h.x.elim
  · exact h.x.elim
theorem binK_det {op : BinOp} {x y : Operand} (h : binK P s o op x y K) : ∃ c, K c ∧ binK P s o op x y fun c' => c' = c := by
  unfold binK at h ⊢
  split at h
  · split at h
    · exact ⟨_, h.a, ⟨h.p, rfl⟩⟩
    · exact reckonK_det h
  · split at h
    · exact ⟨_, h.a, ⟨h.p, rfl⟩⟩
    · exact h.x.elim
  · split at h
    · exact ⟨_, h.a, ⟨h.p, rfl⟩⟩
    · exact h.x.elim
  · split at h
    · exact ⟨_, h, rfl⟩
    · exact reckonK_det h
  · split at h
    · exact ⟨_, h, rfl⟩
    · exact reckonK_det h
  · exact reckonK_det h
theorem lenK_det {t : TypeId} {c : AV} (h : lenK P t c K) : ∃ d, K d ∧ lenK P t c fun c' => c' = d := by
  unfold lenK at h ⊢
  split at h
  · exact ⟨_, h.a, ⟨h.p, rfl⟩⟩
  · exact ⟨_, h.a, ⟨h.p, rfl⟩⟩
  · exact ⟨_, h.a, ⟨h.p, rfl⟩⟩
  · exact ⟨_, h.a, ⟨h.p, rfl⟩⟩
  · exact h.x.elim
theorem bounds_det {n : Nat} {lo hi : Option Operand} {F : Nat → Nat → AV} {p : Prop} (h : bounds s n lo hi fun l r => Need p (K (F l r))) : ∃ c, K c ∧ bounds s n lo hi fun l r => Need p (F l r = c) := by
  unfold bounds at h ⊢
  split at h
  · exact ⟨_, h.a.a, ⟨h.p, ⟨h.a.p, rfl⟩⟩⟩
  · exact h.x.elim
theorem bounds_det' {n : Nat} {lo hi : Option Operand} {F : Nat → Nat → AV} (h : bounds s n lo hi fun l r => K (F l r)) : ∃ c, K c ∧ bounds s n lo hi fun l r => F l r = c := by
  unfold bounds at h ⊢
  split at h
  · exact ⟨_, h.a, ⟨h.p, rfl⟩⟩
  · exact h.x.elim
theorem loadC_det {c : Option AV} (h : match c with | some c => K c | none => Stuck "load") : ∃ d, K d ∧ match (generalizing := false) c with | some c => c = d | none => Stuck "load" := by
  cases c with
  | none => exact h.x.elim
  | some c => exact ⟨c, h, rfl⟩

set_option maxHeartbeats 1000000 in
theorem vopK_det (h : vopK P s o K) : ∃ c, K c ∧ vopK P s o fun c' => c' = c := by
  unfold vopK at h ⊢
  split at h
  · exact ⟨_, h, rfl⟩
  · exact ⟨_, h, rfl⟩
  · split at h
    · rename_i b _
      cases b with
      | true => exact ⟨_, h.t rfl, rfl⟩
      | false => exact ⟨_, h.f rfl, rfl⟩
    · exact h.x.elim
  · split at h
    · split at h
      · split at h
        · rw [fN_eq] at h; exact ⟨_, h, by rw [fN_eq]⟩
        · rw [fN_eq] at h; exact ⟨_, h, by rw [fN_eq]⟩
        · rw [fN_eq] at h; exact ⟨_, h, by rw [fN_eq]⟩
        · exact h.x.elim
      · exact h.x.elim
    · exact h.x.elim
  · split at h
    · exact loadC_det h
    · split at h
      · exact loadC_det h
      · exact h.x.elim
    · split at h
      · obtain ⟨h1, ⟨cs, h2, h3⟩⟩ := h
        obtain ⟨d, k1, k2⟩ := loadC_det h3
        exact ⟨d, k1, ⟨h1, ⟨cs, h2, k2⟩⟩⟩
      · obtain ⟨h1, ⟨cs, h2, h3⟩⟩ := h
        obtain ⟨d, k1, k2⟩ := loadC_det h3
        exact ⟨d, k1, ⟨h1, ⟨cs, h2, k2⟩⟩⟩
      · exact h.x.elim
    · exact h.x.elim
  · split at h
    · split at h
      · split at h
        · exact ⟨_, h.a, ⟨h.p, rfl⟩⟩
        · exact ⟨_, h.a, ⟨h.p, rfl⟩⟩
        · exact h.x.elim
      · exact h.x.elim
    · split at h
      · split at h
        · split at h
          · exact ⟨_, h.a, ⟨h.p, rfl⟩⟩
          · exact ⟨_, h.a, ⟨h.p, rfl⟩⟩
          · exact h.x.elim
        · exact h.x.elim
      · exact h.x.elim
  · split at h
    · split at h
      · rename_i e; exact ⟨_, h.a, by rw [if_pos e]; exact ⟨h.p, rfl⟩⟩
      · exact h.x.elim
    · exact h.x.elim
  · split at h
    · split at h
      · exact ⟨_, h, rfl⟩
      · exact h.x.elim
    · exact h.x.elim
  · split at h
    · split at h
      · exact ⟨_, h, rfl⟩
      · exact h.x.elim
    · exact h.x.elim
  · split at h
    · split at h
      · exact ⟨_, h, rfl⟩
      · exact h.x.elim
    · exact h.x.elim
  · split at h
    · exact ⟨_, h, rfl⟩
    · exact ⟨_, h, rfl⟩
    · exact ⟨_, h, rfl⟩
    · exact ⟨_, h, rfl⟩
    · exact h.x.elim
  · split at h
    · split at h
      · rename_i e; exact ⟨_, h, by rw [if_pos e]⟩
      · exact h.x.elim
    · exact h.x.elim
  · split at h
    · split at h
      · rename_i e
        obtain ⟨c, k1, k2⟩ := bounds_det' (F := fun l r => AV.lit (.string (ByteArray.extract _ l r))) h
        exact ⟨c, k1, by rw [if_pos e]; exact k2⟩
      · exact h.x.elim
    · split at h
      · split at h
        · exact bounds_det h
        · exact h.x.elim
      · exact h.x.elim
    · split at h
      · split at h
        · exact bounds_det h
        · exact h.x.elim
      · exact h.x.elim
    · exact h.x.elim
  · split at h
    · exact lenK_det h
    · exact h.x.elim
  · exact binK_det h
  · exact reckonK_det h
  · exact reckonK_det h
  · exact reckonK_det h
  · exact reckonK_det h
  · exact h.x.elim

/-- The others' blocks play no part. -/
theorem opv_hp {e : List AV} {h h' : List Ob} {b : Nat} (x : Operand) : opv ⟨e, h, b⟩ x = opv ⟨e, h', b⟩ x := by cases x <;> rfl
theorem litEnv_hp {e : List AV} {h h' : List Ob} {b : Nat} : litEnv ⟨e, h, b⟩ = litEnv ⟨e, h', b⟩ := funext fun x => by unfold litEnv; rw [opv_hp (h := h) (h' := h')]
theorem allLit_hp {e : List AV} {h h' : List Ob} {b : Nat} : ∀ l, allLit ⟨e, h, b⟩ l = allLit ⟨e, h', b⟩ l
  | [] => rfl
  | x :: l => by simp only [allLit, opv_hp (h := h) (h' := h') x, allLit_hp (h := h) (h' := h') l]
theorem opvs_hp {e : List AV} {h h' : List Ob} {b : Nat} : ∀ l, opvs ⟨e, h, b⟩ l = opvs ⟨e, h', b⟩ l
  | [] => rfl
  | x :: l => by simp only [opvs, opv_hp (h := h) (h' := h') x, opvs_hp (h := h) (h' := h') l]
theorem fillA_hp {pl : Nat → Option (Nat × Nat)} {e : List AV} {h h' : List Ob} {b : Nat} : ∀ ps cs, fillA pl ⟨e, h, b⟩ ps cs = fillA pl ⟨e, h', b⟩ ps cs
  | [], _ => rfl
  | (i, x) :: r, cs => by simp only [fillA, opv_hp (h := h) (h' := h') x, fillA_hp (h := h) (h' := h') r]
theorem at_ext {M M' : Nat → Option Obj} {l : List Ob} {id : Nat} : (∃ k, id = k + 1 ∧ (Ob.ext M :: l)[id]? = (Ob.ext M' :: l)[id]?) ∨ (id = 0) := by
  cases id with
  | zero => exact .inr rfl
  | succ k => exact .inl ⟨k, rfl, rfl⟩
theorem vopK_ext {e : List AV} {l : List Ob} {b : Nat} {M M' : Nat → Option Obj} (h : vopK P ⟨e, .ext M :: l, b⟩ o K) : vopK P ⟨e, .ext M' :: l, b⟩ o K := by
  have h1 := fun x => opv_hp (e := e) (h := Ob.ext M :: l) (h' := .ext M' :: l) (b := b) x
  have h2 := litEnv_hp (e := e) (h := Ob.ext M :: l) (h' := .ext M' :: l) (b := b)
  have h3 := allLit_hp (e := e) (h := Ob.ext M :: l) (h' := .ext M' :: l) (b := b)
  have h4 := opvs_hp (e := e) (h := Ob.ext M :: l) (h' := .ext M' :: l) (b := b)
  have h5 := fun pl => fillA_hp (pl := pl) (e := e) (h := Ob.ext M :: l) (h' := .ext M' :: l) (b := b)
  unfold vopK at h ⊢
  simp only [bounds, binK, reckonK, h1, h2, h3, h4, h5] at h ⊢
  split at h
  all_goals try exact h
  -- a load
  split at h
  · exact h
  · rename_i id g _
    cases id with
    | zero => exact h.x.elim
    | succ k => exact h
  · rename_i id wd j g _
    cases id with
    | zero => exact h.x.elim
    | succ k => exact h
  · exact h.x.elim
end
end Go.Proofs.De

namespace Go.Proofs.De
open Go.RowKit

def idsB : AV → List Nat
  | .bptr id _ => [id]
  | .eptr id _ _ _ => [id]
  | .slc id _ _ _ => [id]
  | _ => []
def idsBs : List AV → List Nat
  | [] => []
  | c :: l => idsB c ++ idsBs l
def idsC : AV → List Nat
  | .fn _ caps => idsBs caps
  | c => idsB c
def idsCs : List AV → List Nat
  | [] => []
  | c :: l => idsC c ++ idsCs l
def idsA : AV → List Nat
  | .agg cs => idsCs cs
  | c => idsC c
def idsAs : List AV → List Nat
  | [] => []
  | c :: l => idsA c ++ idsAs l
def idsV : AV → List Nat
  | .tup vs => idsAs vs
  | c => idsA c
def idsOps (s : St) : List Operand → List Nat
  | [] => []
  | x :: l => idsV (opv s x) ++ idsOps s l
def idsOb : Option Ob → List Nat
  | some (.box cs) => idsCs cs
  | _ => []
/-- All own blocks to which some lead. -/
def reach (hp : List Ob) : Nat → List Nat → List Nat → List Nat
  | 0, _, acc => acc
  | _ + 1, [], acc => acc
  | n + 1, i :: l, acc => if hasN acc i then reach hp n l acc else reach hp n (idsOb hp[i]? ++ l) (acc ++ [i])
def selOf (s : St) (o : Oper) : List Nat := reach s.hp 60 (idsOps s o.op.operands.toList) []
def fNs : List Nat → (List Nat → Prop) → Prop
  | [], K => K []
  | x :: l, K => fN x fun x => fNs l fun l => K (x :: l)
theorem fNs_eq : ∀ (l : List Nat) (K : List Nat → Prop), fNs l K = K l
  | [], _ => rfl
  | x :: l, K => by simp only [fNs, fN_eq, fNs_eq l]
def isHop (s : St) (o : Oper) : Bool :=
  match o.op with
  | .box .. => true
  | .alloc .. => true
  | .store .. => true
  | .buildSlice .. => true
  | .call { callee := .builtin .append, .. } => true
  | .call { callee := .value _, .. } => true
  | .range .. => true
  | .next _ true => true
  | .makeSlice .. => true
  | .index _ x _ => match opv s x with
    | .agg _ => true
    | _ => false
  | .call { callee := .builtin .max, .. } => true
  | .call { callee := .builtin .min, .. } => true
  | .binOp _ _ x y _ => match opv s x, opv s y with
    | .agg _, .agg _ => true
    | _, _ => false
  | .convert _ _ x => match opv s x with
    | .slc _ _ _ _ => true
    | .rslc _ _ _ => true
    | .lit (.string _) => true
    | _ => false
  | _ => false

/-- An operation that changes own blocks: what it gives, and what those that it is shown are then. -/
structure HopK (X : Cx) (s : St) (o : Oper) (looks sel : List Nat) (nx : Nat) (K : Step → Nat → Prop) : Prop where
  x : ∃ c os, (∀ M, aop X (locSt looks sel s M) o fun c' hp' => c' = c ∧ ∃ extra, hp' = .ext M :: (os ++ extra)) ∧ Nat.ble sel.length os.length = true ∧
    K ⟨o.dst, looks, sel, sel ++ upTo nx (os.length - sel.length), os, renV (toGlob (sel ++ upTo nx (os.length - sel.length))) c⟩ (nx + (os.length - sel.length))

theorem HopK.intro {X : Cx} {s : St} {o : Oper} {looks sel : List Nat} {nx : Nat} {K : Step → Nat → Prop} (c : AV) (os : List Ob) (h1 : ∀ M, aop X (locSt looks sel s M) o fun c' hp' => c' = c ∧ ∃ extra, hp' = .ext M :: (os ++ extra)) (h2 : Nat.ble sel.length os.length = true)
    (h3 : K ⟨o.dst, looks, sel, sel ++ upTo nx (os.length - sel.length), os, renV (toGlob (sel ++ upTo nx (os.length - sel.length))) c⟩ (nx + (os.length - sel.length))) : HopK X s o looks sel nx K := ⟨⟨c, os, h1, h2, h3⟩⟩

def drawK (X : Cx) (ops : Array Oper) : List Oper → St → List Step → Nat → (St → List Step → Prop) → Prop
  | [], s, acc, _, K => K s acc.reverse
  | o :: r, s, acc, nx, K => fNs (looksOf ops o) fun looks => guardK ops s o
    (fun s => fNs (selOf s o) fun sel => match isHop s o with
      | true => HopK X s o looks sel nx fun st nx' => fN nx' fun nx' => s.putK (putBack (toGlob st.bk) st.bk st.os s.hp) st.dst st.val fun s' => drawK X ops r s' (st :: acc) nx' K
      | false => vopK X.P (locSt looks sel s fun _ => none) o fun c => f2 (renV (toGlob sel) c) fun c => s.putK s.hp o.dst c fun s' => drawK X ops r s' (⟨o.dst, looks, sel, [], [], c⟩ :: acc) nx K)
    (fun s => s.putK s.hp o.dst (.tup []) fun s' => drawK X ops r s' (⟨o.dst, looks, [], [], [], .tup []⟩ :: acc) nx K)

section
variable {X : Cx} {ops : Array Oper}

theorem guardK_two {s : St} {o : Oper} {yes no : St → Prop} (h : guardK ops s o yes no) : (guardV ops s o = some true ∧ yes s) ∨ (guardV ops s o = some false ∧ no s) := by
  unfold guardK at h
  unfold guardV
  cases hg : o.guard with
  | none => rw [hg] at h; exact .inl ⟨rfl, h⟩
  | some p =>
    obtain ⟨j, want⟩ := p
    rw [hg] at h
    cases e1 : ops.toList[j]? with
    | none => simp only [e1] at h; exact h.x.elim
    | some oj =>
      cases e2 : oj.dst with
      | none => simp only [e1, e2] at h; exact h.x.elim
      | some d =>
        simp only [e1, e2] at h ⊢
        split at h
        · rename_i b e3
          simp only [e3]
          cases hb : (b == want) with
          | true =>
            have := h.t hb
            rw [St.knK_eq (by rw [e3]; revert hb; cases b <;> cases want <;> simp)] at this
            exact .inl ⟨rfl, this⟩
          | false =>
            have := h.f hb
            rw [St.knK_eq (by rw [e3]; revert hb; cases b <;> cases want <;> simp)] at this
            exact .inr ⟨rfl, this⟩
        · rename_i e3
          rw [e3]
          exact .inr ⟨rfl, h⟩
        · exact h.x.elim

def run (s : St) (l : List Step) : St := l.foldl (fun s r => ap r s) s
theorem ap_put {s : St} {d : Option Tmp} {looks sel : List Nat} {c : AV} : ap ⟨d, looks, sel, [], [], c⟩ s = s.put d c := by simp [ap, putBack]

theorem drawK_ok (s0 : St) : ∀ (l pre : List Oper) (acc : List Step) (s : St) (nx : Nat) {K : St → List Step → Prop}, ops.toList = pre ++ l → acc.length = pre.length → s = run s0 acc.reverse →
    (∀ (i : Nat) (o : Oper) (r : Step), pre[i]? = some o → acc.reverse[i]? = some r → r.looks = looksOf ops o ∧ StepOK X ops o r (run s0 (acc.reverse.take i))) → drawK X ops l s acc nx K →
      ∃ steps, steps.length = ops.size ∧ (∀ (i : Nat) (o : Oper) (r : Step), ops[i]? = some o → steps[i]? = some r → r.looks = looksOf ops o ∧ StepOK X ops o r (run s0 (steps.take i))) ∧ K (run s0 steps) steps
  | [], pre, acc, s, nx, K, h1, h2, h3, h4, hk => by
    rw [List.append_nil] at h1
    refine ⟨acc.reverse, by rw [List.length_reverse, h2, ← h1]; simp, fun i o r ho hr => h4 i o r (by rw [← h1]; simpa using ho) hr, ?_⟩
    rw [← h3]; exact hk
  | o :: l, pre, acc, s, nx, K, h1, h2, h3, h4, hk => by
    simp only [drawK, fNs_eq] at hk
    have next : ∀ (st : Step), st.looks = looksOf ops o → StepOK X ops o st s → ∀ (s' : St) (nx' : Nat), s' = ap st s → drawK X ops l s' (st :: acc) nx' K →
        ∃ steps, steps.length = ops.size ∧ (∀ (i : Nat) (o : Oper) (r : Step), ops[i]? = some o → steps[i]? = some r → r.looks = looksOf ops o ∧ StepOK X ops o r (run s0 (steps.take i))) ∧ K (run s0 steps) steps := by
      intro st hlook hst s' nx' hs' hd
      refine drawK_ok s0 l (pre ++ [o]) (st :: acc) s' nx' (by rw [h1]; simp) (by simp [h2]) ?_ ?_ hd
      · rw [hs', h3]; simp [run]
      · intro i o' r ho hr
        rw [List.reverse_cons] at hr ⊢
        have hlen : acc.reverse.length = pre.length := by rw [List.length_reverse, h2]
        by_cases hi : i < pre.length
        · rw [List.getElem?_append_left hi] at ho
          rw [List.getElem?_append_left (by omega)] at hr
          rw [List.take_append_of_le_length (by omega)]
          exact h4 i o' r ho hr
        · have hie : i = pre.length := by
            have := (List.getElem?_eq_some_iff.1 ho).1
            simp at this; omega
          subst hie
          rw [List.getElem?_append_right (Nat.le_refl _), Nat.sub_self] at ho
          rw [List.getElem?_append_right (by omega), show pre.length - acc.reverse.length = 0 by omega] at hr
          cases ho; cases hr
          rw [List.take_append_of_le_length (by omega), List.take_of_length_le (by omega), ← h3]
          exact ⟨hlook, hst⟩
    rcases guardK_two hk with ⟨g, hk⟩ | ⟨g, hk⟩
    · split at hk
      · obtain ⟨⟨c, os, e1, e2, hk⟩⟩ := hk
        rw [fN_eq, St.putK_eq] at hk
        have hle : (selOf s o).length ≤ os.length := Nat.le_of_ble_eq_true e2
        exact next _ rfl ⟨rfl, .inr (.inr ⟨g, ⟨by simp, by simp [upTo_len]; omega⟩, c, rfl, e1⟩)⟩ _ _ rfl hk
      · obtain ⟨c, k1, k2⟩ := vopK_det hk
        simp only [f2_eq, St.putK_eq] at k1
        refine next ⟨o.dst, looksOf ops o, selOf s o, [], [], renV (toGlob (selOf s o)) c⟩ rfl ⟨rfl, .inr (.inl ⟨g, rfl, fun M => ⟨c, vopK_ext k2, rfl⟩⟩)⟩ _ _ ?_ k1
        rw [ap_put]
    · rw [St.putK_eq] at hk
      refine next ⟨o.dst, looksOf ops o, [], [], [], .tup []⟩ rfl ⟨rfl, .inl ⟨g, rfl, rfl⟩⟩ _ _ ?_ hk
      rw [ap_put]

theorem foldS_take : ∀ (steps : List Step) (i k : Nat) (s : St), foldS (fun j => decide (j < k + i)) k steps s = run s (steps.take i)
  | [], i, k, s => by simp [foldS, run]
  | r :: l, 0, k, s => by
    have : ∀ (l : List Step) (k' : Nat) (s : St), k ≤ k' → foldS (fun j => decide (j < k + 0)) k' l s = s := by
      intro l
      induction l with
      | nil => intro k' s _; rfl
      | cons q l ih =>
        intro k' s hk
        have : ¬ k' < k + 0 := by omega
        simp only [foldS, this, decide_false, Bool.false_eq_true, if_false]
        exact ih (k' + 1) s (by omega)
    rw [this _ _ _ (Nat.le_refl k)]; rfl
  | r :: l, i + 1, k, s => by
    have h : k < k + (i + 1) := by omega
    simp only [foldS, h, decide_true, if_true]
    have := foldS_take l i (k + 1) (ap r s)
    rw [show k + 1 + i = k + (i + 1) by omega] at this
    rw [this]; rfl
theorem foldS_all : ∀ (steps : List Step) (k : Nat) (s : St), foldS (fun _ => true) k steps s = run s steps
  | [], _, _ => rfl
  | r :: l, k, s => by simp only [foldS, if_true]; exact foldS_all l (k + 1) _

/-- A region that draws its order, by one order: N more own blocks at most. -/
theorem DrawK.run {id : Nat} {Q : Exit → St → Prop} {s : St} (N : Nat) (hm : X.P.follows .mixedOrders = true)
    (hk : match s with | ⟨e, h, b⟩ => fH (h ++ List.replicate N .none) fun h' => fN h.length fun n0 => drawK X ops ops.toList ⟨e, h', b⟩ [] n0 fun s' steps => Need (chk n0 (n0 + N) ops steps = true) (Q .normal s')) : DrawK X id ops Q s := by
  refine ⟨?_⟩
  simp only [fH_eq, fN_eq] at hk
  obtain ⟨steps, h1, h2, ⟨h3, h4⟩⟩ := drawK_ok (X := X) (ops := ops) ⟨s.env, s.hp ++ List.replicate N .none, s.base⟩ ops.toList [] [] ⟨s.env, s.hp ++ List.replicate N .none, s.base⟩ s.hp.length rfl rfl rfl (fun i o r h => by cases h) hk
  refine draw_sound N hm h3 (fun i o r ho hr => ?_) ?_
  · have := foldS_take steps i 0 ⟨s.env, s.hp ++ List.replicate N .none, s.base⟩
    rw [Nat.zero_add] at this
    rw [this]
    exact h2 i o r ho hr
  · rw [foldS_all]; exact h4
end
end Go.Proofs.De
