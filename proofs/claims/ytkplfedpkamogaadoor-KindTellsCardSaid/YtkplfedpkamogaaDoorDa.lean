/- An evaluator of calls over abstract states: values, blocks, memory. Of no program; conditions: those that each statement names. -/
import Derived.Calls
import Derived.Tactics
import Derived.Below
import Derived.Laws.OwnMore
import Derived.Orders
import Derived.Laws.Strings
import Derived.Laws.BytesString

namespace Go.Proofs.De

/-- What is told of a program's world: its code, how many blocks are variables of packages, and what these hold. -/
structure Cx where
  P : Program
  ng : Nat
  G : World → Prop
  keep : ∀ w w' : World, (∀ b, b < ng → w'.heap[b]? = w.heap[b]?) → G w → G w'

/-- Abstract values: a literal without an address, whatever, a struct by its cells, a tuple, an address in an own box, one in an own row, a part of an own row, a function with what it captured, an address of a part that never turns, a row that never turns. -/
inductive AV where
  | lit (v : Value)
  | any
  | agg (cs : List AV)
  | tup (vs : List AV)
  | bptr (id f : Nat)
  | eptr (id wd i f : Nat)
  | slc (id wd i n : Nat)
  | fn (f : FuncId) (caps : List AV)
  | rptr (cs : List AV) (f : Nat)
  | rslc (wd n : Nat) (row : Nat → List AV)

/-- Own blocks: none (not made yet, or gone), a box, a row, a row that never turns any more; and all those together that somebody else has, as they are. -/
inductive Ob where
  | none
  | box (cs : List AV)
  | row (et : TypeId) (wd : Nat) (rows : List (List AV))
  | fz (et : TypeId) (wd : Nat) (rows : List (List AV))
  | ext (M : Nat → Option Obj)
  | iter (s : ByteArray) (p : Nat)

abbrev Rho := Nat → Option Value
def blockOf : Value → Option Nat
  | .pointer (some a) => some a.block
  | .slice (some a) _ _ => some a.block
  | _ => none
/-- Block b is the own block of number id. -/
def Blk (ρ : Rho) (id : Nat) (b : Nat) : Ob → Prop
  | .box _ => ∃ v, ρ id = some v ∧ blockOf v = some b
  | .row .. => ∃ v, ρ id = some v ∧ blockOf v = some b
  | .ext M => (M b).isSome = true
  | .iter .. => ∃ v, ρ id = some v ∧ blockOf v = some b
  | _ => False
def Own (ρ : Rho) (hp : List Ob) (b : Nat) : Prop := ∃ id ob, hp[id]? = some ob ∧ Blk ρ id b ob

/-- What lies in memory that nobody writes any more. -/
inductive RepI (w : World) (O : Nat → Prop) : AV → Value → Prop
  | lit (v : Value) (h : v.oneCell' = true) : RepI w O (.lit v) v
  | any (v : Value) (h : v.oneCell' = true) : RepI w O .any v
  | rptr (cs : List AV) (f g o : Nat) (us : Nat → Value) (h1 : g < w.heap.size) (h2 : ¬ O g) (h3 : ∀ j, j < cs.length → w.cell? ⟨g, o + j, none⟩ = some (us j))
      (h4 : ∀ j c, cs[j]? = some c → RepI w O c (us j)) : RepI w O (.rptr cs f) (.pointer (some ⟨g, o + f, none⟩))
  | rslc (wd n : Nat) (row : Nat → List AV) (base : Option Addr) (cap g o : Nat) (us : Nat → Nat → Value) (h0 : n ≤ cap) (hb : base = none → cap = 0)
      (h1 : n ≠ 0 → base = some ⟨g, o, none⟩ ∧ g < w.heap.size ∧ ¬ O g) (h2 : ∀ i, i < n → (row i).length = wd)
      (h3 : ∀ i j, i < n → j < wd → w.cell? ⟨g, o + i * wd + j, none⟩ = some (us i j))
      (h4 : ∀ i j c, i < n → (row i)[j]? = some c → RepI w O c (us i j)) : RepI w O (.rslc wd n row) (.slice base n cap)

/-- What every step keeps: the blocks that aren't own stay, and don't become own. -/
structure Tr (w : World) (O : Nat → Prop) (w' : World) (O' : Nat → Prop) : Prop where
  os : w'.os = w.os
  tape : w'.tape = w.tape
  output : w'.output = w.output
  size : w.heap.size ≤ w'.heap.size
  keep : ∀ b, b < w.heap.size → ¬ O b → w'.heap[b]? = w.heap[b]? ∧ ¬ O' b

theorem Tr.refl (w : World) (O : Nat → Prop) : Tr w O w O := ⟨rfl, rfl, rfl, Nat.le_refl _, fun _ _ h => ⟨rfl, h⟩⟩
theorem Tr.trans {a b c : World} {A B C : Nat → Prop} (h : Tr a A b B) (k : Tr b B c C) : Tr a A c C :=
  ⟨k.os.trans h.os, k.tape.trans h.tape, k.output.trans h.output, Nat.le_trans h.size k.size, fun x hx hn =>
    have h1 := h.keep x hx hn
    have h2 := k.keep x (Nat.lt_of_lt_of_le hx h.size) h1.2
    ⟨h2.1.trans h1.1, h2.2⟩⟩
theorem Tr.cell {w w' : World} {O O' : Nat → Prop} (h : Tr w O w' O') {p : Addr} (hp : p.block < w.heap.size) (hn : ¬ O p.block) : w'.cell? p = w.cell? p :=
  World.cell?_of_block (h.keep p.block hp hn).1

theorem RepI.mono {w w' : World} {O O' : Nat → Prop} (ht : Tr w O w' O') {c : AV} {u : Value} (h : RepI w O c u) : RepI w' O' c u := by
  induction h with
  | lit v h => exact .lit v h
  | any v h => exact .any v h
  | rptr cs f g o us h1 h2 h3 h4 ih =>
    exact .rptr cs f g o us (Nat.lt_of_lt_of_le h1 ht.size) (ht.keep g h1 h2).2 (fun j hj => (ht.cell (p := ⟨g, o + j, none⟩) h1 h2).trans (h3 j hj)) ih
  | rslc wd n row base cap g o us h0 hb h1 h2 h3 h4 ih =>
    refine .rslc wd n row base cap g o us h0 hb (fun hn => ?_) h2 (fun i j hi hj => ?_) ih
    · obtain ⟨e1, e2, e3⟩ := h1 hn
      exact ⟨e1, Nat.lt_of_lt_of_le e2 ht.size, (ht.keep g e2 e3).2⟩
    · obtain ⟨e1, e2, e3⟩ := h1 (by omega)
      exact (ht.cell (p := ⟨g, o + i * wd + j, none⟩) e2 e3).trans (h3 i j hi hj)
theorem RepI.one {w : World} {O : Nat → Prop} {c : AV} {u : Value} (h : RepI w O c u) : u.oneCell' = true := by
  cases h <;> first | assumption | rfl

def RepB (w : World) (O : Nat → Prop) (ρ : Rho) : AV → Value → Prop
  | .bptr id f, u => ∃ g, ρ id = some (.pointer (some ⟨g, 0, none⟩)) ∧ u = .pointer (some ⟨g, f, none⟩)
  | .eptr id wd i f, u => ∃ g n cap, ρ id = some (.slice (some ⟨g, 0, none⟩) n cap) ∧ u = .pointer (some ⟨g, i * wd + f, none⟩)
  | .slc id wd i n, u => ∃ a m cap base, ρ id = some (.slice a m cap) ∧ u = .slice base n (cap - i) ∧ i + n ≤ cap ∧ (i = 0 → base = a) ∧ (n ≠ 0 → base = a.map (·.add (i * wd))) ∧ (base = none → cap = i) ∧ (∀ y : Addr, a = some y → ∃ g : Nat, y = ⟨g, 0, none⟩)
  | c, u => RepI w O c u
def RepC (w : World) (O : Nat → Prop) (ρ : Rho) : AV → Value → Prop
  | .fn f caps, u => ∃ us : Array Value, u = .func (.func f) #[] us ∧ us.size = caps.length ∧ ∀ (j : Nat) (c : AV), caps[j]? = some c → ∃ x : Value, us[j]? = some x ∧ RepB w O ρ c x
  | c, u => RepB w O ρ c u
def RepA (w : World) (O : Nat → Prop) (ρ : Rho) : AV → Value → Prop
  | .agg cs, u => ∃ us : Array Value, u = .agg us ∧ us.size = cs.length ∧ ∀ (j : Nat) (c : AV), cs[j]? = some c → ∃ x : Value, us[j]? = some x ∧ RepC w O ρ c x
  | c, u => RepC w O ρ c u
def RepV (w : World) (O : Nat → Prop) (ρ : Rho) : AV → Value → Prop
  | .any, _ => True
  | .tup cs, u => ∃ us : Array Value, u = .tuple us ∧ us.size = cs.length ∧ ∀ (j : Nat) (c : AV), cs[j]? = some c → ∃ x : Value, us[j]? = some x ∧ RepA w O ρ c x
  | c, u => RepA w O ρ c u

/-- One telling of blocks goes on from another. -/
def Rho.le (ρ ρ' : Rho) : Prop := ∀ id v, ρ id = some v → ρ' id = some v
theorem Rho.le.refl (ρ : Rho) : ρ.le ρ := fun _ _ h => h
theorem Rho.le.trans {a b c : Rho} (h : a.le b) (k : b.le c) : a.le c := fun id v e => k id v (h id v e)

section mono
variable {w w' : World} {O O' : Nat → Prop} {ρ ρ' : Rho}
theorem RepB.mono (ht : Tr w O w' O') (hr : ρ.le ρ') {c : AV} {u : Value} (h : RepB w O ρ c u) : RepB w' O' ρ' c u := by
  cases c <;> simp only [RepB] at h ⊢
  case bptr => obtain ⟨g, h1, h2⟩ := h; exact ⟨g, hr _ _ h1, h2⟩
  case eptr => obtain ⟨g, n, cap, h1, h2⟩ := h; exact ⟨g, n, cap, hr _ _ h1, h2⟩
  case slc => obtain ⟨a, m, cap, b, h1, h2⟩ := h; exact ⟨a, m, cap, b, hr _ _ h1, h2⟩
  all_goals exact h.mono ht
theorem RepB.one {c : AV} {u : Value} (h : RepB w O ρ c u) : u.oneCell' = true := by
  cases c <;> simp only [RepB] at h
  case bptr => obtain ⟨g, h1, rfl⟩ := h; rfl
  case eptr => obtain ⟨g, n, cap, h1, rfl⟩ := h; rfl
  case slc => obtain ⟨a, m, cap, b, h1, rfl, _⟩ := h; rfl
  all_goals exact h.one
theorem RepC.mono (ht : Tr w O w' O') (hr : ρ.le ρ') {c : AV} {u : Value} (h : RepC w O ρ c u) : RepC w' O' ρ' c u := by
  cases c
  case fn => obtain ⟨us, h1, h2, h3⟩ := h; exact ⟨us, h1, h2, fun j c hc => let ⟨x, e, r⟩ := h3 j c hc; ⟨x, e, r.mono ht hr⟩⟩
  all_goals (simp only [RepC] at h ⊢; exact RepB.mono ht hr h)
theorem RepC.one {c : AV} {u : Value} (h : RepC w O ρ c u) : u.oneCell' = true := by
  cases c
  case fn => obtain ⟨us, rfl, _⟩ := h; rfl
  all_goals (simp only [RepC] at h; exact RepB.one h)
theorem RepA.mono (ht : Tr w O w' O') (hr : ρ.le ρ') {c : AV} {u : Value} (h : RepA w O ρ c u) : RepA w' O' ρ' c u := by
  cases c
  case agg => obtain ⟨us, h1, h2, h3⟩ := h; exact ⟨us, h1, h2, fun j c hc => let ⟨x, e, r⟩ := h3 j c hc; ⟨x, e, r.mono ht hr⟩⟩
  all_goals (simp only [RepA] at h ⊢; exact RepC.mono ht hr h)
theorem RepV.mono (ht : Tr w O w' O') (hr : ρ.le ρ') {c : AV} {u : Value} (h : RepV w O ρ c u) : RepV w' O' ρ' c u := by
  cases c
  case any => trivial
  case tup => obtain ⟨us, h1, h2, h3⟩ := h; exact ⟨us, h1, h2, fun j c hc => let ⟨x, e, r⟩ := h3 j c hc; ⟨x, e, r.mono ht hr⟩⟩
  all_goals (simp only [RepV] at h ⊢; exact RepA.mono ht hr h)
end mono

/-! The same where the blocks are the same. -/
theorem RepI.heap {w w' : World} {O : Nat → Prop} (e : w'.heap = w.heap) {c : AV} {u : Value} (h : RepI w O c u) : RepI w' O c u := by
  induction h with
  | lit v h => exact .lit v h
  | any v h => exact .any v h
  | rptr cs f g o us h1 h2 h3 h4 ih => exact .rptr cs f g o us (by rw [e]; exact h1) h2 (fun j hj => (World.cell?_of_block (by rw [e])).trans (h3 j hj)) ih
  | rslc wd n row base cap g o us h0 hb h1 h2 h3 h4 ih =>
    exact .rslc wd n row base cap g o us h0 hb (fun hn => ⟨(h1 hn).1, by rw [e]; exact (h1 hn).2.1, (h1 hn).2.2⟩) h2 (fun i j hi hj => (World.cell?_of_block (by rw [e])).trans (h3 i j hi hj)) ih
theorem RepB.heap {w w' : World} {O : Nat → Prop} {ρ : Rho} (e : w'.heap = w.heap) {c : AV} {u : Value} (h : RepB w O ρ c u) : RepB w' O ρ c u := by
  cases c <;> simp only [RepB] at h ⊢ <;> first | exact h | exact h.heap e
theorem RepC.heap {w w' : World} {O : Nat → Prop} {ρ : Rho} (e : w'.heap = w.heap) {c : AV} {u : Value} (h : RepC w O ρ c u) : RepC w' O ρ c u := by
  cases c
  case fn => obtain ⟨us, h1, h2, h3⟩ := h; exact ⟨us, h1, h2, fun j c hc => let ⟨x, e1, r⟩ := h3 j c hc; ⟨x, e1, r.heap e⟩⟩
  all_goals (simp only [RepC] at h ⊢; exact RepB.heap e h)

/-- The cells of a row, element by element. -/
def FlatRep (w : World) (O : Nat → Prop) (wd : Nat) (rows : List (List AV)) (xs : List Value) : Prop :=
  ∀ i r, rows[i]? = some r → r.length = wd ∧ ∀ j c, r[j]? = some c → ∃ u, xs[i * wd + j]? = some u ∧ RepI w O c u
theorem FlatRep.mono {w w' : World} {O O' : Nat → Prop} (ht : Tr w O w' O') {wd : Nat} {rows : List (List AV)} {xs : List Value} (h : FlatRep w O wd rows xs) : FlatRep w' O' wd rows xs :=
  fun i r hr => ⟨(h i r hr).1, fun j c hc => let ⟨u, e, k⟩ := (h i r hr).2 j c hc; ⟨u, e, k.mono ht⟩⟩
theorem FlatRep.heap {w w' : World} {O : Nat → Prop} (e : w'.heap = w.heap) {wd : Nat} {rows : List (List AV)} {xs : List Value} (h : FlatRep w O wd rows xs) : FlatRep w' O wd rows xs :=
  fun i r hr => ⟨(h i r hr).1, fun j c hc => let ⟨u, e1, k⟩ := (h i r hr).2 j c hc; ⟨u, e1, k.heap e⟩⟩

/-- How an own block lies in memory. -/
def ObRep (w : World) (O : Nat → Prop) (ρ : Rho) (id : Nat) : Ob → Prop
  | .none => True
  | .box cs => ∃ (g : Nat) (et : TypeId) (vs : Array Value), ρ id = some (.pointer (some ⟨g, 0, none⟩)) ∧ w.heap[g]? = some (.cells vs et (0, 0)) ∧ vs.size = cs.length ∧ ∀ (j : Nat) (c : AV), cs[j]? = some c → ∃ u : Value, vs[j]? = some u ∧ RepC w O ρ c u
  | .row et wd rows => ∃ (v : Value) (xs : List Value), ρ id = some v ∧ w.ownsRow 0 et wd v rows.length xs ∧ FlatRep w O wd rows xs ∧ ∀ u ∈ xs, u.oneCell' = true
  | .fz et wd rows => ∃ (v : Value) (xs : List Value), ρ id = some v ∧ w.ownsRow 0 et wd v rows.length xs ∧ FlatRep w O wd rows xs ∧ (∀ u ∈ xs, u.oneCell' = true) ∧ ∀ b, blockOf v = some b → ¬ O b
  | .ext M => ∀ b o, M b = some o → w.heap[b]? = some o
  | .iter s p => ∃ g : Nat, ρ id = some (.pointer (some ⟨g, 0, none⟩)) ∧ w.heap[g]? = some (.stringIter s p)

/-- All own blocks, as told by ρ. -/
structure Hp (X : Cx) (w : World) (ρ : Rho) (hp : List Ob) : Prop where
  glob : X.G w
  ng : X.ng ≤ w.heap.size
  lt : ∀ id v b, ρ id = some v → blockOf v = some b → b < w.heap.size
  low : ∀ b, Own ρ hp b → X.ng ≤ b
  inj : ∀ i j x y b, hp[i]? = some x → Blk ρ i b x → hp[j]? = some y → Blk ρ j b y → i = j
  has : ∀ id ob, hp[id]? = some ob → ObRep w (Own ρ hp) ρ id ob
  free : ∀ id, hp.length ≤ id → ρ id = none

end Go.Proofs.De

namespace Go.Proofs.De

def Rho.upd (ρ : Rho) (id : Nat) (v : Value) : Rho := fun j => if j = id then some v else ρ j
theorem Rho.upd_same (ρ : Rho) (id : Nat) (v : Value) : ρ.upd id v id = some v := if_pos rfl
theorem Rho.upd_ne (ρ : Rho) {id j : Nat} (v : Value) (h : j ≠ id) : ρ.upd id v j = ρ j := if_neg h
theorem Rho.le_upd {ρ : Rho} {id : Nat} (h : ρ id = none) (v : Value) : ρ.le (ρ.upd id v) := fun j u e => by
  rw [Rho.upd_ne]
  · exact e
  · intro e2; rw [e2, h] at e; cases e

theorem ownsRow_keep {w w' : World} {b0 : Nat} {et : TypeId} {wd n : Nat} {v : Value} {xs : List Value} (h : w.ownsRow b0 et wd v n xs) (hb : ∀ b, blockOf v = some b → w'.heap[b]? = w.heap[b]?) : w'.ownsRow b0 et wd v n xs := by
  obtain ⟨h1, h2⟩ := h
  refine ⟨h1, ?_⟩
  rcases h2 with h2 | ⟨g, cap, cur, rfl, h3, h4, h5⟩
  · exact .inl h2
  · exact .inr ⟨g, cap, cur, rfl, h3, (hb g rfl).trans h4, h5⟩

theorem ObRep.mono {w w' : World} {O O' : Nat → Prop} {ρ ρ' : Rho} (ht : Tr w O w' O') (hr : ρ.le ρ') {id : Nat} {ob : Ob} (hb : ∀ b, Blk ρ id b ob → w'.heap[b]? = w.heap[b]?)
    (hlt : ∀ v b, ρ id = some v → blockOf v = some b → b < w.heap.size) (h : ObRep w O ρ id ob) : ObRep w' O' ρ' id ob := by
  cases ob with
  | none => trivial
  | box cs =>
    obtain ⟨g, et, vs, h1, h2, h3, h4⟩ := h
    exact ⟨g, et, vs, hr _ _ h1, (hb g ⟨_, h1, rfl⟩).trans h2, h3, fun j c hc => let ⟨u, e, k⟩ := h4 j c hc; ⟨u, e, k.mono ht hr⟩⟩
  | row et wd rows =>
    obtain ⟨v, xs, h1, h2, h3, h4⟩ := h
    exact ⟨v, xs, hr _ _ h1, ownsRow_keep h2 fun b e => hb b ⟨_, h1, e⟩, h3.mono ht, h4⟩
  | fz et wd rows =>
    obtain ⟨v, xs, h1, h2, h3, h4, h5⟩ := h
    exact ⟨v, xs, hr _ _ h1, ownsRow_keep h2 fun b e => (ht.keep b (hlt v b h1 e) (h5 b e)).1, h3.mono ht, h4, fun b e => (ht.keep b (hlt v b h1 e) (h5 b e)).2⟩
  | iter s p => obtain ⟨g, h1, h2⟩ := h; exact ⟨g, hr _ _ h1, (hb g ⟨_, h1, rfl⟩).trans h2⟩
  | ext M => exact fun b o e => (hb b (by simp only [Blk]; rw [e]; rfl)).trans (h b o e)

theorem glob_keep {X : Cx} {w w' : World} {ρ : Rho} {hp : List Ob} (h : Hp X w ρ hp) (hb : ∀ b, b < w.heap.size → ¬ Own ρ hp b → w'.heap[b]? = w.heap[b]?) : X.G w' :=
  X.keep w w' (fun b hlt => hb b (Nat.lt_of_lt_of_le hlt h.ng) fun ho => absurd (h.low b ho) (by omega)) h.glob

theorem Blk_lt {X : Cx} {w : World} {ρ : Rho} {hp : List Ob} (h : Hp X w ρ hp) {i b : Nat} {x : Ob} (hi : hp[i]? = some x) (hb : Blk ρ i b x) : b < w.heap.size := by
  cases x with
  | box cs => obtain ⟨v, h1, h2⟩ := hb; exact h.lt i v b h1 h2
  | row et wd rows => obtain ⟨v, h1, h2⟩ := hb; exact h.lt i v b h1 h2
  | ext M =>
    have := h.has i _ hi
    simp only [Blk, Option.isSome_iff_exists] at hb
    obtain ⟨o, ho⟩ := hb
    exact (Array.getElem?_eq_some_iff.1 (this b o ho)).1
  | iter s p => obtain ⟨v, h1, h2⟩ := hb; exact h.lt i v b h1 h2
  | none => exact hb.elim
  | fz et wd rows => exact hb.elim

/-- A block goes (or nothing goes): what is there now. -/
def gone (hp : List Ob) : Option Nat → List Ob
  | some j => hp.set j .none
  | none => hp
theorem gone_len (hp : List Ob) (o : Option Nat) : (gone hp o).length = hp.length := by cases o <;> simp [gone]
theorem gone_at {hp : List Ob} {o : Option Nat} {i : Nat} {x : Ob} (h : (gone hp o)[i]? = some x) (hx : x ≠ .none) : hp[i]? = some x ∧ o ≠ some i := by
  cases o with
  | none => exact ⟨h, by simp⟩
  | some j =>
    simp only [gone, List.getElem?_set] at h
    by_cases e : j = i
    · subst e
      rw [if_pos rfl] at h
      split at h
      · cases h; exact absurd rfl hx
      · cases h
    · rw [if_neg e] at h
      exact ⟨h, fun e2 => e (Option.some.inj e2)⟩
theorem Blk_upd {ρ : Rho} {id i b : Nat} {v : Value} {x : Ob} (h : i ≠ id) : Blk (ρ.upd id v) i b x ↔ Blk ρ i b x := by
  cases x <;> simp only [Blk, Rho.upd_ne _ _ h]

section
variable {X : Cx} {w w' : World} {ρ : Rho} {hp : List Ob}

/-- A new own block, which may be what another one becomes. -/
theorem Own_new {id : Nat} {v : Value} {ob : Ob} {old : Option Nat} {b : Nat} (h : Own (ρ.upd id v) ((gone hp old).set id ob) b) :
    Blk (ρ.upd id v) id b ob ∨ (∃ i x, i ≠ id ∧ hp[i]? = some x ∧ Blk ρ i b x ∧ old ≠ some i) := by
  obtain ⟨i, x, h1, h2⟩ := h
  rw [List.getElem?_set] at h1
  by_cases e : id = i
  · subst e
    rw [if_pos rfl] at h1
    split at h1
    · cases h1; exact .inl h2
    · cases h1
  · rw [if_neg e] at h1
    obtain ⟨k1, k2⟩ := gone_at h1 (fun e => by subst e; exact h2)
    exact .inr ⟨i, x, fun e2 => e e2.symm, k1, (Blk_upd (fun e2 => e e2.symm)).1 h2, k2⟩

theorem grow_tr {id : Nat} {row old : Option Nat} (hrow : ∀ b, row = some b → Own ρ hp b)
    (hg : w.grownBy w' row) {v : Value} {ob : Ob} (hv : ∀ b, Blk (ρ.upd id v) id b ob → row = some b ∨ w.heap.size ≤ b) : Tr w (Own ρ hp) w' (Own (ρ.upd id v) ((gone hp old).set id ob)) :=
  ⟨hg.os, hg.tape, hg.output, hg.size, fun b hb hn => ⟨hg.block b hb fun e => hn (hrow b e.symm), fun ho => by
    rcases Own_new ho with h1 | ⟨i, x, _, h1, h2, _⟩
    · rcases hv b h1 with h2 | h2
      · exact hn (hrow b h2)
      · omega
    · exact hn ⟨i, x, h1, h2⟩⟩⟩

theorem Hp.grow (h : Hp X w ρ hp) {id : Nat} (hid : hp[id]? = some .none) (hρ : ρ id = none) {row old : Option Nat}
    (hrow : ∀ b, row = some b → ∃ j x, old = some j ∧ hp[j]? = some x ∧ Blk ρ j b x)
    (hg : w.grownBy w' row) {v : Value} (hv : ∀ b, blockOf v = some b → (row = some b ∨ w.heap.size ≤ b) ∧ b < w'.heap.size) {ob : Ob} (hbl : ∀ b, Blk (ρ.upd id v) id b ob → blockOf v = some b)
    (hob : ObRep w' (Own (ρ.upd id v) ((gone hp old).set id ob)) (ρ.upd id v) id ob) : Hp X w' (ρ.upd id v) ((gone hp old).set id ob) := by
  have hrow' : ∀ b, row = some b → Own ρ hp b := fun b e => let ⟨j, x, _, h1, h2⟩ := hrow b e; ⟨j, x, h1, h2⟩
  have ht := grow_tr (id := id) (old := old) hrow' hg (v := v) (ob := ob) (fun b e => (hv b (hbl b e)).1)
  have hle := Rho.le_upd hρ v
  have hlen : id < hp.length := (List.getElem?_eq_some_iff.1 hid).1
  refine ⟨glob_keep h fun b hb hn => (ht.keep b hb hn).1, Nat.le_trans h.ng hg.size, ?_, ?_, ?_, ?_, ?_⟩
  · intro i u b hi hb
    by_cases e : i = id
    · subst e; rw [Rho.upd_same] at hi; cases hi; exact (hv b hb).2
    · rw [Rho.upd_ne _ _ e] at hi; exact Nat.lt_of_lt_of_le (h.lt i u b hi hb) hg.size
  · intro b ho
    rcases Own_new ho with h1 | ⟨i, x, _, h1, h2, _⟩
    · rcases (hv b (hbl b h1)).1 with h2 | h2
      · exact h.low b (hrow' b h2)
      · exact Nat.le_trans h.ng h2
    · exact h.low b ⟨i, x, h1, h2⟩
  · -- two own blocks are one only where their numbers are
    have key : ∀ (i : Nat) (x : Ob) (b : Nat), ((gone hp old).set id ob)[i]? = some x → Blk (ρ.upd id v) i b x → i ≠ id → hp[i]? = some x ∧ old ≠ some i ∧ Blk ρ i b x := by
      intro i x b h1 h2 hne
      rw [List.getElem?_set, if_neg (fun e => hne e.symm)] at h1
      obtain ⟨k1, k2⟩ := gone_at h1 (fun e => by subst e; exact h2)
      exact ⟨k1, k2, (Blk_upd hne).1 h2⟩
    have one : ∀ (i : Nat) (x y : Ob) (b : Nat), ((gone hp old).set id ob)[i]? = some x → Blk (ρ.upd id v) i b x → i ≠ id → ((gone hp old).set id ob)[id]? = some y → Blk (ρ.upd id v) id b y → False := by
      intro i x y b h1 h2 hne hy hb
      rw [List.getElem?_set, if_pos rfl] at hy
      split at hy
      · cases hy
        obtain ⟨k1, k2, k3⟩ := key i x b h1 h2 hne
        rcases (hv b (hbl b hb)).1 with h5 | h5
        · obtain ⟨j, z, e1, e2, e3⟩ := hrow b h5
          have := h.inj i j x z b k1 k3 e2 e3
          exact k2 (by rw [e1, this])
        · have := Blk_lt h k1 k3; omega
      · cases hy
    intro i j x y b a1 a2 b1 b2
    by_cases ei : i = id
    · by_cases ej : j = id
      · rw [ei, ej]
      · subst ei; exact (one j y x b b1 b2 ej a1 a2).elim
    · by_cases ej : j = id
      · subst ej; exact (one i x y b a1 a2 ei b1 b2).elim
      · obtain ⟨c1, _, c3⟩ := key i x b a1 a2 ei
        obtain ⟨d1, _, d3⟩ := key j y b b1 b2 ej
        exact h.inj i j x y b c1 c3 d1 d3
  · intro i x hi
    by_cases e : i = id
    · subst e
      rw [List.getElem?_set, if_pos rfl] at hi
      split at hi
      · cases hi; exact hob
      · cases hi
    · by_cases hx : x = .none
      · subst hx; trivial
      · rw [List.getElem?_set, if_neg (fun e2 => e e2.symm)] at hi
        obtain ⟨k1, k2⟩ := gone_at hi hx
        refine ObRep.mono ht hle (fun b hb => hg.block b (Blk_lt h k1 hb) fun e2 => ?_) (fun u b hu hb => h.lt i u b hu hb) (h.has i x k1)
        obtain ⟨j, y, e1, e3, e4⟩ := hrow b e2.symm
        have := h.inj i j x y b k1 hb e3 e4
        exact k2 (by rw [e1, this])
  · intro i hi
    have hi' : hp.length ≤ i := by simpa [gone_len] using hi
    rw [Rho.upd_ne _ _ (by omega)]
    exact h.free i hi'

/-- An own block is written. -/
theorem Own_set {id : Nat} {x ob : Ob} {b : Nat} (hid : hp[id]? = some x) (hx : ∀ b, Blk ρ id b ob ↔ Blk ρ id b x) : Own ρ (hp.set id ob) b ↔ Own ρ hp b := by
  have hlen : id < hp.length := (List.getElem?_eq_some_iff.1 hid).1
  constructor
  · rintro ⟨i, y, h1, h2⟩
    rw [List.getElem?_set] at h1
    by_cases e : id = i
    · subst e
      rw [if_pos rfl, if_pos hlen] at h1
      cases h1
      exact ⟨id, x, hid, (hx b).1 h2⟩
    · rw [if_neg e] at h1; exact ⟨i, y, h1, h2⟩
  · rintro ⟨i, y, h1, h2⟩
    by_cases e : id = i
    · subst e
      rw [hid] at h1; cases h1
      exact ⟨id, ob, by rw [List.getElem?_set, if_pos rfl, if_pos hlen], (hx b).2 h2⟩
    · exact ⟨i, y, by rw [List.getElem?_set, if_neg e]; exact h1, h2⟩
theorem Hp.write_tr (_h : Hp X w ρ hp) {id : Nat} {x ob : Ob} (hid : hp[id]? = some x) (hx : ∀ b, Blk ρ id b ob ↔ Blk ρ id b x) {g : Nat} (hb : Blk ρ id g x) (hg : w.grownBy w' (some g)) :
    Tr w (Own ρ hp) w' (Own ρ (hp.set id ob)) :=
  ⟨hg.os, hg.tape, hg.output, hg.size, fun b hlt hn => ⟨hg.block b hlt fun e => by cases e; exact hn ⟨id, x, hid, hb⟩, fun k => hn ((Own_set hid hx).1 k)⟩⟩
theorem Hp.write (h : Hp X w ρ hp) {id : Nat} {x ob : Ob} (hid : hp[id]? = some x) (hx : ∀ b, Blk ρ id b ob ↔ Blk ρ id b x) {g : Nat} (hb : Blk ρ id g x) (hg : w.grownBy w' (some g))
    (hob : ObRep w' (Own ρ (hp.set id ob)) ρ id ob) : Hp X w' ρ (hp.set id ob) := by
  have ht := h.write_tr hid hx hb hg
  have hlen : id < hp.length := (List.getElem?_eq_some_iff.1 hid).1
  refine ⟨glob_keep h fun b hb hn => (ht.keep b hb hn).1, Nat.le_trans h.ng hg.size, fun i u b hi e => Nat.lt_of_lt_of_le (h.lt i u b hi e) hg.size, fun b k => h.low b ((Own_set hid hx).1 k), ?_, ?_, fun i hi => h.free i (by simpa using hi)⟩
  · have key : ∀ (i : Nat) (y : Ob) (b : Nat), (hp.set id ob)[i]? = some y → Blk ρ i b y → ∃ y' : Ob, hp[i]? = some y' ∧ Blk ρ i b y' := by
      intro i y b h1 h2
      rw [List.getElem?_set] at h1
      by_cases e : id = i
      · subst e
        rw [if_pos rfl, if_pos hlen] at h1
        cases h1
        exact ⟨x, hid, (hx b).1 h2⟩
      · rw [if_neg e] at h1; exact ⟨y, h1, h2⟩
    intro i j y z b a1 a2 b1 b2
    obtain ⟨y', c1, c2⟩ := key i y b a1 a2
    obtain ⟨z', d1, d2⟩ := key j z b b1 b2
    exact h.inj i j y' z' b c1 c2 d1 d2
  · intro i y hi
    by_cases e : id = i
    · subst e
      rw [List.getElem?_set, if_pos rfl, if_pos hlen] at hi
      cases hi; exact hob
    · rw [List.getElem?_set, if_neg e] at hi
      refine ObRep.mono ht (Rho.le.refl ρ) (fun b hb' => hg.block b (Blk_lt h hi hb') fun e2 => ?_) (fun u b hu hb' => h.lt i u b hu hb') (h.has i y hi)
      cases e2
      exact e (h.inj i id y x g hi hb' hid hb).symm

/-- One more number, for nothing. -/
theorem at_more {i : Nat} {y : Ob} (h1 : (hp ++ [Ob.none])[i]? = some y) : hp[i]? = some y ∨ y = .none := by
  rw [List.getElem?_append] at h1
  split at h1
  · exact .inl h1
  · right
    have := List.mem_of_getElem? h1
    simpa using this
theorem Own_more {b : Nat} : Own ρ (hp ++ [.none]) b ↔ Own ρ hp b := by
  constructor
  · rintro ⟨i, y, h1, h2⟩
    rcases at_more h1 with h1 | rfl
    · exact ⟨i, y, h1, h2⟩
    · exact h2.elim
  · rintro ⟨i, y, h1, h2⟩
    exact ⟨i, y, by rw [List.getElem?_append_left (List.getElem?_eq_some_iff.1 h1).1]; exact h1, h2⟩
theorem own_more : Own ρ (hp ++ [.none]) = Own ρ hp := funext fun _ => propext Own_more
theorem Hp.more (h : Hp X w ρ hp) : Hp X w ρ (hp ++ [.none]) := by
  have key : ∀ (i : Nat) (y : Ob) (b : Nat), (hp ++ [Ob.none])[i]? = some y → Blk ρ i b y → hp[i]? = some y := by
    intro i y b h1 h2
    rcases at_more h1 with h1 | rfl
    · exact h1
    · exact h2.elim
  refine ⟨h.glob, h.ng, h.lt, fun b k => h.low b (Own_more.1 k), fun i j x y b a1 a2 b1 b2 => h.inj i j x y b (key i x b a1 a2) a2 (key j y b b1 b2) b2, ?_, fun i hi => h.free i (by simp at hi; omega)⟩
  intro i y hi
  rw [own_more]
  rcases at_more hi with hi | rfl
  · exact h.has i y hi
  · trivial

/-- The world is the same but for the tape. -/
theorem Hp.same (h : Hp X w ρ hp) (e : w'.heap = w.heap) : Hp X w' ρ hp := by
  refine ⟨X.keep w w' (fun b _ => by rw [e]) h.glob, by rw [e]; exact h.ng, fun i u b hi hb => by rw [e]; exact h.lt i u b hi hb, h.low, h.inj, ?_, h.free⟩
  intro i y hi
  have := h.has i y hi
  cases y with
  | none => trivial
  | box cs =>
    obtain ⟨g, et, vs, h1, h2, h3, h4⟩ := this
    exact ⟨g, et, vs, h1, by rw [e]; exact h2, h3, fun j c hc => let ⟨u, e1, k⟩ := h4 j c hc; ⟨u, e1, k.heap e⟩⟩
  | row et wd rows =>
    obtain ⟨v, xs, h1, h2, h3, h4⟩ := this
    exact ⟨v, xs, h1, ownsRow_keep h2 fun b _ => by rw [e], h3.heap e, h4⟩
  | fz et wd rows =>
    obtain ⟨v, xs, h1, h2, h3, h4, h5⟩ := this
    exact ⟨v, xs, h1, ownsRow_keep h2 fun b _ => by rw [e], h3.heap e, h4, h5⟩
  | iter s p => obtain ⟨g, h1, h2⟩ := this; exact ⟨g, h1, by rw [e]; exact h2⟩
  | ext M => exact fun b o k => by rw [e]; exact this b o k
end
end Go.Proofs.De

namespace Go.Proofs.De
open Go.RowKit

def nth : List AV → Nat → AV
  | [], _ => .any
  | x :: _, 0 => x
  | _ :: l, n + 1 => nth l n
def setN {α : Type} : List α → Nat → α → List α
  | [], _, _ => []
  | _ :: l, 0, y => y :: l
  | x :: l, n + 1, y => x :: setN l n y
theorem nth_eq (l : List AV) : ∀ i, nth l i = (l[i]?).getD .any := by
  induction l with
  | nil => intro i; simp [nth]
  | cons x l ih => intro i; cases i <;> simp [nth, ih]
theorem setN_eq {α : Type} (l : List α) : ∀ i (y : α), setN l i y = l.set i y := by
  induction l with
  | nil => intro i y; simp [setN]
  | cons x l ih => intro i y; cases i <;> simp [setN, ih]

/-- Slots, own blocks, how many of these there were at the call's begin. -/
structure St where
  env : List AV
  hp : List Ob
  base : Nat

def valAV : Value → AV
  | .agg cs => if cs.toList.all (·.oneCell') then .agg (cs.toList.map .lit) else .any
  | .tuple _ => .any
  | v => .lit v
def opv (s : St) : Operand → AV
  | .tmp t => nth s.env t
  | .const v => valAV v
  | .global g => .lit (.pointer (some ⟨g, 0, none⟩))
  | .func f => .fn f []
def St.put (s : St) (d : Option Tmp) (c : AV) : St := match d with | some d => { s with env := setN s.env d c } | none => s

/-- Where a call began. -/
structure Base where
  w : World
  ρ : Rho
  hp : List Ob

structure RelAt (X : Cx) (B : Base) (ρ : Rho) (s : St) (a : Act) (w : World) : Prop where
  hp : Hp X w ρ s.hp
  len : s.env.length = a.tmps.size
  env : ∀ (t : Nat) (c : AV), s.env[t]? = some c → ∃ u : Value, a.tmps[t]? = some u ∧ RepV w (Own ρ s.hp) ρ c u
  defers : a.defers = []
  tr : Tr B.w (Own B.ρ B.hp) w (Own ρ s.hp)
  ext : B.ρ.le ρ
  base : s.base = B.hp.length
  bfree : ∀ id, B.hp.length ≤ id → B.ρ id = none
def Rel (X : Cx) (B : Base) (s : St) (a : Act) (w : World) : Prop := ∃ ρ, RelAt X B ρ s a w

theorem RepV_lit {w : World} {O : Nat → Prop} {ρ : Rho} {v u : Value} : RepV w O ρ (.lit v) u ↔ (u = v ∧ v.oneCell' = true) := by
  simp only [RepV, RepA, RepC, RepB]
  constructor
  · intro h; cases h; exact ⟨rfl, by assumption⟩
  · rintro ⟨rfl, h⟩; exact .lit _ h
theorem RepC_lit {w : World} {O : Nat → Prop} {ρ : Rho} {v u : Value} : RepC w O ρ (.lit v) u ↔ (u = v ∧ v.oneCell' = true) := by
  simp only [RepC, RepB]
  constructor
  · intro h; cases h; exact ⟨rfl, by assumption⟩
  · rintro ⟨rfl, h⟩; exact .lit _ h
theorem RepV_valAV (w : World) (O : Nat → Prop) (ρ : Rho) (v : Value) : RepV w O ρ (valAV v) v := by
  cases v with
  | agg cs =>
    simp only [valAV]
    split
    · rename_i h
      rw [List.all_eq_true] at h
      refine ⟨cs, rfl, by simp, fun j c hc => ?_⟩
      rw [List.getElem?_map] at hc
      cases hx : cs.toList[j]? with
      | none => rw [hx] at hc; cases hc
      | some x =>
        rw [hx] at hc; cases hc
        exact ⟨x, by simpa using hx, RepC_lit.2 ⟨rfl, h x (List.mem_of_getElem? hx)⟩⟩
    · trivial
  | tuple vs => trivial
  | _ => exact RepV_lit.2 ⟨rfl, rfl⟩

section
variable {X : Cx} {B : Base} {ρ : Rho} {s : St} {a : Act} {w : World}

theorem RelAt.opv (h : RelAt X B ρ s a w) (x : Operand) : RepV w (Own ρ s.hp) ρ (De.opv s x) (a.eval x) := by
  cases x with
  | tmp t =>
    simp only [De.opv, nth_eq, Act.eval]
    cases e : s.env[t]? with
    | none => trivial
    | some c =>
      obtain ⟨u, hu, hr⟩ := h.env t c e
      have : a.tmps.getD t undef = u := by rw [Array.getD_eq_getD_getElem?, hu]; rfl
      rw [this]; exact hr
  | const v => exact RepV_valAV _ _ _ v
  | global g => exact RepV_lit.2 ⟨rfl, rfl⟩
  | func f => exact ⟨#[], rfl, rfl, fun j c hc => by cases hc⟩

theorem RelAt.put (h : RelAt X B ρ s a w) (d : Option Tmp) {c : AV} {u : Value} (hr : RepV w (Own ρ s.hp) ρ c u) : RelAt X B ρ (s.put d c) (a.put d u) w := by
  cases d with
  | none => exact h
  | some d =>
    refine ⟨h.hp, by simpa [St.put, setN_eq, Act.put] using h.len, fun t c' ht => ?_, h.defers, h.tr, h.ext, h.base, h.bfree⟩
    simp only [St.put, setN_eq] at ht
    rw [List.getElem?_set] at ht
    simp only [Act.put, Array.getElem?_setIfInBounds]
    by_cases e : d = t
    · rw [if_pos e] at ht
      split at ht
      · rename_i hd
        cases ht
        rw [if_pos e, if_pos (by rw [← h.len]; exact hd)]
        exact ⟨u, rfl, hr⟩
      · cases ht
    · rw [if_neg e] at ht
      rw [if_neg e]
      exact h.env t c' ht

/-- A step that changes memory: what stands in slots stays. -/
theorem RelAt.step (h : RelAt X B ρ s a w) {w' : World} {ρ' : Rho} {hp' : List Ob} (hh : Hp X w' ρ' hp') (ht : Tr w (Own ρ s.hp) w' (Own ρ' hp')) (hr : ρ.le ρ') : RelAt X B ρ' { s with hp := hp' } a w' :=
  ⟨hh, h.len, fun t c hc => let ⟨u, e, k⟩ := h.env t c hc; ⟨u, e, k.mono ht hr⟩, h.defers, h.tr.trans ht, h.ext.trans hr, h.base, h.bfree⟩

/-- What an operation is asked: from one state to another. -/
def OpOK (X : Cx) (B : Base) (o : Oper) (s s' : St) : Prop :=
  ∀ a w, Rel X B s a w → ∀ (K : Act → World → Prop) (Q : Exit → Act → World → Prop), (∀ a' w', Rel X B s' a' w' → K a' w') → o.wp X.P a w K Q

theorem OpOK.value {o : Oper} {c : AV} (h : ∀ ρ a w, RelAt X B ρ s a w → ∃ u, (execOp a.eval o).run X.P w = .ok (.value u) w ∧ RepV w (Own ρ s.hp) ρ c u) : OpOK X B o s (s.put o.dst c) := by
  rintro a w ⟨ρ, hr⟩ K Q hK
  obtain ⟨u, e, k⟩ := h ρ a w hr
  unfold Oper.wp
  rw [e]
  exact hK _ _ ⟨ρ, hr.put o.dst k⟩
end

/-! Types. -/
def sizeT (P : Program) (t : TypeId) : Option Nat := match P.info? t with | some i => some i.size | none => none
def isAggT (P : Program) (t : TypeId) : Option Bool := match P.underlying t with | some (.struct _) => some true | some (.array _ _) => some true | some _ => some false | none => none
def fieldT (P : Program) (t : TypeId) (i : Nat) : Option Field := match P.underlying t with | some (.struct fs) => fs.toList[i]? | _ => none
def elemT (P : Program) (t : TypeId) : Option TypeId := match P.underlying t with | some (.slice e) => some e | _ => none
def arrT (P : Program) (t : TypeId) : Option (Nat × TypeId) := match P.underlying t with | some (.array n e) => some (n, e) | _ => none
def strT (P : Program) (t : TypeId) : Bool := match P.underlying t with | some .string => true | _ => false

/-- The value of a type that stands in cells from one on. -/
def loadC (P : Program) (t : TypeId) (cs : List AV) (f : Nat) : Option AV :=
  match isAggT P t, sizeT P t with
  | some true, some n => if f + n ≤ cs.length then some (.agg ((cs.drop f).take n)) else none
  | some false, some _ => cs[f]?
  | _, _ => none

theorem run_sizeOf {P : Program} {t : TypeId} {n : Nat} (h : sizeT P t = some n) (w : World) : (sizeOf t).run P w = .ok n w := by
  unfold sizeT at h
  cases e : P.info? t with
  | none => rw [e] at h; cases h
  | some i => rw [e] at h; cases h; simp [sizeOf, typeInfo, e]
theorem run_isAgg {P : Program} {t : TypeId} {b : Bool} (h : isAggT P t = some b) (w : World) : (isAgg t).run P w = .ok b w := by
  unfold isAggT at h
  cases e : P.underlying t with
  | none => rw [e] at h; cases h
  | some d => rw [e] at h; cases d <;> simp at h <;> subst h <;> simp [isAgg, underlying, e]

/-- Cells that lie one behind the other. -/
def CellsAt (w : World) (O : Nat → Prop) (ρ : Rho) (g o : Nat) (cs : List AV) : Prop := ∀ j c, cs[j]? = some c → ∃ u, w.cell? ⟨g, o + j, none⟩ = some u ∧ RepC w O ρ c u

theorem exists_list {α β : Type} (R : Nat → α → β → Prop) : ∀ (cs : List α) (k : Nat), (∀ j c, cs[j]? = some c → ∃ u, R (k + j) c u) → ∃ us : List β, us.length = cs.length ∧ ∀ j c, cs[j]? = some c → ∃ u, us[j]? = some u ∧ R (k + j) c u
  | [], _, _ => ⟨[], rfl, fun j c h => by cases h⟩
  | c :: cs, k, h => by
    obtain ⟨u, hu⟩ := h 0 c rfl
    obtain ⟨us, h1, h2⟩ := exists_list R cs (k + 1) fun j c hc => by
      obtain ⟨u, hu⟩ := h (j + 1) c hc
      exact ⟨u, by rwa [show k + 1 + j = k + (j + 1) by omega]⟩
    refine ⟨u :: us, by simp [h1], fun j c' hc => ?_⟩
    cases j with
    | zero => cases hc; exact ⟨u, rfl, hu⟩
    | succ j =>
      obtain ⟨u', e1, e2⟩ := h2 j c' hc
      exact ⟨u', e1, by rwa [show k + 1 + j = k + (j + 1) by omega] at e2⟩

theorem run_loadAt {P : Program} {w : World} {O : Nat → Prop} {ρ : Rho} {g o f : Nat} {cs : List AV} (hc : CellsAt w O ρ g o cs) {t : TypeId} {c : AV} (h : loadC P t cs f = some c) :
    ∃ u, (Instr.loadAt t (.pointer (some ⟨g, o + f, none⟩))).run P w = .ok u w ∧ RepA w O ρ c u := by
  unfold loadC at h
  split at h
  · rename_i n e1 e2
    split at h
    · rename_i hn
      cases h
      obtain ⟨us, h1, h2⟩ := exists_list (fun j c u => w.cell? ⟨g, o + f + j, none⟩ = some u ∧ RepC w O ρ c u) ((cs.drop f).take n) 0 fun j c hj => by
        rw [List.getElem?_take] at hj
        split at hj
        · rw [List.getElem?_drop] at hj
          obtain ⟨u, k1, k2⟩ := hc (f + j) c hj
          exact ⟨u, by rw [show o + f + (0 + j) = o + (f + j) by omega]; exact k1, k2⟩
        · cases hj
      have hlen : us.length = n := by rw [h1]; simp; omega
      have hus : ∀ j v, us[j]? = some v → w.cell? ((⟨g, o + f, none⟩ : Addr).add j) = some v := fun j v hj => by
        have hjn : j < ((cs.drop f).take n).length := by rw [← h1]; exact (List.getElem?_eq_some_iff.1 hj).1
        obtain ⟨u, k1, k2, _⟩ := h2 j _ (List.getElem?_eq_getElem hjn)
        rw [hj] at k1; cases k1
        rw [Addr.add_lit]
        simpa using k2
      refine ⟨.agg us.toArray, ?_, ⟨us.toArray, rfl, by simpa using h1, fun j c hj => ?_⟩⟩
      · have := run_loadCells_list (P := P) w ⟨g, o + f, none⟩ us hus
        rw [hlen] at this
        simp [Instr.loadAt, Instr.sureAddr, loadVar, run_isAgg e1, run_sizeOf e2, this]
      · obtain ⟨u, k1, _, k3⟩ := h2 j c hj
        exact ⟨u, by simpa using k1, k3⟩
    · cases h
  · rename_i e1 _
    obtain ⟨u, k1, k2⟩ := hc f c h
    refine ⟨u, ?_, ?_⟩
    · simp [Instr.loadAt, Instr.sureAddr, loadVar, run_isAgg e1, k1]
    · have : ∀ cs, c ≠ .agg cs := fun cs e => by subst e; simp only [RepC, RepB] at k2; cases k2
      cases c <;> first | (exact absurd rfl (this _)) | (simp only [RepA]; exact k2)
  · cases h
end Go.Proofs.De

namespace Go.Proofs.De
open Go.RowKit

def Br (b : Bool) (A B : Prop) : Prop := @Bool.rec (fun _ => Prop) B A b
theorem Br.intro {b : Bool} {A B : Prop} (t : b = true → A) (f : b = false → B) : Br b A B := by cases b <;> first | exact f rfl | exact t rfl
theorem Br.t {b : Bool} {A B : Prop} (h : Br b A B) (e : b = true) : A := by subst e; exact h
theorem Br.f {b : Bool} {A B : Prop} (h : Br b A B) (e : b = false) : B := by subst e; exact h
structure Need (p A : Prop) : Prop where
  p : p
  a : A
structure CellsK (rows : List (List AV)) (i : Nat) (K : List AV → Prop) : Prop where
  x : ∃ cs, rows[i]? = some cs ∧ K cs
structure Stuck (why : String) : Prop where
  x : False

/-- A number without letters, reckoned. -/
def fN (n : Nat) (K : Nat → Prop) : Prop :=
  match n with
  | 0 => K 0
  | 1 => K 1
  | 2 => K 2
  | 3 => K 3
  | 4 => K 4
  | 5 => K 5
  | 6 => K 6
  | 7 => K 7
  | 8 => K 8
  | 9 => K 9
  | 10 => K 10
  | 11 => K 11
  | 12 => K 12
  | 13 => K 13
  | 14 => K 14
  | 15 => K 15
  | 16 => K 16
  | 17 => K 17
  | 18 => K 18
  | 19 => K 19
  | 20 => K 20
  | 21 => K 21
  | 22 => K 22
  | 23 => K 23
  | 24 => K 24
  | 25 => K 25
  | 26 => K 26
  | 27 => K 27
  | 28 => K 28
  | 29 => K 29
  | 30 => K 30
  | 31 => K 31
  | 32 => K 32
  | 33 => K 33
  | 34 => K 34
  | 35 => K 35
  | 36 => K 36
  | 37 => K 37
  | 38 => K 38
  | 39 => K 39
  | 40 => K 40
  | 41 => K 41
  | 42 => K 42
  | 43 => K 43
  | 44 => K 44
  | 45 => K 45
  | 46 => K 46
  | 47 => K 47
  | 48 => K 48
  | 49 => K 49
  | 50 => K 50
  | 51 => K 51
  | 52 => K 52
  | 53 => K 53
  | 54 => K 54
  | 55 => K 55
  | 56 => K 56
  | 57 => K 57
  | 58 => K 58
  | 59 => K 59
  | 60 => K 60
  | 61 => K 61
  | 62 => K 62
  | 63 => K 63
  | n => K n
theorem fN_eq (n : Nat) (K : Nat → Prop) : fN n K = K n := by
  unfold fN
  split <;> rfl

/-- What is reckoned without memory. -/
def pureOut (P : Program) : Sem Next → Option Value
  | .pure (.value v) => some v
  | .program k => pureOut P (k P)
  | _ => none
theorem pureOut_run {P : Program} (w : World) : ∀ (m : Sem Next) {v : Value}, pureOut P m = some v → m.run P w = .ok (.value v) w := by
  intro m
  induction m with
  | pure a => intro v h; cases a <;> simp [pureOut] at h; subst h; rfl
  | program k ih => intro v h; simp only [pureOut] at h; simp only [Sem.run]; exact ih P h
  | _ => intro v h; simp [pureOut] at h

def litOf : AV → Option Value
  | .lit v => some v
  | _ => none
def litsOf : List AV → Option (List Value)
  | [] => some []
  | c :: l => match litOf c, litsOf l with
    | some v, some vs => some (v :: vs)
    | _, _ => none
def toVal : AV → Option Value
  | .lit v => some v
  | .agg cs => match litsOf cs with | some vs => some (.agg vs.toArray) | none => none
  | _ => none
theorem litsOf_at : ∀ {cs : List AV} {vs : List Value}, litsOf cs = some vs → cs = vs.map .lit
  | [], vs, h => by simp only [litsOf, Option.some.injEq] at h; subst h; rfl
  | c :: l, vs, h => by
    simp only [litsOf] at h
    split at h
    · rename_i v vs' e1 e2
      cases h
      rw [litsOf_at e2]
      cases c <;> simp [litOf] at e1
      subst e1; rfl
    · cases h
theorem toVal_eq {w : World} {O : Nat → Prop} {ρ : Rho} {c : AV} {u v : Value} (h : toVal c = some v) (hr : RepV w O ρ c u) : u = v := by
  cases c <;> simp only [toVal] at h
  case lit x => cases h; exact (RepV_lit.1 hr).1
  case agg cs =>
    split at h
    · rename_i vs e
      cases h
      have hc := litsOf_at e
      subst hc
      obtain ⟨us, rfl, h1, h2⟩ := hr
      congr 1
      apply Array.ext_getElem?
      intro j
      by_cases hj : j < vs.length
      · have h3 : (vs.map AV.lit)[j]? = some (.lit vs[j]) := by rw [List.getElem?_map, List.getElem?_eq_getElem hj]; rfl
        obtain ⟨x, e1, e2⟩ := h2 j _ h3
        rw [e1, (RepC_lit.1 e2).1]
        simp [hj]
      · have : us.size ≤ j := by rw [h1]; simp; omega
        rw [Array.getElem?_eq_none this]
        simp; omega
    · cases h
  all_goals cases h
def litEnv (s : St) (x : Operand) : Value := (toVal (opv s x)).getD undef
def allLit (s : St) : List Operand → Bool
  | [] => true
  | x :: l => (toVal (opv s x)).isSome && allLit s l
theorem allLit_at {s : St} : ∀ {l : List Operand}, allLit s l = true → ∀ x ∈ l, (toVal (opv s x)).isSome = true
  | [], _, x, hx => by cases hx
  | y :: l, h, x, hx => by
    simp only [allLit, Bool.and_eq_true] at h
    cases hx with
    | head => exact h.1
    | tail _ hx => exact allLit_at h.2 x hx

def placeT (P : Program) (t : TypeId) (i : Nat) : Option (Nat × Nat) :=
  match fieldT P t i with
  | some f => match sizeT P f.type with | some n => some (f.offset, n) | none => none
  | none => match arrT P t with
    | some (_, e) => match sizeT P e with | some n => some (i * n, n) | none => none
    | none => none
def sizesOk (P : Program) : List Field → Bool
  | [] => true
  | f :: l => (sizeT P f.type).isSome && sizesOk P l
def partsOk (P : Program) (t : TypeId) : Bool :=
  match P.underlying t with
  | some (.struct fs) => sizesOk P fs.toList
  | some (.array _ e) => (sizeT P e).isSome
  | _ => false
def zeroC (P : Program) (t : TypeId) : Option (List AV) :=
  match P.info? t with
  | some i => match i.zero with
    | some v => if v.cells.toList.all (·.oneCell') then some (v.cells.toList.map .lit) else none
    | none => none
  | none => none
def cellsOf : AV → Option (List AV)
  | .agg cs => some cs
  | .tup _ => none
  | .any => none
  | c => some [c]
def setAll (cs : List AV) (o : Nat) : List AV → List AV
  | [] => cs
  | c :: l => setAll (setN cs o c) (o + 1) l
def fillA (pl : Nat → Option (Nat × Nat)) (s : St) : List (Nat × Operand) → List AV → Option (List AV)
  | [], cs => some cs
  | (i, x) :: r, cs => match pl i, cellsOf (opv s x) with
    | some (o, n), some l => if l.length = n ∧ o + n ≤ cs.length then fillA pl s r (setAll cs o l) else none
    | _, _ => none
def isB : AV → Bool
  | .bptr .. => true
  | .eptr .. => true
  | .slc .. => true
  | .lit _ => true
  | .rptr .. => true
  | .rslc .. => true
  | _ => false
def allB : List AV → Bool
  | [] => true
  | c :: l => isB c && allB l
def opvs (s : St) : List Operand → List AV
  | [] => []
  | x :: l => opv s x :: opvs s l
def lenK (P : Program) (t : TypeId) (c : AV) (K : AV → Prop) : Prop :=
  match c with
  | .rslc _ n _ => Need ((elemT P t).isSome = true) (K (.lit (.int .i64 n)))
  | .slc _ _ _ n => Need ((elemT P t).isSome = true) (K (.lit (.int .i64 n)))
  | .lit (.slice _ n _) => Need ((elemT P t).isSome = true) (K (.lit (.int .i64 n)))
  | .lit (.string b) => Need (strT P t = true) (K (.lit (.int .i64 b.size)))
  | _ => Stuck "len"
/-- The bounds of s[l:h]. -/
def bounds (s : St) (n : Nat) (lo hi : Option Operand) (K : Nat → Nat → Prop) : Prop :=
  match (match lo with | some x => toVal (opv s x) | none => some (.int .i64 0)), (match hi with | some x => toVal (opv s x) | none => some (.int .i64 n)) with
  | some (.int _ l), some (.int _ h) => Need (0 ≤ l ∧ l ≤ h ∧ h ≤ n) (K l.toNat h.toNat)
  | _, _ => Stuck "bounds"

def reckonK (P : Program) (s : St) (o : Oper) (K : AV → Prop) : Prop :=
  match pureOut P (execOp (litEnv s) o) with
  | some v => if allLit s o.op.operands.toList then K (valAV v) else Stuck "operands"
  | none => Stuck "reckoning"
def binK (P : Program) (s : St) (o : Oper) (op : BinOp) (x y : Operand) (K : AV → Prop) : Prop :=
  match op with
  | .add => match opv s x, opv s y with
    | .lit (.string a), .lit (.string b) => Need (((a.size + b.size : Nat) : Int) ≤ IntKind.i64.max) (K (.lit (.string (a ++ b))))
    | _, _ => reckonK P s o K
  | .quo => match opv s x, opv s y with
    | .lit (.int k a), .lit (.int k' b) => Need (k = k' ∧ b ≠ 0) (K (.lit (.int k (k.wrap (a.tdiv b)))))
    | _, _ => Stuck "quotient"
  | .rem => match opv s x, opv s y with
    | .lit (.int k a), .lit (.int k' b) => Need (k = k' ∧ b ≠ 0) (K (.lit (.int k (a.tmod b))))
    | _, _ => Stuck "rest"
  | .eql => match opv s x, opv s y with
    | .lit (.string a), .lit (.string b) => K (.lit (.bool (a.data.toList == b.data.toList)))
    | _, _ => reckonK P s o K
  | .neq => match opv s x, opv s y with
    | .lit (.string a), .lit (.string b) => K (.lit (.bool (!(a.data.toList == b.data.toList))))
    | _, _ => reckonK P s o K
  | _ => reckonK P s o K
def vopK (P : Program) (s : St) (o : Oper) (K : AV → Prop) : Prop :=
  match o.op with
  | .move x => K (opv s x)
  | .assign x => K (opv s x)
  | .pick c x y => match opv s c with
    | .lit (.bool b) => Br b (K (opv s x)) (K (opv s y))
    | _ => Stuck "pick"
  | .fieldAddr t x i => match fieldT P t i with
    | some f => match sizeT P f.type with
      | some (_ + 1) => match opv s x with
        | .bptr id g => fN (g + f.offset) fun g => K (.bptr id g)
        | .eptr id wd j g => fN (g + f.offset) fun g => K (.eptr id wd j g)
        | .rptr cs g => fN (g + f.offset) fun g => K (.rptr cs g)
        | _ => Stuck "fieldAddr"
      | _ => Stuck "fieldAddr size"
    | none => Stuck "fieldAddr type"
  | .load t x => match opv s x with
    | .rptr cs g => match loadC P t cs g with | some c => K c | none => Stuck "load"
    | .bptr id g => match s.hp[id]? with
      | some (.box cs) => match loadC P t cs g with | some c => K c | none => Stuck "load"
      | _ => Stuck "load box"
    | .eptr id wd j g => match s.hp[id]? with
      | some (.row _ wd' rows) => Need (wd = wd') (CellsK rows j fun cs => match loadC P t cs g with | some c => K c | none => Stuck "load")
      | some (.fz _ wd' rows) => Need (wd = wd') (CellsK rows j fun cs => match loadC P t cs g with | some c => K c | none => Stuck "load")
      | _ => Stuck "load row"
    | _ => Stuck "load addr"
  | .indexAddr t x i => match elemT P t with
    | some e => match sizeT P e with
      | some wd' => match opv s x, opv s i with
        | .rslc wd n row, .lit (.int _ z) => Need (wd = wd' ∧ 0 ≤ z ∧ z < n) (K (.rptr (row z.toNat) 0))
        | .slc id wd j n, .lit (.int _ z) => Need (wd = wd' ∧ 0 ≤ z ∧ z < n) (K (.eptr id wd (j + z.toNat) 0))
        | _, _ => Stuck "indexAddr"
      | none => Stuck "indexAddr size"
    | none => match arrT P t with
      | some (n, e) => match sizeT P e with
        | some sz => match opv s x, opv s i with
          | .bptr id g, .lit (.int _ z) => Need (0 ≤ z ∧ z < n) (K (.bptr id (g + z.toNat * sz)))
          | .rptr cs g, .lit (.int _ z) => Need (0 ≤ z ∧ z < n) (K (.rptr cs (g + z.toNat * sz)))
          | _, _ => Stuck "indexAddr array"
        | none => Stuck "indexAddr size"
      | none => Stuck "indexAddr type"
  | .index t x i => match opv s x, opv s i with
    | .lit (.string b), .lit (.int _ z) => if strT P t then Need (0 ≤ z ∧ z < b.size) (K (.lit (.int .u8 (b.data.getD z.toNat 0).toNat))) else Stuck "index type"
    | _, _ => Stuck "index"
  | .field t x i => match fieldT P t i, opv s x with
    | some f, .agg cs => match loadC P f.type cs f.offset with | some c => K c | none => Stuck "field"
    | _, _ => Stuck "field"
  | .extract x i => match opv s x with
    | .tup vs => match vs[i]? with | some c => K c | none => Stuck "extract"
    | _ => Stuck "extract"
  | .build t ps => match zeroC P t, partsOk P t with
    | some z, true => match fillA (placeT P t) s ps.toList z with | some cs => K (.agg cs) | none => Stuck "build"
    | _, _ => Stuck "build type"
  | .nilCheck x => match opv s x with
    | .bptr id f => K (.bptr id f)
    | .eptr id wd i f => K (.eptr id wd i f)
    | .rptr cs f => K (.rptr cs f)
    | .fn f caps => K (.fn f caps)
    | _ => Stuck "nilCheck"
  | .makeFunc (.func f) first captured => match first.toList with
    | [] => if allB (opvs s captured.toList) then K (.fn f (opvs s captured.toList)) else Stuck "makeFunc"
    | _ => Stuck "makeFunc first"
  | .slice t x lo hi none => match opv s x with
    | .lit (.string b) => if strT P t then bounds s b.size lo hi fun l h => K (.lit (.string (b.extract l h))) else Stuck "slice type"
    | .rslc wd n row => match elemT P t with
      | some e => match sizeT P e with
        | some wd' => bounds s n lo hi fun l h => Need (wd = wd') (K (.rslc wd (h - l) fun i => row (l + i)))
        | none => Stuck "slice size"
      | none => Stuck "slice type"
    | .slc id wd i n => match elemT P t with
      | some e => match sizeT P e with
        | some wd' => bounds s n lo hi fun l h => Need (wd = wd') (K (.slc id wd (i + l) (h - l)))
        | none => Stuck "slice size"
      | none => Stuck "slice type"
    | _ => Stuck "slice"
  | .call { callee := .builtin .len, args, argTypes } => match args.toList, argTypes.toList with
    | [x], [t] => lenK P t (opv s x) K
    | _, _ => Stuck "len"
  | .binOp op _ x y _ => binK P s o op x y K
  | .unOp .. | .convert .. | .call { callee := .builtin .min, .. } | .call { callee := .builtin .max, .. } => reckonK P s o K
  | _ => Stuck "operation"
end Go.Proofs.De

namespace Go.Proofs.De
open Go.RowKit

section
variable {X : Cx} {B : Base} {ρ : Rho} {s : St} {a : Act} {w : World}

theorem run_underlyingD {P : Program} {t : TypeId} {d : TypeDesc} (h : P.underlying t = some d) (w : World) : (underlying t).run P w = .ok d w := by simp [underlying, h]
theorem fieldT_eq {P : Program} {t : TypeId} {i : Nat} {f : Field} (h : fieldT P t i = some f) : ∃ fs, P.underlying t = some (.struct fs) ∧ fs[i]? = some f := by
  unfold fieldT at h
  split at h
  · rename_i fs e; exact ⟨fs, e, by simpa using h⟩
  · cases h
theorem elemT_eq {P : Program} {t e : TypeId} (h : elemT P t = some e) : P.underlying t = some (.slice e) := by
  unfold elemT at h
  split at h
  · rename_i x k; cases h; exact k
  · cases h
theorem arrT_eq {P : Program} {t e : TypeId} {n : Nat} (h : arrT P t = some (n, e)) : P.underlying t = some (.array n e) := by
  unfold arrT at h
  split at h
  · rename_i x k; cases h; assumption
  · cases h
theorem strT_eq {P : Program} {t : TypeId} (h : strT P t = true) : P.underlying t = some .string := by
  unfold strT at h
  split at h
  · assumption
  · cases h

theorem run_fieldAt {P : Program} {t : TypeId} {i n : Nat} {f : Field} (h : fieldT P t i = some f) (hn : sizeT P f.type = some (n + 1)) (g o : Nat) (w : World) :
    (Instr.fieldAt t (.pointer (some ⟨g, o, none⟩)) i).run P w = .ok (.pointer (some ⟨g, o + f.offset, none⟩)) w := by
  obtain ⟨fs, e1, e2⟩ := fieldT_eq h
  simp [Instr.fieldAt, run_underlyingD e1, e2, Instr.sureAddr, fieldPlace, run_sizeOf hn, Addr.add_lit]

theorem cells_rptr {O : Nat → Prop} {cs : List AV} {f : Nat} {u : Value} (h : RepV w O ρ (.rptr cs f) u) : ∃ g o, u = .pointer (some ⟨g, o + f, none⟩) ∧ CellsAt w O ρ g o cs := by
  simp only [RepV, RepA, RepC, RepB] at h
  cases h with
  | rptr cs f g o us h1 h2 h3 h4 =>
    refine ⟨g, o, rfl, fun j c hc => ⟨us j, h3 j (List.getElem?_eq_some_iff.1 hc).1, ?_⟩⟩
    have := h4 j c hc
    cases c <;> simp only [RepC, RepB] <;> first | exact this | (cases this; done)
theorem RepI_RepC {O : Nat → Prop} {c : AV} {u : Value} (h : RepI w O c u) : RepC w O ρ c u := by
  cases c <;> simp only [RepC, RepB] <;> first | exact h | (cases h; done)
theorem cells_box (h : RelAt X B ρ s a w) {id f : Nat} {cs : List AV} {u : Value} (hu : RepV w (Own ρ s.hp) ρ (.bptr id f) u) (hb : s.hp[id]? = some (.box cs)) : ∃ g, u = .pointer (some ⟨g, 0 + f, none⟩) ∧ CellsAt w (Own ρ s.hp) ρ g 0 cs := by
  obtain ⟨g, e1, rfl⟩ := hu
  obtain ⟨g', et, vs, e2, e3, e4, e5⟩ := h.hp.has id _ hb
  rw [e1] at e2
  simp only [Option.some.injEq, Value.pointer.injEq, Addr.mk.injEq, and_true] at e2
  subst e2
  refine ⟨g, by simp, fun j c hc => ?_⟩
  obtain ⟨u, k1, k2⟩ := e5 j c hc
  exact ⟨u, by simp [World.cell?, e3, k1], k2⟩
theorem cells_own {O : Nat → Prop} {et wd : Nat} {rows : List (List AV)} {v : Value} {xs : List Value} {g n cap : Nat} (hv : v = .slice (some ⟨g, 0, none⟩) n cap) (ho : w.ownsRow 0 et wd v rows.length xs)
    (hf : FlatRep w O wd rows xs) {i : Nat} {cs : List AV} (hi : rows[i]? = some cs) : CellsAt w O ρ g (i * wd) cs := by
  subst hv
  intro j c hc
  obtain ⟨h1, h2⟩ := hf i cs hi
  obtain ⟨u, k1, k2⟩ := h2 j c hc
  refine ⟨u, ?_, RepI_RepC k2⟩
  rcases ho.2 with ⟨h, _⟩ | ⟨g', cap', cur, h, _, hg, hn, _, hs, ht⟩
  · cases h
  · simp only [Value.slice.injEq, Option.some.injEq, Addr.mk.injEq, and_true] at h
    obtain ⟨rfl, rfl, rfl⟩ := h
    rw [← ht, List.getElem?_take] at k1
    split at k1
    · simp [World.cell?, hg]; simpa using k1
    · cases k1
theorem cells_row (h : RelAt X B ρ s a w) {id wd et i f : Nat} {rows : List (List AV)} {cs : List AV} {u : Value} (hu : RepV w (Own ρ s.hp) ρ (.eptr id wd i f) u) (hb : s.hp[id]? = some (.row et wd rows) ∨ s.hp[id]? = some (.fz et wd rows)) (hi : rows[i]? = some cs) :
    ∃ g, u = .pointer (some ⟨g, i * wd + f, none⟩) ∧ CellsAt w (Own ρ s.hp) ρ g (i * wd) cs := by
  obtain ⟨g, n, cap, e1, rfl⟩ := hu
  refine ⟨g, rfl, ?_⟩
  rcases hb with hb | hb
  · obtain ⟨v, xs, e2, e3, e4, _⟩ := h.hp.has id _ hb
    rw [e1] at e2; cases e2
    exact cells_own rfl e3 e4 hi
  · obtain ⟨v, xs, e2, e3, e4, _⟩ := h.hp.has id _ hb
    rw [e1] at e2; cases e2
    exact cells_own rfl e3 e4 hi

theorem RepA_RepV {O : Nat → Prop} {c : AV} {u : Value} (h : RepA w O ρ c u) : RepV w O ρ c u := by
  cases c <;> simp only [RepV] <;> first | exact h | trivial | (simp only [RepA, RepC, RepB] at h; cases h)
theorem RepC_RepA {O : Nat → Prop} {c : AV} {u : Value} (h : RepC w O ρ c u) : RepA w O ρ c u := by
  cases c <;> simp only [RepA] <;> first | exact h | (simp only [RepC, RepB] at h; cases h)

theorem cellsOf_rep {O : Nat → Prop} {c : AV} {u : Value} (hr : RepV w O ρ c u) {l : List AV} (hl : cellsOf c = some l) : u.cells.size = l.length ∧ ∀ (j : Nat) (c : AV), l[j]? = some c → ∃ x : Value, u.cells[j]? = some x ∧ RepC w O ρ c x := by
  have one : ∀ {c : AV}, RepC w O ρ c u → u.cells.size = [c].length ∧ ∀ (j : Nat) (c' : AV), [c][j]? = some c' → ∃ x : Value, u.cells[j]? = some x ∧ RepC w O ρ c' x := by
    intro c hc
    have h1 := hc.one
    have h2 : u.cells = #[u] := by cases u <;> first | rfl | (simp [Value.oneCell'] at h1)
    rw [h2]
    refine ⟨rfl, fun j c' hj => ?_⟩
    cases j with
    | zero => cases hj; exact ⟨u, rfl, hc⟩
    | succ j => cases hj
  cases c <;> simp only [cellsOf] at hl
  case agg cs => cases hl; obtain ⟨us, rfl, h1, h2⟩ := hr; exact ⟨h1, h2⟩
  case tup => cases hl
  case any => cases hl
  all_goals (cases hl; simp only [RepV, RepA] at hr; exact one hr)

theorem setAll_len (o : Nat) : ∀ (l cs : List AV), (setAll cs o l).length = cs.length := by
  intro l
  induction l generalizing o with
  | nil => intro cs; rfl
  | cons c l ih => intro cs; simp [setAll, ih, setN_eq]
theorem setAll_at : ∀ (l cs : List AV) (o : Nat), o + l.length ≤ cs.length → ∀ j, (setAll cs o l)[j]? = if o ≤ j ∧ j < o + l.length then l[j - o]? else cs[j]? := by
  intro l
  induction l with
  | nil => intro cs o _ j; simp only [setAll, List.length_nil, Nat.add_zero]; rw [if_neg (by omega)]
  | cons c l ih =>
    intro cs o h j
    simp only [setAll, List.length_cons] at h ⊢
    rw [ih (setN cs o c) (o + 1) (by simp [setN_eq]; omega) j]
    by_cases h1 : o + 1 ≤ j ∧ j < o + 1 + l.length
    · rw [if_pos h1, if_pos (by omega), show j - o = j - (o + 1) + 1 by omega, List.getElem?_cons_succ]
    · rw [if_neg h1, setN_eq, List.getElem?_set]
      by_cases h2 : o = j
      · subst h2
        rw [if_pos rfl, if_pos (by omega), if_pos (by omega), Nat.sub_self]; rfl
      · rw [if_neg h2]
        rw [if_neg (by omega)]
/-- The cells of a value, put into others: the same, as the model has it. -/
theorem foldl_set (v : Array Value) (cs : Array Value) (o : Nat) (h : o + v.size ≤ cs.size) :
    (v.zipIdx.foldl (fun cs (x : Value × Nat) => cs.setIfInBounds (o + x.2) x.1) cs).size = cs.size ∧ ∀ j, (v.zipIdx.foldl (fun cs (x : Value × Nat) => cs.setIfInBounds (o + x.2) x.1) cs)[j]? = if o ≤ j ∧ j < o + v.size then v[j - o]? else cs[j]? := by
  have key : ∀ (l : List Value) (k : Nat) (cs : Array Value), o + k + l.length ≤ cs.size →
      ((l.zipIdx k).foldl (fun cs (x : Value × Nat) => cs.setIfInBounds (o + x.2) x.1) cs).size = cs.size ∧ ∀ j, ((l.zipIdx k).foldl (fun cs (x : Value × Nat) => cs.setIfInBounds (o + x.2) x.1) cs)[j]? = if o + k ≤ j ∧ j < o + k + l.length then l[j - (o + k)]? else cs[j]? := by
    intro l
    induction l with
    | nil => intro k cs _; refine ⟨rfl, fun j => ?_⟩; simp only [List.zipIdx_nil, List.foldl_nil, List.length_nil, Nat.add_zero]; rw [if_neg (by omega)]
    | cons c l ih =>
      intro k cs h
      simp only [List.length_cons] at h
      obtain ⟨h1, h2⟩ := ih (k + 1) (cs.setIfInBounds (o + k) c) (by simp; omega)
      simp only [List.zipIdx_cons, List.foldl_cons]
      refine ⟨by rw [h1]; simp, fun j => ?_⟩
      rw [h2 j]
      by_cases e1 : o + (k + 1) ≤ j ∧ j < o + (k + 1) + l.length
      · rw [if_pos e1, if_pos (by simp only [List.length_cons]; omega), show j - (o + k) = j - (o + (k + 1)) + 1 by omega, List.getElem?_cons_succ]
      · rw [if_neg e1, Array.getElem?_setIfInBounds]
        by_cases e2 : o + k = j
        · subst e2
          rw [if_pos rfl, if_pos (by omega), if_pos (by simp only [List.length_cons]; omega), Nat.sub_self]; rfl
        · rw [if_neg e2, if_neg (by simp only [List.length_cons]; omega)]
  have := key v.toList 0 cs (by simpa using h)
  rw [← Array.foldl_toList, Array.toList_zipIdx]
  simpa using this

theorem placeT_struct {P : Program} {t : TypeId} {i : Nat} {f : Field} {n : Nat} (h : fieldT P t i = some f) (hn : sizeT P f.type = some n) : placeT P t i = some (f.offset, n) := by simp [placeT, h, hn]

/-- fill, cell by cell. -/
theorem fillA_ok {pl : Nat → Option (Nat × Nat)} (h : RelAt X B ρ s a w) (place : Nat → Option (Nat × Nat)) (hp : ∀ i q, pl i = some q → place i = some q) :
    ∀ (ps : List (Nat × Operand)) (cs : List AV) (vs : Array Value) (cs' : List AV), vs.size = cs.length → (∀ (j : Nat) (c : AV), cs[j]? = some c → ∃ x : Value, vs[j]? = some x ∧ RepC w (Own ρ s.hp) ρ c x) → fillA pl s ps cs = some cs' →
      ∃ vs', Instr.fill place vs (ps.map fun p => (p.1, a.eval p.2)) = some vs' ∧ vs'.size = cs'.length ∧ ∀ (j : Nat) (c : AV), cs'[j]? = some c → ∃ x : Value, vs'[j]? = some x ∧ RepC w (Own ρ s.hp) ρ c x
  | [], cs, vs, cs', h1, h2, hf => by cases hf; exact ⟨vs, rfl, h1, h2⟩
  | (i, x) :: r, cs, vs, cs', h1, h2, hf => by
    simp only [fillA] at hf
    split at hf
    · rename_i o n l e1 e2
      split at hf
      · rename_i hc
        obtain ⟨k1, k2⟩ := cellsOf_rep (h.opv x) e2
        have hsz : o + (a.eval x).cells.size ≤ vs.size := by rw [k1, hc.1, h1]; exact hc.2
        obtain ⟨m1, m2⟩ := foldl_set (a.eval x).cells vs o hsz
        obtain ⟨vs', f1, f2, f3⟩ := fillA_ok h place hp r (setAll cs o l) ((a.eval x).cells.zipIdx.foldl (fun cs (x : Value × Nat) => cs.setIfInBounds (o + x.2) x.1) vs) cs' (by rw [m1, setAll_len, h1]) (fun j c hj => by
          rw [setAll_at l cs o (by rw [hc.1]; exact hc.2) j] at hj
          rw [m2 j, k1]
          split at hj
          · rename_i hb
            rw [if_pos hb]
            exact k2 _ c hj
          · rename_i hb
            rw [if_neg hb]
            exact h2 j c hj) hf
        refine ⟨vs', ?_, f2, f3⟩
        simp only [List.map_cons, Instr.fill, hp i _ e1]
        rw [if_neg (by simp only [Bool.or_eq_true, ne_eq, decide_eq_true_eq, not_or, Decidable.not_not]; exact ⟨by rw [k1, hc.1], by omega⟩)]
        exact f1
      · cases hf
    · cases hf

theorem zeroC_eq {P : Program} {t : TypeId} {z : List AV} (h : zeroC P t = some z) : ∃ v : Value, (∀ w, (zeroValue t).run P w = .ok v w) ∧ v.cells.size = z.length ∧ ∀ (O : Nat → Prop) (ρ : Rho) (w : World) (j : Nat) (c : AV), z[j]? = some c → ∃ x : Value, v.cells[j]? = some x ∧ RepC w O ρ c x := by
  unfold zeroC at h
  split at h
  · rename_i i e1
    split at h
    · rename_i v e2
      split at h
      · rename_i hall
        cases h
        rw [List.all_eq_true] at hall
        refine ⟨v, fun w => by simp [zeroValue, typeInfo, e1, e2], by simp, fun O ρ w j c hj => ?_⟩
        rw [List.getElem?_map] at hj
        cases hx : v.cells.toList[j]? with
        | none => rw [hx] at hj; cases hj
        | some x =>
          rw [hx] at hj; cases hj
          exact ⟨x, by simpa using hx, RepC_lit.2 ⟨rfl, hall x (List.mem_of_getElem? hx)⟩⟩
      · cases h
    · cases h
  · cases h
end
end Go.Proofs.De

namespace Go.Proofs.De
open Go.RowKit

section
variable {X : Cx} {B : Base} {ρ : Rho} {s : St} {a : Act} {w : World}

/-- An operation's value, where it changes no memory. -/
def Val (X : Cx) (ρ : Rho) (s : St) (a : Act) (w : World) (o : Oper) (K : AV → Prop) : Prop :=
  ∃ c u, K c ∧ (execOp a.eval o).run X.P w = .ok (.value u) w ∧ RepV w (Own ρ s.hp) ρ c u

theorem load_ok (h : RelAt X B ρ s a w) {o : Oper} {t : TypeId} {x : Operand} (ho : o.op = .load t x) {g b f : Nat} {cs : List AV} (hu : a.eval x = .pointer (some ⟨g, b + f, none⟩)) (hc : CellsAt w (Own ρ s.hp) ρ g b cs) {K : AV → Prop}
    (hk : match loadC X.P t cs f with | some c => K c | none => Stuck "load") : Val X ρ s a w o K := by
  have _ := h
  cases e : loadC X.P t cs f with
  | none => rw [e] at hk; exact hk.x.elim
  | some c =>
    rw [e] at hk
    obtain ⟨u, k1, k2⟩ := run_loadAt (P := X.P) hc e
    refine ⟨c, u, hk, ?_, RepA_RepV k2⟩
    simp [execOp, ho, hu, k1]

theorem lit_at (h : RelAt X B ρ s a w) {x : Operand} {v : Value} (e : opv s x = .lit v) : a.eval x = v := by
  have := h.opv x
  rw [e] at this
  exact (RepV_lit.1 this).1
theorem toVal_at (h : RelAt X B ρ s a w) {x : Operand} {v : Value} (e : toVal (opv s x) = some v) : a.eval x = v := toVal_eq e (h.opv x)

theorem bounds_ok (h : RelAt X B ρ s a w) {n : Nat} {lo hi : Option Operand} {K : Nat → Nat → Prop} (hk : bounds s n lo hi K) (m : Nat) (hm : n ≤ m) (isS : Bool) :
    ∃ l r, l ≤ r ∧ r ≤ n ∧ K l r ∧ (Instr.sliceBounds isS n m (lo.map a.eval) (hi.map a.eval) none).run X.P w = .ok (l, r, m) w := by
  unfold bounds at hk
  split at hk
  · rename_i k1 l k2 r e1 e2
    obtain ⟨⟨h1, h2, h3⟩, hk⟩ := hk
    refine ⟨l.toNat, r.toNat, by omega, by omega, hk, ?_⟩
    have one : ∀ (x : Operand) (k : IntKind) (z : Int) (y : Nat) (code : BoundsCode), toVal (opv s x) = some (.int k z) → 0 ≤ z → z ≤ y → (Instr.sliceBound (a.eval x) y code).run X.P w = .ok z.toNat w := by
      intro x k z y code e h0 h1
      simp only [toVal_at h e, Instr.sliceBound, Sem.run_bind, asIntOf, Sem.run_pure, Result.andThen_ok, Sem.run_ite]
      rw [if_pos ⟨h0, h1⟩]
    have hr : ((r.toNat : Nat) : Int) = r := by omega
    cases lo with
    | none =>
      simp only [Option.some.injEq, Value.int.injEq] at e1
      obtain ⟨_, rfl⟩ := e1
      cases hi with
      | none =>
        simp only [Option.some.injEq, Value.int.injEq] at e2
        obtain ⟨_, rfl⟩ := e2
        simp [Instr.sliceBounds]
      | some x =>
        have := fun code => one x k2 r m code e2 (by omega) (by omega)
        simp [Instr.sliceBounds, this]
    | some y =>
      cases hi with
      | none =>
        simp only [Option.some.injEq, Value.int.injEq] at e2
        obtain ⟨_, rfl⟩ := e2
        have := fun code => one y k1 l n code e1 h1 h2
        simp [Instr.sliceBounds, this]
      | some x =>
        have k3 := fun code => one x k2 r m code e2 (by omega) (by omega)
        have k4 := fun code => one y k1 l r.toNat code e1 h1 (by omega)
        simp [Instr.sliceBounds, k3, k4]
  · exact hk.x.elim

theorem opvs_at : ∀ {l : List Operand} {j : Nat} {c : AV}, (opvs s l)[j]? = some c → ∃ x, l[j]? = some x ∧ c = opv s x
  | [], j, c, h => by cases h
  | y :: l, 0, c, h => by cases h; exact ⟨y, rfl, rfl⟩
  | y :: l, j + 1, c, h => opvs_at (l := l) h
theorem opvs_len : ∀ (l : List Operand), (opvs s l).length = l.length
  | [] => rfl
  | _ :: l => congrArg (· + 1) (opvs_len l)
theorem allB_at : ∀ {l : List AV} {j : Nat} {c : AV}, allB l = true → l[j]? = some c → isB c = true
  | [], j, c, _, h => by cases h
  | y :: l, 0, c, h1, h => by cases h; simp only [allB, Bool.and_eq_true] at h1; exact h1.1
  | y :: l, j + 1, c, h1, h => by simp only [allB, Bool.and_eq_true] at h1; exact allB_at h1.2 h
theorem isB_rep {O : Nat → Prop} {c : AV} {u : Value} (hb : isB c = true) (h : RepV w O ρ c u) : RepB w O ρ c u := by
  cases c <;> simp only [isB] at hb <;> first | (simp only [RepV, RepA, RepC] at h; exact h) | cases hb
theorem lits_env (h : RelAt X B ρ s a w) {o : Oper} (hs : ∀ cs b, o.op ≠ .select cs b) (hl : allLit s o.op.operands.toList = true) : execOp a.eval o = execOp (litEnv s) o := by
  refine execOp_congr o hs fun x hx => ?_
  have := allLit_at hl x (by simpa using hx)
  cases e : toVal (opv s x) with
  | none => rw [e] at this; cases this
  | some v => rw [toVal_at h e, litEnv, e]; rfl
theorem reckon_ok (h : RelAt X B ρ s a w) {o : Oper} (hs : ∀ cs b, o.op ≠ .select cs b) {K : AV → Prop}
    (hk : reckonK X.P s o K) : Val X ρ s a w o K := by
  unfold reckonK at hk
  cases e : pureOut X.P (execOp (litEnv s) o) with
  | none => rw [e] at hk; exact hk.x.elim
  | some v =>
    rw [e] at hk
    by_cases hl : allLit s o.op.operands.toList = true
    · simp only [hl, if_true] at hk
      exact ⟨_, v, hk, by rw [lits_env h hs hl]; exact pureOut_run w _ e, RepV_valAV _ _ _ v⟩
    · simp only [hl] at hk; exact hk.x.elim

theorem bin_ok (h : RelAt X B ρ s a w) {o : Oper} {op : BinOp} {t u : TypeId} {x y : Operand} (ho : o.op = .binOp op t x y u) {K : AV → Prop} (hk : binK X.P s o op x y K) : Val X ρ s a w o K := by
  have hs : ∀ cs b, o.op ≠ .select cs b := fun cs b e => by rw [ho] at e; cases e
  unfold binK at hk
  split at hk
  · split at hk
    · rename_i p q e1 e2
      obtain ⟨h1, hk⟩ := hk
      refine ⟨_, .string (p ++ q), hk, ?_, RepV_lit.2 ⟨rfl, rfl⟩⟩
      have h2 : ¬ ((p.size + q.size : Nat) : Int) > IntKind.i64.max := by omega
      simp only [execOp, ho, lit_at h e1, lit_at h e2, eqGuard, binOp, Op.stringOp, Sem.run_bind, if_neg h2]
      simp
    · exact reckon_ok h hs hk
  · split at hk
    · rename_i k p k' q e1 e2
      obtain ⟨⟨rfl, h1⟩, hk⟩ := hk
      refine ⟨_, .int k (k.wrap (p.tdiv q)), hk, ?_, RepV_lit.2 ⟨rfl, rfl⟩⟩
      simp [execOp, ho, lit_at h e1, lit_at h e2, eqGuard, binOp, Op.intDiv, h1]
    · exact hk.x.elim
  · split at hk
    · rename_i k p k' q e1 e2
      obtain ⟨⟨rfl, h1⟩, hk⟩ := hk
      refine ⟨_, .int k (p.tmod q), hk, ?_, RepV_lit.2 ⟨rfl, rfl⟩⟩
      simp [execOp, ho, lit_at h e1, lit_at h e2, eqGuard, binOp, Op.intDiv, h1]
    · exact hk.x.elim
  · split at hk
    · rename_i p q e1 e2
      refine ⟨_, _, hk, ?_, RepV_lit.2 ⟨rfl, rfl⟩⟩
      simp [execOp, ho, lit_at h e1, lit_at h e2, eqGuard, binOp, Op.stringOp, ByteArray.toList_eq]
    · exact reckon_ok h hs hk
  · split at hk
    · rename_i p q e1 e2
      refine ⟨_, _, hk, ?_, RepV_lit.2 ⟨rfl, rfl⟩⟩
      simp [execOp, ho, lit_at h e1, lit_at h e2, eqGuard, binOp, Op.stringOp, ByteArray.toList_eq]
    · exact reckon_ok h hs hk
  · exact reckon_ok h hs hk

theorem rslc_at {O : Nat → Prop} {wd n : Nat} {row : Nat → List AV} {u : Value} (h : RepV w O ρ (.rslc wd n row) u) : ∃ (base : Option Addr) (cap g o : Nat), u = .slice base n cap ∧ n ≤ cap ∧ (base = none → cap = 0) ∧
    (n ≠ 0 → base = some ⟨g, o, none⟩ ∧ g < w.heap.size ∧ ¬ O g) ∧ (∀ i, i < n → (row i).length = wd) ∧ ∃ us : Nat → Nat → Value, (∀ i j, i < n → j < wd → w.cell? ⟨g, o + i * wd + j, none⟩ = some (us i j)) ∧ ∀ i j c, i < n → (row i)[j]? = some c → RepI w O c (us i j) := by
  simp only [RepV, RepA, RepC, RepB] at h
  cases h with
  | rslc wd n row base cap g o us h0 hb h1 h2 h3 h4 => exact ⟨base, cap, g, o, rfl, h0, hb, h1, h2, us, h3, h4⟩
theorem rslc_elem {O : Nat → Prop} {wd n : Nat} {row : Nat → List AV} {base : Option Addr} {cap i : Nat} (h : RepV w O ρ (.rslc wd n row) (.slice base n cap)) (hi : i < n) : ∃ g o, base = some ⟨g, o, none⟩ ∧ RepI w O (.rptr (row i) 0) (.pointer (some ⟨g, o + i * wd, none⟩)) := by
  obtain ⟨base', cap', g, o, e, h0, hb, h1, h2, us, h3, h4⟩ := rslc_at h
  simp only [Value.slice.injEq, true_and] at e
  obtain ⟨rfl, rfl⟩ := e
  obtain ⟨rfl, k1, k2⟩ := h1 (by omega)
  refine ⟨g, o, rfl, ?_⟩
  have := RepI.rptr (w := w) (O := O) (row i) 0 g (o + i * wd) (us i) k1 k2 (fun j hj => h3 i j hi (by rw [← h2 i hi]; exact hj)) (fun j c hc => h4 i j c hi hc)
  simpa using this
end
end Go.Proofs.De

namespace Go.Proofs.De
open Go.RowKit

section
variable {X : Cx} {B : Base} {ρ : Rho} {s : St} {a : Act} {w : World}

theorem add_add' (a : Addr) (m n : Nat) : (a.add m).add n = a.add (m + n) := by
  unfold Addr.add
  by_cases h1 : m = 0
  · subst h1; simp
  · by_cases h2 : n = 0
    · subst h2; simp
    · simp [h1, h2, Nat.add_assoc]
theorem add_map {g o n : Nat} : (some (⟨g, o, none⟩ : Addr)).map (·.add n) = some ⟨g, o + n, none⟩ := by simp [Addr.add_lit]

theorem indexAddr_slice (h : RelAt X B ρ s a w) {o : Oper} {t e : TypeId} {x i : Operand} (ho : o.op = .indexAddr t x i) (he : elemT X.P t = some e) {wd : Nat} (hw : sizeT X.P e = some wd) {k : IntKind} {z : Int} (hi : opv s i = .lit (.int k z))
    {g b n cap : Nat} (hx : a.eval x = .slice (some ⟨g, b, none⟩) n cap) (h0 : 0 ≤ z) (h1 : z < n) : (execOp a.eval o).run X.P w = .ok (.value (.pointer (some ⟨g, b + z.toNat * wd, none⟩))) w := by
  simp [execOp, ho, hx, lit_at h hi, Instr.indexAt, asIntOf, run_underlyingD (elemT_eq he), run_sizeOf hw, h0, h1, Addr.add_lit]
theorem indexAddr_array (h : RelAt X B ρ s a w) {o : Oper} {t e : TypeId} {x i : Operand} (ho : o.op = .indexAddr t x i) {n : Nat} (he : arrT X.P t = some (n, e)) {wd : Nat} (hw : sizeT X.P e = some wd) {k : IntKind} {z : Int} (hi : opv s i = .lit (.int k z))
    {g b : Nat} (hx : a.eval x = .pointer (some ⟨g, b, none⟩)) (h0 : 0 ≤ z) (h1 : z < n) : (execOp a.eval o).run X.P w = .ok (.value (.pointer (some ⟨g, b + z.toNat * wd, none⟩))) w := by
  simp [execOp, ho, hx, lit_at h hi, Instr.indexAt, asIntOf, run_underlyingD (arrT_eq he), run_sizeOf hw, h0, h1, Addr.add_lit, Instr.sureAddr]

theorem slice_own (h : RelAt X B ρ s a w) {o : Oper} {t e : TypeId} {x : Operand} {lo hi : Option Operand} (ho : o.op = .slice t x lo hi none) (he : elemT X.P t = some e) {wd : Nat} (hw : sizeT X.P e = some wd)
    {base : Option Addr} {n cap : Nat} (hx : a.eval x = .slice base n cap) (hn : n ≤ cap) {K : Nat → Nat → Prop} (hk : bounds s n lo hi K) :
    ∃ l r, l ≤ r ∧ r ≤ n ∧ K l r ∧ (execOp a.eval o).run X.P w = .ok (.value (.slice (if cap = l then base else base.map (·.add (l * wd))) (r - l) (cap - l))) w := by
  obtain ⟨l, r, h1, h2, h3, h4⟩ := bounds_ok h hk cap hn true
  refine ⟨l, r, h1, h2, h3, ?_⟩
  have e1 := elemT_eq he
  simp [execOp, ho, hx, Instr.sliceAt, run_underlyingD e1, Instr.slice, h4, run_sizeOf hw]

theorem rep_window {O : Nat → Prop} {wd n l r : Nat} {row : Nat → List AV} {base : Option Addr} {cap : Nat} (hr : RepV w O ρ (.rslc wd n row) (.slice base n cap)) (h1 : l ≤ r) (h2 : r ≤ n) :
    RepV w O ρ (.rslc wd (r - l) fun i => row (l + i)) (.slice (if cap = l then base else base.map (·.add (l * wd))) (r - l) (cap - l)) := by
  obtain ⟨base', cap', g, o, e, h0, hb, k1, k2, us, k3, k4⟩ := rslc_at hr
  simp only [Value.slice.injEq, true_and] at e
  obtain ⟨rfl, rfl⟩ := e
  simp only [RepV, RepA, RepC, RepB]
  refine .rslc wd (r - l) _ _ (cap - l) g (o + l * wd) (fun i j => us (l + i) j) (by omega) ?_ ?_ (fun i hi => k2 (l + i) (by omega)) ?_ (fun i j c hi hc => k4 (l + i) j c (by omega) hc)
  · intro e
    by_cases hc : cap = l
    · omega
    · rw [if_neg hc] at e
      cases hbase : base with
      | none => rw [hb hbase]; omega
      | some x => rw [hbase] at e; cases e
  · intro hn
    obtain ⟨rfl, e2, e3⟩ := k1 (by omega)
    rw [if_neg (by omega), add_map]
    exact ⟨rfl, e2, e3⟩
  · intro i j hi hj
    have := k3 (l + i) j (by omega) hj
    rw [Nat.add_mul] at this
    rw [← this]
    congr 2
    omega

theorem rep_part {O : Nat → Prop} {id wd i n l r : Nat} {base : Option Addr} {cap : Nat} (hr : RepV w O ρ (.slc id wd i n) (.slice base n cap)) (h1 : l ≤ r) (h2 : r ≤ n) :
    RepV w O ρ (.slc id wd (i + l) (r - l)) (.slice (if cap = l then base else base.map (·.add (l * wd))) (r - l) (cap - l)) := by
  obtain ⟨x, m, cap', base', e1, e, e3, e4, e5, e6, e7⟩ := hr
  simp only [Value.slice.injEq, true_and] at e
  obtain ⟨rfl, rfl⟩ := e
  refine ⟨x, m, cap', if cap' - i = l then base else base.map (·.add (l * wd)), e1, by rw [show cap' - (i + l) = cap' - i - l by omega], by omega, ?_, ?_, ?_, e7⟩
  · intro e0
    have hi : i = 0 := by omega
    have hl : l = 0 := by omega
    subst hi; subst hl
    rw [e4 rfl]
    split
    · rfl
    · cases x <;> simp [Addr.add]
  · intro hn
    rw [if_neg (by omega), e5 (by omega)]
    cases x with
    | none => rfl
    | some y => simp only [Option.map_some, add_add', Nat.add_mul]
  · intro e0
    by_cases hc : cap' - i = l
    · omega
    · rw [if_neg hc] at e0
      cases hbase : base with
      | none => have := e6 hbase; omega
      | some y => rw [hbase] at e0; cases e0

theorem slc_at {O : Nat → Prop} {id wd i n : Nat} {u : Value} (hr : RepV w O ρ (.slc id wd i n) u) : ∃ base cap, u = .slice base n cap ∧ n ≤ cap := by
  obtain ⟨x, m, cap', base', e1, rfl, e3, _⟩ := hr
  exact ⟨_, _, rfl, by omega⟩

theorem extract_ok (h : RelAt X B ρ s a w) {o : Oper} {x : Operand} {i : Nat} (ho : o.op = .extract x i) {vs : List AV} (hx : opv s x = .tup vs) {c : AV} (hc : vs[i]? = some c) : ∃ u, (execOp a.eval o).run X.P w = .ok (.value u) w ∧ RepV w (Own ρ s.hp) ρ c u := by
  have := h.opv x
  rw [hx] at this
  obtain ⟨us, e1, _, e3⟩ := this
  obtain ⟨y, k1, k2⟩ := e3 i c hc
  exact ⟨y, by simp [execOp, ho, e1, Instr.extract, k1], RepA_RepV k2⟩

theorem field_ok (h : RelAt X B ρ s a w) {o : Oper} {t : TypeId} {x : Operand} {i : Nat} (ho : o.op = .field t x i) {f : Field} (hf : fieldT X.P t i = some f) {cs : List AV} (hx : opv s x = .agg cs) {c : AV} (hc : loadC X.P f.type cs f.offset = some c) :
    ∃ u, (execOp a.eval o).run X.P w = .ok (.value u) w ∧ RepV w (Own ρ s.hp) ρ c u := by
  have hr := h.opv x
  rw [hx] at hr
  obtain ⟨us, e1, e2, e3⟩ := hr
  obtain ⟨fs, k1, k2⟩ := fieldT_eq hf
  unfold loadC at hc
  split at hc
  · rename_i n m1 m2
    split at hc
    · rename_i hn
      cases hc
      refine ⟨.agg (us.extract f.offset (f.offset + n)), ?_, ⟨_, rfl, by simp; omega, fun j c hj => ?_⟩⟩
      · simp [execOp, ho, e1, Instr.field, run_underlyingD k1, k2, asAgg, part, run_isAgg m1, run_sizeOf m2]
      · rw [List.getElem?_take] at hj
        split at hj
        · rw [List.getElem?_drop] at hj
          obtain ⟨y, q1, q2⟩ := e3 (f.offset + j) c hj
          refine ⟨y, ?_, q2⟩
          have hlt := (Array.getElem?_eq_some_iff.1 q1).1
          rw [Array.getElem?_extract, if_pos (by omega)]
          exact q1
        · cases hj
    · cases hc
  · rename_i m1 _
    obtain ⟨y, q1, q2⟩ := e3 f.offset c hc
    refine ⟨y, ?_, RepA_RepV (RepC_RepA q2)⟩
    simp [execOp, ho, e1, Instr.field, run_underlyingD k1, k2, asAgg, part, run_isAgg m1, q1]
  · cases hc

theorem mapM_places {P : Program} (w : World) : ∀ (l : List Field), sizesOk P l = true → ∃ ns : List (Nat × Nat), (l.mapM fun f => (do pure (f.offset, ← sizeOf f.type) : Sem (Nat × Nat))).run P w = .ok ns w ∧ ∀ (i : Nat) (f : Field) (n : Nat), l[i]? = some f → sizeT P f.type = some n → ns[i]? = some (f.offset, n)
  | [], _ => ⟨[], rfl, fun i f n h => by cases h⟩
  | f :: l, h => by
    simp only [sizesOk, Bool.and_eq_true] at h
    obtain ⟨ns, h1, h2⟩ := mapM_places w l h.2
    cases e : sizeT P f.type with
    | none => rw [e] at h; cases h.1
    | some n =>
      refine ⟨(f.offset, n) :: ns, ?_, fun i f' n' hi hn => ?_⟩
      · simp only [List.mapM_cons, Sem.run_bind, run_sizeOf e, Result.andThen_ok, Sem.run_pure]
        rw [h1]; rfl
      · cases i with
        | zero => cases hi; rw [e] at hn; cases hn; rfl
        | succ i => exact h2 i f' n' hi hn

theorem build_ok (h : RelAt X B ρ s a w) {o : Oper} {t : TypeId} {ps : Array (Nat × Operand)} (ho : o.op = .build t ps) {z cs : List AV} (hz : zeroC X.P t = some z) (hag : partsOk X.P t = true) (hf : fillA (placeT X.P t) s ps.toList z = some cs) :
    ∃ u, (execOp a.eval o).run X.P w = .ok (.value u) w ∧ RepV w (Own ρ s.hp) ρ (.agg cs) u := by
  obtain ⟨v, z1, z2, z3⟩ := zeroC_eq hz
  have hl : (ps.map fun (x : Nat × Operand) => (x.1, a.eval x.2)).toList = ps.toList.map (fun p => (p.1, a.eval p.2)) := by simp
  unfold partsOk at hag
  cases hu : X.P.underlying t with
  | none => rw [hu] at hag; cases hag
  | some d =>
    rw [hu] at hag
    cases d with
    | struct fs =>
      obtain ⟨ns, n1, n2⟩ := mapM_places (P := X.P) w fs.toList hag
      have n3 : (fs.mapM fun f => (do pure (f.offset, ← sizeOf f.type) : Sem (Nat × Nat))).run X.P w = .ok ns.toArray w := by
        rw [Array.mapM_eq_mapM_toList, Sem.run_map, n1]; rfl
      obtain ⟨vs', f1, f2, f3⟩ := fillA_ok h (ns.toArray[·]?) (fun i q hq => by
        unfold placeT at hq
        cases e : fieldT X.P t i with
        | none =>
          rw [e] at hq
          have : arrT X.P t = none := by unfold arrT; rw [hu]
          rw [this] at hq; cases hq
        | some f =>
          rw [e] at hq
          obtain ⟨fs', e1, e2⟩ := fieldT_eq e
          rw [hu] at e1; cases e1
          cases e3 : sizeT X.P f.type with
          | none => simp only [e3] at hq; cases hq
          | some n =>
            simp only [e3] at hq; cases hq
            simpa using n2 i f n (by simpa using e2) e3) ps.toList z v.cells cs z2 (fun j c hj => z3 _ _ _ j c hj) hf
      refine ⟨.agg vs', ?_, ⟨vs', rfl, f2, f3⟩⟩
      simp only [execOp, ho, Instr.build, Sem.run_bind, z1, Result.andThen_ok, run_underlyingD hu, n3, hl, f1]
      rfl
    | array n e =>
      cases hn : sizeT X.P e with
      | none => simp only [hn] at hag; cases hag
      | some sz =>
        obtain ⟨vs', f1, f2, f3⟩ := fillA_ok h (fun i => some (i * sz, sz)) (fun i q hq => by
          unfold placeT at hq
          have e0 : fieldT X.P t i = none := by unfold fieldT; rw [hu]
          have e1 : arrT X.P t = some (n, e) := by unfold arrT; rw [hu]
          rw [e0, e1] at hq
          simp only [hn] at hq
          exact hq) ps.toList z v.cells cs z2 (fun j c hj => z3 _ _ _ j c hj) hf
        refine ⟨.agg vs', ?_, ⟨vs', rfl, f2, f3⟩⟩
        simp only [execOp, ho, Instr.build, Sem.run_bind, z1, Result.andThen_ok, run_underlyingD hu, run_sizeOf hn, hl, f1]
        rfl
    | _ => cases hag

set_option maxHeartbeats 1000000 in
theorem vop_sound (h : RelAt X B ρ s a w) (o : Oper) {K : AV → Prop} (hk : vopK X.P s o K) : Val X ρ s a w o K := by
  unfold vopK at hk
  split at hk
  · rename_i x ho; exact ⟨_, a.eval x, hk, by simp [execOp, ho], h.opv x⟩
  · rename_i x ho; exact ⟨_, a.eval x, hk, by simp [execOp, ho], h.opv x⟩
  · rename_i c x y ho
    split at hk
    · rename_i b e
      cases b with
      | true => exact ⟨_, a.eval x, hk.t rfl, by simp [execOp, ho, lit_at h e, asBool], h.opv x⟩
      | false => exact ⟨_, a.eval y, hk.f rfl, by simp [execOp, ho, lit_at h e, asBool], h.opv y⟩
    · exact hk.x.elim
  · rename_i t x i ho
    split at hk
    · rename_i f e1
      split at hk
      · rename_i n e2
        split at hk
        · rename_i id g e3
          rw [fN_eq] at hk
          have hr := h.opv x
          rw [e3] at hr
          obtain ⟨b, k1, k2⟩ := hr
          exact ⟨_, .pointer (some ⟨b, g + f.offset, none⟩), hk, by simp [execOp, ho, k2, run_fieldAt e1 e2], ⟨b, k1, rfl⟩⟩
        · rename_i id wd j g e3
          rw [fN_eq] at hk
          have hr := h.opv x
          rw [e3] at hr
          obtain ⟨b, n', cap, k1, k2⟩ := hr
          exact ⟨_, .pointer (some ⟨b, j * wd + g + f.offset, none⟩), hk, by simp [execOp, ho, k2, run_fieldAt e1 e2], ⟨b, n', cap, k1, by rw [Nat.add_assoc]⟩⟩
        · rename_i cs g e3
          rw [fN_eq] at hk
          have hr := h.opv x
          rw [e3] at hr
          simp only [RepV, RepA, RepC, RepB] at hr
          generalize hu : a.eval x = u at hr
          cases hr with
          | rptr cs g b p us h1 h2 h3 h4 =>
            exact ⟨_, .pointer (some ⟨b, p + g + f.offset, none⟩), hk, by simp [execOp, ho, hu, run_fieldAt e1 e2], by
              simp only [RepV, RepA, RepC, RepB]; rw [Nat.add_assoc]; exact .rptr cs (g + f.offset) b p us h1 h2 h3 h4⟩
        · exact hk.x.elim
      · exact hk.x.elim
    · exact hk.x.elim
  · rename_i t x ho
    split at hk
    · rename_i cs g e1
      have hr := h.opv x
      rw [e1] at hr
      obtain ⟨b, p, k1, k2⟩ := cells_rptr hr
      exact load_ok h ho k1 k2 hk
    · rename_i id g e1
      split at hk
      · rename_i cs e2
        have hr := h.opv x
        rw [e1] at hr
        obtain ⟨b, k1, k2⟩ := cells_box h hr e2
        exact load_ok h ho k1 k2 hk
      · exact hk.x.elim
    · rename_i id wd j g e1
      split at hk
      · rename_i et wd' rows e2
        obtain ⟨rfl, ⟨cs, e3, hk⟩⟩ := hk
        have hr := h.opv x
        rw [e1] at hr
        obtain ⟨b, k1, k2⟩ := cells_row h hr (.inl e2) e3
        exact load_ok h ho k1 k2 hk
      · rename_i et wd' rows e2
        obtain ⟨rfl, ⟨cs, e3, hk⟩⟩ := hk
        have hr := h.opv x
        rw [e1] at hr
        obtain ⟨b, k1, k2⟩ := cells_row h hr (.inr e2) e3
        exact load_ok h ho k1 k2 hk
      · exact hk.x.elim
    · exact hk.x.elim
  · rename_i t x i ho
    split at hk
    · rename_i e e1
      split at hk
      · rename_i wd' e2
        split at hk
        · rename_i wd n row k z e3 e4
          obtain ⟨⟨rfl, h0, h1⟩, hk⟩ := hk
          have hr := h.opv x
          rw [e3] at hr
          obtain ⟨base, cap, _, _, q1, _⟩ := rslc_at hr
          rw [q1] at hr
          obtain ⟨g, b, rfl, q2⟩ := rslc_elem (i := z.toNat) hr (by omega)
          exact ⟨_, _, hk, indexAddr_slice h ho e1 e2 e4 q1 h0 h1, by simp only [RepV, RepA, RepC, RepB]; exact q2⟩
        · rename_i id wd j n k z e3 e4
          obtain ⟨⟨rfl, h0, h1⟩, hk⟩ := hk
          have hr := h.opv x
          rw [e3] at hr
          obtain ⟨y, m, cap, base, q1, q2, q3, q4, q5, q6, q7⟩ := hr
          have q8 := q5 (by omega)
          cases y with
          | none => have := q6 q8; omega
          | some y' =>
            obtain ⟨g, rfl⟩ := q7 y' rfl
            rw [add_map, Nat.zero_add] at q8
            subst q8
            exact ⟨_, _, hk, indexAddr_slice h ho e1 e2 e4 q2 h0 h1, ⟨g, m, cap, q1, by rw [Nat.add_mul]; rfl⟩⟩
        · exact hk.x.elim
      · exact hk.x.elim
    · split at hk
      · rename_i n e e1
        split at hk
        · rename_i sz e2
          split at hk
          · rename_i id g k z e3 e4
            obtain ⟨⟨h0, h1⟩, hk⟩ := hk
            have hr := h.opv x
            rw [e3] at hr
            obtain ⟨b, k1, k2⟩ := hr
            exact ⟨_, _, hk, indexAddr_array h ho e1 e2 e4 k2 h0 h1, ⟨b, k1, rfl⟩⟩
          · rename_i cs g k z e3 e4
            obtain ⟨⟨h0, h1⟩, hk⟩ := hk
            have hr := h.opv x
            rw [e3] at hr
            simp only [RepV, RepA, RepC, RepB] at hr
            generalize hu : a.eval x = u at hr
            cases hr with
            | rptr cs g b p us q1 q2 q3 q4 =>
              exact ⟨_, _, hk, indexAddr_array h ho e1 e2 e4 hu h0 h1, by
                simp only [RepV, RepA, RepC, RepB]; rw [Nat.add_assoc]; exact .rptr cs (g + z.toNat * sz) b p us q1 q2 q3 q4⟩
          · exact hk.x.elim
        · exact hk.x.elim
      · exact hk.x.elim
  · rename_i t x i ho
    split at hk
    · rename_i b k z e1 e2
      split at hk
      · rename_i e3
        obtain ⟨⟨h0, h1⟩, hk⟩ := hk
        refine ⟨_, .int .u8 (b.data.getD z.toNat 0).toNat, hk, ?_, RepV_lit.2 ⟨rfl, rfl⟩⟩
        have h2 : z.toNat < b.size := by omega
        have h3 : b[z.toNat]? = some (b.data.getD z.toNat 0) := by
          have h4 : z.toNat < b.data.size := h2
          rw [getElem?_pos b z.toNat h2]
          simp only [Array.getD, h4, dif_pos]
          rfl
        simp [execOp, ho, lit_at h e1, lit_at h e2, Instr.index, asIntOf, run_underlyingD (strT_eq e3), h0, h3]
      · exact hk.x.elim
    · exact hk.x.elim
  · rename_i t x i ho
    split at hk
    · rename_i f cs e1 e2
      split at hk
      · rename_i c e3
        obtain ⟨u, k1, k2⟩ := field_ok h ho e1 e2 e3
        exact ⟨c, u, hk, k1, k2⟩
      · exact hk.x.elim
    · exact hk.x.elim
  · rename_i x i ho
    split at hk
    · rename_i vs e1
      split at hk
      · rename_i c e2
        obtain ⟨u, k1, k2⟩ := extract_ok h ho e1 e2
        exact ⟨c, u, hk, k1, k2⟩
      · exact hk.x.elim
    · exact hk.x.elim
  · rename_i t ps ho
    split at hk
    · rename_i z e1 e2
      split at hk
      · rename_i cs e3
        obtain ⟨u, k1, k2⟩ := build_ok h ho e1 e2 e3
        exact ⟨_, u, hk, k1, k2⟩
      · exact hk.x.elim
    · exact hk.x.elim
  · rename_i x ho
    split at hk
    · rename_i id f e1
      have hr := h.opv x
      rw [e1] at hr
      obtain ⟨b, k1, k2⟩ := hr
      exact ⟨_, _, hk, by simp only [execOp, ho, k2]; rfl, ⟨b, k1, rfl⟩⟩
    · rename_i id wd i f e1
      have hr := h.opv x
      rw [e1] at hr
      obtain ⟨b, n, cap, k1, k2⟩ := hr
      exact ⟨_, _, hk, by simp only [execOp, ho, k2]; rfl, ⟨b, n, cap, k1, rfl⟩⟩
    · rename_i cs f e1
      have hr := h.opv x
      rw [e1] at hr
      obtain ⟨b, p, k1, k2⟩ := cells_rptr hr
      exact ⟨_, _, hk, by simp only [execOp, ho, k1]; rfl, by rw [← k1]; exact hr⟩
    · rename_i f caps e1
      have hr := h.opv x
      rw [e1] at hr
      obtain ⟨us, k1, k2⟩ := hr
      exact ⟨_, _, hk, by simp only [execOp, ho, k1]; rfl, ⟨us, rfl, k2⟩⟩
    · exact hk.x.elim
  · rename_i f first captured ho
    split at hk
    · rename_i e1
      split at hk
      · rename_i e2
        have e0 : first = #[] := by cases first; simpa using e1
        subst e0
        refine ⟨_, .func (.func f) #[] (captured.map a.eval), hk, by simp [execOp, ho, Instr.makeFunc], ⟨_, rfl, by simp [opvs_len], fun j c hc => ?_⟩⟩
        obtain ⟨x, k1, rfl⟩ := opvs_at hc
        refine ⟨a.eval x, by simp at k1; simp [k1], isB_rep (allB_at e2 hc) (h.opv x)⟩
      · exact hk.x.elim
    · exact hk.x.elim
  · rename_i t x lo hi ho
    split at hk
    · rename_i b e1
      split at hk
      · rename_i e2
        obtain ⟨l, r, _, _, hk, k4⟩ := bounds_ok h hk b.size (Nat.le_refl _) false
        refine ⟨_, .string (b.extract l r), hk, ?_, RepV_lit.2 ⟨rfl, rfl⟩⟩
        simp [execOp, ho, lit_at h e1, Instr.sliceAt, run_underlyingD (strT_eq e2), Instr.slice, k4]
      · exact hk.x.elim
    · rename_i wd n row e1
      split at hk
      · rename_i e e2
        split at hk
        · rename_i wd' e3
          have hr := h.opv x
          rw [e1] at hr
          obtain ⟨base, cap, _, _, q1, q2, _⟩ := rslc_at hr
          obtain ⟨l, r, h1, h2, hk2, h4⟩ := slice_own h ho e2 e3 q1 q2 hk
          obtain ⟨rfl, hk3⟩ := hk2
          exact ⟨_, _, hk3, h4, rep_window (by rw [← q1]; exact hr) h1 h2⟩
        · exact hk.x.elim
      · exact hk.x.elim
    · rename_i id wd i n e1
      split at hk
      · rename_i e e2
        split at hk
        · rename_i wd' e3
          have hr := h.opv x
          rw [e1] at hr
          obtain ⟨base, cap, q1, q2⟩ := slc_at hr
          obtain ⟨l, r, h1, h2, hk2, h4⟩ := slice_own h ho e2 e3 q1 q2 hk
          obtain ⟨rfl, hk3⟩ := hk2
          exact ⟨_, _, hk3, h4, rep_part (by rw [← q1]; exact hr) h1 h2⟩
        · exact hk.x.elim
      · exact hk.x.elim
    · exact hk.x.elim
  · rename_i args argTypes ho
    split at hk
    · rename_i x t e1 e2
      · have e4 : args = #[x] := by cases args; simpa using e1
        have e5 : argTypes = #[t] := by cases argTypes; simpa using e2
        subst e4; subst e5
        have hl : ∀ (v : Value) (n : Nat), a.eval x = v → (Builtin.len_ #[t] o.type #[v]).run X.P w = .ok (.int .i64 n) w → (execOp a.eval o).run X.P w = .ok (.value (.int .i64 n)) w := by
          intro v n e k
          simp [execOp, ho, resolve, invoke, builtin, e, k]
        have hs : ∀ (base : Option Addr) (n cap : Nat), (elemT X.P t).isSome → (Builtin.len_ #[t] o.type #[.slice base n cap]).run X.P w = .ok (.int .i64 n) w := by
          intro base n cap e
          obtain ⟨e', e⟩ := Option.isSome_iff_exists.1 e
          simp [Builtin.len_, run_underlyingD (elemT_eq e), goInt]
        have hss : ∀ (b : ByteArray), strT X.P t → (Builtin.len_ #[t] o.type #[.string b]).run X.P w = .ok (.int .i64 b.size) w := by
          intro b e
          simp [Builtin.len_, run_underlyingD (strT_eq e), goInt]
        unfold lenK at hk
        split at hk
        · rename_i wd n row e6
          have hr := h.opv x
          rw [e6] at hr
          obtain ⟨base, cap, _, _, q1, q2, _⟩ := rslc_at hr
          exact ⟨_, _, hk.2, hl _ n q1 (hs _ _ _ hk.1), RepV_lit.2 ⟨rfl, rfl⟩⟩
        · rename_i id wd i n e6
          have hr := h.opv x
          rw [e6] at hr
          obtain ⟨base, cap, q1, q2⟩ := slc_at hr
          exact ⟨_, _, hk.2, hl _ n q1 (hs _ _ _ hk.1), RepV_lit.2 ⟨rfl, rfl⟩⟩
        · rename_i base n cap e6
          exact ⟨_, _, hk.2, hl _ n (lit_at h e6) (hs _ _ _ hk.1), RepV_lit.2 ⟨rfl, rfl⟩⟩
        · rename_i b e6
          exact ⟨_, _, hk.2, hl _ b.size (lit_at h e6) (hss _ hk.1), RepV_lit.2 ⟨rfl, rfl⟩⟩
        · exact hk.x.elim
    · exact hk.x.elim
  · rename_i ho; exact bin_ok h ho hk
  · rename_i ho; exact reckon_ok h (fun cs b e => by rw [ho] at e; cases e) hk
  · rename_i ho; exact reckon_ok h (fun cs b e => by rw [ho] at e; cases e) hk
  · rename_i ho; exact reckon_ok h (fun cs b e => by rw [ho] at e; cases e) hk
  · rename_i ho; exact reckon_ok h (fun cs b e => by rw [ho] at e; cases e) hk
  · exact hk.x.elim
end
end Go.Proofs.De

namespace Go.Proofs.De
open Go.RowKit

/-- A row's own block is given up for good: it stays as it is. -/
def frz : Ob → Ob
  | .row et wd rows => .fz et wd rows
  | x => x

section
variable {X : Cx} {w : World} {ρ : Rho} {hp : List Ob}

theorem at_frz {id : Nat} {et : TypeId} {wd : Nat} {rows : List (List AV)} (hid : hp[id]? = some (.row et wd rows)) {i b : Nat} {y : Ob} (h1 : (hp.set id (.fz et wd rows))[i]? = some y) (h2 : Blk ρ i b y) : i ≠ id ∧ hp[i]? = some y := by
  rw [List.getElem?_set] at h1
  by_cases e : id = i
  · subst e
    rw [if_pos rfl, if_pos (List.getElem?_eq_some_iff.1 hid).1] at h1
    cases h1; exact h2.elim
  · rw [if_neg e] at h1
    exact ⟨fun e2 => e e2.symm, h1⟩
theorem frz_tr {id : Nat} {et : TypeId} {wd : Nat} {rows : List (List AV)} (hid : hp[id]? = some (.row et wd rows)) : Tr w (Own ρ hp) w (Own ρ (hp.set id (.fz et wd rows))) :=
  ⟨rfl, rfl, rfl, Nat.le_refl _, fun _ _ hn => ⟨rfl, fun ⟨i, y, h1, h2⟩ => hn ⟨i, y, (at_frz hid h1 h2).2, h2⟩⟩⟩
theorem Hp.frz (h : Hp X w ρ hp) {id : Nat} {et : TypeId} {wd : Nat} {rows : List (List AV)} (hid : hp[id]? = some (.row et wd rows)) : Hp X w ρ (hp.set id (.fz et wd rows)) := by
  have ht := frz_tr (w := w) (ρ := ρ) hid
  have hlen : id < hp.length := (List.getElem?_eq_some_iff.1 hid).1
  refine ⟨h.glob, h.ng, h.lt, fun b ⟨i, y, h1, h2⟩ => h.low b ⟨i, y, (at_frz hid h1 h2).2, h2⟩, fun i j x y b a1 a2 b1 b2 => h.inj i j x y b (at_frz hid a1 a2).2 a2 (at_frz hid b1 b2).2 b2, ?_, fun i hi => h.free i (by simpa using hi)⟩
  intro i y hi
  by_cases e : id = i
  · subst e
    rw [List.getElem?_set, if_pos rfl, if_pos hlen] at hi
    cases hi
    obtain ⟨v, xs, h1, h2, h3, h4⟩ := h.has id _ hid
    refine ⟨v, xs, h1, h2, h3.mono ht, h4, fun b hb ⟨j, x, k1, k2⟩ => ?_⟩
    obtain ⟨k3, k4⟩ := at_frz hid k1 k2
    exact k3 (h.inj j id x _ b k4 k2 hid ⟨v, h1, hb⟩)
  · rw [List.getElem?_set, if_neg e] at hi
    exact ObRep.mono ht (Rho.le.refl ρ) (fun _ _ => rfl) (fun v b h1 h2 => h.lt i v b h1 h2) (h.has i y hi)

/-- What an own row, given up, is without its number. -/
theorem rep_fz (h : Hp X w ρ hp) {id : Nat} {et : TypeId} {wd : Nat} {rows : List (List AV)} (hid : hp[id]? = some (.fz et wd rows)) {i n : Nat} {u : Value} (hr : RepB w (Own ρ hp) ρ (.slc id wd i n) u) (hn : i + n ≤ rows.length) :
    RepI w (Own ρ hp) (.rslc wd n fun k => rows.getD (i + k) []) u := by
  obtain ⟨v, xs, h1, h2, h3, h4, h5⟩ := h.has id _ hid
  obtain ⟨y, m, cap, base, e1, rfl, e3, e4, e5, e6, e7⟩ := hr
  rw [e1] at h1; cases h1
  have row : ∀ k, k < n → ∃ r, rows[i + k]? = some r ∧ rows.getD (i + k) [] = r := fun k hk => by
    have : i + k < rows.length := by omega
    exact ⟨rows[i + k], List.getElem?_eq_getElem this, by simp [List.getD, List.getElem?_eq_getElem this]⟩
  have hg : n ≠ 0 → ∃ g, y = some ⟨g, 0, none⟩ ∧ base = some ⟨g, i * wd, none⟩ := fun hn0 => by
    have q := e5 hn0
    cases y with
    | none => have := e6 q; omega
    | some y' =>
      obtain ⟨g, rfl⟩ := e7 y' rfl
      exact ⟨g, rfl, by rw [q, add_map, Nat.zero_add]⟩
  have hcells : ∀ g, y = some ⟨g, 0, none⟩ → ∀ k j, k < n → ∀ r, rows[i + k]? = some r → ∀ c, r[j]? = some c → ∃ x, w.cell? ⟨g, i * wd + k * wd + j, none⟩ = some x ∧ RepI w (Own ρ hp) c x := by
    intro g hy k j hk r hr c hc
    subst hy
    have := cells_own (ρ := ρ) rfl h2 h3 hr j c hc
    obtain ⟨x, k1, k2⟩ := this
    rw [show (i + k) * wd + j = i * wd + k * wd + j by rw [Nat.add_mul]] at k1
    obtain ⟨_, q2⟩ := h3 _ _ hr
    obtain ⟨x', p1, p2⟩ := q2 j c hc
    have hx : x = x' := by
      rcases h2.2 with ⟨q, _⟩ | ⟨g', cap', cur, q, _, hg', _, _, _, ht⟩
      · cases q
      · simp only [Value.slice.injEq, Option.some.injEq, Addr.mk.injEq, and_true] at q
        obtain ⟨rfl, rfl, rfl⟩ := q
        rw [← ht, List.getElem?_take] at p1
        split at p1
        · simp only [World.cell?, hg'] at k1
          rw [show i * wd + k * wd + j = (i + k) * wd + j by rw [Nat.add_mul]] at k1
          have p3 : cur[(i + k) * wd + j]? = some x' := by simpa using p1
          rw [show (if Option.isSome (none : Option Nat) = true then none else cur[(i + k) * wd + j]?) = cur[(i + k) * wd + j]? from rfl, p3] at k1
          exact (Option.some.inj k1).symm
        · cases p1
    subst hx
    exact ⟨x, k1, p2⟩
  by_cases hn0 : n = 0
  · subst hn0
    exact .rslc wd 0 _ base (cap - i) 0 0 (fun _ _ => undef) (by omega) (fun e => by rw [e6 e]; omega) (fun e => absurd rfl e) (fun i hi => absurd hi (Nat.not_lt_zero _)) (fun i j hi => absurd hi (Nat.not_lt_zero _)) (fun i j c hi => absurd hi (Nat.not_lt_zero _))
  · obtain ⟨g, hy, hb⟩ := hg hn0
    have hlt := h.lt id _ g e1 (by rw [hy]; rfl)
    have hno := h5 g (by rw [hy]; rfl)
    refine .rslc wd n _ base (cap - i) g (i * wd) (fun k j => (w.cell? ⟨g, i * wd + k * wd + j, none⟩).getD undef) (by omega) (fun e => by rw [hb] at e; cases e) (fun _ => ⟨hb, hlt, hno⟩) ?_ ?_ ?_
    · intro k hk
      obtain ⟨r, r1, r2⟩ := row k hk
      rw [r2]; exact (h3 _ _ r1).1
    · intro k j hk hj
      obtain ⟨r, r1, r2⟩ := row k hk
      have hlen := (h3 _ _ r1).1
      obtain ⟨x, k1, _⟩ := hcells g hy k j hk r r1 _ (List.getElem?_eq_getElem (by rw [hlen]; exact hj))
      rw [k1]; rfl
    · intro k j c hk hc
      obtain ⟨r, r1, r2⟩ := row k hk
      rw [r2] at hc
      obtain ⟨x, k1, k2⟩ := hcells g hy k j hk r r1 c hc
      simp only [k1, Option.getD_some]
      exact k2
end
end Go.Proofs.De

namespace Go.Proofs.De
open Go.RowKit

section
variable {X : Cx} {B : Base} {ρ : Rho} {s : St} {a : Act} {w : World}

/-- What an operation does that changes own blocks. -/
def Eff (X : Cx) (B : Base) (s : St) (a : Act) (w : World) (o : Oper) (K : AV → List Ob → Prop) : Prop :=
  ∀ (next : Act → World → Prop) (Q : Exit → Act → World → Prop), (∀ c hp' ρ' u w', K c hp' → RelAt X B ρ' { s with hp := hp' } a w' → RepV w' (Own ρ' hp') ρ' c u → next (a.put o.dst u) w') → o.wp X.P a w next Q
theorem Eff.value {o : Oper} {K : AV → List Ob → Prop} (h : ∃ c hp' ρ' u w', K c hp' ∧ (execOp a.eval o).run X.P w = .ok (.value u) w' ∧ RelAt X B ρ' { s with hp := hp' } a w' ∧ RepV w' (Own ρ' hp') ρ' c u) : Eff X B s a w o K := by
  obtain ⟨c, hp', ρ', u, w', h1, h2, h3, h4⟩ := h
  intro next Q hn
  unfold Oper.wp
  rw [h2]
  exact hn c hp' ρ' u w' h1 h3 h4
theorem Eff.skip {o : Oper} {K : AV → List Ob → Prop} (h : ∃ hp' ρ' w', K .any hp' ∧ (execOp a.eval o).run X.P w = .ok .skip w' ∧ RelAt X B ρ' { s with hp := hp' } a w') : Eff X B s a w o K := by
  obtain ⟨hp', ρ', w', h1, h2, h3⟩ := h
  intro next Q hn
  unfold Oper.wp
  rw [h2]
  exact hn .any hp' ρ' undef w' h1 h3 trivial

theorem set_last {hp : List Ob} {old : Option Nat} (ho : ∀ j, old = some j → j < hp.length) (ob : Ob) : (gone (hp ++ [.none]) old).set hp.length ob = gone hp old ++ [ob] := by
  cases old with
  | none => simp [gone]
  | some j =>
    have := ho j rfl
    simp only [gone]
    rw [List.set_append_left _ _ this]
    have hl : (hp.set j Ob.none).length = hp.length := by simp
    rw [List.set_append_right _ _ (by omega)]
    simp

/-- One more own block, or one that goes on as a new number. -/
theorem RelAt.grow (h : RelAt X B ρ s a w) {w' : World} {row old : Option Nat} (hrow : ∀ b, row = some b → ∃ j x, old = some j ∧ s.hp[j]? = some x ∧ Blk ρ j b x) (hold : ∀ j, old = some j → j < s.hp.length)
    (hg : w.grownBy w' row) {v : Value} (hv : ∀ b, blockOf v = some b → (row = some b ∨ w.heap.size ≤ b) ∧ b < w'.heap.size) {ob : Ob} (hbl : ∀ b, Blk (ρ.upd s.hp.length v) s.hp.length b ob → blockOf v = some b)
    (hob : ∀ O', Tr w (Own ρ s.hp) w' O' → ObRep w' O' (ρ.upd s.hp.length v) s.hp.length ob) :
    RelAt X B (ρ.upd s.hp.length v) { s with hp := gone s.hp old ++ [ob] } a w' ∧ Tr w (Own ρ s.hp) w' (Own (ρ.upd s.hp.length v) (gone s.hp old ++ [ob])) := by
  have hm := h.hp.more
  have hid : (s.hp ++ [Ob.none])[s.hp.length]? = some .none := by simp
  have hρ : ρ s.hp.length = none := h.hp.free _ (Nat.le_refl _)
  have hrow' : ∀ b, row = some b → ∃ j x, old = some j ∧ (s.hp ++ [Ob.none])[j]? = some x ∧ Blk ρ j b x := fun b e => by
    obtain ⟨j, x, e1, e2, e3⟩ := hrow b e
    exact ⟨j, x, e1, by rw [List.getElem?_append_left (List.getElem?_eq_some_iff.1 e2).1]; exact e2, e3⟩
  have hrow2 : ∀ b, row = some b → Own ρ (s.hp ++ [.none]) b := fun b e => let ⟨j, x, _, e2, e3⟩ := hrow' b e; ⟨j, x, e2, e3⟩
  have ht := grow_tr (ρ := ρ) (hp := s.hp ++ [.none]) (id := s.hp.length) (old := old) hrow2 hg (v := v) (ob := ob) (fun b e => (hv b (hbl b e)).1)
  have hh := hm.grow hid hρ (old := old) hrow' hg hv (ob := ob) hbl (hob _ (by rw [own_more] at ht; exact ht))
  rw [set_last hold, own_more] at ht
  rw [set_last hold] at hh
  exact ⟨h.step hh ht (Rho.le_upd hρ v), ht⟩

theorem own_size {ρ : Rho} {hp : List Ob} (h : Hp X w ρ hp) {b : Nat} (hb : Own ρ hp b) : b < w.heap.size := by
  obtain ⟨i, x, h1, h2⟩ := hb
  exact Blk_lt h h1 h2
theorem blk_box {id : Nat} {v : Value} {l : List AV} {b : Nat} (h : Blk (ρ.upd id v) id b (.box l)) : blockOf v = some b := by
  obtain ⟨u, h1, h2⟩ := h
  rw [Rho.upd_same] at h1; cases h1; exact h2
theorem blk_row {id et wd : Nat} {v : Value} {l : List (List AV)} {b : Nat} (h : Blk (ρ.upd id v) id b (.row et wd l)) : blockOf v = some b := by
  obtain ⟨u, h1, h2⟩ := h
  rw [Rho.upd_same] at h1; cases h1; exact h2

/-- A new box. -/
theorem box_new (h : RelAt X B ρ s a w) {et : TypeId} {vs : Array Value} {l : List AV} (hs : vs.size = l.length) (hc : ∀ (j : Nat) (c : AV), l[j]? = some c → ∃ x : Value, vs[j]? = some x ∧ RepC w (Own ρ s.hp) ρ c x) :
    let v : Value := .pointer (some ⟨w.heap.size, 0, none⟩)
    RelAt X B (ρ.upd s.hp.length v) { s with hp := s.hp ++ [.box l] } a (w.alloc (.cells vs et)) := by
  intro v
  have hg : w.grownBy (w.alloc (.cells vs et)) none := World.grownBy_alloc w _ none
  have := (h.grow (w' := w.alloc (.cells vs et)) (row := none) (old := none) (fun b e => by cases e) (fun j e => by cases e) hg (v := v) (fun b e => by cases e; exact ⟨.inr (Nat.le_refl _), by simp⟩) (ob := .box l) (fun b => blk_box) (fun O' ht => by
    refine ⟨w.heap.size, et, vs, Rho.upd_same _ _ _, heap_alloc_new w _, hs, fun j c hj => ?_⟩
    obtain ⟨x, k1, k2⟩ := hc j c hj
    exact ⟨x, k1, k2.mono ht (Rho.le_upd (h.hp.free _ (Nat.le_refl _)) v)⟩)).1
  exact this

theorem box_ok (h : RelAt X B ρ s a w) {o : Oper} {t : TypeId} {x : Operand} (ho : o.op = .box t x) {l : List AV} (hl : cellsOf (opv s x) = some l) {K : AV → List Ob → Prop} (hk : K (.bptr s.hp.length 0) (s.hp ++ [.box l])) : Eff X B s a w o K := by
  obtain ⟨k1, k2⟩ := cellsOf_rep (h.opv x) hl
  refine .value ⟨_, _, _, .pointer (some ⟨w.heap.size, 0, none⟩), w.alloc (.cells (a.eval x).cells t), hk, ?_, box_new h k1 k2, ⟨_, Rho.upd_same _ _ _, rfl⟩⟩
  simp [execOp, ho, Instr.box, newVar, newRow]
theorem alloc_ok (h : RelAt X B ρ s a w) {o : Oper} {t : TypeId} (ho : o.op = .alloc t) {z : List AV} (hz : zeroC X.P t = some z) {K : AV → List Ob → Prop} (hk : K (.bptr s.hp.length 0) (s.hp ++ [.box z])) : Eff X B s a w o K := by
  obtain ⟨v, z1, z2, z3⟩ := zeroC_eq hz
  refine .value ⟨_, _, _, .pointer (some ⟨w.heap.size, 0, none⟩), w.alloc (.cells v.cells t), hk, ?_, box_new h z2 (fun j c hj => z3 _ _ _ j c hj), ⟨_, Rho.upd_same _ _ _, rfl⟩⟩
  simp [execOp, ho, Instr.alloc, z1, newVar, newRow]

theorem cells_one {O : Nat → Prop} {l : List AV} {us : Array Value} (hs : us.size = l.length) (hc : ∀ (j : Nat) (c : AV), l[j]? = some c → ∃ x : Value, us[j]? = some x ∧ RepC w O ρ c x) : ∀ v ∈ us.toList, v.oneCell' = true := by
  intro v hv
  obtain ⟨j, hj, e⟩ := List.mem_iff_getElem.1 hv
  have hj' : j < l.length := by rw [← hs]; simpa using hj
  obtain ⟨x, k1, k2⟩ := hc j _ (List.getElem?_eq_getElem hj')
  have hju : j < us.size := by rw [hs]; exact hj'
  have : us[j]? = some v := by rw [Array.getElem?_eq_getElem hju, ← e]; simp
  rw [k1] at this; cases this
  exact k2.one

/-- A value is put into cells of an own block. -/
theorem run_store_own {P : Program} {g f sz : Nat} {vs : Array Value} {et t : TypeId} {u : Value} (hg : w.heap[g]? = some (.cells vs et (0, 0))) (hsz : sizeT P t = some sz) (hn : u.cells.size = sz) (hf : f + sz ≤ vs.size) (h1 : ∀ v ∈ u.cells.toList, v.oneCell' = true) :
    ∃ vs', (Instr.storeAt t (.pointer (some ⟨g, f, none⟩)) u).run P w = .ok () (w.setRow g vs') ∧ vs'.size = vs.size ∧ ∀ j, vs'[j]? = if f ≤ j ∧ j < f + sz then u.cells[j - f]? else vs[j]? := by
  have hst := run_storeCells_at P g f et u.cells.toList 0 vs w hg (by simpa [hn] using hf) h1
  refine ⟨(vs.toList.take (f + 0) ++ u.cells.toList ++ vs.toList.drop (f + 0 + u.cells.toList.length)).toArray, ?_, ?_, ?_⟩
  · simp only [Instr.storeAt, Instr.sureAddr, storeVar, Sem.run_bind, Sem.run_pure, Result.andThen_ok, run_sizeOf hsz, Sem.run_ite]
    rw [if_neg (by simpa using hn)]
    exact hst
  · simp; omega
  · intro j
    simp only [Nat.add_zero, List.getElem?_toArray]
    have hl : (vs.toList.take f).length = f := by simp; omega
    have hu : u.cells.toList.length = sz := by simpa using hn
    by_cases e1 : j < f
    · rw [if_neg (by omega), List.append_assoc, List.getElem?_append_left (by omega), List.getElem?_take, if_pos e1]
      simp
    · by_cases e2 : j < f + sz
      · rw [if_pos ⟨by omega, e2⟩, List.append_assoc, List.getElem?_append_right (by omega), hl, List.getElem?_append_left (by omega)]
        simp
      · rw [if_neg (by omega), List.getElem?_append_right (by simp; omega)]
        simp only [List.length_append, hl, hu, List.getElem?_drop]
        rw [show f + sz + (j - (f + sz)) = j by omega]
        simp

theorem store_box (h : RelAt X B ρ s a w) {o : Oper} {t : TypeId} {x y : Operand} (ho : o.op = .store t x y) {sz id f : Nat} {l cs : List AV} (hsz : sizeT X.P t = some sz) (hl : cellsOf (opv s y) = some l) (hx : opv s x = .bptr id f) (hb : s.hp[id]? = some (.box cs))
    (hn : l.length = sz) (hf : f + sz ≤ cs.length) {K : AV → List Ob → Prop} (hk : K .any (setN s.hp id (.box (setAll cs f l)))) : Eff X B s a w o K := by
  obtain ⟨k1, k2⟩ := cellsOf_rep (h.opv y) hl
  have hr := h.opv x
  rw [hx] at hr
  obtain ⟨g, e1, e2⟩ := hr
  obtain ⟨g', et, vs, e3, e4, e5, e6⟩ := h.hp.has id _ hb
  rw [e1] at e3
  simp only [Option.some.injEq, Value.pointer.injEq, Addr.mk.injEq, and_true] at e3
  subst e3
  obtain ⟨vs', q1, q2, q3⟩ := run_store_own (P := X.P) e4 hsz (u := a.eval y) (by rw [k1, hn]) (f := f) (by rw [e5]; exact hf) (cells_one k1 k2)
  have hg : w.grownBy (w.setRow g vs') (some g) := ⟨rfl, rfl, rfl, by simp, fun k _ hk => setRow_other w g k _ (fun e => hk (by rw [e]))⟩
  have ht := h.hp.write_tr (ob := .box (setAll cs f l)) hb (fun b => Iff.rfl) ⟨_, e1, rfl⟩ hg
  have hh := h.hp.write (ob := .box (setAll cs f l)) hb (fun b => Iff.rfl) ⟨_, e1, rfl⟩ hg (by
    refine ⟨g, et, vs', e1, setRow_heap w g vs vs' et _ e4, by rw [q2, e5, setAll_len], fun j c hj => ?_⟩
    rw [setAll_at l cs f (by omega) j] at hj
    rw [q3 j]
    split at hj
    · rename_i hc
      rw [if_pos (by omega)]
      obtain ⟨x, r1, r2⟩ := k2 _ c hj
      exact ⟨x, r1, r2.mono ht (Rho.le.refl ρ)⟩
    · rename_i hc
      rw [if_neg (by omega)]
      obtain ⟨x, r1, r2⟩ := e6 j c hj
      exact ⟨x, r1, r2.mono ht (Rho.le.refl ρ)⟩)
  rw [setN_eq] at hk
  exact .skip ⟨_, ρ, _, hk, by simp [execOp, ho, e2, q1], h.step hh ht (Rho.le.refl ρ)⟩
end
end Go.Proofs.De

namespace Go.Proofs.De
open Go.RowKit

def reifyK (hp : List Ob) (c : AV) (K : AV → List Ob → Prop) : Prop :=
  match c with
  | .lit v => K (.lit v) hp
  | .any => K .any hp
  | .rptr cs f => K (.rptr cs f) hp
  | .rslc wd n row => K (.rslc wd n row) hp
  | .slc id wd i n => match hp[id]? with
    | some (.row et wd' rows) => Need (wd = wd' ∧ i + n ≤ rows.length) (K (.rslc wd n fun k => rows.getD (i + k) []) (setN hp id (.fz et wd' rows)))
    | some (.fz _ wd' rows) => Need (wd = wd' ∧ i + n ≤ rows.length) (K (.rslc wd n fun k => rows.getD (i + k) []) hp)
    | _ => Stuck "reify"
  | _ => Stuck "reify"
def reifysK (hp : List Ob) : List AV → (List AV → List Ob → Prop) → Prop
  | [], K => K [] hp
  | c :: l, K => reifyK hp c fun c' hp' => reifysK hp' l fun l' hp'' => K (c' :: l') hp''

section
variable {X : Cx} {B : Base} {ρ : Rho} {s : St} {a : Act} {w : World}

theorem reifyK_ok {hp : List Ob} (hh : Hp X w ρ hp) {c : AV} {u : Value} (hr : RepC w (Own ρ hp) ρ c u) {K : AV → List Ob → Prop} (hk : reifyK hp c K) :
    ∃ c' hp', K c' hp' ∧ Hp X w ρ hp' ∧ Tr w (Own ρ hp) w (Own ρ hp') ∧ hp'.length = hp.length ∧ RepI w (Own ρ hp') c' u := by
  cases c <;> simp only [reifyK] at hk
  case lit v => exact ⟨_, _, hk, hh, Tr.refl _ _, rfl, by simpa only [RepC, RepB] using hr⟩
  case any => exact ⟨_, _, hk, hh, Tr.refl _ _, rfl, by simpa only [RepC, RepB] using hr⟩
  case rptr cs f => exact ⟨_, _, hk, hh, Tr.refl _ _, rfl, by simpa only [RepC, RepB] using hr⟩
  case rslc wd n row => exact ⟨_, _, hk, hh, Tr.refl _ _, rfl, by simpa only [RepC, RepB] using hr⟩
  case slc id wd i n =>
    split at hk
    · rename_i et wd' rows e
      obtain ⟨⟨rfl, h1⟩, hk⟩ := hk
      rw [setN_eq] at hk
      have ht := frz_tr (w := w) (ρ := ρ) e
      have hh' := hh.frz e
      refine ⟨_, _, hk, hh', ht, by simp, ?_⟩
      exact rep_fz hh' (by rw [List.getElem?_set, if_pos rfl, if_pos (List.getElem?_eq_some_iff.1 e).1]) (RepB.mono ht (Rho.le.refl ρ) hr) h1
    · rename_i et wd' rows e
      obtain ⟨⟨rfl, h1⟩, hk⟩ := hk
      exact ⟨_, _, hk, hh, Tr.refl _ _, rfl, rep_fz hh e hr h1⟩
    · exact hk.x.elim
  all_goals exact hk.x.elim
theorem reifysK_ok : ∀ (l : List AV) {hp : List Ob} (_ : Hp X w ρ hp) (us : Nat → Option Value) (_ : ∀ (j : Nat) (c : AV), l[j]? = some c → ∃ x : Value, us j = some x ∧ RepC w (Own ρ hp) ρ c x) {K : List AV → List Ob → Prop} (_ : reifysK hp l K),
    ∃ l' hp', K l' hp' ∧ Hp X w ρ hp' ∧ Tr w (Own ρ hp) w (Own ρ hp') ∧ hp'.length = hp.length ∧ l'.length = l.length ∧ ∀ (j : Nat) (c : AV), l'[j]? = some c → ∃ x : Value, us j = some x ∧ RepI w (Own ρ hp') c x
  | [], hp, hh, us, _, K, hk => ⟨[], hp, hk, hh, Tr.refl _ _, rfl, rfl, fun j c e => by cases e⟩
  | c :: l, hp, hh, us, hc, K, hk => by
    obtain ⟨x, k1, k2⟩ := hc 0 c rfl
    obtain ⟨c', hp', hk', hh', ht, hl, hi⟩ := reifyK_ok hh k2 hk
    obtain ⟨l', hp'', hk'', hh'', ht', hl', hll, hi'⟩ := reifysK_ok l hh' (fun j => us (j + 1)) (fun j c e => let ⟨x, q1, q2⟩ := hc (j + 1) c e; ⟨x, q1, q2.mono ht (Rho.le.refl ρ)⟩) hk'
    refine ⟨c' :: l', hp'', hk'', hh'', ht.trans ht', hl'.trans hl, by simp [hll], fun j d e => ?_⟩
    cases j with
    | zero => cases e; exact ⟨x, k1, hi.mono ht'⟩
    | succ j => exact hi' j d e
end

def chunk (wd : Nat) : Nat → List AV → List (List AV)
  | 0, _ => []
  | n + 1, l => l.take wd :: chunk wd n (l.drop wd)
theorem chunk_len (wd : Nat) : ∀ (n : Nat) (l : List AV), (chunk wd n l).length = n
  | 0, _ => rfl
  | n + 1, _ => congrArg (· + 1) (chunk_len wd n _)
theorem chunk_at {wd : Nat} : ∀ {n : Nat} {l : List AV} {i : Nat} {r : List AV}, (chunk wd n l)[i]? = some r → i < n ∧ r = (l.drop (i * wd)).take wd
  | 0, l, i, r, h => by cases h
  | n + 1, l, 0, r, h => by cases h; exact ⟨by omega, by simp⟩
  | n + 1, l, i + 1, r, h => by
    obtain ⟨h1, h2⟩ := chunk_at (n := n) (l := l.drop wd) (i := i) h
    refine ⟨by omega, ?_⟩
    rw [h2, List.drop_drop, show wd + i * wd = (i + 1) * wd by rw [Nat.add_mul, Nat.one_mul, Nat.add_comm]]
theorem flat_chunk {w : World} {O : Nat → Prop} {wd n : Nat} {l : List AV} {xs : List Value} (hl : l.length = n * wd) (hc : ∀ (j : Nat) (c : AV), l[j]? = some c → ∃ x : Value, xs[j]? = some x ∧ RepI w O c x) : FlatRep w O wd (chunk wd n l) xs := by
  intro i r hr
  obtain ⟨h1, rfl⟩ := chunk_at hr
  have h2 : i * wd + wd ≤ n * wd := by
    have := Nat.mul_le_mul_right wd (show i + 1 ≤ n from h1)
    rwa [Nat.add_mul, Nat.one_mul] at this
  refine ⟨by simp; omega, fun j c hj => ?_⟩
  rw [List.getElem?_take] at hj
  split at hj
  · rw [List.getElem?_drop] at hj
    exact hc _ c hj
  · cases hj

def zeros (wd len : Nat) (z : List AV) : List AV := (List.range (len * wd)).map fun j => nth z (j % wd)
/-- Cells, rows of cells, by their outsides. -/
def g0 (c : AV) (K : AV → Prop) : Prop :=
  match c with
  | .lit v => K (.lit v) | .any => K .any | .agg cs => K (.agg cs) | .tup vs => K (.tup vs) | .bptr id f => K (.bptr id f) | .eptr id wd i f => K (.eptr id wd i f)
  | .slc id wd i n => K (.slc id wd i n) | .fn f caps => K (.fn f caps) | .rptr cs f => K (.rptr cs f) | .rslc wd n row => K (.rslc wd n row)
theorem g0_eq (c : AV) (K : AV → Prop) : g0 c K = K c := by cases c <;> rfl
def gL : List AV → (List AV → Prop) → Prop
  | [], K => K []
  | c :: l, K => g0 c fun c => gL l fun l => K (c :: l)
theorem gL_eq : ∀ (l : List AV) (K : List AV → Prop), gL l K = K l
  | [], _ => rfl
  | c :: l, K => by simp only [gL, g0_eq, gL_eq l]
def gR : List (List AV) → (List (List AV) → Prop) → Prop
  | [], K => K []
  | c :: l, K => gL c fun c => gR l fun l => K (c :: l)
theorem gR_eq : ∀ (l : List (List AV)) (K : List (List AV) → Prop), gR l K = K l
  | [], _ => rfl
  | c :: l, K => by simp only [gR, gL_eq, gR_eq l]
def buildK (P : Program) (s : St) (t : TypeId) (len : Nat) (ps : List (Nat × Operand)) (K : AV → List Ob → Prop) : Prop :=
  match elemT P t with
  | some e => match sizeT P e, zeroC P e with
    | some (wd + 1), some z => if z.length = wd + 1 ∧ len * (wd + 1) ≤ 16777216 then
        match fillA (fun i => some (i * (wd + 1), wd + 1)) s ps (zeros (wd + 1) len z) with
        | some l => reifysK s.hp l fun l' hp' => fN hp'.length fun n => fN (wd + 1) fun wd' => gR (chunk (wd + 1) len l') fun rows => K (.slc n wd' 0 len) (hp' ++ [.row e wd' rows])
        | none => Stuck "buildSlice parts"
      else Stuck "buildSlice size"
    | _, _ => Stuck "buildSlice element"
  | none => Stuck "buildSlice type"

section
variable {X : Cx} {B : Base} {ρ : Rho} {s : St} {a : Act} {w : World}

/-- A new own row. -/
theorem row_new (h : RelAt X B ρ s a w) {et wd : Nat} {rows : List (List AV)} {v : Value} {xs : List Value} {w' : World} (hg : w.grownBy w' none) (hv : ∀ b, blockOf v = some b → w.heap.size ≤ b ∧ b < w'.heap.size)
    (ho : w'.ownsRow 0 et wd v rows.length xs) (hf : FlatRep w (Own ρ s.hp) wd rows xs) (h1 : ∀ u ∈ xs, u.oneCell' = true) :
    RelAt X B (ρ.upd s.hp.length v) { s with hp := s.hp ++ [.row et wd rows] } a w' :=
  (h.grow (row := none) (old := none) (fun b e => by cases e) (fun j e => by cases e) hg (v := v) (fun b e => ⟨.inr (hv b e).1, (hv b e).2⟩) (ob := .row et wd rows) (fun b => blk_row) (fun O' ht => ⟨v, xs, Rho.upd_same _ _ _, ho, hf.mono ht, h1⟩)).1

theorem RelAt.frozen (h : RelAt X B ρ s a w) {hp' : List Ob} (hh : Hp X w ρ hp') (ht : Tr w (Own ρ s.hp) w (Own ρ hp')) : RelAt X B ρ { s with hp := hp' } a w := h.step hh ht (Rho.le.refl ρ)

theorem build_slice_ok (h : RelAt X B ρ s a w) {o : Oper} {t : TypeId} {len : Nat} {ps : Array (Nat × Operand)} (ho : o.op = .buildSlice t len ps) {K : AV → List Ob → Prop} (hk : buildK X.P s t len ps.toList K) : Eff X B s a w o K := by
  unfold buildK at hk
  split at hk
  · rename_i e e1
    split at hk
    · rename_i wd z e2 e3
      split at hk
      · rename_i hc
        split at hk
        · rename_i l e4
          obtain ⟨v, z1, z2, z3⟩ := zeroC_eq e3
          let init : Array Value := (Array.range (len * (wd + 1))).map fun j => v.cells[j % v.cells.size]!
          have hi1 : init.size = (zeros (wd + 1) len z).length := by simp [init, zeros]
          have hi2 : ∀ (j : Nat) (c : AV), (zeros (wd + 1) len z)[j]? = some c → ∃ x : Value, init[j]? = some x ∧ RepC w (Own ρ s.hp) ρ c x := by
            intro j c hj
            have hlt : j < len * (wd + 1) := by
              have := (List.getElem?_eq_some_iff.1 hj).1
              simpa [zeros] using this
            have hm : j % (wd + 1) < z.length := by rw [hc.1]; exact Nat.mod_lt _ (by omega)
            simp only [zeros, List.getElem?_map, List.getElem?_range hlt, Option.map_some, Option.some.injEq] at hj
            rw [nth_eq, List.getElem?_eq_getElem hm] at hj
            obtain ⟨x, q1, q2⟩ := z3 (Own ρ s.hp) ρ w (j % (wd + 1)) _ (List.getElem?_eq_getElem hm)
            refine ⟨x, ?_, by rw [← hj]; exact q2⟩
            have hsz : v.cells.size = wd + 1 := by rw [z2, hc.1]
            simp only [init, Array.getElem?_map, Array.getElem?_range, hlt, if_true, Option.map_some, hsz]
            congr 1
            have := (Array.getElem?_eq_some_iff.1 q1)
            rw [getElem!_pos v.cells _ this.1, this.2]
          obtain ⟨vs', f1, f2, f3⟩ := fillA_ok h (fun i => some (i * (wd + 1), wd + 1)) (fun i q hq => hq) ps.toList _ init l hi1 hi2 e4
          obtain ⟨l', hp', hk', hh', ht', hl', hll, hi'⟩ := reifysK_ok l h.hp (fun j => vs'[j]?) f3 hk
          rw [fN_eq, fN_eq, gR_eq] at hk'
          have hlen : l.length = len * (wd + 1) := by
            have key : ∀ (ps : List (Nat × Operand)) (cs cs' : List AV), fillA (fun i => some (i * (wd + 1), wd + 1)) s ps cs = some cs' → cs'.length = cs.length := by
              intro ps
              induction ps with
              | nil => intro cs cs' hf; cases hf; rfl
              | cons p r ih =>
                intro cs cs' hf
                obtain ⟨i, x⟩ := p
                simp only [fillA] at hf
                split at hf
                · split at hf
                  · rw [ih _ _ hf, setAll_len]
                  · cases hf
                · cases hf
            rw [key _ _ _ e4]; simp [zeros]
          have hvs : vs'.size = len * (wd + 1) := by rw [f2, hlen]
          let h2 := h.frozen hh' ht'
          have hnew := row_new h2 (et := e) (wd := wd + 1) (rows := chunk (wd + 1) len l') (v := .slice (some ⟨w.heap.size, 0, none⟩) len len) (xs := vs'.toList) (w' := w.alloc (.cells vs' e)) (World.grownBy_alloc w _ none) (fun b e => by cases e; exact ⟨Nat.le_refl _, by simp⟩)
            (by
              rw [chunk_len]
              exact World.ownsRow_lit w vs' len (Nat.zero_le _) (by
                have : len ≤ len * (wd + 1) := Nat.le_mul_of_pos_right _ (by omega)
                simp only [maxLen]; omega) hvs) (flat_chunk (by rw [hll, hlen]) (fun j c hj => by
                  obtain ⟨x, q1, q2⟩ := hi' j c hj
                  exact ⟨x, by simpa using q1, q2⟩)) (cells_one (l := l) (us := vs') f2 f3)
          refine .value ⟨_, _, _, .slice (some ⟨w.heap.size, 0, none⟩) len len, w.alloc (.cells vs' e), hk', ?_, hnew, ?_⟩
          · have hl0 : ¬ 2 ^ 24 < len * (wd + 1) := by omega
            have hps : (ps.map fun (x : Nat × Operand) => (x.1, a.eval x.2)).toList = ps.toList.map (fun p => (p.1, a.eval p.2)) := by simp
            by_cases h0 : len * (wd + 1) = 0
            · have hini : init = #[] := Array.eq_empty_of_size_eq_zero (by simp [init, h0])
              have hany : ∀ z' : Array Value, ((Array.range (len * (wd + 1))).map fun j => z'[j % z'.size]!) = #[] := fun z' => Array.eq_empty_of_size_eq_zero (by simp [h0])
              rw [hini] at f1
              simp only [execOp, ho, Instr.buildSlice, Sem.run_bind, run_underlyingD (elemT_eq e1), run_sizeOf e2, Result.andThen_ok, Sem.run_ite]
              rw [if_neg (by omega), if_pos h0]
              simp only [Sem.run_pure, Result.andThen_ok, hps, hany, f1]
              simp [newRow]
            · simp only [execOp, ho, Instr.buildSlice, Sem.run_bind, run_underlyingD (elemT_eq e1), run_sizeOf e2, Result.andThen_ok, Sem.run_ite]
              rw [if_neg (by omega), if_neg h0]
              simp only [z1, Result.andThen_ok, Sem.run_pure, hps]
              have : Instr.fill (fun i => some (i * (wd + 1), wd + 1)) ((Array.range (len * (wd + 1))).map fun j => v.cells[j % v.cells.size]!) (ps.toList.map fun p => (p.1, a.eval p.2)) = some vs' := f1
              rw [this]
              simp [newRow]
          · refine ⟨some ⟨w.heap.size, 0, none⟩, len, len, some ⟨w.heap.size, 0, none⟩, Rho.upd_same _ _ _, rfl, by omega, fun _ => rfl, fun _ => ?_, fun e => ?_, fun y e => ?_⟩
            · simp [Addr.add_lit]
            · cases e
            · cases e; exact ⟨_, rfl⟩
        · exact hk.x.elim
      · exact hk.x.elim
    · exact hk.x.elim
  · exact hk.x.elim
end
end Go.Proofs.De

namespace Go.Proofs.De
open Go.RowKit

theorem own_prefix {w : World} {e size : Nat} {y : Option Addr} {N cap n : Nat} {xs : List Value} (h : w.ownsRow 0 e size (.slice y N cap) N xs) (hn : n ≤ N) : w.ownsRow 0 e size (.slice y n cap) n (xs.take (n * size)) := by
  obtain ⟨h1, h2⟩ := h
  have hm : n * size ≤ N * size := Nat.mul_le_mul_right _ hn
  refine ⟨by rw [List.length_take, h1]; omega, ?_⟩
  rcases h2 with ⟨e1, e2⟩ | ⟨g, cap', cur, e1, h3, h4, h5, h6, h7, h8⟩
  · cases e1
    have : n = 0 := by omega
    subst this
    exact .inl ⟨rfl, rfl⟩
  · cases e1
    refine .inr ⟨g, cap, cur, rfl, h3, h4, by omega, h6, h7, ?_⟩
    rw [← h8, List.take_take, Nat.min_eq_left hm]

/-- What is appended: cells that lie in memory, or nothing. -/
def Src (w : World) (size : Nat) (src : Value) (m : Nat) (news : List Value) : Prop :=
  news.length = m * size ∧ (∀ u ∈ news, u.oneCell' = true) ∧ ((src = .slice none 0 0 ∧ m = 0) ∨ ∃ a c, src = .slice (some a) m c ∧ ∀ j u, news[j]? = some u → w.cell? (a.add j) = some u)

theorem append_row {P : Program} {w : World} {t ty e : TypeId} {i : TypeInfo} {z : Value} {size bytes : Nat} (ht : P.underlying t = some (.slice e)) (hi : P.info? e = some i) (hz : i.zero = some z)
    (hsize : i.size = size) (hby : i.bytes = bytes) (hzs : z.cells.size = size) (hsz : 0 < size) {y : Option Addr} {N cap n : Nat} {xs : List Value} (hown0 : w.ownsRow 0 e size (.slice y N cap) N xs) (hn : n ≤ N)
    {src : Value} {m : Nat} {news : List Value} (hs : Src w size src m news) (h63 : n + m ≤ maxLen) (hbytes : (n + m) * bytes ≤ 140737488355328) :
    ∃ y' cap' w', (Builtin.append_ #[t, t] ty #[.slice y n cap, src]).run P w = .ok (.slice y' (n + m) cap') w' ∧ w'.ownsRow 0 e size (.slice y' (n + m) cap') (n + m) (xs.take (n * size) ++ news) ∧ w.grownBy w' (blockOf (.slice y N cap)) ∧
      (∀ b, blockOf (.slice y' (n + m) cap') = some b → (blockOf (.slice y N cap) = some b ∨ w.heap.size ≤ b) ∧ b < w'.heap.size) := by
  have hown := own_prefix hown0 hn
  obtain ⟨hl, h1, hs⟩ := hs
  subst hsize
  subst hby
  have hsmall : n + m ≤ 9223372036854775807 := by simp only [maxLen] at h63; omega
  have hlen : (xs.take (n * i.size) ++ news).length = (n + m) * i.size := by rw [List.length_append, hown.1, hl, Nat.add_mul]
  have hlt : ∀ (w : World) (y : Option Addr) (n cap : Nat) (xs : List Value), w.ownsRow 0 e i.size (.slice y n cap) n xs → ∀ b, blockOf (.slice y n cap) = some b → b < w.heap.size := by
    intro w y n cap xs h b hb
    rcases h.2 with ⟨e1, _⟩ | ⟨g, cap', cur, e1, _, e3, _⟩
    · cases e1; cases hb
    · cases e1; cases hb; exact (Array.getElem?_eq_some_iff.1 e3).1
  have grown : ∀ (old : Nat), old < n + m → (row : Option Nat) →
      (w.drew.alloc (.cells ((xs.take (n * i.size)).toArray ++ news.toArray ++ Builtin.zeroCells z.cells (grownCap w (n + m) old e - (n + m))) e)).ownsRow 0 e i.size
        (.slice (some ⟨w.heap.size, 0, none⟩) (n + m) (grownCap w (n + m) old e)) (n + m) (xs.take (n * i.size) ++ news) ∧
      w.grownBy (w.drew.alloc (.cells ((xs.take (n * i.size)).toArray ++ news.toArray ++ Builtin.zeroCells z.cells (grownCap w (n + m) old e - (n + m))) e)) row := by
    intro old ho row
    have hge := grownCap_ge w (n + m) old e
    have hcm : grownCap w (n + m) old e ≤ maxLen := grownCap_le_maxLen w (n + m) old e h63
    refine ⟨⟨hlen, .inr ⟨w.heap.size, _, _, rfl, Nat.zero_le _, heap_alloc_new w.drew _, hge, hcm, ?_, ?_⟩⟩, ⟨rfl, rfl, rfl, by simp, fun k hk _ => heap_alloc_old w.drew _ k hk⟩⟩
    · simp only [Array.size_append, List.size_toArray, size_zeroCells, hzs, hown.1, hl, ← Nat.add_mul]
      congr 1
      omega
    · simp only [Array.toList_append, List.append_assoc]
      rw [← List.append_assoc, ← hlen]
      exact List.take_left
  rcases hs with ⟨rfl, rfl⟩ | ⟨ad, c, rfl, hnews⟩
  · have hnn : news = [] := List.eq_nil_of_length_eq_zero (by simpa using hl)
    subst hnn
    refine ⟨y, cap, w, ?_, by simpa using hown, ⟨rfl, rfl, rfl, Nat.le_refl _, fun _ _ _ => rfl⟩, fun b hb => ⟨.inl ?_, hlt w y n cap _ hown b hb⟩⟩
    · exact run_append_owned_none (P := P) w 0 t ty e i i.size ht hi (.slice y n cap) n _ hown
    · cases y <;> first | exact hb | cases hb
  · rcases hown.2 with ⟨hv, hn0⟩ | ⟨g, cap', cur, hv, _, hg, hnc, hcm, hcs, htake⟩
    · cases hv
      have hx : xs.take (0 * i.size) = [] := by simp
      by_cases hm : m = 0
      · subst hm
        have hnn : news = [] := List.eq_nil_of_length_eq_zero (by simpa using hl)
        subst hnn
        refine ⟨none, 0, w, ?_, by simpa using hown, ⟨rfl, rfl, rfl, Nat.le_refl _, fun _ _ _ => rfl⟩, fun b hb => by cases hb⟩
        simp [Builtin.append_, run_underlying ht, sizeOf, typeInfo, hi, Builtin.lenOf, Builtin.firstCells, loadCells, loadCellsFrom]
      · have hr := run_append_nil (P := P) w t ty e i z ht hi hz ad m c news hl hnews (by omega) (by omega) (by have hb := hbytes; simp only [Nat.zero_add] at hb; omega)
        have hgr := grown 0 (by omega) (blockOf (.slice none N 0))
        rw [hx] at hgr ⊢
        simp only [Nat.zero_add, List.nil_append, Array.empty_append] at hgr ⊢
        exact ⟨_, _, _, hr, hgr.1, hgr.2, fun b hb => by cases hb; exact ⟨.inr (Nat.le_refl _), by simp⟩⟩
    · cases hv
      by_cases hroom : n + m ≤ cap
      · have hfit : n * i.size + news.length ≤ cur.size := by rw [hl, hcs, ← Nat.add_mul]; exact Nat.mul_le_mul_right _ hroom
        have hr := run_append_room (P := P) w t ty e i ht hi g n cap cur hg ad m c news hl hnews h1 hroom hfit
        have ho : (w.setRow g (cur.toList.take (n * i.size) ++ news ++ cur.toList.drop (n * i.size + news.length)).toArray).ownsRow 0 e i.size (.slice (some ⟨g, 0, none⟩) (n + m) cap) (n + m) (xs.take (n * i.size) ++ news) := by
          refine ⟨hlen, .inr ⟨g, cap, _, rfl, Nat.zero_le _, setRow_heap w g cur _ e _ hg, hroom, hcm, ?_, ?_⟩⟩
          · simp only [List.size_toArray, List.length_append, List.length_take, List.length_drop, Array.length_toList]
            omega
          · rw [htake, ← hlen]
            exact List.take_left
        exact ⟨_, _, _, hr, ho, ⟨rfl, rfl, rfl, by simp, fun k _ hk => setRow_other w g k _ (fun e => hk (by rw [e]; rfl))⟩, fun b hb => ⟨.inl (by cases hb; rfl), hlt _ _ _ _ _ ho b hb⟩⟩
      · have holds : ∀ j u, (xs.take (n * i.size))[j]? = some u → w.cell? ((⟨g, 0, none⟩ : Addr).add j) = some u := hown.cells (g := g) rfl
        have hr := run_append_grow (P := P) w t ty e i z ht hi hz ⟨g, 0, none⟩ n cap (xs.take (n * i.size)) hown.1 holds ad m c news hl hnews (by omega) (by omega) (growslice_fits (by omega) hbytes)
        have hgr := grown cap (by omega) (blockOf (.slice (some ⟨g, 0, none⟩) N cap))
        exact ⟨_, _, _, hr, hgr.1, hgr.2, fun b hb => by cases hb; exact ⟨.inr (Nat.le_refl _), by simp⟩⟩

/-- The parts of a row that are appended. -/
def srcK (hp : List Ob) (wd : Nat) (c : AV) (K : Nat → List (List AV) → Prop) : Prop :=
  match c with
  | .lit (.slice none 0 0) => K 0 []
  | .rslc wd' m row => Need (wd = wd') (K m ((List.range m).map row))
  | .slc id wd' i m => match hp[id]? with
    | some (.row _ wd'' rows) => Need (wd = wd' ∧ wd = wd'' ∧ i + m ≤ rows.length) (K m ((rows.drop i).take m))
    | some (.fz _ wd'' rows) => Need (wd = wd' ∧ wd = wd'' ∧ i + m ≤ rows.length) (K m ((rows.drop i).take m))
    | _ => Stuck "append source"
  | _ => Stuck "append source"
def dstK (hp : List Ob) (e wd : Nat) (c : AV) (K : Option Nat → Nat → List (List AV) → Prop) : Prop :=
  match c with
  | .lit (.slice none 0 0) => K none 0 []
  | .slc id wd' 0 n => match hp[id]? with
    | some (.row e' wd'' rows) => Need (e = e' ∧ wd = wd' ∧ wd = wd'' ∧ n ≤ rows.length) (K (some id) n (rows.take n))
    | _ => Stuck "append to"
  | _ => Stuck "append to"
def bytesT (P : Program) (t : TypeId) : Option Nat := match P.info? t with | some i => some i.bytes | none => none
def appendK (P : Program) (s : St) (t : TypeId) (x y : Operand) (K : AV → List Ob → Prop) : Prop :=
  match elemT P t with
  | some e => match sizeT P e, zeroC P e, bytesT P e with
    | some (wd + 1), some z, some bytes => Need (z.length = wd + 1) (dstK s.hp e (wd + 1) (opv s x) fun old n rows => srcK s.hp (wd + 1) (opv s y) fun m news =>
        Need (n + m ≤ maxLen ∧ (n + m) * bytes ≤ 140737488355328) (fN s.hp.length fun id => fN (wd + 1) fun wd' => K (.slc id wd' 0 (n + m)) (gone s.hp old ++ [.row e wd' (rows ++ news)])))
    | _, _, _ => Stuck "append element"
  | none => Stuck "append type"

section
variable {X : Cx} {B : Base} {ρ : Rho} {s : St} {a : Act} {w : World}

theorem flat_take {O : Nat → Prop} {wd n : Nat} {rows : List (List AV)} {xs : List Value} (hf : FlatRep w O wd rows xs) : FlatRep w O wd (rows.take n) (xs.take (n * wd)) := by
  intro i r hr
  rw [List.getElem?_take] at hr
  split at hr
  · rename_i hi
    obtain ⟨h1, h2⟩ := hf i r hr
    refine ⟨h1, fun j c hc => ?_⟩
    obtain ⟨u, k1, k2⟩ := h2 j c hc
    have hj : j < wd := by rw [← h1]; exact (List.getElem?_eq_some_iff.1 hc).1
    have : i * wd + wd ≤ n * wd := by
      have := Nat.mul_le_mul_right wd (show i + 1 ≤ n from hi)
      rwa [Nat.add_mul, Nat.one_mul] at this
    exact ⟨u, by rw [List.getElem?_take, if_pos (by omega)]; exact k1, k2⟩
  · cases hr
theorem flat_append {O : Nat → Prop} {wd : Nat} {r1 r2 : List (List AV)} {x1 x2 : List Value} (hl : x1.length = r1.length * wd) (h1 : FlatRep w O wd r1 x1) (h2 : FlatRep w O wd r2 x2) : FlatRep w O wd (r1 ++ r2) (x1 ++ x2) := by
  intro i r hr
  rw [List.getElem?_append] at hr
  split at hr
  · rename_i hi
    obtain ⟨k1, k2⟩ := h1 i r hr
    refine ⟨k1, fun j c hc => ?_⟩
    obtain ⟨u, q1, q2⟩ := k2 j c hc
    exact ⟨u, by rw [List.getElem?_append_left (List.getElem?_eq_some_iff.1 q1).1]; exact q1, q2⟩
  · rename_i hi
    obtain ⟨k1, k2⟩ := h2 _ r hr
    refine ⟨k1, fun j c hc => ?_⟩
    obtain ⟨u, q1, q2⟩ := k2 j c hc
    have hm : i * wd = r1.length * wd + (i - r1.length) * wd := by rw [← Nat.add_mul]; congr 1; omega
    exact ⟨u, by rw [List.getElem?_append_right (by omega), hl, show i * wd + j - r1.length * wd = (i - r1.length) * wd + j by omega]; exact q1, q2⟩
theorem flat_drop {O : Nat → Prop} {wd k : Nat} {rows : List (List AV)} {xs : List Value} (hf : FlatRep w O wd rows xs) : FlatRep w O wd (rows.drop k) (xs.drop (k * wd)) := by
  intro i r hr
  rw [List.getElem?_drop] at hr
  obtain ⟨h1, h2⟩ := hf _ r hr
  refine ⟨h1, fun j c hc => ?_⟩
  obtain ⟨u, q1, q2⟩ := h2 j c hc
  exact ⟨u, by rw [List.getElem?_drop, show k * wd + (i * wd + j) = (k + i) * wd + j by rw [Nat.add_mul]; omega]; exact q1, q2⟩

theorem slc_src {id wd i m et : Nat} {rows : List (List AV)} {u v : Value} {xs : List Value} (hr : RepV w (Own ρ s.hp) ρ (.slc id wd i m) u) (hv : ρ id = some v) (ho : w.ownsRow 0 et wd v rows.length xs) (hf : FlatRep w (Own ρ s.hp) wd rows xs) (h1 : ∀ u ∈ xs, u.oneCell' = true) (hm : i + m ≤ rows.length) :
    ∃ news, Src w wd u m news ∧ FlatRep w (Own ρ s.hp) wd ((rows.drop i).take m) news := by
  obtain ⟨y, N, cap, base, e1, rfl, e3, e4, e5, e6, e7⟩ := hr
  rw [hv] at e1; cases e1
  have hmul : i * wd + m * wd ≤ rows.length * wd := by rw [← Nat.add_mul]; exact Nat.mul_le_mul_right _ hm
  refine ⟨(xs.drop (i * wd)).take (m * wd), ⟨by simp [ho.1]; omega, fun u hu => h1 u (List.mem_of_mem_drop (List.mem_of_mem_take hu)), ?_⟩, flat_take (flat_drop hf)⟩
  rcases ho.2 with ⟨q1, q2⟩ | ⟨g, cap', cur, q1, _, q3, _, _, q6, q7⟩
  · cases q1
    have hm0 : m = 0 := by omega
    have hi0 : i = 0 := by omega
    subst hm0; subst hi0
    exact .inl ⟨by rw [e4 rfl], rfl⟩
  · simp only [Value.slice.injEq] at q1
    obtain ⟨rfl, rfl, rfl⟩ := q1
    have cell : ∀ j u, ((xs.drop (i * wd)).take (m * wd))[j]? = some u → w.cell? ⟨g, i * wd + j, none⟩ = some u := by
      intro j u hj
      rw [List.getElem?_take] at hj
      split at hj
      · rw [List.getElem?_drop, ← q7, List.getElem?_take] at hj
        split at hj
        · simp only [World.cell?, q3]
          simpa using hj
        · cases hj
      · cases hj
    by_cases hm0 : m = 0
    · subst hm0
      cases base with
      | none =>
        have := e6 rfl
        subst this
        exact .inl ⟨by simp, rfl⟩
      | some b => exact .inr ⟨b, _, rfl, fun j u hj => by simp at hj⟩
    · rw [e5 hm0, add_map, Nat.zero_add]
      exact .inr ⟨_, _, rfl, fun j u hj => by rw [Addr.add_lit]; exact cell j u hj⟩

theorem flatten_rows {O : Nat → Prop} {wd : Nat} : ∀ (n : Nat) (row : Nat → List AV) (us : Nat → Nat → Value), (∀ i, i < n → (row i).length = wd) → (∀ i j c, i < n → (row i)[j]? = some c → RepI w O c (us i j)) →
    ∃ xs : List Value, xs.length = n * wd ∧ FlatRep w O wd ((List.range n).map row) xs ∧ ∀ i j, i < n → j < wd → xs[i * wd + j]? = some (us i j)
  | 0, _, _, _, _ => ⟨[], by simp, fun i r h => by simp at h, fun i j hi => absurd hi (Nat.not_lt_zero _)⟩
  | n + 1, row, us, h1, h2 => by
    obtain ⟨xs, k1, k2, k3⟩ := flatten_rows n row us (fun i hi => h1 i (by omega)) (fun i j c hi => h2 i j c (by omega))
    refine ⟨xs ++ (List.range wd).map (us n), by simp [k1, Nat.add_mul], ?_, ?_⟩
    · rw [List.range_succ, List.map_append]
      refine flat_append (by simpa using k1) k2 ?_
      intro i r hr
      cases i with
      | zero =>
        simp only [List.map_cons, List.map_nil, List.getElem?_cons_zero, Option.some.injEq] at hr
        subst hr
        refine ⟨h1 n (by omega), fun j c hc => ⟨us n j, ?_, h2 n j c (by omega) hc⟩⟩
        have hj : j < wd := by rw [← h1 n (by omega)]; exact (List.getElem?_eq_some_iff.1 hc).1
        simp [hj]
      | succ i => simp at hr
    · intro i j hi hj
      by_cases e : i < n
      · have : i * wd + wd ≤ n * wd := by
          have := Nat.mul_le_mul_right wd (show i + 1 ≤ n from e)
          rwa [Nat.add_mul, Nat.one_mul] at this
        rw [List.getElem?_append_left (by omega)]
        exact k3 i j e hj
      · have : i = n := by omega
        subst this
        rw [List.getElem?_append_right (by omega), k1, Nat.add_sub_cancel_left]
        simp [hj]

theorem rslc_src {O : Nat → Prop} {wd m : Nat} {row : Nat → List AV} {u : Value} (hr : RepV w O ρ (.rslc wd m row) u) : ∃ news, Src w wd u m news ∧ FlatRep w O wd ((List.range m).map row) news := by
  obtain ⟨base, cap, g, o, rfl, h0, hb, k1, k2, us, k3, k4⟩ := rslc_at hr
  obtain ⟨xs, q1, q2, q3⟩ := flatten_rows (w := w) (O := O) m row us k2 k4
  refine ⟨xs, ⟨q1, ?_, ?_⟩, q2⟩
  · intro u hu
    obtain ⟨p, hp, rfl⟩ := List.mem_iff_getElem.1 hu
    rw [q1] at hp
    by_cases hw : wd = 0
    · subst hw; simp at hp
    · have h1 : p / wd < m := Nat.div_lt_of_lt_mul (by rw [Nat.mul_comm]; exact hp)
      have h2 : p % wd < wd := Nat.mod_lt _ (by omega)
      have h3 := q3 (p / wd) (p % wd) h1 h2
      rw [show p / wd * wd + p % wd = p by rw [Nat.mul_comm]; exact Nat.div_add_mod p wd] at h3
      have hlen : p < xs.length := by rw [q1]; exact hp
      rw [List.getElem?_eq_getElem hlen] at h3
      have h4 : p % wd < (row (p / wd)).length := by rw [k2 _ h1]; exact h2
      have := (k4 (p / wd) (p % wd) _ h1 (List.getElem?_eq_getElem h4)).one
      rw [Option.some.inj h3]
      exact this
  · by_cases hm : m = 0
    · subst hm
      have : xs = [] := List.eq_nil_of_length_eq_zero (by simpa using q1)
      subst this
      cases base with
      | none => exact .inl ⟨by rw [hb rfl], rfl⟩
      | some b => exact .inr ⟨b, cap, rfl, fun j u hj => by cases hj⟩
    · obtain ⟨rfl, _, _⟩ := k1 hm
      refine .inr ⟨_, _, rfl, fun p u hu => ?_⟩
      have hp : p < m * wd := by rw [← q1]; exact (List.getElem?_eq_some_iff.1 hu).1
      by_cases hw : wd = 0
      · subst hw; simp at hp
      · have h1 : p / wd < m := Nat.div_lt_of_lt_mul (by rw [Nat.mul_comm]; exact hp)
        have h2 : p % wd < wd := Nat.mod_lt _ (by omega)
        have h3 := q3 (p / wd) (p % wd) h1 h2
        have hpe : p / wd * wd + p % wd = p := by rw [Nat.mul_comm]; exact Nat.div_add_mod p wd
        rw [hpe, hu] at h3
        have h4 := k3 (p / wd) (p % wd) h1 h2
        rw [Addr.add_lit, ← hpe, ← Nat.add_assoc, h4, ← Option.some.inj h3]
end
end Go.Proofs.De

namespace Go.Proofs.De
open Go.RowKit

section
variable {X : Cx} {B : Base} {ρ : Rho} {s : St} {a : Act} {w : World}

theorem src_ok (h : RelAt X B ρ s a w) {wd : Nat} {y : Operand} {K : Nat → List (List AV) → Prop} (hk : srcK s.hp wd (opv s y) K) : ∃ m news rows, K m rows ∧ rows.length = m ∧ Src w wd (a.eval y) m news ∧ FlatRep w (Own ρ s.hp) wd rows news := by
  have hr := h.opv y
  unfold srcK at hk
  split at hk
  · rename_i e
    rw [e] at hr
    exact ⟨0, [], [], hk, rfl, ⟨by simp, by simp, .inl ⟨(RepV_lit.1 hr).1, rfl⟩⟩, fun i r h => by cases h⟩
  · rename_i wd' m row e
    obtain ⟨rfl, hk⟩ := hk
    rw [e] at hr
    obtain ⟨news, k1, k2⟩ := rslc_src hr
    exact ⟨m, news, _, hk, by simp, k1, k2⟩
  · rename_i id wd' i m e
    split at hk
    · rename_i et wd'' rows e1
      obtain ⟨⟨rfl, rfl, h1⟩, hk⟩ := hk
      rw [e] at hr
      obtain ⟨v, xs, q1, q2, q3, q4⟩ := h.hp.has id _ e1
      obtain ⟨news, k1, k2⟩ := slc_src hr q1 q2 q3 q4 h1
      exact ⟨m, news, _, hk, by simp; omega, k1, k2⟩
    · rename_i et wd'' rows e1
      obtain ⟨⟨rfl, rfl, h1⟩, hk⟩ := hk
      rw [e] at hr
      obtain ⟨v, xs, q1, q2, q3, q4, _⟩ := h.hp.has id _ e1
      obtain ⟨news, k1, k2⟩ := slc_src hr q1 q2 q3 q4 h1
      exact ⟨m, news, _, hk, by simp; omega, k1, k2⟩
    · exact hk.x.elim
  · exact hk.x.elim

theorem dst_ok (h : RelAt X B ρ s a w) {e wd : Nat} {x : Operand} {K : Option Nat → Nat → List (List AV) → Prop} (hk : dstK s.hp e wd (opv s x) K) :
    ∃ old n rows y N cap xs, K old n rows ∧ rows.length = n ∧ n ≤ N ∧ a.eval x = .slice y n cap ∧ w.ownsRow 0 e wd (.slice y N cap) N xs ∧ FlatRep w (Own ρ s.hp) wd rows (xs.take (n * wd)) ∧ (∀ u ∈ xs, u.oneCell' = true) ∧
      (∀ b, blockOf (.slice y N cap) = some b → ∃ j z, old = some j ∧ s.hp[j]? = some z ∧ Blk ρ j b z) ∧ (∀ j, old = some j → j < s.hp.length) := by
  have hr := h.opv x
  unfold dstK at hk
  split at hk
  · rename_i e0
    rw [e0] at hr
    refine ⟨none, 0, [], none, 0, 0, [], hk, rfl, Nat.le_refl _, (RepV_lit.1 hr).1, World.ownsRow_nil w 0 e wd, ?_, ?_, ?_, ?_⟩
    · intro i r h; cases h
    · intro u hu; cases hu
    · intro b hb; cases hb
    · intro j hj; cases hj
  · rename_i id wd' n e0
    split at hk
    · rename_i e' wd'' rows e1
      obtain ⟨⟨rfl, rfl, rfl, h1⟩, hk⟩ := hk
      rw [e0] at hr
      obtain ⟨y, N, cap, base, p1, p2, p3, p4, p5, p6, p7⟩ := hr
      obtain ⟨v, xs, q1, q2, q3, q4⟩ := h.hp.has id _ e1
      rw [p1] at q1; cases q1
      have hN : N = rows.length := by
        rcases q2.2 with ⟨z1, z2⟩ | ⟨g, c, cur, z1, _⟩
        · cases z1; omega
        · cases z1; rfl
      subst hN
      rw [p4 rfl] at p2
      refine ⟨some id, n, rows.take n, y, rows.length, cap, xs, hk, by simp; omega, h1, by simpa using p2, q2, flat_take q3, q4, fun b hb => ⟨id, _, rfl, e1, ⟨_, p1, hb⟩⟩, fun j hj => by cases hj; exact (List.getElem?_eq_some_iff.1 e1).1⟩
    · exact hk.x.elim
  · exact hk.x.elim

theorem zeroC_info {P : Program} {t : TypeId} {z : List AV} (h : zeroC P t = some z) : ∃ i v, P.info? t = some i ∧ i.zero = some v ∧ v.cells.size = z.length := by
  unfold zeroC at h
  split at h
  · rename_i i e1
    split at h
    · rename_i v e2
      split at h
      · cases h; exact ⟨i, v, e1, e2, by simp⟩
      · cases h
    · cases h
  · cases h

theorem append_ok (h : RelAt X B ρ s a w) {o : Oper} {t : TypeId} {x y : Operand} (ho : o.op = .call { callee := .builtin .append, args := #[x, y], argTypes := #[t, t] }) {K : AV → List Ob → Prop} (hk : appendK X.P s t x y K) : Eff X B s a w o K := by
  unfold appendK at hk
  split at hk
  · rename_i e e1
    split at hk
    · rename_i wd z bytes e2 e3 e4
      obtain ⟨hz, hk⟩ := hk
      obtain ⟨old, n, rows, yd, N, cap, xs, hk, hn, hnN, hx, ho1, hf1, h1, hrow, hold⟩ := dst_ok h hk
      obtain ⟨m, news, rows2, hk, hm, hsrc, hf2⟩ := src_ok h hk
      obtain ⟨⟨hb1, hb2⟩, hk⟩ := hk
      rw [fN_eq, fN_eq] at hk
      obtain ⟨i, v, i1, i2, i3⟩ := zeroC_info e3
      have hsz : i.size = wd + 1 := by unfold sizeT at e2; rw [i1] at e2; exact Option.some.inj e2
      have hby : i.bytes = bytes := by unfold bytesT at e4; rw [i1] at e4; exact Option.some.inj e4
      obtain ⟨y', cap', w', r1, r2, r3, r4⟩ := append_row (P := X.P) (ty := o.type) (elemT_eq e1) i1 i2 hsz hby (by rw [i3, hz]) (by omega) ho1 hnN hsrc hb1 hb2
      have hlen : (xs.take (n * (wd + 1))).length = rows.length * (wd + 1) := by rw [(own_prefix ho1 hnN).1, hn]
      have hq := h.grow (w' := w') (row := blockOf (.slice yd N cap)) (old := old) hrow hold r3 (v := .slice y' (n + m) cap') r4 (ob := .row e (wd + 1) (rows ++ rows2)) (fun b => blk_row) (fun O' ht => by
        refine ⟨_, _, Rho.upd_same _ _ _, ?_, (flat_append hlen hf1 hf2).mono ht, ?_⟩
        · rw [List.length_append, hn, hm]; exact r2
        · intro u hu
          rcases List.mem_append.1 hu with hu | hu
          · exact h1 u (List.mem_of_mem_take hu)
          · exact hsrc.2.1 u hu)
      refine .value ⟨_, _, _, .slice y' (n + m) cap', w', hk, ?_, hq.1, ?_⟩
      · simp [execOp, ho, resolve, invoke, builtin, hx, r1]
      · refine ⟨y', n + m, cap', y', Rho.upd_same _ _ _, by simp, ?_, fun _ => rfl, fun hn0 => ?_, fun e => ?_, fun q e => ?_⟩
        all_goals rcases r2.2 with ⟨z1, z2⟩ | ⟨g, c, cur, z1, _, _, z4, _⟩
        all_goals simp only [Value.slice.injEq, true_and] at z1
        · omega
        · omega
        · omega
        · obtain ⟨rfl, rfl⟩ := z1; simp [Addr.add_lit]
        · exact z1.2.2
        · rw [z1.1] at e; cases e
        · rw [z1.1] at e; cases e
        · rw [z1.1] at e; cases e; exact ⟨_, rfl⟩
    · exact hk.x.elim
  · exact hk.x.elim

/-- A store into an own row: of parts without numbers of own blocks. -/
def storeRowK (hp : List Ob) (sz id wd i f : Nat) (l : List AV) (K : AV → List Ob → Prop) : Prop :=
  reifysK hp l fun l' hp' => match hp'[id]? with
    | some (.row et wd' rows) => Need (wd = wd') (CellsK rows i fun cs => Need (l'.length = sz ∧ f + sz ≤ wd) (K .any (setN hp' id (.row et wd' (rows.set i (setAll cs f l'))))))
    | _ => Stuck "store row"

theorem store_row (h : RelAt X B ρ s a w) {o : Oper} {t : TypeId} {x y : Operand} (ho : o.op = .store t x y) {sz id wd i f : Nat} {l : List AV} (hsz : sizeT X.P t = some sz) (hl : cellsOf (opv s y) = some l) (hx : opv s x = .eptr id wd i f) {K : AV → List Ob → Prop}
    (hk : storeRowK s.hp sz id wd i f l K) : Eff X B s a w o K := by
  obtain ⟨k1, k2⟩ := cellsOf_rep (h.opv y) hl
  obtain ⟨l', hp', hk, hh', ht', hl', hll, hi'⟩ := reifysK_ok l h.hp (fun j => (a.eval y).cells[j]?) k2 hk
  have h2 := h.frozen hh' ht'
  split at hk
  · rename_i et wd' rows e1
    obtain ⟨rfl, ⟨cs, e2, ⟨h3, h4⟩, hk⟩⟩ := hk
    have hr := h.opv x
    rw [hx] at hr
    obtain ⟨g, N, cap, e3, e4⟩ := hr
    obtain ⟨v, xs, q1, q2, q3, q4⟩ := h2.hp.has id _ e1
    rw [e3] at q1; cases q1
    have hi : i < rows.length := (List.getElem?_eq_some_iff.1 e2).1
    have hw : i * wd + wd ≤ rows.length * wd := by
      have := Nat.mul_le_mul_right wd (show i + 1 ≤ rows.length from hi)
      rwa [Nat.add_mul, Nat.one_mul] at this
    rcases q2.2 with ⟨z1, _⟩ | ⟨g', cap', cur, z1, z2, z3, z4, z5, z6, z7⟩
    · cases z1
    · simp only [Value.slice.injEq, Option.some.injEq, Addr.mk.injEq, and_true] at z1
      obtain ⟨rfl, rfl, rfl⟩ := z1
      have hcur : rows.length * wd ≤ cur.size := by rw [z6]; exact Nat.mul_le_mul_right _ z4
      have hun : (a.eval y).cells.size = sz := by rw [k1, ← hll]; exact h3
      obtain ⟨vs', r1, r2, r3⟩ := run_store_own (P := X.P) z3 hsz (u := a.eval y) hun (f := i * wd + f) (by omega) (cells_one (l := l) k1 k2)
      have hg : w.grownBy (w.setRow g vs') (some g) := ⟨rfl, rfl, rfl, by simp, fun k _ hk => setRow_other w g k _ (fun e => hk (by rw [e]))⟩
      have hlc : cs.length = wd := (q3 i cs e2).1
      let nx : List Value := vs'.toList.take (rows.length * wd)
      have hnx : ∀ p, p < rows.length * wd → nx[p]? = if i * wd + f ≤ p ∧ p < i * wd + f + sz then (a.eval y).cells[p - (i * wd + f)]? else xs[p]? := by
        intro p hp
        have hxp : xs[p]? = cur[p]? := by rw [← z7, List.getElem?_take, if_pos hp]; simp
        simp only [nx, List.getElem?_take, if_pos hp]
        rw [hxp, ← r3 p]
        simp
      have ht := h2.hp.write_tr (ob := .row et wd (rows.set i (setAll cs f l'))) e1 (fun b => Iff.rfl) ⟨_, e3, rfl⟩ hg
      have hh := h2.hp.write (ob := .row et wd (rows.set i (setAll cs f l'))) e1 (fun b => Iff.rfl) ⟨_, e3, rfl⟩ hg (by
        refine ⟨_, nx, e3, ?_, ?_, ?_⟩
        · rw [List.length_set]
          refine ⟨by simp [nx, r2]; omega, .inr ⟨g, cap, vs', rfl, Nat.zero_le _, setRow_heap w g cur vs' et _ z3, z4, z5, by rw [r2, z6], rfl⟩⟩
        · intro q r hr
          rw [List.getElem?_set] at hr
          by_cases e : i = q
          · subst e
            rw [if_pos rfl, if_pos hi] at hr
            cases hr
            refine ⟨by rw [setAll_len, hlc], fun j c hj => ?_⟩
            rw [setAll_at l' cs f (by omega) j] at hj
            have hjw : j < wd := by
              split at hj
              · omega
              · rw [← hlc]; exact (List.getElem?_eq_some_iff.1 hj).1
            rw [hnx _ (by omega)]
            split at hj
            · rename_i hc
              rw [if_pos (by omega)]
              obtain ⟨x, p1, p2⟩ := hi' _ c hj
              exact ⟨x, by rw [show i * wd + j - (i * wd + f) = j - f by omega]; exact p1, p2.mono ht⟩
            · rename_i hc
              rw [if_neg (by omega)]
              obtain ⟨x, p1, p2⟩ := (q3 i cs e2).2 j c hj
              exact ⟨x, p1, p2.mono ht⟩
          · rw [if_neg e] at hr
            obtain ⟨p1, p2⟩ := q3 q r hr
            refine ⟨p1, fun j c hj => ?_⟩
            obtain ⟨x, p3, p4⟩ := p2 j c hj
            have hjw : j < wd := by rw [← p1]; exact (List.getElem?_eq_some_iff.1 hj).1
            have hq : q < rows.length := (List.getElem?_eq_some_iff.1 hr).1
            have hqw : q * wd + wd ≤ rows.length * wd := by
              have := Nat.mul_le_mul_right wd (show q + 1 ≤ rows.length from hq)
              rwa [Nat.add_mul, Nat.one_mul] at this
            refine ⟨x, ?_, p4.mono ht⟩
            rw [hnx _ (by omega), if_neg ?_]
            · exact p3
            · rintro ⟨o1, o2⟩
              rcases Nat.lt_or_ge q i with o3 | o3
              · have := Nat.mul_le_mul_right wd (show q + 1 ≤ i from o3)
                rw [Nat.add_mul, Nat.one_mul] at this
                omega
              · have := Nat.mul_le_mul_right wd (show i + 1 ≤ q by omega)
                rw [Nat.add_mul, Nat.one_mul] at this
                omega
        · intro u hu
          obtain ⟨p, hp, rfl⟩ := List.mem_iff_getElem.1 hu
          have hp' : p < rows.length * wd := by simp [nx, r2] at hp; omega
          have := hnx p hp'
          rw [List.getElem?_eq_getElem hp] at this
          split at this
          · exact cells_one (l := l) k1 k2 _ (List.mem_of_getElem? (by rw [Array.getElem?_toList]; exact this.symm))
          · exact q4 _ (List.mem_of_getElem? this.symm))
      rw [setN_eq] at hk
      exact .skip ⟨_, ρ, _, hk, by simp [execOp, ho, e4, r1], h2.step hh ht (Rho.le.refl ρ)⟩
  · exact hk.x.elim

/-- A row of bytes. -/
structure BytesK (rows : List (List AV)) (K : List UInt8 → Prop) : Prop where
  x : ∃ bs : List UInt8, rows = bs.map (fun b => [.lit (.int .u8 b.toNat)]) ∧ K bs
def u8T (P : Program) (t : TypeId) : Bool := match P.underlying t with | some (.int .u8) => true | _ => false
def bytesK (P : Program) (s : St) (src dst : TypeId) (x : Operand) (K : AV → Prop) : Prop :=
  match elemT P src with
  | some e => Need (u8T P e = true ∧ strT P dst = true) (srcK s.hp 1 (opv s x) fun _ rows => BytesK rows fun bs => K (.lit (.string ⟨bs.toArray⟩)))
  | none => Stuck "bytes"
theorem bytes_ok (h : RelAt X B ρ s a w) {o : Oper} {src dst : TypeId} {x : Operand} (ho : o.op = .convert src dst x) {K : AV → Prop} (hk : bytesK X.P s src dst x K) : Val X ρ s a w o K := by
  unfold bytesK at hk
  split at hk
  · rename_i e e1
    obtain ⟨⟨h1, h2⟩, hk⟩ := hk
    obtain ⟨m, news, rows, ⟨bs, hb, hk⟩, hm, ⟨hl, _, hs⟩, hf⟩ := src_ok h hk
    have hu8 : X.P.underlying e = some (.int .u8) := by
      unfold u8T at h1
      split at h1
      · assumption
      · cases h1
    refine ⟨_, .string ⟨bs.toArray⟩, hk, ?_, RepV_lit.2 ⟨rfl, rfl⟩⟩
    have hnews : news = bs.map fun b => Value.int .u8 (b.toNat : Int) := by
      apply List.ext_getElem?
      intro j
      by_cases hj : j < rows.length
      · have hr := List.getElem?_eq_getElem hj
        have hbj : j < bs.length := by rw [hb] at hj; simpa using hj
        obtain ⟨k1, k2⟩ := hf j _ hr
        have hrow : rows[j] = [.lit (.int .u8 (bs[j].toNat : Int))] := by simp [hb]
        rw [hrow] at k2
        obtain ⟨u, q1, q2⟩ := k2 0 _ rfl
        rw [Nat.mul_one, Nat.add_zero] at q1
        cases q2
        rw [q1, List.getElem?_map, List.getElem?_eq_getElem hbj]
        rfl
      · have hbj : ¬ j < bs.length := by rw [hb] at hj; simpa using hj
        rw [List.getElem?_eq_none (by rw [hl, Nat.mul_one, ← hm]; omega), List.getElem?_eq_none (by simp; omega)]
    have hmb : m = bs.length := by rw [← hm, hb]; simp
    have hconv : ∀ (y : Option Addr) (c : Nat), a.eval x = .slice y m c → (Conv.bytesToString (.slice y m c)).run X.P w = .ok (.string ⟨bs.toArray⟩) w → (execOp a.eval o).run X.P w = .ok (.value (.string ⟨bs.toArray⟩)) w := by
      intro y c e2 e3
      have := run_convert_bytes_string (P := X.P) w src dst e y m c (elemT_eq e1) hu8 (strT_eq h2)
      simp [execOp, ho, e2, this, e3]
    rcases hs with ⟨e2, e3⟩ | ⟨ad, c, e2, e3⟩
    · have hbs : bs = [] := List.eq_nil_of_length_eq_zero (by rw [← hmb, e3])
      subst hbs
      subst e3
      refine hconv none 0 e2 ?_
      simp [Conv.bytesToString]
      rfl
    · refine hconv _ c e2 ?_
      have hload : (loadCells ad m).run X.P w = .ok ((bs.map fun b => (b.toNat : Int)).map (Value.int .u8)).toArray w := by
        have := run_loadCells_list (P := X.P) w ad news e3
        rw [hl, Nat.mul_one] at this
        rw [this, hnews]
        simp [List.map_map, Function.comp_def]
      rw [run_bytesToString (P := X.P) w ad m c (bs.map fun b => (b.toNat : Int)) hload]
      congr 2
      have hfold : ∀ (l : List UInt8) (s : ByteArray), (l.map fun b => (b.toNat : Int)).foldl (fun r n => r.push (UInt8.ofNat n.toNat)) s = ⟨s.data ++ l.toArray⟩ := by
        intro l
        induction l with
        | nil => intro s; simp
        | cons b l ih =>
          intro s
          simp only [List.map_cons, List.foldl_cons, ih]
          congr 1
          simp only [ByteArray.push]
          have : UInt8.ofNat (b.toNat : Int).toNat = b := by simp
          rw [this]
          simp
      rw [hfold]
      simp [ByteArray.empty, ByteArray.emptyWithCapacity]
      rfl
  · exact hk.x.elim
end
end Go.Proofs.De
