/- Words for memory: a node's cells, a tree that lies in memory, what a round of a loop over an iterator leaves as it was. Of no program; no conditions beyond those that each statement names. -/
import Derived.Test.YtdccodnompalbaaM
import Derived.Below
import Derived.Laws.OwnMore
import Derived.Deep.Draws
import Derived.RangeFuncKeeps
import Derived.RangeFuncNested
namespace Go.Proofs.Ytdccodnompalbaa
open Go.RowKit

/-- The five cells of a node. -/
def Cells5 (w : World) (g o : Nat) (T : NT) : Prop :=
  w.cell? ⟨g, o, none⟩ = some (.int .i64 T.k) ∧ w.cell? ⟨g, o + 1, none⟩ = some (.string T.t) ∧ w.cell? ⟨g, o + 2, none⟩ = some (.int .i64 T.n) ∧ w.cell? ⟨g, o + 3, none⟩ = some T.s ∧ w.cell? ⟨g, o + 4, none⟩ = some (.int .i64 T.a)

/-- The tree's kids, and theirs, lie in blocks below b. -/
def Lies (b : Nat) (w : World) : NT → Prop
  | .nul => True
  | .mk _ _ _ s len kid _ => ∃ (p : Option Addr) (c : Nat), s = .slice p len c ∧ (len ≤ c ∧ (p = none → c = 0)) ∧ (len ≠ 0 → ∃ g off : Nat, p = some ⟨g, off, none⟩ ∧ g < b ∧ ∀ i, i < len → Cells5 w g (off + i * 5) (kid i) ∧ Lies b w (kid i))

theorem Lies.eq {b : Nat} {w : World} {T : NT} (h : Lies b w T) : ∃ (p : Option Addr) (c : Nat), T.s = .slice p T.len c ∧ (T.len ≤ c ∧ (p = none → c = 0)) ∧ (T.len ≠ 0 → ∃ g off : Nat, p = some ⟨g, off, none⟩ ∧ g < b ∧ ∀ i, i < T.len → Cells5 w g (off + i * 5) (T.kid i) ∧ Lies b w (T.kid i)) := by
  cases T with
  | nul => exact ⟨none, 0, rfl, ⟨Nat.le_refl _, fun _ => rfl⟩, fun h => absurd rfl h⟩
  | mk => exact h
theorem Lies.of {b : Nat} {w : World} {T : NT} (h : ∃ (p : Option Addr) (c : Nat), T.s = .slice p T.len c ∧ (T.len ≤ c ∧ (p = none → c = 0)) ∧ (T.len ≠ 0 → ∃ g off : Nat, p = some ⟨g, off, none⟩ ∧ g < b ∧ ∀ i, i < T.len → Cells5 w g (off + i * 5) (T.kid i) ∧ Lies b w (T.kid i))) : Lies b w T := by
  cases T with
  | nul => trivial
  | mk => exact h

theorem Cells5.of {w w' : World} {g o : Nat} {T : NT} (h : Cells5 w g o T) (e : ∀ (p : Addr) (v : Value), p.block = g → w.cell? p = some v → w'.cell? p = some v) : Cells5 w' g o T :=
  ⟨e _ _ rfl h.1, e _ _ rfl h.2.1, e _ _ rfl h.2.2.1, e _ _ rfl h.2.2.2.1, e _ _ rfl h.2.2.2.2⟩

/-- Where every cell below b is as it was the tree lies as it lay. -/
theorem Lies.carry {b b' : Nat} {w w' : World} (hbb : b ≤ b') (e : ∀ (p : Addr) (v : Value), p.block < b → w.cell? p = some v → w'.cell? p = some v) : ∀ {T : NT}, Lies b w T → Lies b' w' T
  | .nul, _ => trivial
  | .mk _ _ _ _ _ _ _, ⟨p, c, h1, h2, h3⟩ => ⟨p, c, h1, h2, fun hn => by
    obtain ⟨g, off, e1, hg, hc⟩ := h3 hn
    exact ⟨g, off, e1, Nat.lt_of_lt_of_le hg hbb, fun i hi => ⟨(hc i hi).1.of fun p v hp hv => e p v (by omega) hv, Lies.carry hbb e (hc i hi).2⟩⟩⟩
theorem Lies.below {b : Nat} {w w' : World} {T : NT} (h : Lies b w T) (hb : Below b w w') : Lies b w' T := h.carry (Nat.le_refl _) fun p _ hp hv => (hb.cell (p := p) hp).trans hv
theorem Lies.mono {b b' : Nat} {w : World} {T : NT} (h : Lies b w T) (hb : b ≤ b') : Lies b' w T := h.carry hb fun _ _ _ hv => hv

/-- What a round leaves as it was: every block of cells that is there, but for those from n₀ to D. -/
structure KeepC (n₀ D : Nat) (W W' : World) : Prop where
  size : W.heap.size ≤ W'.heap.size
  same : ∀ (b : Nat) (o : Obj), b < n₀ ∨ D ≤ b → W.heap[b]? = some o → o.isCells = true → W'.heap[b]? = some o

theorem KeepC.refl (n₀ D : Nat) (W : World) : KeepC n₀ D W W := ⟨Nat.le_refl _, fun _ _ _ h _ => h⟩
theorem KeepC.trans {n₀ D : Nat} {A B C : World} (h : KeepC n₀ D A B) (k : KeepC n₀ D B C) : KeepC n₀ D A C :=
  ⟨Nat.le_trans h.size k.size, fun b o hb h1 h2 => k.same b o hb (h.same b o hb h1 h2) h2⟩
theorem KeepC.grown {n₀ D : Nat} {A B C : World} {row : Option Nat} (h : KeepC n₀ D A B) (hg : B.grownBy C row) (hr : ∀ k, row = some k → (n₀ ≤ k ∧ k < D) ∨ ∃ o : Obj, B.heap[k]? = some o ∧ o.isCells = false) : KeepC n₀ D A C :=
  ⟨Nat.le_trans h.size hg.size, fun b o hb h1 h2 => by
    have h3 := h.same b o hb h1 h2
    refine (hg.block b (Array.getElem?_eq_some_iff.1 h3).1 fun e => ?_).trans h3
    rcases hr b e.symm with h4 | ⟨o', h4, h5⟩
    · omega
    · rw [h3] at h4; cases h4; rw [h2] at h5; cases h5⟩
theorem KeepC.of_below {n₀ D : Nat} {W W' : World} (h : Below W.heap.size W W') : KeepC n₀ D W W' :=
  ⟨h.size, fun b _ _ h1 _ => (h.block b (Array.getElem?_eq_some_iff.1 h1).1).trans h1⟩
theorem keepC_t {n₀ D : Nat} {A B C : World} (h : KeepC n₀ D A B) (k : KeepC n₀ D B C) : KeepC n₀ D A C := h.trans k
theorem keepC_b {n₀ D : Nat} {w : World} (W : World) (l : Nat) (o o' : Obj) (_ : w.heap.size ≤ l) (h : W.heap[l]? = some o) (hc : o.isCells = false) (_ : o.isWalk = false) : KeepC n₀ D W (W.putObj l o') :=
  (KeepC.refl n₀ D W).grown (grownBy_putObj' W l o') fun k e => by cases e; exact .inr ⟨o, h, hc⟩
theorem isCells_of_cell {W : World} {p : Addr} {v : Value} (h : W.cell? p = some v) : ∃ o : Obj, W.heap[p.block]? = some o ∧ o.isCells = true := by
  unfold World.cell? at h
  split at h
  · rename_i hh; exact ⟨_, hh, rfl⟩
  · cases h
theorem KeepC.cell {n₀ D : Nat} {W W' : World} (h : KeepC n₀ D W W') {p : Addr} {v : Value} (hp : p.block < n₀ ∨ D ≤ p.block) (hv : W.cell? p = some v) : W'.cell? p = some v := by
  obtain ⟨o, ho, hc⟩ := isCells_of_cell hv
  exact (World.cell?_of_block (w := W) (w' := W') (by rw [h.same _ o hp ho hc, ho])).trans hv
theorem KeepC.frozen {n₀ D : Nat} {W W' : World} (h : KeepC n₀ D W W') {p : Addr} {v : Value} (hp : p.block < n₀ ∨ D ≤ p.block) (hv : W.cell? p = some v) : W'.frozen? p = W.frozen? p := by
  obtain ⟨o, ho, hc⟩ := isCells_of_cell hv
  exact World.frozen?_of_block (w := W) (w' := W') (by rw [h.same _ o hp ho hc, ho])
theorem Lies.keep {n₀ D : Nat} {W W' : World} {T : NT} (h : Lies n₀ W T) (hk : KeepC n₀ D W W') : Lies n₀ W' T := h.carry (Nat.le_refl _) fun _ _ hp hv => hk.cell (.inl hp) hv
theorem Cells5.keep {n₀ D : Nat} {W W' : World} {g o : Nat} {T : NT} (h : Cells5 W g o T) (hk : KeepC n₀ D W W') (hg : g < n₀ ∨ D ≤ g) : Cells5 W' g o T := h.of fun _ _ hp hv => hk.cell (by rw [hp]; exact hg) hv
theorem Cells5.below {b : Nat} {w w' : World} {g o : Nat} {T : NT} (h : Cells5 w g o T) (hb : Below b w w') (hg : g < b) : Cells5 w' g o T := h.of fun p _ hp hv => (hb.cell (p := p) (by omega)).trans hv
end Go.Proofs.Ytdccodnompalbaa
