/- Words for memory, more: what a round leaves as it was, where some blocks may turn; trees in blocks of a sort. Of no program; no conditions beyond those that each statement names. -/
import Derived.Test.YtdccodnompalbaaW
namespace Go.Proofs.Ytdccodnompalbaa
open Go.RowKit

/-- What a round leaves as it was: every block of cells that is there, but for those that may turn; and which may turn. -/
structure KeepG (E : World → Nat → Prop) (W W' : World) : Prop where
  size : W.heap.size ≤ W'.heap.size
  same : ∀ (b : Nat) (o : Obj), ¬ E W b → W.heap[b]? = some o → o.isCells = true → W'.heap[b]? = some o
  more : ∀ b, E W' b → E W b ∨ (W.heap.size ≤ b ∧ b < W'.heap.size)

/-- Which blocks may turn is told by what lies below D. -/
def Told (D : Nat) (E : World → Nat → Prop) : Prop := ∀ (W W' : World) (b : Nat), (∀ k, k < D → W'.heap[k]? = W.heap[k]?) → E W' b → E W b
/-- The blocks that may turn are there, from n₀ on. -/
def Inv (n₀ : Nat) (E : World → Nat → Prop) (W : World) : Prop := n₀ ≤ W.heap.size ∧ ∀ b, E W b → n₀ ≤ b ∧ b < W.heap.size

section
variable {n₀ D : Nat} {E : World → Nat → Prop}
theorem KeepG.refl (W : World) : KeepG E W W := ⟨Nat.le_refl _, fun _ _ _ h _ => h, fun _ h => .inl h⟩
theorem KeepG.trans {A B C : World} (h : KeepG E A B) (k : KeepG E B C) : KeepG E A C :=
  ⟨Nat.le_trans h.size k.size, fun b o hb h1 h2 => k.same b o (fun he => by
      rcases h.more b he with h3 | h3
      · exact hb h3
      · have := (Array.getElem?_eq_some_iff.1 h1).1; omega) (h.same b o hb h1 h2) h2,
    fun b hb => by
      have h1 := h.size
      have h2 := k.size
      rcases k.more b hb with h3 | h3
      · rcases h.more b h3 with h4 | h4
        · exact .inl h4
        · exact .inr ⟨h4.1, by omega⟩
      · exact .inr ⟨by omega, h3.2⟩⟩
theorem keepG_t {A B C : World} (h : KeepG E A B) (k : KeepG E B C) : KeepG E A C := h.trans k
theorem KeepG.inv {W W' : World} (h : KeepG E W W') (hi : Inv n₀ E W) : Inv n₀ E W' :=
  ⟨Nat.le_trans hi.1 h.size, fun b hb => by
    have h1 := h.size
    have h2 := hi.1
    rcases h.more b hb with h3 | h3
    · have := hi.2 b h3; omega
    · omega⟩
theorem KeepG.of_below (hE : Told D E) {W W' : World} (hD : D ≤ W.heap.size) (h : Below W.heap.size W W') : KeepG E W W' :=
  ⟨h.size, fun b _ _ h1 _ => (h.block b (Array.getElem?_eq_some_iff.1 h1).1).trans h1, fun b hb => .inl (hE W W' b (fun k hk => h.block k (by omega)) hb)⟩
theorem keepG_b (hE : Told D E) {w : World} (hD : D ≤ w.heap.size) (W : World) (l : Nat) (o o' : Obj) (hl : w.heap.size ≤ l) (h : W.heap[l]? = some o) (hc : o.isCells = false) (_ : o.isWalk = false) : KeepG E W (W.putObj l o') := by
  have hg := grownBy_putObj' W l o'
  refine ⟨hg.size, fun b o1 _ h1 h2 => (hg.block b (Array.getElem?_eq_some_iff.1 h1).1 fun e => ?_).trans h1, fun b hb => .inl (hE W _ b (fun k hk => ?_) hb)⟩
  · cases e; rw [h] at h1; cases h1; rw [hc] at h2; cases h2
  · rcases Nat.lt_or_ge k W.heap.size with hlt | hge
    · exact hg.block k hlt (fun e => by cases e; omega)
    · have := (Array.getElem?_eq_some_iff.1 h).1; omega
theorem KeepG.cell {W W' : World} (h : KeepG E W W') {p : Addr} {v : Value} (hp : ¬ E W p.block) (hv : W.cell? p = some v) : W'.cell? p = some v := by
  obtain ⟨o, ho, hc⟩ := isCells_of_cell hv
  exact (World.cell?_of_block (w := W) (w' := W') (by rw [h.same _ o hp ho hc, ho])).trans hv
theorem KeepG.frozen {W W' : World} (h : KeepG E W W') {p : Addr} {v : Value} (hp : ¬ E W p.block) (hv : W.cell? p = some v) : W'.frozen? p = W.frozen? p := by
  obtain ⟨o, ho, hc⟩ := isCells_of_cell hv
  exact World.frozen?_of_block (w := W) (w' := W') (by rw [h.same _ o hp ho hc, ho])
theorem KeepG.drewN {W W' : World} (hE : Told D E) (h : KeepG E W W') (n : Nat) : KeepG E W (W'.drewN n) := ⟨h.size, h.same, fun b hb => h.more b (hE W' (W'.drewN n) b (fun _ _ => rfl) hb)⟩
theorem Lies.keepG {W W' : World} {T : NT} (h : Lies n₀ W T) (hi : Inv n₀ E W) (hk : KeepG E W W') : Lies n₀ W' T := h.carry (Nat.le_refl _) fun p _ hp hv => hk.cell (fun he => by have := hi.2 _ he; omega) hv
theorem Cells5.keepG {W W' : World} {g o : Nat} {T : NT} (h : Cells5 W g o T) (hk : KeepG E W W') (hg : ¬ E W g) : Cells5 W' g o T := h.of fun _ _ hp hv => hk.cell (by rw [hp]; exact hg) hv
end

/-- The tree's kids, and theirs, lie in blocks of a sort. -/
def LiesP (P : Nat → Prop) (w : World) : NT → Prop
  | .nul => True
  | .mk _ _ _ s len kid _ => ∃ (p : Option Addr) (c : Nat), s = .slice p len c ∧ (len ≤ c ∧ (p = none → c = 0)) ∧ (len ≠ 0 → ∃ g off : Nat, p = some ⟨g, off, none⟩ ∧ P g ∧ ∀ i, i < len → Cells5 w g (off + i * 5) (kid i) ∧ LiesP P w (kid i))
theorem liesP_eq {P : Nat → Prop} {w : World} {T : NT} : LiesP P w T ↔ ∃ (p : Option Addr) (c : Nat), T.s = .slice p T.len c ∧ (T.len ≤ c ∧ (p = none → c = 0)) ∧ (T.len ≠ 0 → ∃ g off : Nat, p = some ⟨g, off, none⟩ ∧ P g ∧ ∀ i, i < T.len → Cells5 w g (off + i * 5) (T.kid i) ∧ LiesP P w (T.kid i)) := by
  cases T with
  | nul => exact ⟨fun _ => ⟨none, 0, rfl, ⟨Nat.le_refl _, fun _ => rfl⟩, fun h => absurd rfl h⟩, fun _ => trivial⟩
  | mk => rfl
theorem LiesP.carry {P P' : Nat → Prop} {w w' : World} (hP : ∀ g, P g → g < w.heap.size → P' g) (e : ∀ (p : Addr) (v : Value), P p.block → w.cell? p = some v → w'.cell? p = some v) : ∀ {T : NT}, LiesP P w T → LiesP P' w' T := by
  intro T
  induction T using NT.ind with
  | _ T ih =>
    intro h
    obtain ⟨p, c, h1, h2, h3⟩ := liesP_eq.1 h
    refine liesP_eq.2 ⟨p, c, h1, h2, fun hn => ?_⟩
    obtain ⟨g, off, e1, hg, hc⟩ := h3 hn
    have hlt : g < w.heap.size := World.block_lt_of_cell? w ⟨g, off + 0 * 5, none⟩ (hc 0 (by omega)).1.1
    exact ⟨g, off, e1, hP g hg hlt, fun i hi => ⟨(hc i hi).1.of fun q v hq hv => e q v (by rw [hq]; exact hg) hv, ih i hi (hc i hi).2⟩⟩
theorem LiesP.lies {P : Nat → Prop} {w : World} : ∀ {T : NT}, LiesP P w T → Lies w.heap.size w T := by
  intro T
  induction T using NT.ind with
  | _ T ih =>
    intro h
    obtain ⟨p, c, h1, h2, h3⟩ := liesP_eq.1 h
    refine Lies.of ⟨p, c, h1, h2, fun hn => ?_⟩
    obtain ⟨g, off, e1, hg, hc⟩ := h3 hn
    have hlt : g < w.heap.size := World.block_lt_of_cell? w ⟨g, off + 0 * 5, none⟩ (hc 0 (by omega)).1.1
    exact ⟨g, off, e1, hlt, fun i hi => ⟨(hc i hi).1, ih i hi (hc i hi).2⟩⟩
theorem LiesP.below {P : Nat → Prop} {w w' : World} {T : NT} (h : LiesP P w T) (hb : Below w.heap.size w w') : LiesP P w' T := by
  have := h.carry (P' := fun g => P g ∧ g < w.heap.size) (w' := w) (fun g h1 h2 => ⟨h1, h2⟩) (fun _ _ _ hv => hv)
  exact this.carry (fun g h1 _ => h1.1) fun p v hp hv => (hb.cell (p := p) hp.2).trans hv
theorem Lies.liesP {b : Nat} {w : World} : ∀ {T : NT}, Lies b w T → LiesP (fun g => g < b) w T := by
  intro T
  induction T using NT.ind with
  | _ T ih =>
    intro h
    obtain ⟨p, c, h1, h2, h3⟩ := h.eq
    refine liesP_eq.2 ⟨p, c, h1, h2, fun hn => ?_⟩
    obtain ⟨g, off, e1, hg, hc⟩ := h3 hn
    exact ⟨g, off, e1, hg, fun i hi => ⟨(hc i hi).1, ih i hi (hc i hi).2⟩⟩
end Go.Proofs.Ytdccodnompalbaa
