/- Words for 'tree.rebuilt': a slice of nodes that is filled, what the function holds between two rounds. Of no program; no conditions beyond those that each statement names. -/
import Derived.Test.YtdccodnompalbaaB2
import Derived.Test.YtdccodnompalbaaW2
import Derived.Laws.MakeOwn
namespace Go.Proofs.Ytdccodnompalbaa
open Go.RowKit

/-- A block of n nodes, that may be written. -/
def Nodes (W : World) (g n : Nat) (V : Nat → NT) : Prop := (∀ i, i < n → Cells5 W g (i * 5) (V i)) ∧ ∀ o, W.frozen? ⟨g, o, none⟩ = false
theorem Nodes.below {W W' : World} {g n b : Nat} {V : Nat → NT} (h : Nodes W g n V) (hb : Below b W W') (hg : g < b) : Nodes W' g n V :=
  ⟨fun i hi => (h.1 i hi).below hb hg, fun o => (hb.frozen (p := ⟨g, o, none⟩) hg).trans (h.2 o)⟩
theorem Nodes.set {W : World} {g n j : Nat} {V : Nat → NT} (h : Nodes W g n V) (hj : j < n) (X : NT) :
    Nodes (set5 W g (j * 5) (.int .i64 X.k) (.string X.t) (.int .i64 X.n) X.s (.int .i64 X.a)) g n (fun i => if i = j then X else V i) := by
  refine ⟨fun i hi => ?_, fun o => by rw [set5_frozen]; exact h.2 o⟩
  by_cases e : i = j
  · subst e
    show Cells5 _ g (i * 5) (if i = i then X else V i)
    rw [if_pos rfl]
    exact set5_cells (h.1 i hi) _ _ _ _ _
  · show Cells5 _ g (i * 5) (if i = j then X else V i)
    rw [if_neg e]
    obtain ⟨c0, c1, c2, c3, c4⟩ := h.1 i hi
    have ho : ∀ c, c < 5 → i * 5 + c < j * 5 ∨ j * 5 + 5 ≤ i * 5 + c := fun c hc => by omega
    exact ⟨(set5_other (.inr (ho 0 (by omega)))).trans c0, (set5_other (.inr (ho 1 (by omega)))).trans c1, (set5_other (.inr (ho 2 (by omega)))).trans c2, (set5_other (.inr (ho 3 (by omega)))).trans c3, (set5_other (.inr (ho 4 (by omega)))).trans c4⟩
theorem nodes_made (W : World) (n : Nat) : Nodes (W.alloc (.cells (madeCells #[.int .i64 0, .string ⟨#[]⟩, .int .i64 0, .slice none 0 0, .int .i64 0] (n * 5)) 24)) W.heap.size n (fun _ => .nul) := by
  have hh := World.alloc_heap_new W (.cells (madeCells #[.int .i64 0, .string ⟨#[]⟩, .int .i64 0, .slice none 0 0, .int .i64 0] (n * 5)) 24)
  have key : ∀ i c (v : Value), i < n → c < 5 → (#[Value.int .i64 0, .string ⟨#[]⟩, .int .i64 0, .slice none 0 0, .int .i64 0] : Array Value)[c]! = v → (W.alloc (.cells (madeCells #[.int .i64 0, .string ⟨#[]⟩, .int .i64 0, .slice none 0 0, .int .i64 0] (n * 5)) 24)).cell? ⟨W.heap.size, i * 5 + c, none⟩ = some v := fun i c v hi hc hv => by
    rw [cell_of_row _ W.heap.size _ _ 24 (0, 0) hh]
    have hlt : i * 5 + c < n * 5 := by omega
    have hm : (i * 5 + c) % 5 = c := by omega
    show (madeCells _ (n * 5))[i * 5 + c]? = some v
    simp only [madeCells]
    rw [Array.getElem?_map, Array.getElem?_range, if_pos hlt]
    simp only [Option.map_some]
    rw [show (#[Value.int .i64 0, .string ⟨#[]⟩, .int .i64 0, .slice none 0 0, .int .i64 0] : Array Value).size = 5 from rfl, hm, hv]
  refine ⟨fun i hi => ⟨key i 0 _ hi (by omega) rfl, key i 1 _ hi (by omega) rfl, key i 2 _ hi (by omega) rfl, key i 3 _ hi (by omega) rfl, key i 4 _ hi (by omega) rfl⟩, fun o => ?_⟩
  simp only [World.frozen?, hh]
  rfl

/-- What the function holds: its node's box, its result's block, both written by it alone. -/
structure St (w W : World) (T : NT) : Prop where
  below : Below w.heap.size w W
  size : w.heap.size + 2 ≤ W.heap.size
  box : Cells5 W w.heap.size 0 T
  fr : Fr W w.heap.size
  zero : Cells5 W (w.heap.size + 1) 0 .nul
  frz : Fr W (w.heap.size + 1)
theorem St.new {w W W' : World} {T : NT} (h : St w W T) {b : Nat} (hb : Below b W W') (hB : w.heap.size + 2 ≤ b) : St w W' T :=
  ⟨h.below.trans (hb.mono (by omega)), Nat.le_trans h.size hb.size, h.box.below hb (by omega), h.fr.below hb (by omega), h.zero.below hb (by omega), h.frz.below hb (by omega)⟩
theorem st_first (w : World) (T : NT) : St w ((w.alloc (boxO T)).alloc (boxO .nul)) T := by
  obtain ⟨h1, h2, h3, h4⟩ := box_zero w T
  exact ⟨two_alloc _ _ _, by simp, h1, h2, h3, h4⟩
theorem Fr.any {W W' : World} {g : Nat} (h : Fr W g) (e : ∀ p, W'.frozen? p = W.frozen? p) : Fr W' g := by
  obtain ⟨h0, h1, h2, h3, h4⟩ := h
  exact ⟨(e _).trans h0, (e _).trans h1, (e _).trans h2, (e _).trans h3, (e _).trans h4⟩
/-- The box is written anew. -/
theorem St.put {w W : World} {T : NT} (h : St w W T) (X : NT) : St w (set5 W w.heap.size 0 (.int .i64 X.k) (.string X.t) (.int .i64 X.n) X.s (.int .i64 X.a)) X := by
  have e : ∀ p, (set5 W w.heap.size 0 (.int .i64 X.k) (.string X.t) (.int .i64 X.n) X.s (.int .i64 X.a)).frozen? p = W.frozen? p := fun p => set5_frozen
  have c := set5_cells h.box (.int .i64 X.k) (.string X.t) (.int .i64 X.n) X.s (.int .i64 X.a)
  refine ⟨set5_below h.below (Nat.le_refl _) _ _ _ _ _ _, by rw [set5_size]; exact h.size, c, h.fr.any e, ?_, h.frz.any e⟩
  exact h.zero.of fun p v hp hv => (set5_other (.inl (by rw [hp]; omega))).trans hv
/-- The box's slice is written. -/
theorem St.kids {w W : World} {T : NT} (h : St w W T) (X : NT) (e0 : X.k = T.k) (e1 : X.t = T.t) (e2 : X.n = T.n) (e3 : X.a = T.a) : St w (W.setCell ⟨w.heap.size, 3, none⟩ X.s) X := by
  have e : ∀ p, (W.setCell ⟨w.heap.size, 3, none⟩ X.s).frozen? p = W.frozen? p := fun p => World.frozen?_setCell _ _ _ _
  have c : ∀ p, p ≠ ⟨w.heap.size, 3, none⟩ → (W.setCell ⟨w.heap.size, 3, none⟩ X.s).cell? p = W.cell? p := fun p hp => World.cell?_setCell_other _ _ _ _ (fun h => hp h.symm)
  obtain ⟨b0, b1, b2, b3, b4⟩ := h.box
  refine ⟨h.below.setCell (p := ⟨w.heap.size, 3, none⟩) (Nat.le_refl _) _, by simpa using h.size, ⟨?_, ?_, ?_, ?_, ?_⟩, h.fr.any e, ?_, h.frz.any e⟩
  · rw [e0]; exact (c _ (by simp)).trans b0
  · rw [e1]; exact (c _ (by simp)).trans b1
  · rw [e2]; exact (c _ (by simp)).trans b2
  · exact World.cell?_setCell_same _ _ _ b3
  · rw [e3]; exact (c _ (by simp)).trans b4
  · exact h.zero.of fun p v hp hv => (c p (fun hh => by rw [hh] at hp; simp at hp)).trans hv
/-- The result's block is written: the end. -/
theorem St.last {w W : World} {T : NT} (h : St w W T) (X : NT) : Below w.heap.size w (set5 W (w.heap.size + 1) 0 (.int .i64 X.k) (.string X.t) (.int .i64 X.n) X.s (.int .i64 X.a)) ∧
    Cells5 (set5 W (w.heap.size + 1) 0 (.int .i64 X.k) (.string X.t) (.int .i64 X.n) X.s (.int .i64 X.a)) (w.heap.size + 1) 0 X :=
  ⟨set5_below h.below (by omega) _ _ _ _ _ _, set5_cells h.zero _ _ _ _ _⟩
/-- A slice of nodes, filled, is a tree's kids. -/
theorem nodes_tree {W : World} {g n b : Nat} {V : Nat → NT} (h : Nodes W g n V) (hg : b ≤ g) (hV : ∀ i, i < n → LiesP (fun x => g < x) W (V i)) (k : Int) (t : ByteArray) (m : Int) (a : Int) :
    LiesP (fun x => b ≤ x) W (.mk k t m (.slice (some ⟨g, 0, none⟩) n n) n V a) :=
  ⟨some ⟨g, 0, none⟩, n, rfl, ⟨Nat.le_refl _, fun h => by cases h⟩, fun _ => ⟨g, 0, rfl, hg, fun i hi => ⟨by rw [Nat.zero_add]; exact h.1 i hi, (hV i hi).carry (fun x hx _ => by omega) (fun _ _ _ hv => hv)⟩⟩⟩
/-- Trees behind block g stay where g is written. -/
theorem LiesP.set {W : World} {g o : Nat} {v0 v1 v2 v3 v4 : Value} {P : Nat → Prop} (hP : ∀ x, P x → x ≠ g) {T : NT} (h : LiesP P W T) : LiesP P (set5 W g o v0 v1 v2 v3 v4) T :=
  h.carry (fun _ hx _ => hx) fun _ _ hp hv => (set5_other (.inl (hP _ hp))).trans hv
theorem len_le_size (T : NT) : T.len ≤ T.size := by
  have : ∀ n, n ≤ sumN (fun i => (T.kid i).size) n := by
    intro n
    induction n with
    | zero => exact Nat.le_refl _
    | succ n ih => have := NT.size_pos (T.kid n); simp only [sumN]; omega
  have := this T.len
  rw [NT.size_eq]; omega
end Go.Proofs.Ytdccodnompalbaa
