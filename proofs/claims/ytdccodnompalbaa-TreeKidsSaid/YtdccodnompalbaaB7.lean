/- 'borrowdaleref03.Bare': the document's own bare tree. No conditions beyond the bounds that each statement names. -/
import Derived.Test.YtdccodnompalbaaB5
import Derived.Deep.RegionHeld3
import Derived.Deep.AppendLies
import Derived.Deep.CutBlock
namespace Go.Proofs.Ytdccodnompalbaa
open Go.RowKit

/-- What the function holds: its node's box, its result's block, the node that it fills. -/
structure Br (w W : World) (T : NT) (N : Int) (S : Value) : Prop where
  below : Below w.heap.size w W
  size : w.heap.size + 3 ≤ W.heap.size
  box : Cells5 W w.heap.size 0 T
  zero : Cells5 W (w.heap.size + 1) 0 .nul
  frz : Fr W (w.heap.size + 1)
  out : Cells5 W (w.heap.size + 2) 0 (.mk T.k T.t N S 0 (fun _ => .nul) 0)
  fro : Fr W (w.heap.size + 2)
theorem Br.new {w W W' : World} {T : NT} {N : Int} {S : Value} (h : Br w W T N S) {b : Nat} (hb : Below b W W') (hB : w.heap.size + 3 ≤ b) : Br w W' T N S :=
  ⟨h.below.trans (hb.mono (by omega)), Nat.le_trans h.size hb.size, h.box.below hb (by omega), h.zero.below hb (by omega), h.frz.below hb (by omega), h.out.below hb (by omega), h.fro.below hb (by omega)⟩
/-- Blocks that are grown behind the three are no matter. -/
theorem Br.grown {w W W' : World} {T : NT} {N : Int} {S : Value} (h : Br w W T N S) {row : Option Nat} (hg : W.grownBy W' row) (hr : ∀ k, row = some k → w.heap.size + 3 ≤ k) : Br w W' T N S := by
  have hb : Below (w.heap.size + 3) W W' := (Below.refl _ W).grown hg h.size (fun k e => hr k e)
  exact h.new hb (Nat.le_refl _)
/-- The number is written. -/
theorem Br.num {w W : World} {T : NT} {N : Int} {S : Value} (h : Br w W T N S) (M : Int) : Br w (W.setCell ⟨w.heap.size + 2, 2, none⟩ (.int .i64 M)) T M S := by
  have e : ∀ p, (W.setCell ⟨w.heap.size + 2, 2, none⟩ (.int .i64 M)).frozen? p = W.frozen? p := fun p => World.frozen?_setCell _ _ _ _
  have c : ∀ p, p ≠ ⟨w.heap.size + 2, 2, none⟩ → (W.setCell ⟨w.heap.size + 2, 2, none⟩ (.int .i64 M)).cell? p = W.cell? p := fun p hp => World.cell?_setCell_other _ _ _ _ (fun h => hp h.symm)
  obtain ⟨o0, o1, o2, o3, o4⟩ := h.out
  refine ⟨h.below.setCell (p := ⟨w.heap.size + 2, 2, none⟩) (by show w.heap.size ≤ w.heap.size + 2; omega) _, by simpa using h.size, h.box.of fun p v hp hv => (c p (fun hh => by rw [hh] at hp; simp at hp)).trans hv, h.zero.of fun p v hp hv => (c p (fun hh => by rw [hh] at hp; simp at hp)).trans hv, ?_, ⟨(c _ (by simp)).trans o0, (c _ (by simp)).trans o1, World.cell?_setCell_same _ _ _ o2, (c _ (by simp)).trans o3, (c _ (by simp)).trans o4⟩, ?_⟩
  · obtain ⟨f0, f1, f2, f3, f4⟩ := h.frz
    exact ⟨(e _).trans f0, (e _).trans f1, (e _).trans f2, (e _).trans f3, (e _).trans f4⟩
  · obtain ⟨f0, f1, f2, f3, f4⟩ := h.fro
    exact ⟨(e _).trans f0, (e _).trans f1, (e _).trans f2, (e _).trans f3, (e _).trans f4⟩
/-- The slice is written. -/
theorem Br.sli {w W : World} {T : NT} {N : Int} {S : Value} (h : Br w W T N S) (M : Value) : Br w (W.setCell ⟨w.heap.size + 2, 3, none⟩ M) T N M := by
  have e : ∀ p, (W.setCell ⟨w.heap.size + 2, 3, none⟩ M).frozen? p = W.frozen? p := fun p => World.frozen?_setCell _ _ _ _
  have c : ∀ p, p ≠ ⟨w.heap.size + 2, 3, none⟩ → (W.setCell ⟨w.heap.size + 2, 3, none⟩ M).cell? p = W.cell? p := fun p hp => World.cell?_setCell_other _ _ _ _ (fun h => hp h.symm)
  obtain ⟨o0, o1, o2, o3, o4⟩ := h.out
  refine ⟨h.below.setCell (p := ⟨w.heap.size + 2, 3, none⟩) (by show w.heap.size ≤ w.heap.size + 2; omega) _, by simpa using h.size, h.box.of fun p v hp hv => (c p (fun hh => by rw [hh] at hp; simp at hp)).trans hv, h.zero.of fun p v hp hv => (c p (fun hh => by rw [hh] at hp; simp at hp)).trans hv, ?_, ⟨(c _ (by simp)).trans o0, (c _ (by simp)).trans o1, (c _ (by simp)).trans o2, World.cell?_setCell_same _ _ _ o3, (c _ (by simp)).trans o4⟩, ?_⟩
  · obtain ⟨f0, f1, f2, f3, f4⟩ := h.frz
    exact ⟨(e _).trans f0, (e _).trans f1, (e _).trans f2, (e _).trans f3, (e _).trans f4⟩
  · obtain ⟨f0, f1, f2, f3, f4⟩ := h.fro
    exact ⟨(e _).trans f0, (e _).trans f1, (e _).trans f2, (e _).trans f3, (e _).trans f4⟩
/-- The result's block is written: the end. -/
theorem Br.last {w W : World} {T : NT} {N : Int} {S : Value} (h : Br w W T N S) (X : NT) : Below w.heap.size w (set5 W (w.heap.size + 1) 0 (.int .i64 X.k) (.string X.t) (.int .i64 X.n) X.s (.int .i64 X.a)) ∧
    Cells5 (set5 W (w.heap.size + 1) 0 (.int .i64 X.k) (.string X.t) (.int .i64 X.n) X.s (.int .i64 X.a)) (w.heap.size + 1) 0 X :=
  ⟨set5_below h.below (by omega) _ _ _ _ _ _, set5_cells h.zero _ _ _ _ _⟩
theorem br_first (w : World) (T : NT) : Br w (((w.alloc (boxO T)).alloc (boxO .nul)).alloc (.cells #[.int .i64 T.k, .string T.t, .int .i64 T.n, .slice none 0 0, .int .i64 0] 24)) T T.n (.slice none 0 0) := by
  obtain ⟨h1, h2, h3, h4⟩ := box_zero w T
  obtain ⟨W2, hW2⟩ : ∃ W2, (w.alloc (boxO T)).alloc (boxO .nul) = W2 := ⟨_, rfl⟩
  have hs : W2.heap.size = w.heap.size + 2 := by rw [← hW2]; simp
  have hb : Below w.heap.size w W2 := by rw [← hW2]; exact two_alloc _ _ _
  rw [hW2] at h1 h2 h3 h4 ⊢
  have hn : Below W2.heap.size W2 (W2.alloc (.cells #[.int .i64 T.k, .string T.t, .int .i64 T.n, .slice none 0 0, .int .i64 0] 24)) := bl_alloc (Below.refl _ _) _
  refine ⟨bl_trans hb hn, by simp [hs], h1.below hn (by omega), h3.below hn (by omega), h4.below hn (by omega), ?_, ?_⟩
  · rw [← hs]; exact box_new W2 (.mk T.k T.t T.n (.slice none 0 0) 0 (fun _ => .nul) 0)
  · rw [← hs]; exact fr_new W2 (.mk T.k T.t T.n (.slice none 0 0) 0 (fun _ => .nul) 0)

/-- n nodes, laid out. -/
def flatV (V : Nat → NT) (n : Nat) : List Value := flat5 ((List.range n).map V)
theorem flatV_len (V : Nat → NT) (n : Nat) : (flatV V n).length = n * 5 := by simp [flatV, flat5_length]
theorem flatV_succ (V : Nat → NT) (n : Nat) : flatV V (n + 1) = flatV V n ++ [.int .i64 (V n).k, .string (V n).t, .int .i64 (V n).n, (V n).s, .int .i64 (V n).a] := by
  simp [flatV, List.range_succ, flat5_append, flat5]
theorem flatV_congr {V U : Nat → NT} {n : Nat} (h : ∀ i, i < n → V i = U i) : flatV V n = flatV U n := by
  unfold flatV
  congr 1
  exact List.map_congr_left fun i hi => h i (List.mem_range.1 hi)
/-- An owned row of nodes is a tree's kids. -/
theorem row_tree {W : World} {b m n c : Nat} {p : Option Addr} {V : Nat → NT} (h : W.ownsRow b 24 5 (.slice p n c) n (flatV V n)) (hb : m ≤ b) (hV : ∀ i, i < n → LiesP (fun x => m ≤ x) W (V i)) (hc : n ≤ c ∧ (p = none → c = 0)) (k : Int) (t : ByteArray) (N : Int) (a : Int) :
    LiesP (fun x => m ≤ x) W (.mk k t N (.slice p n c) n V a) := by
  refine ⟨p, c, rfl, hc, fun hn => ?_⟩
  have h' := h
  rcases h.2 with ⟨_, h0⟩ | ⟨g, cap, cur, e', hg, _⟩
  · omega
  · cases e'
    have hcell := h'.cells rfl
    refine ⟨g, 0, rfl, by omega, fun i hi => ⟨?_, hV i hi⟩⟩
    obtain ⟨c0, c1, c2, c3, c4⟩ := flat5_at ((List.range n).map V) i (V i) (by rw [List.getElem?_map, List.getElem?_range hi]; rfl)
    have e : ∀ j u, (flatV V n)[j]? = some u → W.cell? ⟨g, 0 + j, none⟩ = some u := fun j u hu => by
      have := hcell j u hu
      rwa [Addr.add_lit] at this
    refine ⟨e _ _ c0, ?_, ?_, ?_, ?_⟩
    · exact e _ _ c1
    · exact e _ _ c2
    · exact e _ _ c3
    · exact e _ _ c4
end Go.Proofs.Ytdccodnompalbaa
