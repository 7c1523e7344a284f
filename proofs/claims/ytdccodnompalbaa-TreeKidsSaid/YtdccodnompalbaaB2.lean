/- 'tree.Bare', one node: what is made of it. No conditions beyond the bounds that each statement names. -/
import Derived.Test.YtdccodnompalbaaB1
namespace Go.Proofs.Ytdccodnompalbaa
open Go.RowKit

theorem bare1_any (k : Int) (t : ByteArray) (n : Int) (p : Option Addr) (len c : Nat) (a : Int) (w : World) :
    Calls Try.prog 40 #[nodeV k t n p len c a] w fun e w' => e = .returned (nodeV k t (bareN k n) p len c 0) ∧ Below w.heap.size w w' := by
  obtain ⟨h1, f1, h2, f2⟩ := box_zero w (.mk k t n (.slice p len c) 0 (fun _ => .nul) a)
  have hB : Below w.heap.size w ((w.alloc (boxO (.mk k t n (.slice p len c) 0 (fun _ => .nul) a))).alloc (boxO .nul)) := two_alloc _ _ _
  obtain ⟨W1, hW1⟩ : ∃ W1, (w.alloc (boxO (.mk k t n (.slice p len c) 0 (fun _ => .nul) a))).alloc (boxO .nul) = W1 := ⟨_, rfl⟩
  rw [hW1] at h1 f1 h2 f2 hB
  have hU := fun w => untold_any k n w
  obtain ⟨b0, b1, b2, b3, b4⟩ := h1
  obtain ⟨z0, z1, z2, z3, z4⟩ := h2
  obtain ⟨g0, g1, g2, g3, g4⟩ := f2
  obtain ⟨i0, i1, i2, i3, i4⟩ := f1
  -- the place
  obtain ⟨W2, hW2⟩ : ∃ W2, W1.setCell ⟨w.heap.size, 4, none⟩ (.int .i64 0) = W2 := ⟨_, rfl⟩
  -- the number
  obtain ⟨W3, hW3⟩ : ∃ W3, W2.setCell ⟨w.heap.size, 2, none⟩ (.int .i64 (bareN k n)) = W3 := ⟨_, rfl⟩
  have e1 : ∀ (q : Addr), q ≠ ⟨w.heap.size, 4, none⟩ → W2.cell? q = W1.cell? q := fun q hq => by rw [← hW2]; exact World.cell?_setCell_other _ _ _ _ (fun h => hq h.symm)
  have e2 : ∀ (q : Addr), q ≠ ⟨w.heap.size, 2, none⟩ → W3.cell? q = W2.cell? q := fun q hq => by rw [← hW3]; exact World.cell?_setCell_other _ _ _ _ (fun h => hq h.symm)
  have e3 : ∀ q, W2.frozen? q = W1.frozen? q := fun q => by rw [← hW2, World.frozen?_setCell]
  have e4 : ∀ q, W3.frozen? q = W2.frozen? q := fun q => by rw [← hW3, World.frozen?_setCell]
  have c0 := (e1 ⟨w.heap.size, 0, none⟩ (by simp)).trans b0
  have c2 := (e1 ⟨w.heap.size, 2, none⟩ (by simp)).trans b2
  have c4 : W2.cell? ⟨w.heap.size, 4, none⟩ = some (.int .i64 0) := by rw [← hW2]; exact World.cell?_setCell_same _ _ _ b4
  have j2 := (e3 ⟨w.heap.size, 2, none⟩).trans i2
  have d0 := (e2 ⟨w.heap.size, 0, none⟩ (by simp)).trans c0
  have d1 := (e2 ⟨w.heap.size, 1, none⟩ (by simp)).trans ((e1 ⟨w.heap.size, 1, none⟩ (by simp)).trans b1)
  have d2 : W3.cell? ⟨w.heap.size, 2, none⟩ = some (.int .i64 (bareN k n)) := by rw [← hW3]; exact World.cell?_setCell_same _ _ _ c2
  have d3 := (e2 ⟨w.heap.size, 3, none⟩ (by simp)).trans ((e1 ⟨w.heap.size, 3, none⟩ (by simp)).trans b3)
  have d4 := (e2 ⟨w.heap.size, 4, none⟩ (by simp)).trans c4
  have y0 := (e2 ⟨w.heap.size + 1, 0, none⟩ (by simp)).trans ((e1 ⟨w.heap.size + 1, 0, none⟩ (by simp)).trans z0)
  have y1 := (e2 ⟨w.heap.size + 1, 1, none⟩ (by simp)).trans ((e1 ⟨w.heap.size + 1, 1, none⟩ (by simp)).trans z1)
  have y2 := (e2 ⟨w.heap.size + 1, 2, none⟩ (by simp)).trans ((e1 ⟨w.heap.size + 1, 2, none⟩ (by simp)).trans z2)
  have y3 := (e2 ⟨w.heap.size + 1, 3, none⟩ (by simp)).trans ((e1 ⟨w.heap.size + 1, 3, none⟩ (by simp)).trans z3)
  have y4 := (e2 ⟨w.heap.size + 1, 4, none⟩ (by simp)).trans ((e1 ⟨w.heap.size + 1, 4, none⟩ (by simp)).trans z4)
  have x0 := (e4 ⟨w.heap.size + 1, 0, none⟩).trans ((e3 ⟨w.heap.size + 1, 0, none⟩).trans g0)
  have x1 := (e4 ⟨w.heap.size + 1, 1, none⟩).trans ((e3 ⟨w.heap.size + 1, 1, none⟩).trans g1)
  have x2 := (e4 ⟨w.heap.size + 1, 2, none⟩).trans ((e3 ⟨w.heap.size + 1, 2, none⟩).trans g2)
  have x3 := (e4 ⟨w.heap.size + 1, 3, none⟩).trans ((e3 ⟨w.heap.size + 1, 3, none⟩).trans g3)
  have x4 := (e4 ⟨w.heap.size + 1, 4, none⟩).trans ((e3 ⟨w.heap.size + 1, 4, none⟩).trans g4)
  have hB3 : Below w.heap.size w W3 := by rw [← hW3, ← hW2]; exact (hB.setCell (p := ⟨w.heap.size, 4, none⟩) (Nat.le_refl _) _).setCell (p := ⟨w.heap.size, 2, none⟩) (Nat.le_refl _) _
  have HS := hide (set5_cells (T := .nul) ⟨y0, y1, y2, y3, y4⟩ (.int .i64 k) (.string t) (.int .i64 (bareN k n)) (.slice p len c) (.int .i64 0))
  have HB := hide (set5_below hB3 (show w.heap.size ≤ w.heap.size + 1 by omega) 0 (.int .i64 k) (.string t) (.int .i64 (bareN k n)) (.slice p len c) (.int .i64 0))
  clear e1 e2 e3 e4 hB hB3
  simp only [boxO, NT.k, NT.t, NT.n, NT.s, NT.a] at hW1 b0 b1 b2 b3 b4 c0 c2 d0 d1 d2 d3 d4 y0 y1 y2 y3 y4
  generalize bareN k n = R at *
  go_enter Try.func40, Try.ntmps40
  go_wp2_with (go_at_call 41; refine (hU _).mono ?_; clear hU; rintro e w2 ⟨rfl, rfl⟩)
  obtain ⟨s0, s1, s2, s3, s4⟩ := HS.out
  refine bodyPost_ret (v := nodeV k t R p len c 0) ?_ rfl ⟨rfl, HB.out⟩
  simp only [Nat.zero_add] at s0 s1 s2 s3 s4
  simp [results, Try.results40, go_sem, s0, s1, s2, s3, s4]
end Go.Proofs.Ytdccodnompalbaa
