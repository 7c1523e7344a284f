/- 'tree.Copy' and 'tree.Bare', one node: what is made of it. No conditions beyond the bounds that each statement names. -/
import Derived.Test.YtdccodnompalbaaN1
import Derived.Test.YtdccodnompalbaaWr
namespace Go.Proofs.Ytdccodnompalbaa
open Go.RowKit

/-- A node's five cells may be written. -/
def Fr (w : World) (g : Nat) : Prop := w.frozen? ⟨g, 0, none⟩ = false ∧ w.frozen? ⟨g, 1, none⟩ = false ∧ w.frozen? ⟨g, 2, none⟩ = false ∧ w.frozen? ⟨g, 3, none⟩ = false ∧ w.frozen? ⟨g, 4, none⟩ = false
theorem fr_new (w : World) (T : NT) : Fr (w.alloc (boxO T)) w.heap.size := by
  have h := World.alloc_heap_new w (boxO T)
  refine ⟨?_, ?_, ?_, ?_, ?_⟩ <;> simp only [World.frozen?, h] <;> rfl
theorem Fr.below {w w' : World} {g b : Nat} (h : Fr w g) (hb : Below b w w') (hg : g < b) : Fr w' g :=
  ⟨(hb.frozen (p := ⟨g, 0, none⟩) hg).trans h.1, (hb.frozen (p := ⟨g, 1, none⟩) hg).trans h.2.1, (hb.frozen (p := ⟨g, 2, none⟩) hg).trans h.2.2.1, (hb.frozen (p := ⟨g, 3, none⟩) hg).trans h.2.2.2.1, (hb.frozen (p := ⟨g, 4, none⟩) hg).trans h.2.2.2.2⟩
/-- Five stores. -/
abbrev set5 (W : World) (g o : Nat) (v0 v1 v2 v3 v4 : Value) : World := ((((W.setCell ⟨g, o, none⟩ v0).setCell ⟨g, o + 1, none⟩ v1).setCell ⟨g, o + 2, none⟩ v2).setCell ⟨g, o + 3, none⟩ v3).setCell ⟨g, o + 4, none⟩ v4
theorem set5_cells {W : World} {g o : Nat} {T : NT} (h : Cells5 W g o T) (v0 v1 v2 v3 v4 : Value) :
    (set5 W g o v0 v1 v2 v3 v4).cell? ⟨g, o, none⟩ = some v0 ∧ (set5 W g o v0 v1 v2 v3 v4).cell? ⟨g, o + 1, none⟩ = some v1 ∧ (set5 W g o v0 v1 v2 v3 v4).cell? ⟨g, o + 2, none⟩ = some v2 ∧ (set5 W g o v0 v1 v2 v3 v4).cell? ⟨g, o + 3, none⟩ = some v3 ∧ (set5 W g o v0 v1 v2 v3 v4).cell? ⟨g, o + 4, none⟩ = some v4 := by
  obtain ⟨h0, h1, h2, h3, h4⟩ := h
  have e : ∀ (X : World) (a b : Nat) (v : Value), a ≠ b → (X.setCell ⟨g, a, none⟩ v).cell? ⟨g, b, none⟩ = X.cell? ⟨g, b, none⟩ := fun X a b v hab => World.cell?_setCell_other _ _ _ _ (by simp)
  have s : ∀ (X : World) (a : Nat) (v u : Value), X.cell? ⟨g, a, none⟩ = some u → (X.setCell ⟨g, a, none⟩ v).cell? ⟨g, a, none⟩ = some v := fun X a v u hu => World.cell?_setCell_same _ _ v hu
  refine ⟨?_, ?_, ?_, ?_, ?_⟩
  · rw [e _ (o + 4) o _ (by omega), e _ (o + 3) o _ (by omega), e _ (o + 2) o _ (by omega), e _ (o + 1) o _ (by omega)]; exact s _ _ _ _ h0
  · rw [e _ (o + 4) (o + 1) _ (by omega), e _ (o + 3) (o + 1) _ (by omega), e _ (o + 2) (o + 1) _ (by omega)]; exact s _ _ _ _ (by rw [e _ o (o + 1) _ (by omega)]; exact h1)
  · rw [e _ (o + 4) (o + 2) _ (by omega), e _ (o + 3) (o + 2) _ (by omega)]; exact s _ _ _ _ (by rw [e _ (o + 1) (o + 2) _ (by omega), e _ o (o + 2) _ (by omega)]; exact h2)
  · rw [e _ (o + 4) (o + 3) _ (by omega)]; exact s _ _ _ _ (by rw [e _ (o + 2) (o + 3) _ (by omega), e _ (o + 1) (o + 3) _ (by omega), e _ o (o + 3) _ (by omega)]; exact h3)
  · exact s _ _ _ _ (by rw [e _ (o + 3) (o + 4) _ (by omega), e _ (o + 2) (o + 4) _ (by omega), e _ (o + 1) (o + 4) _ (by omega), e _ o (o + 4) _ (by omega)]; exact h4)
theorem set5_other {W : World} {g o : Nat} {v0 v1 v2 v3 v4 : Value} {p : Addr} (h : p.block ≠ g ∨ p.off < o ∨ o + 5 ≤ p.off) : (set5 W g o v0 v1 v2 v3 v4).cell? p = W.cell? p := by
  have e : ∀ (X : World) (c : Nat) (v : Value), c < 5 → (X.setCell ⟨g, o + c, none⟩ v).cell? p = X.cell? p := fun X c v hc => World.cell?_setCell_other _ _ _ _ (by
    intro hh
    rw [← hh] at h
    simp at h
    omega)
  have e0 : ∀ (X : World) (v : Value), (X.setCell ⟨g, o, none⟩ v).cell? p = X.cell? p := fun X v => e X 0 v (by omega)
  rw [e _ 4 _ (by omega), e _ 3 _ (by omega), e _ 2 _ (by omega), e _ 1 _ (by omega), e0]
theorem set5_frozen {W : World} {g o : Nat} {v0 v1 v2 v3 v4 : Value} {p : Addr} : (set5 W g o v0 v1 v2 v3 v4).frozen? p = W.frozen? p := by
  simp only [World.frozen?_setCell]
theorem set5_below {b : Nat} {w W : World} (h : Below b w W) {g : Nat} (hg : b ≤ g) (o : Nat) (v0 v1 v2 v3 v4 : Value) : Below b w (set5 W g o v0 v1 v2 v3 v4) :=
  ((((h.setCell (p := ⟨g, o, none⟩) hg v0).setCell (p := ⟨g, o + 1, none⟩) hg v1).setCell (p := ⟨g, o + 2, none⟩) hg v2).setCell (p := ⟨g, o + 3, none⟩) hg v3).setCell (p := ⟨g, o + 4, none⟩) hg v4
theorem set5_size {W : World} {g o : Nat} {v0 v1 v2 v3 v4 : Value} : (set5 W g o v0 v1 v2 v3 v4).heap.size = W.heap.size := by simp [World.setCell]

theorem box_zero (w : World) (T : NT) : Cells5 ((w.alloc (boxO T)).alloc (boxO .nul)) w.heap.size 0 T ∧ Fr ((w.alloc (boxO T)).alloc (boxO .nul)) w.heap.size ∧ Cells5 ((w.alloc (boxO T)).alloc (boxO .nul)) (w.heap.size + 1) 0 .nul ∧ Fr ((w.alloc (boxO T)).alloc (boxO .nul)) (w.heap.size + 1) := by
  have hs : (w.alloc (boxO T)).heap.size = w.heap.size + 1 := by simp
  have hb : Below (w.alloc (boxO T)).heap.size (w.alloc (boxO T)) ((w.alloc (boxO T)).alloc (boxO .nul)) := bl_alloc (Below.refl _ _) _
  refine ⟨(box_new w T).below hb (by simp), (fr_new w T).below hb (by simp), ?_, ?_⟩
  · rw [← hs]; exact box_new _ .nul
  · rw [← hs]; exact fr_new _ .nul

/-- A node's value, by its parts. -/
abbrev nodeV (k : Int) (t : ByteArray) (n : Int) (p : Option Addr) (len c : Nat) (a : Int) : Value := .agg #[.int .i64 k, .string t, .int .i64 n, .slice p len c, .int .i64 a]

theorem copy1_any (k : Int) (t : ByteArray) (n : Int) (p : Option Addr) (len c : Nat) (a : Int) (w : World) :
    Calls Try.prog 36 #[nodeV k t n p len c a] w fun e w' => e = .returned (nodeV k t n p len c a) ∧ Below w.heap.size w w' := by
  obtain ⟨h1, f1, h2, f2⟩ := box_zero w (.mk k t n (.slice p len c) 0 (fun _ => .nul) a)
  have hB : Below w.heap.size w ((w.alloc (boxO (.mk k t n (.slice p len c) 0 (fun _ => .nul) a))).alloc (boxO .nul)) := two_alloc _ _ _
  obtain ⟨W1, hW1⟩ : ∃ W1, (w.alloc (boxO (.mk k t n (.slice p len c) 0 (fun _ => .nul) a))).alloc (boxO .nul) = W1 := ⟨_, rfl⟩
  rw [hW1] at h1 f1 h2 f2 hB
  have HS := hide (set5_cells h2 (.int .i64 k) (.string t) (.int .i64 n) (.slice p len c) (.int .i64 a))
  have HB := hide (set5_below hB (show w.heap.size ≤ w.heap.size + 1 by omega) 0 (.int .i64 k) (.string t) (.int .i64 n) (.slice p len c) (.int .i64 a))
  obtain ⟨b0, b1, b2, b3, b4⟩ := h1
  obtain ⟨z0, z1, z2, z3, z4⟩ := h2
  obtain ⟨g0, g1, g2, g3, g4⟩ := f2
  simp only [boxO, NT.k, NT.t, NT.n, NT.s, NT.a] at hW1 b0 b1 b2 b3 b4 z0 z1 z2 z3 z4
  clear f1 hB
  go_enter Try.func36, Try.ntmps36
  go_wp2
  obtain ⟨s0, s1, s2, s3, s4⟩ := HS.out
  refine bodyPost_ret (v := nodeV k t n p len c a) ?_ rfl ⟨rfl, HB.out⟩
  simp only [Nat.zero_add] at s0 s1 s2 s3 s4
  simp [results, Try.results36, go_sem, s0, s1, s2, s3, s4]

set_option maxHeartbeats 1000000 in
theorem untold_any (k n : Int) (w : World) : Calls Try.prog 41 #[.int .i64 k, .int .i64 n] w fun e w' => e = .returned (.int .i64 (bareN k n)) ∧ w' = w := by
  obtain ⟨R, hR⟩ : ∃ R, R = bareN k n := ⟨_, rfl⟩
  rw [← hR]
  unfold bareN at hR
  by_cases h6 : k = 6
  · subst h6
    simp only [if_pos] at hR
    subst hR
    go_enter Try.func41, Try.ntmps41; go_wp2; go_ret; exact ⟨rfl, rfl⟩
  by_cases hk : k = 30 ∨ k = 71
  · rcases Int.lt_or_le n 0 with hl | hg
    · have e : R = n := by rw [hR, if_neg h6, if_neg (by omega)]
      clear hR h6
      subst e
      rcases hk with rfl | rfl <;> (go_enter Try.func41, Try.ntmps41; go_wp2; go_ret; exact ⟨rfl, rfl⟩)
    · have e : R = n % 2 := by rw [hR, if_neg h6, if_pos ⟨hk, hg⟩]
      have ht : n.tmod 2 = n % 2 := Int.tmod_eq_emod_of_nonneg hg
      clear hR h6
      subst e
      rcases hk with rfl | rfl <;> (go_enter Try.func41, Try.ntmps41; go_wp2; go_ret; exact ⟨by first | rfl | simp [ht], rfl⟩)
  · have e : R = n := by rw [hR, if_neg h6, if_neg (fun h => hk h.1)]
    have k30 : ¬ k = 30 := fun h => hk (.inl h)
    have k71 : ¬ k = 71 := fun h => hk (.inr h)
    clear hR hk
    subst e
    go_enter Try.func41, Try.ntmps41; go_wp2; go_ret; exact ⟨rfl, rfl⟩
end Go.Proofs.Ytdccodnompalbaa
