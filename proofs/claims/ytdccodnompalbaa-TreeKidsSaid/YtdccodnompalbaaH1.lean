/- 'tree.All': the iterator over a tree of its own; what the law's round does with a node: it counts. No conditions beyond the bounds that each statement names. -/
import Derived.Test.YtdccodnompalbaaB5
import Derived.Test.YtdccodnompalbaaWp
namespace Go.Proofs.Ytdccodnompalbaa
open Go.RowKit Go.Shelf

set_option maxRecDepth 20000 in
set_option maxHeartbeats 1000000 in
theorem all_any (T : NT) (w : World) (hL : Lies w.heap.size w T) (hS : T.sized maxLen) (hz : T.size ≤ 1000000) :
    Calls Try.prog 27 #[T.val] w fun e w' => ∃ (U : NT) (B : Nat), e = .returned (.func (.func 39) #[] #[.pointer (some ⟨B, 0, none⟩)]) ∧ Copied T U ∧ LiesP (fun b => w.heap.size ≤ b) w' U ∧ Cells5 w' B 0 U ∧ w.heap.size ≤ B ∧ Below w.heap.size w w' := by
  obtain ⟨p, c, hs, _, _⟩ := hL.eq
  have hc := fun w' (hb : Below w.heap.size w w') => copy_any T w' ((hL.below hb).mono hb.size) hS hz
  have hb0 := box_new w T
  have hB1 : Below w.heap.size w (w.alloc (boxO T)) := bl_alloc (Below.refl _ _) _
  have hs1 : (w.alloc (boxO T)).heap.size = w.heap.size + 1 := by simp
  clear hL hS hz
  simp only [NT.val, boxO, hs, Cells5] at hc hb0 hB1 hs1 ⊢
  obtain ⟨W1, hW1⟩ : ∃ W1, w.alloc (Obj.cells #[.int .i64 T.k, .string T.t, .int .i64 T.n, .slice p T.len c, .int .i64 T.a] 24) = W1 := ⟨_, rfl⟩
  rw [hW1] at hb0 hB1 hs1
  obtain ⟨a0, a1, a2, a3, a4⟩ := hb0
  have HB1 := hide hB1
  have HS1 := hide hs1
  clear hB1 hs1
  go_enter Try.func27, Try.ntmps27
  go_wp2_with (go_at_call 20; refine (hc _ HB1.out).mono ?_; clear hc; rintro e w2 ⟨U, rfl, hU, hLU, hb2⟩; obtain ⟨pu, cu, hsu, _, _⟩ := liesP_eq.1 hLU; simp only [hsu]; have HU := hide hU; have HLU := hide hLU; have HSU := hide hsu; have HB2 := hide hb2; clear hU hLU hb2 hsu)
  go_ret
  have hbx := box_new w2 U
  have hbb : Below w2.heap.size w2 (w2.alloc (boxO U)) := bl_alloc (Below.refl _ _) _
  have hll := HLU.out.below hbb
  have h1 := HB2.out.size
  have h2 := HS1.out
  have hbe : boxO U = Obj.cells #[.int .i64 U.k, .string U.t, .int .i64 U.n, .slice pu U.len cu, .int .i64 U.a] 24 := by rw [← HSU.out]
  rw [hbe] at hbx hbb hll
  exact ⟨U, w2.heap.size, rfl, HU.out, hll.carry (fun x hx _ => by omega) (fun _ _ _ hv => hv), hbx, by omega, bl_trans (bl_trans HB1.out HB2.out) hbb⟩

/-- The law's round: one more. -/
theorem count_any (k : Int) (t : ByteArray) (n : Int) (p : Option Addr) (len c : Nat) (a : Int) (Bc Bk m : Nat) (K : Int) (W : World) (hc : OneC W Bc (.int .i64 (m : Int))) (hk : W.cell? ⟨Bk, 0, none⟩ = some (.int .i64 K)) (hm : m ≤ 1000000) (hne : Bk ≠ Bc) :
    Calls Try.prog 28 #[nodeV k t n p len c a, .pointer (some ⟨Bc, 0, none⟩), .pointer (some ⟨Bk, 0, none⟩)] W fun e w' =>
      e = .returned (.bool (decide ((m : Int) + 1 < K))) ∧ ∃ W', Below W.heap.size W W' ∧ w' = W'.setCell ⟨Bc, 0, none⟩ (.int .i64 ((m + 1 : Nat) : Int)) := by
  obtain ⟨W1, hW1⟩ : ∃ W1, W.alloc (Obj.cells #[.int .i64 k, .string t, .int .i64 n, .slice p len c, .int .i64 a] 24) = W1 := ⟨_, rfl⟩
  have hb : Below W.heap.size W W1 := by rw [← hW1]; exact bl_alloc (Below.refl _ _) _
  have h1 := hc.below hb (World.block_lt_of_cell? _ _ hc.1)
  have k1 := (hb.cell (p := ⟨Bk, 0, none⟩) (World.block_lt_of_cell? _ _ hk)).trans hk
  have hw : wrap64 ((m : Int) + 1) = ((m + 1 : Nat) : Int) := by rw [IntWalk.wrap64_in _ (by omega)]; omega
  have e1 : ((m : Int) + 1) = ((m + 1 : Nat) : Int) := by omega
  rw [e1]
  obtain ⟨W2, hW2⟩ : ∃ W2, W1.setCell ⟨Bc, 0, none⟩ (.int .i64 ((m + 1 : Nat) : Int)) = W2 := ⟨_, rfl⟩
  have c2 : W2.cell? ⟨Bc, 0, none⟩ = some (.int .i64 ((m + 1 : Nat) : Int)) := by rw [← hW2]; exact World.cell?_setCell_same _ _ _ h1.1
  have k2 : W2.cell? ⟨Bk, 0, none⟩ = some (.int .i64 K) := by rw [← hW2]; exact (World.cell?_setCell_other _ _ _ _ (fun e => hne (by cases e; rfl))).trans k1
  obtain ⟨c1, f1⟩ := h1
  have HB := hide hb
  have HW2 := hide hW2
  generalize hM : ((m + 1 : Nat) : Int) = M at *
  clear hb hc hk hne
  go_enter Try.func28, Try.ntmps28
  go_wp2
  go_ret
  exact ⟨rfl, W1, HB.out, HW2.out.symm⟩
end Go.Proofs.Ytdccodnompalbaa
