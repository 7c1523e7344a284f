/- What the law asks first of all: its examples answer as the document says. No conditions. -/
import Derived.Test.YtdccodnompalbaaRf
namespace Go.Proofs.Ytdccodnompalbaa
open Go.RowKit Go.Shelf

/-- The examples: a Block of one empty node; a Block of none; a Program of none. -/
def exE (s : Value) : NT := .mk 59 ⟨#[]⟩ 0 s 1 (fun _ => .nul) 0
def exB : NT := .mk 59 ⟨#[]⟩ 0 (.slice none 0 0) 0 (fun _ => .nul) 0
def exP : NT := .mk 1 ⟨#[]⟩ 0 (.slice none 0 0) 0 (fun _ => .nul) 0
theorem exE_fits (s : Value) : fitsM (exE s) 4 = true := by kernel_rfl
theorem exB_fits : fitsM exB 4 = false := by kernel_rfl
theorem exP_right : rightM exP = (0, 0) := by kernel_rfl
theorem exE_size (s : Value) : (exE s).size = 2 := by kernel_rfl
theorem nul_sized (b : Nat) : NT.nul.sized b := trivial
theorem good_leaf (w : World) (k : Int) : Good w (.mk k ⟨#[]⟩ 0 (.slice none 0 0) 0 (fun _ => .nul) 0) :=
  ⟨⟨none, 0, rfl, ⟨Nat.le_refl _, fun _ => rfl⟩, fun h => absurd rfl h⟩, ⟨⟨Nat.zero_le _, Nat.zero_le _, fun i hi => absurd hi (Nat.not_lt_zero _)⟩, ⟨Nat.zero_le _, fun i hi => absurd hi (Nat.not_lt_zero _)⟩⟩, by show 0 + 1 ≤ 900; omega, by show 1 + 0 ≤ 1000000; omega⟩
theorem good_exE (W : World) (g : Nat) (hg : g < W.heap.size) (hc : Cells5 W g 0 .nul) : Good W (exE (.slice (some ⟨g, 0, none⟩) 1 1)) :=
  ⟨⟨some ⟨g, 0, none⟩, 1, rfl, ⟨Nat.le_refl _, fun h => by cases h⟩, fun _ => ⟨g, 0, rfl, hg, fun i hi => by
    obtain rfl : i = 0 := by omega
    exact ⟨hc, trivial⟩⟩⟩, ⟨⟨Nat.zero_le _, by unfold maxLen; omega, fun _ _ => trivial⟩, ⟨Nat.zero_le _, fun _ _ => trivial⟩⟩, by show 1 + 1 ≤ 900; omega, by show 1 + (0 + 1) ≤ 1000000; omega⟩

set_option maxHeartbeats 4000000 in
theorem alive_any (w : World) (hm : MaxOk w) : Calls Try.prog 11 #[] w fun e w' => e = .returned (.bool true) ∧ Below w.heap.size w w' := by
  obtain ⟨W1, hW1⟩ : ∃ W1, w.alloc (boxO .nul) = W1 := ⟨_, rfl⟩
  have s1 : W1.heap.size = w.heap.size + 1 := by rw [← hW1]; simp
  have b1 : Below w.heap.size w W1 := by rw [← hW1]; exact bl_alloc (Below.refl _ _) _
  have c1 : Cells5 W1 w.heap.size 0 .nul := by rw [← hW1]; exact box_new w .nul
  obtain ⟨W2, hW2⟩ : ∃ W2, W1.alloc (boxO (exE (.slice (some ⟨w.heap.size, 0, none⟩) 1 1))) = W2 := ⟨_, rfl⟩
  have b2 : Below W1.heap.size W1 W2 := by rw [← hW2]; exact bl_alloc (Below.refl _ _) _
  have c2 : Cells5 W2 W1.heap.size 0 (exE (.slice (some ⟨w.heap.size, 0, none⟩) 1 1)) := by rw [← hW2]; exact box_new W1 _
  have hg : Good W2 (exE (.slice (some ⟨w.heap.size, 0, none⟩) 1 1)) := (good_exE W1 w.heap.size (by omega) c1).below b2
  have B2 : Below w.heap.size w W2 := b1.trans (b2.mono b1.size)
  have H1 := hide fun w' (hb : Below W2.heap.size W2 w') => fits_any (exE (.slice (some ⟨w.heap.size, 0, none⟩) 1 1)) 4 w' (hg.below hb) ((hm.below B2).below hb)
  have H2 := hide fun w' (hb : Below W2.heap.size W2 w') => fits_any exB 4 w' (good_leaf w' 59) ((hm.below B2).below hb)
  have H3 := hide fun w' (hb : Below W2.heap.size W2 w') => right_any exP w' (good_leaf w' 1) ((hm.below B2).below hb)
  have H4 := hide fun w' (hb : Below W2.heap.size W2 w') => size_any (exE (.slice (some ⟨w.heap.size, 0, none⟩) 1 1)) w' (hg.below hb)
  rw [exE_size] at H4
  simp only [exE_fits] at H1
  simp only [exB_fits] at H2
  simp only [exP_right] at H3
  simp only [exE, exB, exP, NT.val, NT.k, NT.t, NT.n, NT.s, NT.a] at H1 H2 H3 H4
  rw [s1] at c2
  obtain ⟨q0, q1, q2, q3, q4⟩ := c2
  simp only [exE, NT.k, NT.t, NT.n, NT.s, NT.a] at q0 q1 q2 q3 q4
  have HB2 := hide B2
  have h9 : w.heap.size + 1 < W2.heap.size := by rw [← hW2]; simp [s1]
  subst hW1
  simp only [boxO, exE, NT.k, NT.t, NT.n, NT.s, NT.a] at hW2
  clear hm hg B2 b1 b2 c1 s1
  subst hW2
  go_enter Try.func11, Try.ntmps11
  go_wp2_with (first
    | (go_at_call 15; refine (H1.out _ (Below.refl _ _)).mono ?_; clear H1; rintro e w2 ⟨rfl, hb2⟩; have HB3 := hide hb2; clear hb2)
    | (go_at_call 15; refine (H2.out _ HB3.out).mono ?_; clear H2; rintro e w2 ⟨rfl, hb2⟩; have HB4 := hide (HB3.out.trans (hb2.mono HB3.out.size)); clear hb2)
    | (go_at_call 13; refine (H3.out _ HB4.out).mono ?_; clear H3; rintro e w2 ⟨rfl, hb2⟩; have HB5 := hide (HB4.out.trans (hb2.mono HB4.out.size)); clear hb2; have p0 := (HB5.out.cell (p := ⟨w.heap.size + 1, 0, none⟩) h9).trans q0; have p1 := (HB5.out.cell (p := ⟨w.heap.size + 1, 1, none⟩) h9).trans q1; have p2 := (HB5.out.cell (p := ⟨w.heap.size + 1, 2, none⟩) h9).trans q2; have p3 := (HB5.out.cell (p := ⟨w.heap.size + 1, 3, none⟩) h9).trans q3; have p4 := (HB5.out.cell (p := ⟨w.heap.size + 1, 4, none⟩) h9).trans q4)
    | (go_at_call 23; refine (H4.out _ HB5.out).mono ?_; clear H4; rintro e w2 ⟨rfl, hb2⟩; have HB6 := hide (HB5.out.trans (hb2.mono HB5.out.size)); clear hb2))
  go_ret
  exact ⟨rfl, HB2.out.trans (HB6.out.mono HB2.out.size)⟩
end Go.Proofs.Ytdccodnompalbaa
