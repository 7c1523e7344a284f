/- The law's own 'all': copies of all nodes, in order, in a slice. No conditions beyond the bounds that each statement names. -/
import Derived.Test.YtdccodnompalbaaH5
import Derived.Test.YtdccodnompalbaaF4
namespace Go.Proofs.Ytdccodnompalbaa
open Go.RowKit Go.Shelf

set_option maxRecDepth 20000 in
set_option maxHeartbeats 4000000 in
theorem all22_any (T : NT) (w : World) (hL : Lies w.heap.size w T) (hS : T.ok) (hd : T.depth ≤ 900) (hz : T.size ≤ 1000000) :
    Calls Try.prog 22 #[T.val, .int .i64 (T.size : Int)] w fun e w' => ∃ (V : Nat → NT) (p : Option Addr) (c : Nat), e = .returned (.slice p T.size c) ∧ w'.ownsRow w.heap.size 24 5 (.slice p T.size c) T.size (flatV V T.size) ∧
      (∀ i x, (T.pres 1 0)[i]? = some x → Copied x.1 (V i) ∧ Lies w'.heap.size w' (V i)) ∧ Below w.heap.size w w' := by
  obtain ⟨p, c, hs, _, _⟩ := hL.eq
  have HAl := hide fun w' (hb : Below w.heap.size w w') => all_any T w' ((hL.below hb).mono hb.size) hS.1 hz
  have HSt := hide fun (U : NT) (hU : Copied T U) (B Bl Bm : Nat) (w9 : World) hB hL h0 hne hb hc (hk : w9.cell? ⟨Bm, 0, none⟩ = some (.int .i64 (T.size : Int))) => allNodes_in 9 (by omega) U B Bl Bm w w9 hB hL ⟨hU.sized hS.1, hU.short hS.2⟩ (by rw [hU.depth]; exact hd) (by rw [hU.size]; exact hz) h0 hne hb hc (by rw [hU.size]; exact hk)
  obtain ⟨w1, hw1⟩ : ∃ w1, w.alloc (boxO T) = w1 := ⟨_, rfl⟩
  obtain ⟨w2, hw2⟩ : ∃ w2, w1.alloc (.cells #[.int .i64 (T.size : Int)] 3) = w2 := ⟨_, rfl⟩
  obtain ⟨w3, hw3⟩ : ∃ w3, w2.alloc (.cells #[.slice none 0 0] 22) = w3 := ⟨_, rfl⟩
  have s1 : w1.heap.size = w.heap.size + 1 := by rw [← hw1]; simp
  have s2 : w2.heap.size = w.heap.size + 2 := by rw [← hw2]; simp [s1]
  have s3 : w3.heap.size = w.heap.size + 3 := by rw [← hw3]; simp [s2]
  have b1 : Below w.heap.size w w1 := by rw [← hw1]; exact bl_alloc (Below.refl _ _) _
  have b2 : Below w1.heap.size w1 w2 := by rw [← hw2]; exact bl_alloc (Below.refl _ _) _
  have b3 : Below w2.heap.size w2 w3 := by rw [← hw3]; exact bl_alloc (Below.refl _ _) _
  have b13 : Below w1.heap.size w1 w3 := bl_trans b2 b3
  have hx := (by rw [← hw1]; exact box_new w T : Cells5 w1 w.heap.size 0 T).below b13 (by omega)
  have hm3 := (by rw [← hw2, ← s1]; exact OneC.new w1 _ 3 : OneC w2 (w.heap.size + 1) (.int .i64 (T.size : Int))).below b3 (by omega)
  have hl3 : OneC w3 (w.heap.size + 2) (.slice none 0 0) := by rw [← hw3, ← s2]; exact OneC.new w2 _ 22
  have HB3 := hide (bl_trans b1 b13)
  have HM3 := hide hm3
  have HL3 := hide hl3
  have HS3 := hide s3
  have HP := hide fun (U : NT) (hU : Copied T U) => hU.pres 1 0
  have HZ := hide fun (U : NT) (hU : Copied T U) => hU.size
  clear hL hS hd hz b1 b2 b3 b13 hm3 hl3 s3
  unfold Cells5 at hx
  obtain ⟨a0, a1, a2, a3, a4⟩ := hx
  rw [hs] at a3
  simp only [NT.val, boxO, hs, Nat.zero_add] at HAl hw1 a0 a1 a2 a3 a4 ⊢
  clear hs
  subst hw1
  subst hw2
  generalize T.size = sz at *
  go_enter Try.func22, Try.ntmps22
  go_wp2_with (first
    | (go_at_call 27; refine (HAl.out _ HB3.out).mono ?_; clear HAl; rintro e w9 ⟨U, B, rfl, hU, hLU, hBU, hBB, hb9⟩; have hst := callsIn_wide.1 (HSt.out U hU B (w.heap.size + 2) (w.heap.size + 1) w9 hBU (hLU.carry (fun x hx _ => by have := HS3.out; omega) (fun _ _ _ hv => hv)) (by omega) (by omega) (bl_trans HB3.out hb9) (HL3.out.below hb9 (by have := HS3.out; omega)) (HM3.out.below hb9 (by have := HS3.out; omega)).1); have HU := hide hU; have HS9 := hide hb9.size; rw [HZ.out U hU] at hst; clear hU hLU hBU hBB hb9)
    | (go_at_call 39; refine hst.mono ?_; clear hst; rintro e wA ⟨⟨v, rfl⟩, hbA, V, pV, cV, hO, hR, hE⟩; have HO := hide hO; have HR := hide hR; have HE := hide hE; have HBA := hide hbA; obtain ⟨x0, _⟩ := hO; clear hR hE hbA))
  go_ret
  refine ⟨V, pV, cV, rfl, row_mono HR.out (by have := HS9.out; have := HS3.out; omega), fun i x hx => ?_, HBA.out⟩
  have hf := HP.out U HU.out
  have hi : i < (U.pres 1 0).length := by rw [← hf.len]; exact (List.getElem?_eq_some_iff.1 hx).1
  have h1 := hf.at_ hx (List.getElem?_eq_getElem hi)
  obtain ⟨h2, h3⟩ := HE.out i _ (List.getElem?_eq_getElem hi)
  exact ⟨h1.1.comp h2, h3⟩
end Go.Proofs.Ytdccodnompalbaa
