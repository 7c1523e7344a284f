/- Which kids any kind asks, by the program. No conditions. -/
import Derived.Test.YtdccodnompalbaaK2
namespace Go.Proofs.Ytdccodnompalbaa
open Go.RowKit Go.Shelf

/-- The three cells of a block that was laid last, behind whatever left what was there. -/
theorem new_three {W w2 : World} {e : TypeId} {a b c : Value} (h : Below (W.alloc (Obj.cells #[a, b, c] e)).heap.size (W.alloc (Obj.cells #[a, b, c] e)) w2) :
    (w2.cell? ⟨W.heap.size, 0, none⟩ = some a ∧ w2.cell? ⟨W.heap.size, 1, none⟩ = some b ∧ w2.cell? ⟨W.heap.size, 2, none⟩ = some c) ∧
    w2.frozen? ⟨W.heap.size, 0, none⟩ = false ∧ w2.frozen? ⟨W.heap.size, 1, none⟩ = false ∧ w2.frozen? ⟨W.heap.size, 2, none⟩ = false := by
  have hlt : W.heap.size < (W.alloc (Obj.cells #[a, b, c] e)).heap.size := by simp
  have hn := World.alloc_heap_new W (Obj.cells #[a, b, c] e)
  refine ⟨⟨(h.cell (p := ⟨W.heap.size, 0, none⟩) hlt).trans ?_, (h.cell (p := ⟨W.heap.size, 1, none⟩) hlt).trans ?_, (h.cell (p := ⟨W.heap.size, 2, none⟩) hlt).trans ?_⟩, (h.frozen (p := ⟨W.heap.size, 0, none⟩) hlt).trans ?_, (h.frozen (p := ⟨W.heap.size, 1, none⟩) hlt).trans ?_, (h.frozen (p := ⟨W.heap.size, 2, none⟩) hlt).trans ?_⟩ <;>
    simp only [World.cell?, World.frozen?, hn] <;> rfl

/-- Three stores into that block. -/
theorem kids_set {w w2 : World} {v : Value} {l : List Int} (hv : IntsAt (w.heap.size + 1) w2 v l) (hb : Below w.heap.size w w2) (x y z : Value) :
    IntsAt w.heap.size (((w2.setCell ⟨w.heap.size, 0, none⟩ x).setCell ⟨w.heap.size, 1, none⟩ y).setCell ⟨w.heap.size, 2, none⟩ z) v l ∧ Below w.heap.size w (((w2.setCell ⟨w.heap.size, 0, none⟩ x).setCell ⟨w.heap.size, 1, none⟩ y).setCell ⟨w.heap.size, 2, none⟩ z) := by
  obtain ⟨p, c, h1, h2, h3⟩ := hv
  refine ⟨⟨p, c, h1, h2, fun hn => ?_⟩, ((hb.setCell (p := ⟨w.heap.size, 0, none⟩) (Nat.le_refl _) _).setCell (p := ⟨w.heap.size, 1, none⟩) (Nat.le_refl _) _).setCell (p := ⟨w.heap.size, 2, none⟩) (Nat.le_refl _) _⟩
  obtain ⟨g, off, e, hb', hg, hc⟩ := h3 hn
  refine ⟨g, off, e, by omega, by simpa using hg, fun i x' hx => ?_⟩
  rw [World.cell?_setCell_other _ _ _ _ (by simp), World.cell?_setCell_other _ _ _ _ (by simp), World.cell?_setCell_other _ _ _ _ (by simp)]
  exact hc i x' hx

theorem three_set {W : World} {b : Nat} {x0 x1 x2 : Value} (u v z : Value) (h0 : W.cell? ⟨b, 0, none⟩ = some x0) (h1 : W.cell? ⟨b, 1, none⟩ = some x1) (h2 : W.cell? ⟨b, 2, none⟩ = some x2) :
    (((W.setCell ⟨b, 0, none⟩ u).setCell ⟨b, 1, none⟩ v).setCell ⟨b, 2, none⟩ z).cell? ⟨b, 0, none⟩ = some u ∧ (((W.setCell ⟨b, 0, none⟩ u).setCell ⟨b, 1, none⟩ v).setCell ⟨b, 2, none⟩ z).cell? ⟨b, 1, none⟩ = some v ∧ (((W.setCell ⟨b, 0, none⟩ u).setCell ⟨b, 1, none⟩ v).setCell ⟨b, 2, none⟩ z).cell? ⟨b, 2, none⟩ = some z := by
  have e0 : (W.setCell ⟨b, 0, none⟩ u).cell? ⟨b, 0, none⟩ = some u := World.cell?_setCell_same W _ u h0
  have e1 : (W.setCell ⟨b, 0, none⟩ u).cell? ⟨b, 1, none⟩ = some x1 := by rw [World.cell?_setCell_other _ _ _ _ (by simp)]; exact h1
  have e2 : (W.setCell ⟨b, 0, none⟩ u).cell? ⟨b, 2, none⟩ = some x2 := by rw [World.cell?_setCell_other _ _ _ _ (by simp)]; exact h2
  have g1 : ((W.setCell ⟨b, 0, none⟩ u).setCell ⟨b, 1, none⟩ v).cell? ⟨b, 1, none⟩ = some v := World.cell?_setCell_same _ _ v e1
  have g2 : ((W.setCell ⟨b, 0, none⟩ u).setCell ⟨b, 1, none⟩ v).cell? ⟨b, 2, none⟩ = some x2 := by rw [World.cell?_setCell_other _ _ _ _ (by simp)]; exact e2
  refine ⟨?_, ?_, World.cell?_setCell_same _ _ z g2⟩
  · rw [World.cell?_setCell_other _ _ _ _ (by simp), World.cell?_setCell_other _ _ _ _ (by simp)]; exact e0
  · rw [World.cell?_setCell_other _ _ _ _ (by simp)]; exact g1

set_option maxHeartbeats 4000000 in
theorem kidsOf_any (k : Int) (w : World) : Calls Try.prog 47 #[.int .i64 k] w (KidsP w (kidsM k)) := by
  have h2 := fun w => isOne_any k 2 w
  have h4 := fun w => isOne_any k 4 w
  by_cases t2 : isOneM k 2 = true
  · have e : kidsM k = typesM k := by simp [kidsM, t2]
    rw [e]
    rw [t2] at h2
    have ht := fun w => typesKids_any k w
    clear e t2 h4
    go_enter Try.func47, Try.ntmps47
    go_wp2_with (first | (go_at_call 34; refine (h2 _).mono ?_; clear h2; rintro e w2 ⟨rfl, rfl⟩) | (go_at_call 59; refine (ht _).mono ?_; clear ht; rintro e w2 ⟨v, rfl, hv, hb⟩; obtain ⟨⟨c0, c1, c2⟩, f0, f1, f2⟩ := new_three hb; have HV := hide hv; obtain ⟨p, c, rfl, hpc⟩ := hv))
    have HS := kids_set (v := .slice p (typesM k).fst.length c) (by have := HV.out; rw [World.size_alloc] at this; exact this) (hb.mono (by simp) |> fun h => (bl_alloc (Below.refl _ w) _).trans h) (.slice p (typesM k).fst.length c) (.int .i64 (typesM k).snd.fst) (.int .i64 (typesM k).snd.snd)
    obtain ⟨g0, g1, g2⟩ := three_set (.slice p (typesM k).fst.length c) (.int .i64 (typesM k).snd.fst) (.int .i64 (typesM k).snd.snd) c0 c1 c2
    refine bodyPost_ret (v := .agg #[.slice p (typesM k).fst.length c, .int .i64 (typesM k).snd.fst, .int .i64 (typesM k).snd.snd]) (by simp [results, Try.results47, go_sem, g0, g1, g2]) rfl ?_
    exact ⟨_, rfl, HS⟩
  have e2 : isOneM k 2 = false := by simpa using t2
  rw [e2] at h2
  by_cases t4 : isOneM k 4 = true
  · have e : kidsM k = exprsM k := by simp [kidsM, e2, t4]
    rw [e]
    rw [t4] at h4
    have ht := fun w => exprsKids_any k w
    clear e t2 t4 e2
    go_enter Try.func47, Try.ntmps47
    go_wp2_with (first | (go_at_call 34; first | (refine (h2 _).mono ?_; clear h2; rintro e w2 ⟨rfl, rfl⟩) | (refine (h4 _).mono ?_; clear h4; rintro e w2 ⟨rfl, rfl⟩)) | (go_at_call 60; refine (ht _).mono ?_; clear ht; rintro e w2 ⟨v, rfl, hv, hb⟩; obtain ⟨⟨c0, c1, c2⟩, f0, f1, f2⟩ := new_three hb; have HV := hide hv; obtain ⟨p, c, rfl, hpc⟩ := hv))
    have HS := kids_set (v := .slice p (exprsM k).fst.length c) (by have := HV.out; rw [World.size_alloc] at this; exact this) (hb.mono (by simp) |> fun h => (bl_alloc (Below.refl _ w) _).trans h) (.slice p (exprsM k).fst.length c) (.int .i64 (exprsM k).snd.fst) (.int .i64 (exprsM k).snd.snd)
    obtain ⟨g0, g1, g2⟩ := three_set (.slice p (exprsM k).fst.length c) (.int .i64 (exprsM k).snd.fst) (.int .i64 (exprsM k).snd.snd) c0 c1 c2
    refine bodyPost_ret (v := .agg #[.slice p (exprsM k).fst.length c, .int .i64 (exprsM k).snd.fst, .int .i64 (exprsM k).snd.snd]) (by simp [results, Try.results47, go_sem, g0, g1, g2]) rfl ?_
    exact ⟨_, rfl, HS⟩
  have e4 : isOneM k 4 = false := by simpa using t4
  rw [e4] at h4
  have e : kidsM k = baseM k := by simp [kidsM, e2, e4]
  rw [e]
  clear e t2 t4 e2 e4

  by_cases q1 : k = 1
  · subst q1; go_enter Try.func47, Try.ntmps47; go_wp2_with (go_at_call 34; first | (refine (h2 _).mono ?_; clear h2; rintro e w2 ⟨rfl, rfl⟩) | (refine (h4 _).mono ?_; clear h4; rintro e w2 ⟨rfl, rfl⟩)); refine bodyPost_ret (v := .agg #[.slice none 0 0, .int .i64 100, .int .i64 0]) (by simp [results, Try.results47, go_sem]) rfl ?_; exact kids_none w _ 100 0
  by_cases q2 : k = 2
  · subst q2; go_enter Try.func47, Try.ntmps47; go_wp2_with (go_at_call 34; first | (refine (h2 _).mono ?_; clear h2; rintro e w2 ⟨rfl, rfl⟩) | (refine (h4 _).mono ?_; clear h4; rintro e w2 ⟨rfl, rfl⟩)); refine bodyPost_ret (v := .agg #[.slice (some ⟨w.heap.size + 1, 0, none⟩) 2 2, .int .i64 11, .int .i64 0]) (by simp [results, Try.results47, go_sem]) rfl ?_; exact kids_some w _ [5, 5] 11 0 2 2 rfl (by decide)
  by_cases q3 : k = 3
  · subst q3; go_enter Try.func47, Try.ntmps47; go_wp2_with (go_at_call 34; first | (refine (h2 _).mono ?_; clear h2; rintro e w2 ⟨rfl, rfl⟩) | (refine (h4 _).mono ?_; clear h4; rintro e w2 ⟨rfl, rfl⟩)); refine bodyPost_ret (v := .agg #[.slice (some ⟨w.heap.size + 1, 0, none⟩) 2 2, .int .i64 12, .int .i64 0]) (by simp [results, Try.results47, go_sem]) rfl ?_; exact kids_some w _ [5, 5] 12 0 2 2 rfl (by decide)
  by_cases q4 : k = 4
  · subst q4; go_enter Try.func47, Try.ntmps47; go_wp2_with (go_at_call 34; first | (refine (h2 _).mono ?_; clear h2; rintro e w2 ⟨rfl, rfl⟩) | (refine (h4 _).mono ?_; clear h4; rintro e w2 ⟨rfl, rfl⟩)); refine bodyPost_ret (v := .agg #[.slice (some ⟨w.heap.size + 1, 0, none⟩) 6 6, .int .i64 0, .int .i64 0]) (by simp [results, Try.results47, go_sem]) rfl ?_; exact kids_some w _ [5, 5, 8, 102, 10, 59] 0 0 6 6 rfl (by decide)
  by_cases q5 : k = 5
  · subst q5; go_enter Try.func47, Try.ntmps47; go_wp2_with (go_at_call 34; first | (refine (h2 _).mono ?_; clear h2; rintro e w2 ⟨rfl, rfl⟩) | (refine (h4 _).mono ?_; clear h4; rintro e w2 ⟨rfl, rfl⟩)); refine bodyPost_ret (v := .agg #[.slice none 0 0, .int .i64 6, .int .i64 0]) (by simp [results, Try.results47, go_sem]) rfl ?_; exact kids_none w _ 6 0
  by_cases q8 : k = 8
  · subst q8; go_enter Try.func47, Try.ntmps47; go_wp2_with (go_at_call 34; first | (refine (h2 _).mono ?_; clear h2; rintro e w2 ⟨rfl, rfl⟩) | (refine (h4 _).mono ?_; clear h4; rintro e w2 ⟨rfl, rfl⟩)); refine bodyPost_ret (v := .agg #[.slice none 0 0, .int .i64 7, .int .i64 0]) (by simp [results, Try.results47, go_sem]) rfl ?_; exact kids_none w _ 7 0
  by_cases q10 : k = 10
  · subst q10; go_enter Try.func47, Try.ntmps47; go_wp2_with (go_at_call 34; first | (refine (h2 _).mono ?_; clear h2; rintro e w2 ⟨rfl, rfl⟩) | (refine (h4 _).mono ?_; clear h4; rintro e w2 ⟨rfl, rfl⟩)); refine bodyPost_ret (v := .agg #[.slice none 0 0, .int .i64 9, .int .i64 0]) (by simp [results, Try.results47, go_sem]) rfl ?_; exact kids_none w _ 9 0
  by_cases q9 : k = 9
  · subst q9; go_enter Try.func47, Try.ntmps47; go_wp2_with (go_at_call 34; first | (refine (h2 _).mono ?_; clear h2; rintro e w2 ⟨rfl, rfl⟩) | (refine (h4 _).mono ?_; clear h4; rintro e w2 ⟨rfl, rfl⟩)); refine bodyPost_ret (v := .agg #[.slice (some ⟨w.heap.size + 1, 0, none⟩) 1 1, .int .i64 0, .int .i64 0]) (by simp [results, Try.results47, go_sem]) rfl ?_; exact kids_some w _ [6] 0 0 1 1 rfl (by decide)
  by_cases q7 : k = 7
  · subst q7; go_enter Try.func47, Try.ntmps47; go_wp2_with (go_at_call 34; first | (refine (h2 _).mono ?_; clear h2; rintro e w2 ⟨rfl, rfl⟩) | (refine (h4 _).mono ?_; clear h4; rintro e w2 ⟨rfl, rfl⟩)); refine bodyPost_ret (v := .agg #[.slice (some ⟨w.heap.size + 1, 0, none⟩) 1 1, .int .i64 0, .int .i64 0]) (by simp [results, Try.results47, go_sem]) rfl ?_; exact kids_some w _ [101] 0 0 1 1 rfl (by decide)
  by_cases q11 : k = 11
  · subst q11; go_enter Try.func47, Try.ntmps47; go_wp2_with (go_at_call 34; first | (refine (h2 _).mono ?_; clear h2; rintro e w2 ⟨rfl, rfl⟩) | (refine (h4 _).mono ?_; clear h4; rintro e w2 ⟨rfl, rfl⟩)); refine bodyPost_ret (v := .agg #[.slice (some ⟨w.heap.size + 1, 0, none⟩) 1 1, .int .i64 0, .int .i64 0]) (by simp [results, Try.results47, go_sem]) rfl ?_; exact kids_some w _ [101] 0 0 1 1 rfl (by decide)
  by_cases q12 : k = 12
  · subst q12; go_enter Try.func47, Try.ntmps47; go_wp2_with (go_at_call 34; first | (refine (h2 _).mono ?_; clear h2; rintro e w2 ⟨rfl, rfl⟩) | (refine (h4 _).mono ?_; clear h4; rintro e w2 ⟨rfl, rfl⟩)); refine bodyPost_ret (v := .agg #[.slice none 0 0, .int .i64 101, .int .i64 0]) (by simp [results, Try.results47, go_sem]) rfl ?_; exact kids_none w _ 101 0
  by_cases q49 : k = 49
  · subst q49; go_enter Try.func47, Try.ntmps47; go_wp2_with (go_at_call 34; first | (refine (h2 _).mono ?_; clear h2; rintro e w2 ⟨rfl, rfl⟩) | (refine (h4 _).mono ?_; clear h4; rintro e w2 ⟨rfl, rfl⟩)); refine bodyPost_ret (v := .agg #[.slice none 0 0, .int .i64 101, .int .i64 0]) (by simp [results, Try.results47, go_sem]) rfl ?_; exact kids_none w _ 101 0
  by_cases q30 : k = 30
  · subst q30; go_enter Try.func47, Try.ntmps47; go_wp2_with (go_at_call 34; first | (refine (h2 _).mono ?_; clear h2; rintro e w2 ⟨rfl, rfl⟩) | (refine (h4 _).mono ?_; clear h4; rintro e w2 ⟨rfl, rfl⟩)); refine bodyPost_ret (v := .agg #[.slice (some ⟨w.heap.size + 1, 0, none⟩) 2 2, .int .i64 0, .int .i64 0]) (by simp [results, Try.results47, go_sem]) rfl ?_; exact kids_some w _ [102, 105] 0 0 2 2 rfl (by decide)
  by_cases q31 : k = 31
  · subst q31; go_enter Try.func47, Try.ntmps47; go_wp2_with (go_at_call 34; first | (refine (h2 _).mono ?_; clear h2; rintro e w2 ⟨rfl, rfl⟩) | (refine (h4 _).mono ?_; clear h4; rintro e w2 ⟨rfl, rfl⟩)); refine bodyPost_ret (v := .agg #[.slice (some ⟨w.heap.size + 1, 0, none⟩) 1 1, .int .i64 0, .int .i64 0]) (by simp [results, Try.results47, go_sem]) rfl ?_; exact kids_some w _ [104] 0 0 1 1 rfl (by decide)
  by_cases q51 : k = 51
  · subst q51; go_enter Try.func47, Try.ntmps47; go_wp2_with (go_at_call 34; first | (refine (h2 _).mono ?_; clear h2; rintro e w2 ⟨rfl, rfl⟩) | (refine (h4 _).mono ?_; clear h4; rintro e w2 ⟨rfl, rfl⟩)); refine bodyPost_ret (v := .agg #[.slice (some ⟨w.heap.size + 1, 0, none⟩) 1 1, .int .i64 0, .int .i64 0]) (by simp [results, Try.results47, go_sem]) rfl ?_; exact kids_some w _ [104] 0 0 1 1 rfl (by decide)
  by_cases q61 : k = 61
  · subst q61; go_enter Try.func47, Try.ntmps47; go_wp2_with (go_at_call 34; first | (refine (h2 _).mono ?_; clear h2; rintro e w2 ⟨rfl, rfl⟩) | (refine (h4 _).mono ?_; clear h4; rintro e w2 ⟨rfl, rfl⟩)); refine bodyPost_ret (v := .agg #[.slice (some ⟨w.heap.size + 1, 0, none⟩) 2 2, .int .i64 0, .int .i64 0]) (by simp [results, Try.results47, go_sem]) rfl ?_; exact kids_some w _ [107, 104] 0 0 2 2 rfl (by decide)
  by_cases q74 : k = 74
  · subst q74; go_enter Try.func47, Try.ntmps47; go_wp2_with (go_at_call 34; first | (refine (h2 _).mono ?_; clear h2; rintro e w2 ⟨rfl, rfl⟩) | (refine (h4 _).mono ?_; clear h4; rintro e w2 ⟨rfl, rfl⟩)); refine bodyPost_ret (v := .agg #[.slice none 0 0, .int .i64 107, .int .i64 0]) (by simp [results, Try.results47, go_sem]) rfl ?_; exact kids_none w _ 107 0
  have e : baseM k = ([], 0, 0) := by simp [baseM, q1, q2, q3, q4, q5, q8, q10, q9, q7, q11, q12, q49, q30, q31, q51, q61, q74]
  rw [e]; clear e; go_enter Try.func47, Try.ntmps47; go_wp2_with (go_at_call 34; first | (refine (h2 _).mono ?_; clear h2; rintro e w2 ⟨rfl, rfl⟩) | (refine (h4 _).mono ?_; clear h4; rintro e w2 ⟨rfl, rfl⟩)); refine bodyPost_ret (v := .agg #[.slice none 0 0, .int .i64 0, .int .i64 0]) (by simp [results, Try.results47, go_sem]) rfl ?_; exact kids_none w _ 0 0
end Go.Proofs.Ytdccodnompalbaa
