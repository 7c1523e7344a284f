/- 'tree.may': whether a node is right in its role, by the program. No conditions beyond the bounds that each statement names. -/
import Derived.Test.YtdccodnompalbaaK6
import Derived.Deep.RegionHeld3
namespace Go.Proofs.Ytdccodnompalbaa
open Go.RowKit Go.Shelf

/-- Text and number of a node in its role. -/
def ownM (k : Int) (t : ByteArray) (n r : Int) : Bool :=
  if k = 6 ∧ r ≠ 0 then (n == 0 && (if r = 1 then nameM t else if r = 2 then regionM t else false)) else (mayTextM k t && mayNumM k n)
def mayM (T : NT) (r : Int) : Bool := fitM (kidsM T.k) T.len (fun i => (T.kid i).k) && ownM T.k T.t T.n r

theorem len_ite {p : Prop} [Decidable p] {a b : List Int × Int × Int} (ha : a.1.length ≤ 100) (hb : b.1.length ≤ 100) : (if p then a else b).1.length ≤ 100 := by split <;> assumption
theorem kidsM_len (k : Int) : (kidsM k).1.length ≤ 100 := by
  unfold kidsM
  refine len_ite ?_ (len_ite ?_ ?_)
  · unfold typesM; repeat (refine len_ite (by decide) ?_)
    decide
  · unfold exprsM; repeat (refine len_ite (by decide) ?_)
    decide
  · unfold baseM; repeat (refine len_ite (by decide) ?_)
    decide

theorem MaxOk.below {w w' : World} (h : MaxOk w) (hb : Below w.heap.size w w') : MaxOk w' := by
  obtain ⟨m, hm⟩ := h
  exact ⟨m, (hb.cell (p := ⟨0, 0, none⟩) (World.block_lt_of_cell? _ _ hm)).trans hm⟩

set_option maxHeartbeats 4000000 in
theorem may_any (T : NT) (r : Int) (w : World) (hL : Lies w.heap.size w T) (hl : T.len ≤ maxLen) (ht : T.t.size < 4294967281) (hm : MaxOk w) :
    Calls Try.prog 42 #[T.val, .int .i64 r] w fun e w' => e = .returned (.bool (mayM T r)) ∧ Below w.heap.size w w' := by
  obtain ⟨p, c, hs, _, _⟩ := hL.eq
  have hB1 : Below w.heap.size w (w.alloc (boxO T)) := bl_alloc (Below.refl _ _) _
  have hb := box_new w T
  have HR := hide (show mayM T r = (fitM (kidsM T.k) T.len (fun i => (T.kid i).k) && ownM T.k T.t T.n r) from rfl)
  have HK := hide fun w => kidsOf_any T.k w
  have HF := hide fun v b w' (hv : IntsAt b w' v (kidsM T.k).1) (hb : Below w.heap.size w w') => fit_any (kidsM T.k).1 (kidsM T.k).2.1 (kidsM T.k).2.2 v b T w' hv (kidsM_len T.k) ((hL.below hb).mono hb.size) hl
  have HT := hide fun w' (hb : Below w.heap.size w w') => mayText_any T.k T.t w' ht (hm.below hb)
  have hml : T.t.size ≤ maxLen := by unfold maxLen; omega
  have HN := hide fun w' => mayNum_any T.k T.n w'
  have HA := hide fun w' => isName_any T.t w' hml
  have HG := hide fun w' => isRegion_any T.t w' hml
  clear hL hl ht hm hml
  change Hid (∀ v b w', IntsAt b w' v (kidsM T.k).1 → Below w.heap.size w w' → Calls Try.prog 48 #[.agg #[v, .int .i64 (kidsM T.k).2.1, .int .i64 (kidsM T.k).2.2], T.s] w' fun e w'' => e = .returned (.bool (fitM (kidsM T.k) T.len (fun i => (T.kid i).k))) ∧ Below w'.heap.size w' w'') at HF
  generalize fitM (kidsM T.k) T.len (fun i => (T.kid i).k) = F at *
  generalize mayM T r = R at *
  rw [hs] at HF
  simp only [NT.val, hs]
  obtain ⟨W1, hW1⟩ : ∃ W1, w.alloc (boxO T) = W1 := ⟨_, rfl⟩
  rw [hW1] at hB1 hb
  simp only [boxO, hs] at hW1
  obtain ⟨b0, b1, b2, b3, b4⟩ := hb
  rw [hs] at b3
  have HB1 := hide hB1
  clear hB1
  go_enter Try.func42, Try.ntmps42
  go_wp2
  go_region_held3 (fun w' => w'.cell? ⟨w.heap.size, 0, none⟩ = some (.int .i64 T.k) ∧ w'.cell? ⟨w.heap.size, 3, none⟩ = some (.slice p T.len c)) (first | exact ⟨by assumption, by assumption⟩ | go_keep | trivial) (first
    | (go_at_call 47; refine (HK.out _).mono ?_; clear HK; rintro e w2 ⟨v, rfl, hv, hb2⟩; have HV := hide hv; have HB2 := hide ((Below.refl W1.heap.size W1).drew.trans hb2); clear hb2 hv; have k0 := (HB2.out.cell (p := ⟨w.heap.size, 0, none⟩) (World.block_lt_of_cell? _ _ b0)).trans b0; have k3 := (HB2.out.cell (p := ⟨w.heap.size, 3, none⟩) (World.block_lt_of_cell? _ _ b3)).trans b3)
    | (go_at_call 48; refine (HF.out _ _ _ HV.out (HB1.out.trans (HB2.out.mono HB1.out.size))).mono ?_; clear HF; rintro e w3 ⟨rfl, hb3⟩; have HB3 := hide (HB2.out.trans (hb3.mono HB2.out.size)); clear hb3; have j0 := (HB3.out.cell (p := ⟨w.heap.size, 0, none⟩) (World.block_lt_of_cell? _ _ b0)).trans b0; have j3 := (HB3.out.cell (p := ⟨w.heap.size, 3, none⟩) (World.block_lt_of_cell? _ _ b3)).trans b3))
  have HW := hide (HB1.out.trans (HB3.out.mono HB1.out.size))
  obtain ⟨q0, q1, q2, q3, q4⟩ : Cells5 w3 w.heap.size 0 T := Cells5.of (w := W1) ⟨b0, b1, b2, by rw [hs]; exact b3, b4⟩ fun a u ha hu => (HB3.out.cell (p := a) (World.block_lt_of_cell? _ _ hu)).trans hu
  rw [hs] at q3
  have HRo := hide (show R = (F && ownM T.k T.t T.n r) from HR.out)
  clear HR b0 b1 b2 b3 b4 k0 k3 j0 j3 hW1 HV HB2
  generalize T.k = k at *
  generalize T.t = t at *
  generalize T.n = n at *
  cases F
  · have e : R = false := by rw [HRo.out]; rfl
    subst e
    go_wp2
    go_ret
    exact ⟨rfl, HW.out⟩
  have e : R = ownM k t n r := by rw [HRo.out]; simp
  clear HRo
  by_cases hk : k = 6 ∧ r ≠ 0
  · obtain ⟨rfl, hr0⟩ := hk
    have HO := hide (show R = (n == 0 && (if r = 1 then nameM t else if r = 2 then regionM t else false)) by rw [e, ownM, if_pos ⟨rfl, hr0⟩])
    clear e HT HN
    by_cases hn : n = 0
    · subst hn
      by_cases h1 : r = 1
      · subst h1
        have e : R = nameM t := by rw [HO.out]; simp
        clear HO HG hr0
        cases hA : nameM t
        · rw [hA] at e HA
          subst e
          clear hA
          go_wp2_with (go_at_call 49; refine (HA.out _).mono ?_; rintro e w' ⟨rfl, rfl⟩)
          go_ret
          exact ⟨rfl, HW.out⟩
        · rw [hA] at e HA
          subst e
          clear hA
          go_wp2_with (go_at_call 49; refine (HA.out _).mono ?_; rintro e w' ⟨rfl, rfl⟩)
          go_ret
          exact ⟨rfl, HW.out⟩
      · by_cases h2 : r = 2
        · subst h2
          have e : R = regionM t := by rw [HO.out]; simp
          clear HO HA hr0 h1
          cases hA : regionM t
          · rw [hA] at e HG
            subst e
            clear hA
            go_wp2_with (go_at_call 50; refine (HG.out _).mono ?_; rintro e w' ⟨rfl, rfl⟩)
            go_ret
            exact ⟨rfl, HW.out⟩
          · rw [hA] at e HG
            subst e
            clear hA
            go_wp2_with (go_at_call 50; refine (HG.out _).mono ?_; rintro e w' ⟨rfl, rfl⟩)
            go_ret
            exact ⟨rfl, HW.out⟩
        · have e : R = false := by rw [HO.out]; simp [h1, h2]
          subst e
          clear HO HA HG
          go_wp2
          go_ret
          exact ⟨rfl, HW.out⟩
    · have e : R = false := by rw [HO.out]; simp [hn]
      subst e
      clear HO HA HG
      go_wp2
      go_ret
      exact ⟨rfl, HW.out⟩
  · have HO := hide (show R = (mayTextM k t && mayNumM k n) by rw [e, ownM, if_neg hk])
    clear e HA HG
    have HT' := HT.out w3 HW.out
    have HNo := fun w => HN.out w
    clear HT HN
    generalize mayTextM k t = A at *
    generalize mayNumM k n = B at *
    have e : R = (A && B) := HO.out
    clear HO
    by_cases hk6 : k = 6
    · have hr : r = 0 := by
        by_cases h : r = 0
        · exact h
        · exact absurd ⟨hk6, h⟩ hk
      subst hk6
      subst hr
      clear hk
      cases A
      · have e' : R = false := by rw [e]; rfl
        clear e
        subst e'
        go_wp2_with (first | (go_at_call 51; refine HT'.mono ?_; clear HT'; rintro e w' ⟨rfl, m, rfl⟩) | (go_at_call 52; refine (HNo _).mono ?_; rintro e w' ⟨rfl, rfl⟩))
        go_ret
        exact ⟨rfl, bl_drewN HW.out _⟩
      · have e' : R = B := by rw [e]; simp
        clear e
        subst e'
        go_wp2_with (first | (go_at_call 51; refine HT'.mono ?_; clear HT'; rintro e w' ⟨rfl, m, rfl⟩) | (go_at_call 52; refine (HNo _).mono ?_; rintro e w' ⟨rfl, rfl⟩))
        go_ret
        exact ⟨rfl, bl_drewN HW.out _⟩
    · clear hk
      cases A
      · have e' : R = false := by rw [e]; rfl
        clear e
        subst e'
        go_wp2_with (first | (go_at_call 51; refine HT'.mono ?_; clear HT'; rintro e w' ⟨rfl, m, rfl⟩) | (go_at_call 52; refine (HNo _).mono ?_; rintro e w' ⟨rfl, rfl⟩))
        go_ret
        exact ⟨rfl, bl_drewN HW.out _⟩
      · have e' : R = B := by rw [e]; simp
        clear e
        subst e'
        go_wp2_with (first | (go_at_call 51; refine HT'.mono ?_; clear HT'; rintro e w' ⟨rfl, m, rfl⟩) | (go_at_call 52; refine (HNo _).mono ?_; rintro e w' ⟨rfl, rfl⟩))
        go_ret
        exact ⟨rfl, bl_drewN HW.out _⟩
end Go.Proofs.Ytdccodnompalbaa
