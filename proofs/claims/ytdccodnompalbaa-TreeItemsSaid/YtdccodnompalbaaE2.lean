/- 'borrowdaleref03.Right': the document's own answer. No conditions beyond the bounds that each statement names. -/
import Derived.Test.YtdccodnompalbaaE1
namespace Go.Proofs.Ytdccodnompalbaa
open Go.RowKit Go.Shelf

theorem own_at5 {w : World} {b : Nat} {e : TypeId} {p : Option Addr} {n c : Nat} {xs : List Value} (h : w.ownsRow b e 5 (.slice p n c) n xs) (hn : 0 < n) :
    ∃ g, p = some ⟨g, 0, none⟩ ∧ g < w.heap.size ∧ ∀ i u, xs[i]? = some u → w.cell? ⟨g, i, none⟩ = some u := by
  have hc := h
  rcases h.2 with ⟨_, h0⟩ | ⟨g, cap, cur, e', _⟩
  · omega
  · cases e'
    refine ⟨g, rfl, (hc.lt g rfl).2, fun i u hu => ?_⟩
    have := hc.cells rfl i u hu
    simpa [Addr.add_lit] using this
/-- A node's place in order. -/
def NT.ata (T : NT) (i : Nat) : Int := match (T.pre 1)[i]? with | some x => x.1.a | none => 0
theorem ata_at (T : NT) (j : Nat) (hj : j < T.size) : (flat5 ((T.pre 1).map (·.1)))[j * 5 + 4]? = some (.int .i64 (T.ata j)) := by
  have h : j < (T.pre 1).length := by rw [NT.pre_len]; exact hj
  refine (flat5_at _ j (T.pre 1)[j].1 (by rw [List.getElem?_map, List.getElem?_eq_getElem h]; rfl)).2.2.2.2.trans ?_
  rw [NT.ata, List.getElem?_eq_getElem h]
theorem find_at {α : Type} {P : α → Bool} : ∀ (l : List α) (j : Nat) (x : α), l[j]? = some x → P x = true → (∀ i y, i < j → l[i]? = some y → P y = false) → l.find? P = some x
  | [], _, _, h, _, _ => by cases h
  | a :: l, 0, x, h, hx, _ => by cases h; simp [List.find?, hx]
  | a :: l, j + 1, x, h, hx, hy => by
    rw [List.find?, hy 0 a (by omega) rfl]
    exact find_at l j x h hx fun i y hi h' => hy (i + 1) y (by omega) h'
def refRightM (T : NT) : Int × Int :=
  match (T.pre 1).find? (fun x => decide (60 < x.2)) with
  | some x => (31, x.1.a)
  | none => match (T.pre 1)[20000]? with
    | some x => (32, x.1.a)
    | none => match shapeM T 11 with
      | some x => (30, x.a)
      | none => (0, 0)
theorem rr_deep (T : NT) (j : Nat) (hj : j < T.size) (h : shallow T j = true) (hd : 60 < T.dep j) : refRightM T = (31, T.ata j) := by
  have hl : j < (T.pre 1).length := by rw [NT.pre_len]; exact hj
  have e1 : (T.pre 1)[j]? = some (T.pre 1)[j] := List.getElem?_eq_getElem hl
  have e2 : (T.pre 1).find? (fun x => decide (60 < x.2)) = some (T.pre 1)[j] := by
    refine find_at _ j _ e1 ?_ ?_
    · simp only [NT.dep, e1] at hd
      exact decide_eq_true hd
    · intro i y hi hy
      have := (allN_iff.1 h) i hi
      simp only [NT.dep, hy, decide_eq_true_eq] at this
      exact decide_eq_false (by omega)
  simp only [refRightM, e2, NT.ata, e1]
theorem rr_flat (T : NT) (h : shallow T T.size = true) : refRightM T = match (T.pre 1)[20000]? with | some x => (32, x.1.a) | none => match shapeM T 11 with | some x => (30, x.a) | none => (0, 0) := by
  have e2 : (T.pre 1).find? (fun x => decide (60 < x.2)) = none := by
    rw [List.find?_eq_none]
    intro x hx
    obtain ⟨i, hi, rfl⟩ := List.getElem_of_mem hx
    have e1 : (T.pre 1)[i]? = some (T.pre 1)[i] := List.getElem?_eq_getElem hi
    have := (allN_iff.1 h) i (by rw [NT.pre_len] at hi; exact hi)
    simp only [NT.dep, e1, decide_eq_true_eq] at this
    simp only [decide_eq_true_eq]; omega
  simp only [refRightM, e2]
theorem rr_many (T : NT) (h : shallow T T.size = true) (hm : 20000 < T.size) : refRightM T = (32, T.ata 20000) := by
  have hl : 20000 < (T.pre 1).length := by rw [NT.pre_len]; exact hm
  have e1 : (T.pre 1)[20000]? = some (T.pre 1)[20000] := List.getElem?_eq_getElem hl
  rw [rr_flat T h, NT.ata, e1]
theorem rr_shape (T : NT) (h : shallow T T.size = true) (hm : ¬ 20000 < T.size) : refRightM T = match shapeM T 11 with | some x => (30, x.a) | none => (0, 0) := by
  have e1 : (T.pre 1)[20000]? = none := List.getElem?_eq_none (by rw [NT.pre_len]; omega)
  rw [rr_flat T h, e1]

abbrev faultO : Obj := .cells #[.int .i64 0, .int .i64 0] 29
theorem fault_new (W : World) : ((W.alloc faultO).cell? ⟨W.heap.size, 0, none⟩ = some (.int .i64 0) ∧ (W.alloc faultO).cell? ⟨W.heap.size, 1, none⟩ = some (.int .i64 0)) ∧
    (W.alloc faultO).frozen? ⟨W.heap.size, 0, none⟩ = false ∧ (W.alloc faultO).frozen? ⟨W.heap.size, 1, none⟩ = false := by
  have h := World.alloc_heap_new W faultO
  refine ⟨⟨by simp, by simp⟩, ?_, ?_⟩ <;> simp only [World.frozen?, h] <;> rfl
theorem two_set {W : World} {g : Nat} {u0 u1 : Value} (h0 : W.cell? ⟨g, 0, none⟩ = some u0) (h1 : W.cell? ⟨g, 1, none⟩ = some u1) (v0 v1 : Value) :
    ((W.setCell ⟨g, 0, none⟩ v0).setCell ⟨g, 1, none⟩ v1).cell? ⟨g, 0, none⟩ = some v0 ∧ ((W.setCell ⟨g, 0, none⟩ v0).setCell ⟨g, 1, none⟩ v1).cell? ⟨g, 1, none⟩ = some v1 :=
  ⟨(World.cell?_setCell_other _ _ _ _ (by simp)).trans (World.cell?_setCell_same _ _ v0 h0), World.cell?_setCell_same _ _ v1 ((World.cell?_setCell_other _ _ _ _ (by simp)).trans h1)⟩
theorem two_below {b : Nat} {w W : World} (h : Below b w W) {g : Nat} (hg : b ≤ g) (v0 v1 : Value) : Below b w ((W.setCell ⟨g, 0, none⟩ v0).setCell ⟨g, 1, none⟩ v1) :=
  (h.setCell (p := ⟨g, 0, none⟩) hg v0).setCell (p := ⟨g, 1, none⟩) hg v1

set_option maxRecDepth 20000 in
set_option maxHeartbeats 4000000 in
theorem refRight_any (T : NT) (w : World) (hL : Lies w.heap.size w T) (hS : T.ok) (hz : T.size ≤ 1000000) (hd : T.depth ≤ 900000) :
    Calls Try.prog 14 #[T.val] w fun e w' => e = .returned (.agg #[.int .i64 (refRightM T).1, .int .i64 (refRightM T).2]) ∧ Below w.heap.size w w' := by
  obtain ⟨p, cc, hs, ⟨hlc, _⟩, hK⟩ := hL.eq
  have HLi := hide fun w' (hb : Below w.heap.size w w') => list_two T w' ((hL.below hb).mono hb.size) hS.1 hz hd
  have HSh := hide fun w' (hb : Below w.heap.size w w') => refShape_any T 11 w' ((hL.below hb).mono hb.size) hS hz (by omega) (by omega)
  have HSL := hide fun x (hx : shapeM T 11 = some x) => (let ⟨px, cx, h, _, _⟩ := (shape_lies T 11 _ w hL x hx).eq; ⟨px, cx, h⟩ : ∃ px cx, x.s = .slice px x.len cx)
  obtain ⟨R, hR⟩ : ∃ R, refRightM T = R := ⟨_, rfl⟩
  rw [hR]
  have HR := hide hR
  have HCb := hide fun w' (hb : Below ((w.alloc (boxO T)).alloc faultO).heap.size ((w.alloc (boxO T)).alloc faultO) w') =>
    (⟨((box_new w T).below (b := (w.alloc (boxO T)).heap.size) (bl_alloc (Below.refl _ _) _) (by simp)).below hb (by simp; omega), fault_new (w.alloc (boxO T))⟩ :
      Cells5 w' w.heap.size 0 T ∧ (((w.alloc (boxO T)).alloc faultO).cell? ⟨(w.alloc (boxO T)).heap.size, 0, none⟩ = some (.int .i64 0) ∧ ((w.alloc (boxO T)).alloc faultO).cell? ⟨(w.alloc (boxO T)).heap.size, 1, none⟩ = some (.int .i64 0)) ∧
        ((w.alloc (boxO T)).alloc faultO).frozen? ⟨(w.alloc (boxO T)).heap.size, 0, none⟩ = false ∧ ((w.alloc (boxO T)).alloc faultO).frozen? ⟨(w.alloc (boxO T)).heap.size, 1, none⟩ = false)
  have HCc : Hid (∀ w', Below ((w.alloc (boxO T)).alloc faultO).heap.size ((w.alloc (boxO T)).alloc faultO) w' → (w'.cell? ⟨w.heap.size, 0, none⟩ = some (.int .i64 T.k) ∧ w'.cell? ⟨w.heap.size, 1, none⟩ = some (.string T.t) ∧ w'.cell? ⟨w.heap.size, 2, none⟩ = some (.int .i64 T.n) ∧ w'.cell? ⟨w.heap.size, 3, none⟩ = some (.slice p T.len cc) ∧ w'.cell? ⟨w.heap.size, 4, none⟩ = some (.int .i64 T.a)) ∧
      (w'.cell? ⟨w.heap.size + 1, 0, none⟩ = some (.int .i64 0) ∧ w'.cell? ⟨w.heap.size + 1, 1, none⟩ = some (.int .i64 0)) ∧ w'.frozen? ⟨w.heap.size + 1, 0, none⟩ = false ∧ w'.frozen? ⟨w.heap.size + 1, 1, none⟩ = false) := hide fun w' hb => by
    obtain ⟨h1, ⟨h2, h3⟩, h4, h5⟩ := HCb.out w' hb
    rw [show (w.alloc (boxO T)).heap.size = w.heap.size + 1 by simp] at h2 h3 h4 h5
    have hlt : w.heap.size + 1 < ((w.alloc (boxO T)).alloc faultO).heap.size := by simp
    unfold Cells5 at h1
    rw [hs] at h1
    exact ⟨h1, ⟨(hb.cell (p := ⟨w.heap.size + 1, 0, none⟩) hlt).trans h2, (hb.cell (p := ⟨w.heap.size + 1, 1, none⟩) hlt).trans h3⟩, (hb.frozen (p := ⟨w.heap.size + 1, 0, none⟩) hlt).trans h4, (hb.frozen (p := ⟨w.heap.size + 1, 1, none⟩) hlt).trans h5⟩
  clear HCb
  clear hL hS hK hR
  simp only [NT.val, boxO, hs] at HLi HSh HCc ⊢
  go_enter Try.func14, Try.ntmps14
  go_wp2_with (go_at_call 21; refine (HLi.out _ (two_alloc _ _ _)).mono ?_; clear HLi; rintro e w3 ⟨pv, cv, pu, cu, rfl, hlv, hlp, hb3⟩; have HB3 := hide ((two_alloc _ _ _ : Below w.heap.size w _).trans (hb3.mono (by simp; omega))); have HLP := hide hlp; have HLV := hide hlv; have HCd := hide fun w' (hb : Below w3.heap.size w3 w') => HCc.out w' (hb3.trans (hb.mono hb3.size)); clear hlp hlv hb3)
  clear HCc
  go_loopw [5] (fun i wr => ∃ j : Nat, j ≤ T.size ∧ i = .int .i64 j ∧ shallow T j = true ∧ Below w3.heap.size w3 wr) (fun i _ => T.size - (intOf i).toNat)
  case atStart => exact ⟨0, Nat.zero_le _, rfl, rfl, Below.refl _ _⟩
  case round =>
    obtain ⟨j, hj, rfl, hsh, hb⟩ := hrel
    have HB := hide hb
    have HBW := hide (bl_trans HB3.out hb)
    have HSj := hide hsh
    clear hb hsh
    obtain ⟨⟨q0, q1, q2, q3, q4⟩, ⟨z0, z1⟩, f0, f1⟩ := HCd.out wr HB.out
    rcases Nat.lt_or_ge j T.size with hlt | hge
    · have hi' : (j : Int) < (T.size : Int) := by omega
      obtain ⟨gu, rfl, hgu, hcu⟩ := own_at HLP.out (by omega)
      obtain ⟨gv, rfl, hgv, hcv⟩ := own_at5 HLV.out (by omega)
      have d0 := (HB.out.cell (p := ⟨gu, j, none⟩) hgu).trans (hcu j _ (dep_at T j hlt))
      have d1 := (HB.out.cell (p := ⟨gv, j * 5 + 4, none⟩) hgv).trans (hcv _ _ (ata_at T j hlt))
      clear hcu hcv
      by_cases hd60 : 60 < T.dep j
      · have e : R = (31, T.ata j) := by rw [← HR.out]; exact rr_deep T j hlt HSj.out hd60
        subst e
        go_wp2
        obtain ⟨g0, g1⟩ := two_set z0 z1 (.int .i64 31) (.int .i64 (T.ata j))
        refine bodyPost_ret (v := .agg #[.int .i64 31, .int .i64 (T.ata j)]) (by simp [results, Try.results14, go_sem, g0, g1]) rfl ⟨rfl, two_below HBW.out (by omega) _ _⟩
      · have hd60' : ¬ 60 < T.dep j := hd60
        have HSn : Hid (shallow T (j + 1) = true) := hide (by simp only [shallow, allN, Bool.and_eq_true, decide_eq_true_eq]; exact ⟨HSj.out, by omega⟩)
        go_wp2
        go_roundw
        case rel => exact ⟨j + 1, by omega, by go_num, HSn.out, HB.out⟩
        case measure => simp [intOf]; omega
    · have he : j = T.size := by omega
      have hlt2 : ¬ (j : Int) < (T.size : Int) := by omega
      have HSz : Hid (shallow T T.size = true) := hide (he ▸ HSj.out)
      by_cases hm : 20000 < T.size
      · have e : R = (32, T.ata 20000) := by rw [← HR.out]; exact rr_many T HSz.out hm
        subst e
        have hm' : (20000 : Int) < (T.size : Int) := by omega
        obtain ⟨gv, rfl, hgv, hcv⟩ := own_at5 HLV.out (by omega)
        have d1 := (HB.out.cell (p := ⟨gv, 20000 * 5 + 4, none⟩) hgv).trans (hcv _ _ (ata_at T 20000 hm))
        clear hcv
        go_wp2
        obtain ⟨g0, g1⟩ := two_set z0 z1 (.int .i64 32) (.int .i64 (T.ata 20000))
        refine bodyPost_ret (v := .agg #[.int .i64 32, .int .i64 (T.ata 20000)]) (by simp [results, Try.results14, go_sem, g0, g1]) rfl ⟨rfl, two_below HBW.out (by omega) _ _⟩
      · have hm' : ¬ (20000 : Int) < (T.size : Int) := by omega
        have HR3 := hide (HR.out.symm.trans (rr_shape T HSz.out hm))
        cases hS : shapeM T 11 with
        | some x =>
          rw [hS] at HSh
          obtain ⟨px, cx, hxs⟩ := HSL.out x hS
          simp only [shapeV, Option.getD_some, Option.isSome_some, NT.val, hxs] at HSh
          have e : R = (30, x.a) := by rw [HR3.out, hS]
          subst e
          clear z0 z1 f0 f1
          go_wp2_with (go_at_call 33; refine (HSh.out _ HBW.out).mono ?_; rintro e w5 ⟨rfl, hb5⟩; have HB5 := hide (HBW.out.trans (hb5.mono HBW.out.size)); obtain ⟨_, ⟨z0, z1⟩, f0, f1⟩ := HCd.out (w5.alloc (.cells #[.int .i64 x.k, .string x.t, .int .i64 x.n, .slice px x.len cx, .int .i64 x.a] 24)) (bl_alloc (bl_trans HB.out hb5) _); clear hb5)
          obtain ⟨g0, g1⟩ := two_set z0 z1 (.int .i64 30) (.int .i64 x.a)
          refine bodyPost_ret (v := .agg #[.int .i64 30, .int .i64 x.a]) (by simp [results, Try.results14, go_sem, g0, g1]) rfl ⟨rfl, two_below (bl_alloc HB5.out _) (by omega) _ _⟩
        | none =>
          rw [hS] at HSh
          simp only [shapeV, Option.getD_none, Option.isSome_none, nul_val] at HSh
          have e : R = (0, 0) := by rw [HR3.out, hS]
          subst e
          clear z0 z1 f0 f1
          go_wp2_with (go_at_call 33; refine (HSh.out _ HBW.out).mono ?_; rintro e w5 ⟨rfl, hb5⟩; have HB5 := hide (HBW.out.trans (hb5.mono HBW.out.size)); obtain ⟨_, ⟨z0, z1⟩, f0, f1⟩ := HCd.out (w5.alloc (zeroO)) (bl_alloc (bl_trans HB.out hb5) _); clear hb5)
          obtain ⟨g0, g1⟩ := two_set z0 z1 (.int .i64 0) (.int .i64 0)
          refine bodyPost_ret (v := .agg #[.int .i64 0, .int .i64 0]) (by simp [results, Try.results14, go_sem, g0, g1]) rfl ⟨rfl, two_below (bl_alloc HB5.out _) (by omega) _ _⟩
end Go.Proofs.Ytdccodnompalbaa
