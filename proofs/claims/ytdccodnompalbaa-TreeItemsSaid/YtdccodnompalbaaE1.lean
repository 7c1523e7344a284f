/- 'borrowdaleref03.Fits': the document's own answer. No conditions beyond the bounds that each statement names. -/
import Derived.Test.YtdccodnompalbaaD8
namespace Go.Proofs.Ytdccodnompalbaa
open Go.RowKit Go.Shelf

/-- The depths in order. -/
def NT.dep (T : NT) (i : Nat) : Int := match (T.pre 1)[i]? with | some x => x.2 | none => 0
def shallow (T : NT) (n : Nat) : Bool := allN (fun i => decide (T.dep i ≤ 60)) n
def refFitsM (T : NT) (c : Int) : Bool := if c < 1 ∨ 5 < c then false else (shallow T T.size && ((shapeM T c).isNone && decide ((T.size : Int) ≤ 20000)))

/-- List at a program's root: both slices by name. -/
theorem list_two (T : NT) (w : World) (hL : Lies w.heap.size w T) (hS : T.sized maxLen) (hz : T.size ≤ 1000000) (hd : T.depth ≤ 900000) :
    Calls Try.prog 21 #[T.val, .int .i64 1] w fun e w' => ∃ pv cv pu cu, e = .returned (.tuple #[.slice pv T.size cv, .slice pu T.size cu]) ∧ w'.ownsRow w.heap.size 24 5 (.slice pv T.size cv) T.size (flat5 ((T.pre 1).map (·.1))) ∧
      w'.ownsRow w.heap.size 3 1 (.slice pu T.size cu) T.size ((T.pre 1).map fun x => .int .i64 x.2) ∧ Below w.heap.size w w' := by
  refine (list_any T 1 w hL hS hz (by omega) (by omega)).mono ?_
  rintro e w' ⟨v, u, rfl, hlp, hb⟩
  obtain ⟨pv, cv, rfl, _, _⟩ := row_shape hlp.1
  obtain ⟨pu, cu, rfl, _, _⟩ := row_shape hlp.2
  have h1 := hlp.1
  have h2 := hlp.2
  rw [NT.pre_len] at h1 h2 ⊢
  exact ⟨pv, cv, pu, cu, rfl, h1, h2, hb⟩
theorem dep_at (T : NT) (j : Nat) (hj : j < T.size) : ((T.pre 1).map fun x => Value.int .i64 x.2)[j]? = some (.int .i64 (T.dep j)) := by
  have h : j < (T.pre 1).length := by rw [NT.pre_len]; exact hj
  rw [List.getElem?_map, NT.dep, List.getElem?_eq_getElem h]
  rfl

set_option maxRecDepth 20000 in
set_option maxHeartbeats 4000000 in
theorem refFits_any (T : NT) (c : Int) (w : World) (hL : Lies w.heap.size w T) (hS : T.ok) (hz : T.size ≤ 1000000) (hd : T.depth ≤ 900000) :
    Calls Try.prog 16 #[T.val, .int .i64 c] w fun e w' => e = .returned (.bool (refFitsM T c)) ∧ Below w.heap.size w w' := by
  obtain ⟨p, cc, hs, ⟨hlc, _⟩, hK⟩ := hL.eq
  have HLi := hide fun w' (hb : Below w.heap.size w w') => list_two T w' ((hL.below hb).mono hb.size) hS.1 hz hd
  have HSh := hide fun w' (hb : Below w.heap.size w w') (h1 : 1 ≤ c) (h5 : c ≤ 5) => refShape_any T c w' ((hL.below hb).mono hb.size) hS hz (by omega) (by omega)
  have HSL := hide fun x (hx : shapeM T c = some x) => (let ⟨px, cx, h, _, _⟩ := (shape_lies T c _ w hL x hx).eq; ⟨px, cx, h⟩ : ∃ px cx, x.s = .slice px x.len cx)
  obtain ⟨R, hR⟩ : ∃ R, refFitsM T c = R := ⟨_, rfl⟩
  rw [hR]
  have HR := hide hR
  clear hL hS hK hR
  by_cases h1 : c < 1
  · have e : R = false := by rw [← HR.out]; unfold refFitsM; rw [if_pos (Or.inl h1)]
    subst e
    simp only [NT.val, hs]
    go_enter Try.func16, Try.ntmps16
    go_wp2
    go_ret
    exact ⟨rfl, bl_alloc (Below.refl _ _) _⟩
  · by_cases h5 : 5 < c
    · have e : R = false := by rw [← HR.out]; unfold refFitsM; rw [if_pos (Or.inr h5)]
      subst e
      have h5' : ¬ c ≤ 5 := by omega
      simp only [NT.val, hs]
      go_enter Try.func16, Try.ntmps16
      go_wp2
      go_ret
      exact ⟨rfl, bl_alloc (Below.refl _ _) _⟩
    · have h5' : ¬ 5 < c := h5
      have h1' : ¬ c < 1 := h1
      have HR2 : Hid (R = (shallow T T.size && ((shapeM T c).isNone && decide ((T.size : Int) ≤ 20000)))) := hide (by rw [← HR.out]; unfold refFitsM; rw [if_neg (by omega)])
      have HSh' := hide fun w' hb => HSh.out w' hb (by omega) (by omega)
      clear HR HSh
      have HCb := hide fun w' (hb : Below (w.alloc (boxO T)).heap.size (w.alloc (boxO T)) w') => (box_new w T).below hb (by simp)
      have HCc : Hid (∀ w', Below (w.alloc (boxO T)).heap.size (w.alloc (boxO T)) w' → w'.cell? ⟨w.heap.size, 0, none⟩ = some (.int .i64 T.k) ∧ w'.cell? ⟨w.heap.size, 1, none⟩ = some (.string T.t) ∧ w'.cell? ⟨w.heap.size, 2, none⟩ = some (.int .i64 T.n) ∧ w'.cell? ⟨w.heap.size, 3, none⟩ = some (.slice p T.len cc) ∧ w'.cell? ⟨w.heap.size, 4, none⟩ = some (.int .i64 T.a)) := hide fun w' hb => by
        have := HCb.out w' hb
        unfold Cells5 at this
        rw [hs] at this
        exact this
      clear HCb
      simp only [boxO, NT.val, hs] at HLi HSh' HCc ⊢
      go_enter Try.func16, Try.ntmps16
      go_wp2_with (go_at_call 21; refine (HLi.out _ (bl_alloc (Below.refl _ _) _)).mono ?_; clear HLi; rintro e w3 ⟨pv, cv, pu, cu, rfl, _, hlp, hb3⟩; have HB3 := hide ((bl_alloc (Below.refl _ _) _ : Below w.heap.size w _).trans (hb3.mono (by simp))); have HLP := hide hlp; have HCd := hide fun w' (hb : Below w3.heap.size w3 w') => HCc.out w' (hb3.trans (hb.mono hb3.size)); clear hlp hb3)
      go_loopw [7] (fun i wr => ∃ j : Nat, j ≤ T.size ∧ i = .int .i64 j ∧ shallow T j = true ∧ Below w3.heap.size w3 wr) (fun i _ => T.size - (intOf i).toNat)
      case atStart => exact ⟨0, Nat.zero_le _, rfl, rfl, Below.refl _ _⟩
      case round =>
        obtain ⟨j, hj, rfl, hsh, hb⟩ := hrel
        have HB := hide hb
        have HBW := hide (bl_trans HB3.out hb)
        have HSj := hide hsh
        clear hb hsh
        rcases Nat.lt_or_ge j T.size with hlt | hge
        · have hi' : (j : Int) < (T.size : Int) := by omega
          obtain ⟨gu, rfl, hgu, hcu⟩ := own_at HLP.out (by omega)
          have d0 := (HB.out.cell (p := ⟨gu, j, none⟩) hgu).trans (hcu j _ (dep_at T j hlt))
          clear hcu
          by_cases hd60 : 60 < T.dep j
          · have e : R = false := by
              rw [HR2.out, show shallow T T.size = false from allN_false hlt (by simp only [decide_eq_false_iff_not]; omega)]; rfl
            subst e
            go_wp2
            go_ret
            exact ⟨rfl, HBW.out⟩
          · have hd60' : ¬ 60 < T.dep j := hd60
            have HSn : Hid (shallow T (j + 1) = true) := hide (by simp only [shallow, allN, Bool.and_eq_true, decide_eq_true_eq]; exact ⟨HSj.out, by omega⟩)
            go_wp2
            go_roundw
            case rel => exact ⟨j + 1, by omega, by go_num, HSn.out, HB.out⟩
            case measure => simp [intOf]; omega
        · have he : j = T.size := by omega
          have hlt2 : ¬ (j : Int) < (T.size : Int) := by omega
          have HR3 : Hid (R = ((shapeM T c).isNone && decide ((T.size : Int) ≤ 20000))) := hide (by rw [HR2.out, ← he, HSj.out]; rfl)
          clear he
          cases hS : shapeM T c with
          | some x =>
            rw [hS] at HSh'
            have e : R = false := by rw [HR3.out, hS]; rfl
            subst e
            obtain ⟨q0, q1, q2, q3, q4⟩ := HCd.out wr HB.out
            obtain ⟨px, cx, hxs⟩ := HSL.out x hS
            simp only [shapeV, Option.getD_some, Option.isSome_some, NT.val, hxs] at HSh'
            go_wp2_with (go_at_call 33; refine (HSh'.out _ HBW.out).mono ?_; rintro e w5 ⟨rfl, hb5⟩; have HB5 := hide (HBW.out.trans (hb5.mono HBW.out.size)); clear hb5)
            go_ret
            exact ⟨rfl, bl_alloc HB5.out _⟩
          | none =>
            rw [hS] at HSh'
            obtain ⟨q0, q1, q2, q3, q4⟩ := HCd.out wr HB.out
            simp only [shapeV, Option.getD_none, Option.isSome_none, nul_val] at HSh'
            by_cases h2 : (T.size : Int) ≤ 20000
            · have e : R = true := by rw [HR3.out, hS, decide_eq_true h2]; rfl
              subst e
              go_wp2_with (go_at_call 33; refine (HSh'.out _ HBW.out).mono ?_; rintro e w5 ⟨rfl, hb5⟩; have HB5 := hide (HBW.out.trans (hb5.mono HBW.out.size)); clear hb5)
              go_ret
              exact ⟨rfl, bl_alloc HB5.out _⟩
            · have e : R = false := by rw [HR3.out, hS, decide_eq_false h2]; rfl
              subst e
              go_wp2_with (go_at_call 33; refine (HSh'.out _ HBW.out).mono ?_; rintro e w5 ⟨rfl, hb5⟩; have HB5 := hide (HBW.out.trans (hb5.mono HBW.out.size)); clear hb5)
              refine bodyPost_ret (v := .bool false) (by simp [results, Try.results16, go_sem]; omega) rfl ⟨rfl, bl_alloc HB5.out _⟩
end Go.Proofs.Ytdccodnompalbaa
