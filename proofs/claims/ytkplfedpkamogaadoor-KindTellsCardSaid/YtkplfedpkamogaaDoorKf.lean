/- The document's With, Regions and Same of right types; the law KindTells walked. Conditions: those that each statement names. -/
import Derived.Test.YtkplfedpkamogaaDoorKe
import Derived.Test.YtkplfedpkamogaaDoorDd

namespace Go.Proofs.Kd
open Go Go.Proofs.De Go.Proofs.Tryd
set_option maxRecDepth 100000
set_option maxHeartbeats 4000000

/-- What measures: nothing known, an end so far. -/
def mBox : Ob := .box [.lit (.map none), .lit (.bool false)]
theorem deepest0_ok (g : Gl) (row : Nat → List AV) (levels : Int) : HeapCall (XX g) 55 [.bptr 1 0, .rslc 6 0 row, .lit (.int .i64 levels)] [mBox] (.lit (.int .i64 0)) [mBox] := by
  intro M
  refine SimCall.of_body (fn := f55) func55 (by decide) ?_
  conv => whnf
  repeat (first | (refine Need.mk rfl ?_; conv => whnf) | (refine Need.mk (by decide) ?_; conv => whnf) | (refine Need.mk (of_decide_eq_true rfl) ?_; conv => whnf) | (refine Need.mk (by omega) ?_; conv => whnf) | (refine Need.mk ⟨rfl, by omega, by omega⟩ ?_; conv => whnf) | (refine Need.mk ⟨rfl, rfl⟩ ?_; conv => whnf) | (refine Need.mk ⟨rfl, rfl, rfl, by simp⟩ ?_; conv => whnf) | (refine Need.mk ⟨rfl, rfl, Nat.le_refl _⟩ ?_; conv => whnf) | (refine Need.mk ⟨by omega, by omega⟩ ?_; conv => whnf) | (refine Need.mk ⟨rfl, rfl, by omega⟩ ?_; conv => whnf) | (refine Need.mk ⟨rfl, by omega⟩ ?_; conv => whnf))
  exact ⟨rfl, [], rfl⟩
theorem deepest1_ok (g : Gl) (f : Nat → TT) (levels d : Int) (hkid : HeapCall (XX g) 37 [.bptr 1 0, .agg (f 0).cells, .lit (.int .i64 levels)] [mBox] (.lit (.int .i64 d)) [mBox]) :
    HeapCall (XX g) 55 [.bptr 1 0, .rslc 6 1 (fun i => (f i).cells), .lit (.int .i64 levels)] [mBox] (.lit (.int .i64 d)) [mBox] := by
  intro M
  refine SimCall.of_body (fn := f55) func55 (by decide) ?_
  conv => whnf
  repeat (first | (refine Need.mk rfl ?_; conv => whnf) | (refine Need.mk (by decide) ?_; conv => whnf) | (refine Need.mk (of_decide_eq_true rfl) ?_; conv => whnf) | (refine Need.mk (by omega) ?_; conv => whnf) | (refine Need.mk ⟨rfl, by omega, by omega⟩ ?_; conv => whnf) | (refine Need.mk ⟨rfl, rfl⟩ ?_; conv => whnf) | (refine Need.mk ⟨rfl, rfl, rfl, by simp⟩ ?_; conv => whnf) | (refine Need.mk ⟨rfl, rfl, Nat.le_refl _⟩ ?_; conv => whnf) | (refine Need.mk ⟨by omega, by omega⟩ ?_; conv => whnf) | (refine Need.mk ⟨rfl, rfl, by omega⟩ ?_; conv => whnf) | (refine Need.mk ⟨rfl, by omega⟩ ?_; conv => whnf) | (refine HeapCall.use [1] hkid rfl rfl (by exact Nat.le_refl 1) ?_; conv => whnf))
  exact ⟨rfl, [], rfl⟩
theorem mdepth_ok (g : Gl) : ∀ (T : TT) (levels : Int), shp T = true → depth T ≤ levels → levels ≤ 65536 → HeapCall (XX g) 37 [.bptr 1 0, .agg T.cells, .lit (.int .i64 levels)] [mBox] (.lit (.int .i64 (depth T))) [mBox]
  | .nul => fun _ h _ _ => by cases h
  | .mk k nm r u m regs n kids => fun levels hT hd hl => by
    have hdp := depth_pos (.mk k nm r u m regs n kids)
    simp only [shp, Bool.and_eq_true, Bool.or_eq_true, decide_eq_true_eq] at hT
    have hw : IntKind.i64.wrap (levels - 1) = levels - 1 := wrap_id (by omega) (by omega)
    have hl : HeapCall (XX g) 55 [.bptr 1 0, .rslc 6 n (fun i => (kids i).cells), .lit (.int .i64 (IntKind.i64.wrap (levels - 1)))] [mBox] (.lit (.int .i64 (depth (.mk k nm r u m regs n kids) - 1))) [mBox] := by
      rw [hw]
      rcases hT.2 with rfl | ⟨rfl, hk⟩
      · have e : depth (.mk k nm r u m regs 0 kids) - 1 = 0 := by simp [depth, maxF]
        rw [e]
        exact deepest0_ok g _ _
      · have e : depth (.mk k nm r u m regs 1 kids) - 1 = depth (kids 0) := by rw [depth_one]; omega
        rw [e]
        exact deepest1_ok g kids _ _ (mdepth_ok g (kids 0) (levels - 1) hk (by omega) (by omega))
    intro M
    refine SimCall.of_body (fn := f37) func37 (by decide) ?_
    conv => whnf
    repeat (first | (refine Need.mk rfl ?_; conv => whnf) | (refine Need.mk (by decide) ?_; conv => whnf) | (refine Need.mk (of_decide_eq_true rfl) ?_; conv => whnf) | (refine Need.mk (by omega) ?_; conv => whnf) | (refine Need.mk ⟨rfl, by omega, by omega⟩ ?_; conv => whnf) | (refine Need.mk ⟨rfl, rfl⟩ ?_; conv => whnf) | (refine Need.mk ⟨rfl, rfl, rfl, by simp⟩ ?_; conv => whnf) | (refine Need.mk ⟨rfl, rfl, Nat.le_refl _⟩ ?_; conv => whnf) | (refine Need.mk ⟨by omega, by omega⟩ ?_; conv => whnf) | (refine Need.mk ⟨rfl, rfl, by omega⟩ ?_; conv => whnf) | (refine Need.mk ⟨rfl, by omega⟩ ?_; conv => whnf))
    refine Br.intro (fun h1 => ?_) (fun h1 => ?_)
    · exfalso; simp at h1; omega
    · conv => whnf
      repeat (first | (refine Need.mk rfl ?_; conv => whnf) | (refine Need.mk (by decide) ?_; conv => whnf) | (refine Need.mk (of_decide_eq_true rfl) ?_; conv => whnf) | (refine Need.mk (by omega) ?_; conv => whnf) | (refine Need.mk ⟨rfl, by omega, by omega⟩ ?_; conv => whnf) | (refine Need.mk ⟨rfl, rfl⟩ ?_; conv => whnf) | (refine Need.mk ⟨rfl, rfl, rfl, by simp⟩ ?_; conv => whnf) | (refine Need.mk ⟨rfl, rfl, Nat.le_refl _⟩ ?_; conv => whnf) | (refine Need.mk ⟨by omega, by omega⟩ ?_; conv => whnf) | (refine Need.mk ⟨rfl, rfl, by omega⟩ ?_; conv => whnf) | (refine Need.mk ⟨rfl, by omega⟩ ?_; conv => whnf))
      have h2 : (levels == 0) = false := h1
      rw [h2]
      repeat (first | (refine Need.mk rfl ?_; conv => whnf) | (refine Need.mk (by decide) ?_; conv => whnf) | (refine Need.mk (of_decide_eq_true rfl) ?_; conv => whnf) | (refine Need.mk (by omega) ?_; conv => whnf) | (refine Need.mk ⟨rfl, by omega, by omega⟩ ?_; conv => whnf) | (refine Need.mk ⟨rfl, rfl⟩ ?_; conv => whnf) | (refine Need.mk ⟨rfl, rfl, rfl, by simp⟩ ?_; conv => whnf) | (refine Need.mk ⟨rfl, rfl, Nat.le_refl _⟩ ?_; conv => whnf) | (refine Need.mk ⟨by omega, by omega⟩ ?_; conv => whnf) | (refine Need.mk ⟨rfl, rfl, by omega⟩ ?_; conv => whnf) | (refine Need.mk ⟨rfl, by omega⟩ ?_; conv => whnf) | (refine HeapCall.use [1] hl rfl rfl (by exact Nat.le_refl 1) ?_; conv => whnf))
      exact ⟨congrArg (fun z => AV.lit (.int .i64 z)) (by rw [wrap_id (by omega) (by omega)]; omega), [_], rfl⟩
/-- Depth. -/
theorem kdepth_ok (g : Gl) (T : TT) (h : rfits T = true) (hd : depth T ≤ 60) : PureCall (XX g) 20 [.agg T.cells] (.lit (.int .i64 (depth T))) := by
  intro M
  refine SimCall.of_body (fn := f20) func20 (by decide) ?_
  conv => whnf
  repeat (first | (refine Need.mk rfl ?_; conv => whnf) | (refine Need.mk (by decide) ?_; conv => whnf) | (refine Need.mk (of_decide_eq_true rfl) ?_; conv => whnf) | (refine Need.mk (by omega) ?_; conv => whnf) | (refine Need.mk ⟨rfl, by omega, by omega⟩ ?_; conv => whnf) | (refine Need.mk ⟨rfl, rfl⟩ ?_; conv => whnf) | (refine Need.mk ⟨rfl, rfl, rfl, by simp⟩ ?_; conv => whnf) | (refine Need.mk ⟨rfl, rfl, Nat.le_refl _⟩ ?_; conv => whnf) | (refine Need.mk ⟨by omega, by omega⟩ ?_; conv => whnf) | (refine Need.mk ⟨rfl, rfl, by omega⟩ ?_; conv => whnf) | (refine Need.mk ⟨rfl, by omega⟩ ?_; conv => whnf) | (refine HeapCall.use [2] (mdepth_ok g T 65536 (shp_right T h) (by omega) (by decide)) rfl rfl (by exact Nat.le_refl 1) ?_; conv => whnf))
  exact ⟨rfl, rfl⟩
/-- The document's Same. -/
theorem rsame_ok (g : Gl) : ∀ (T U : TT), shp T = true → shp U = true → PureCall (XX g) 15 [.agg T.cells, .agg U.cells] (.lit (.bool (ksame T U)))
  | .nul, _ => fun h _ => by cases h
  | _, .nul => fun _ h => by cases h
  | .mk k nm r u m regs n kids, .mk k' nm' r' u' m' regs' n' kids' => fun hT hU => by
    simp only [shp, Bool.and_eq_true, Bool.or_eq_true, decide_eq_true_eq] at hT hU
    have hm : m ≤ 20 := hT.1
    have hn : n ≤ 1 := by omega
    have hn' : n' = 1 → shp (kids' 0) = true := fun e => by
      rcases hU.2 with e' | e'
      · omega
      · exact e'.2
    have hkid : n = 1 → n' = 1 → PureCall (XX g) 15 [.agg (kids 0).cells, .agg (kids' 0).cells] (.lit (.bool (ksame (kids 0) (kids' 0)))) := fun e1 e2 => by
      rcases hT.2 with e' | e'
      · omega
      · exact rsame_ok g (kids 0) (kids' 0) e'.2 (hn' e2)
    intro M
    refine SimCall.of_body (fn := f15) func15 (by decide) ?_
    conv => whnf
    repeat' (first | (refine Need.mk rfl ?_; conv => whnf) | (refine Need.mk (by decide) ?_; conv => whnf) | (refine Need.mk (of_decide_eq_true rfl) ?_; conv => whnf) | (refine Need.mk (by omega) ?_; conv => whnf) | (refine Need.mk ⟨rfl, by omega, by omega⟩ ?_; conv => whnf) | (refine Need.mk ⟨rfl, rfl⟩ ?_; conv => whnf) | (refine Need.mk ⟨rfl, rfl, rfl, by simp⟩ ?_; conv => whnf) | (refine Need.mk ⟨rfl, rfl, Nat.le_refl _⟩ ?_; conv => whnf) | (refine Need.mk ⟨by omega, by omega⟩ ?_; conv => whnf) | (refine Need.mk ⟨rfl, rfl, by omega⟩ ?_; conv => whnf) | (refine Need.mk ⟨rfl, by omega⟩ ?_; conv => whnf) | (refine Br.intro (fun h' => ?_) (fun h' => ?_) <;> ((try simp at h') <;> (conv => whnf))))
    all_goals clear hT hU hn'
    all_goals simp only [TT.k, TT.nm, TT.r, TT.u, TT.m, TT.n] at *
    all_goals first
      | (refine ⟨congrArg (fun b => AV.lit (.bool b)) ?_, rfl⟩
         rw [ksame_mk]
         simp_all; done)
      | (refine ⟨congrArg (fun b => AV.lit (.bool b)) ?_, rfl⟩
         rw [ksame_mk]
         have h2 : ¬ m = m' := by omega
         simp [h2]; done)
      | (refine ⟨congrArg (fun b => AV.lit (.bool b)) ?_, rfl⟩
         rw [ksame_mk]
         have h2 : ¬ n = n' := by omega
         simp [h2]; done)
      | skip
    rename_i x1 x2 x3 x4 x5
    obtain rfl : m = m' := by omega
    obtain rfl : n = n' := by omega
    have hw0 : ksame (.mk k nm r u m regs n kids) (.mk k' nm' r' u' m regs' n kids') = (!anyF (uneq regs regs') 0 m && (decide (n = 0) || ksame (kids 0) (kids' 0))) := by
      have e3 : nm.data.toList = nm'.data.toList := congrArg Array.toList x2
      rw [ksame_mk, decide_eq_true x1, decide_eq_true e3, decide_eq_true x3, decide_eq_true x4, decide_eq_true rfl, decide_eq_true rfl]
      rfl
    clear x1 x2 x3 x4 x5 h'
    refine LoopK.ix (fun i : Nat => ⟨mkE 88 [(2, .bptr 1 0), (3, .bptr 2 0), (53, .lit (.int .i64 (m : Nat))), (54, .lit (.int .i64 (i : Nat)))], [.ext M, .box (TT.mk k nm r u m regs n kids).cells, .box (TT.mk k' nm' r' u' m regs' n kids').cells], 1⟩)
      (fun i => i ≤ m ∧ ksame (.mk k nm r u m regs n kids) (.mk k' nm' r' u' m regs' n kids') = (!anyF (uneq regs regs') i (m - i) && (decide (n = 0) || ksame (kids 0) (kids' 0)))) (fun i => m - i) 0 ?_ ⟨Nat.zero_le _, by simpa using hw0⟩ ?_
    · exact Weak.slots rfl ⟨rfl, rfl, rfl, rfl, trivial⟩ rfl rfl
    · rintro i ⟨hi, hg⟩
      conv => whnf
      refine Br.intro (fun h5 => ?_) (fun h5 => ?_)
      · simp at h5
        have h5' : i < (TT.mk k nm r u m regs n kids).m := h5
        have h5'' : i < (TT.mk k' nm' r' u' m regs' n kids').m := h5
        conv => whnf
        repeat' (first | (refine Need.mk rfl ?_; conv => whnf) | (refine Need.mk (by decide) ?_; conv => whnf) | (refine Need.mk (of_decide_eq_true rfl) ?_; conv => whnf) | (refine Need.mk (by omega) ?_; conv => whnf) | (refine Need.mk ⟨rfl, by omega, by omega⟩ ?_; conv => whnf) | (refine Need.mk ⟨rfl, rfl⟩ ?_; conv => whnf) | (refine Need.mk ⟨rfl, rfl, rfl, by simp⟩ ?_; conv => whnf) | (refine Need.mk ⟨rfl, rfl, Nat.le_refl _⟩ ?_; conv => whnf) | (refine Need.mk ⟨by omega, by omega⟩ ?_; conv => whnf) | (refine Need.mk ⟨rfl, rfl, by omega⟩ ?_; conv => whnf) | (refine Need.mk ⟨rfl, by omega⟩ ?_; conv => whnf) | (refine DrawK.run 0 (show prog.follows .mixedOrders = true by decide) ?_; conv => whnf) | (refine Br.intro (fun h' => ?_) (fun h' => ?_) <;> ((try simp at h') <;> (conv => whnf))))
        · refine ⟨congrArg (fun b => AV.lit (.bool b)) ?_, rfl⟩
          have hb : uneq regs regs' i = true := by simpa [uneq, TT.regs] using h'
          rw [hg, show m - i = (m - (i + 1)) + 1 by omega, anyF, hb]; rfl
        · have hw4 : IntKind.i64.wrap ((i : Int) + 1) = ((i + 1 : Nat) : Int) := by rw [wrap_id (by omega) (by omega)]; omega
          have hb : uneq regs regs' i = false := by simpa [uneq, TT.regs] using h'
          refine ⟨i + 1, ⟨h5, ?_⟩, (show m - (i + 1) < m - i by omega), Weak.slots rfl ⟨rfl, rfl, rfl, congrArg (fun z => AV.lit (.int .i64 z)) hw4, trivial⟩ rfl rfl⟩
          rw [hg, show m - i = (m - (i + 1)) + 1 by omega, anyF, hb]; rfl
      · simp at h5
        have hg' : ksame (.mk k nm r u m regs n kids) (.mk k' nm' r' u' m regs' n kids') = (decide (n = 0) || ksame (kids 0) (kids' 0)) := by
          rw [hg, show m - i = 0 by omega, anyF]; rfl
        rcases (by omega : n = 0 ∨ n = 1) with rfl | rfl
        · conv => whnf
          repeat (first | (refine Need.mk rfl ?_; conv => whnf) | (refine Need.mk (by decide) ?_; conv => whnf) | (refine Need.mk (of_decide_eq_true rfl) ?_; conv => whnf) | (refine Need.mk (by omega) ?_; conv => whnf) | (refine Need.mk ⟨rfl, by omega, by omega⟩ ?_; conv => whnf) | (refine Need.mk ⟨rfl, rfl⟩ ?_; conv => whnf) | (refine Need.mk ⟨rfl, rfl, rfl, by simp⟩ ?_; conv => whnf) | (refine Need.mk ⟨rfl, rfl, Nat.le_refl _⟩ ?_; conv => whnf) | (refine Need.mk ⟨by omega, by omega⟩ ?_; conv => whnf) | (refine Need.mk ⟨rfl, rfl, by omega⟩ ?_; conv => whnf) | (refine Need.mk ⟨rfl, by omega⟩ ?_; conv => whnf) | (refine LoopK.rounds 3 ?_; conv => whnf))
          exact ⟨congrArg (fun b => AV.lit (.bool b)) hg'.symm, rfl⟩
        · have hk := hkid rfl rfl
          conv => whnf
          repeat' (first | (refine Need.mk rfl ?_; conv => whnf) | (refine Need.mk (by decide) ?_; conv => whnf) | (refine Need.mk (of_decide_eq_true rfl) ?_; conv => whnf) | (refine Need.mk (by omega) ?_; conv => whnf) | (refine Need.mk ⟨rfl, by omega, by omega⟩ ?_; conv => whnf) | (refine Need.mk ⟨rfl, rfl⟩ ?_; conv => whnf) | (refine Need.mk ⟨rfl, rfl, rfl, by simp⟩ ?_; conv => whnf) | (refine Need.mk ⟨rfl, rfl, Nat.le_refl _⟩ ?_; conv => whnf) | (refine Need.mk ⟨by omega, by omega⟩ ?_; conv => whnf) | (refine Need.mk ⟨rfl, rfl, by omega⟩ ?_; conv => whnf) | (refine Need.mk ⟨rfl, by omega⟩ ?_; conv => whnf) | (refine LoopK.rounds 3 ?_; conv => whnf) | (refine DrawK.run 0 (show prog.follows .mixedOrders = true by decide) ?_; conv => whnf) | (refine HopK.intro _ [] (fun M => hk.use rfl rfl ⟨rfl, [], rfl⟩) rfl ?_; conv => whnf) | (refine Br.intro (fun h' => ?_) (fun h' => ?_) <;> ((try simp at h') <;> (conv => whnf))))
          all_goals exact ⟨congrArg (fun b => AV.lit (.bool b)) (by rw [hg', h']; rfl), rfl⟩
end Go.Proofs.Kd

namespace Go.Proofs.Kd
open Go Go.Proofs.De Go.Proofs.Tryd
set_option maxRecDepth 100000
set_option maxHeartbeats 4000000

theorem cL_at (L : List Int) (a : Nat) (ha : a < L.length) : (cL L).getD (0 + a) [] = [AV.lit (.int .i64 (lAt L a))] := by
  simp [cL, lAt, List.getD_eq_getElem?_getD, ha]
theorem AVle_cL (L : List Int) (R : List (List AV)) (hR : R = cL L) (n : Nat) (hn : n = L.length) : AVle (.rslc 1 n fun k => R.getD (0 + k) []) (.rslc 1 L.length (regRow (lAt L))) := by
  subst hR; subst hn
  refine rowsL (fun a ha => ?_) (fun a ha => ?_)
  · show leI ((cL L).getD (0 + a) []) _
    rw [cL_at L a ha]
    exact ⟨.refl _, trivial⟩
  · show ((cL L).getD (0 + a) []).length = 1
    rw [cL_at L a ha]; rfl
theorem cL_range (L : List Int) : (List.range L.length).map (regRow (lAt L)) = cL L := by
  apply List.ext_getElem
  · simp [cL]
  · intro i h1 h2
    have hi : i < L.length := by simpa using h1
    simp [cL, regRow, lAt, List.getD_eq_getElem?_getD, hi]
theorem cL_map (regs : Nat → Int) (m : Nat) : (List.range m).map (regRow regs) = cL ((List.range m).map regs) := by
  simp [cL, regRow, Function.comp_def]
theorem rregs_step (g : Gl) (k : Int) (nm : ByteArray) (r : Int) (u : Bool) (m : Nat) (regs : Nat → Int) (n : Nat) (kids : Nat → TT) (h : rfits (.mk k nm r u m regs n kids) = true) (hd : depth (.mk k nm r u m regs n kids) ≤ 60)
    (ih : n = 1 → PureCall (XX g) 19 [.agg (kids 0).cells] (.rslc 1 (regsOf (kids 0)).length (regRow (lAt (regsOf (kids 0)))))) :
    PureCall (XX g) 19 [.agg (TT.mk k nm r u m regs n kids).cells] (.rslc 1 (regsOf (.mk k nm r u m regs n kids)).length (regRow (lAt (regsOf (.mk k nm r u m regs n kids))))) := by
  have hlen := regsOf_len _ h
  refine PureCall.frz fun M => ?_
  refine SimCall.of_body (fn := f19) func19 (by decide) ?_
  rcases rfits_cases h with ⟨h1, rfl, rfl, _⟩ | ⟨rfl, rfl, rfl, hk, _⟩ | ⟨h1, rfl, rfl, hk, _⟩ | ⟨rfl, h20, rfl, _⟩
  · have e : regsOf (.mk k nm r u 0 regs 0 kids) = [] := by
      have h4 : ¬ k = 4 := by omega
      simp [regsOf, h4]
    rw [e]
    rcases h1 with rfl | rfl | rfl
    all_goals
      conv => whnf
      repeat (first | (refine Need.mk rfl ?_; conv => whnf) | (refine Need.mk (by decide) ?_; conv => whnf) | (refine Need.mk (of_decide_eq_true rfl) ?_; conv => whnf) | (refine Need.mk (by omega) ?_; conv => whnf) | (refine Need.mk ⟨rfl, by omega, by omega⟩ ?_; conv => whnf) | (refine Need.mk ⟨rfl, rfl⟩ ?_; conv => whnf) | (refine Need.mk ⟨rfl, rfl, rfl, by simp⟩ ?_; conv => whnf) | (refine Need.mk ⟨rfl, rfl, Nat.le_refl _⟩ ?_; conv => whnf) | (refine Need.mk ⟨by omega, by omega⟩ ?_; conv => whnf) | (refine Need.mk ⟨rfl, rfl, by omega⟩ ?_; conv => whnf) | (refine Need.mk ⟨rfl, by omega⟩ ?_; conv => whnf) | (refine LoopK.rounds 3 ?_; conv => whnf))
      refine ⟨rfl, ?_⟩
      conv => whnf
      refine Need.mk ⟨rfl, Nat.zero_le _⟩ ?_
      conv => whnf
      exact ⟨AVle_cL [] _ rfl _ rfl, rfl⟩
  · have e : regsOf (.mk 4 nm r u 0 regs 1 kids) = r :: regsOf (kids 0) := by simp [regsOf]
    have hb : (regsOf (kids 0)).length ≤ 2000 := by rw [e] at hlen; simp at hlen; omega
    rw [e]
    conv => whnf
    repeat (first | (refine Need.mk rfl ?_; conv => whnf) | (refine Need.mk (by decide) ?_; conv => whnf) | (refine Need.mk (of_decide_eq_true rfl) ?_; conv => whnf) | (refine Need.mk (by omega) ?_; conv => whnf) | (refine Need.mk ⟨rfl, by omega, by omega⟩ ?_; conv => whnf) | (refine Need.mk ⟨rfl, rfl⟩ ?_; conv => whnf) | (refine Need.mk ⟨rfl, rfl, rfl, by simp⟩ ?_; conv => whnf) | (refine Need.mk ⟨rfl, rfl, Nat.le_refl _⟩ ?_; conv => whnf) | (refine Need.mk ⟨by omega, by omega⟩ ?_; conv => whnf) | (refine Need.mk ⟨rfl, rfl, by omega⟩ ?_; conv => whnf) | (refine Need.mk ⟨rfl, by omega⟩ ?_; conv => whnf) | (refine LoopK.rounds 3 ?_; conv => whnf) | (refine CellsK.mk ⟨_, rfl, ?_⟩; conv => whnf) | (refine (ih rfl).use rfl rfl ?_; conv => whnf) | (refine Need.mk ⟨Nat.le_trans (show 0 + 1 + 0 + (regsOf (kids 0)).length ≤ 1000000 by omega) (by decide), (show (0 + 1 + 0 + (regsOf (kids 0)).length) * 8 ≤ _ by omega)⟩ ?_; conv => whnf))
    have hR : List.take (0 + 1 + 0) (List.take (0 + 1) ([] ++ List.take 1 (List.drop 0 [[AV.lit (.int .i64 r)]])) ++ List.map (regRow regs) (List.range 0)) ++ (List.map (regRow (lAt (regsOf (kids 0)))) (List.range (regsOf (kids 0)).length)) = cL (r :: regsOf (kids 0)) := by rw [cL_range]; rfl
    have hn : 0 + 1 + 0 + (regsOf (kids 0)).length = (r :: regsOf (kids 0)).length := by simp; omega
    refine ⟨rfl, ?_⟩
    conv => whnf
    refine Need.mk ⟨rfl, Nat.le_of_eq ((Nat.zero_add _).trans (hn.trans ((cL_len _).symm.trans (congrArg List.length hR).symm)))⟩ ?_
    conv => whnf
    exact ⟨AVle_cL _ _ hR _ hn, rfl⟩
  · have e : regsOf (.mk k nm r u 0 regs 1 kids) = regsOf (kids 0) := by
      have h4 : ¬ k = 4 := by omega
      simp [regsOf, h4]
    have hb : (regsOf (kids 0)).length ≤ 2000 := by rw [e] at hlen; omega
    rw [e]
    rcases h1 with rfl | rfl
    all_goals
      conv => whnf
      repeat (first | (refine Need.mk rfl ?_; conv => whnf) | (refine Need.mk (by decide) ?_; conv => whnf) | (refine Need.mk (of_decide_eq_true rfl) ?_; conv => whnf) | (refine Need.mk (by omega) ?_; conv => whnf) | (refine Need.mk ⟨rfl, by omega, by omega⟩ ?_; conv => whnf) | (refine Need.mk ⟨rfl, rfl⟩ ?_; conv => whnf) | (refine Need.mk ⟨rfl, rfl, rfl, by simp⟩ ?_; conv => whnf) | (refine Need.mk ⟨rfl, rfl, Nat.le_refl _⟩ ?_; conv => whnf) | (refine Need.mk ⟨by omega, by omega⟩ ?_; conv => whnf) | (refine Need.mk ⟨rfl, rfl, by omega⟩ ?_; conv => whnf) | (refine Need.mk ⟨rfl, by omega⟩ ?_; conv => whnf) | (refine LoopK.rounds 3 ?_; conv => whnf) | (refine CellsK.mk ⟨_, rfl, ?_⟩; conv => whnf) | (refine (ih rfl).use rfl rfl ?_; conv => whnf) | (refine Need.mk ⟨Nat.le_trans (show 0 + 0 + (regsOf (kids 0)).length ≤ 1000000 by omega) (by decide), (show (0 + 0 + (regsOf (kids 0)).length) * 8 ≤ _ by omega)⟩ ?_; conv => whnf))
      have hR : List.take (0 + 0) ([] ++ List.map (regRow regs) (List.range 0)) ++ (List.map (regRow (lAt (regsOf (kids 0)))) (List.range (regsOf (kids 0)).length)) = cL (regsOf (kids 0)) := by rw [cL_range]; rfl
      have hn : 0 + 0 + (regsOf (kids 0)).length = (regsOf (kids 0)).length := by omega
      refine ⟨rfl, ?_⟩
      conv => whnf
      refine Need.mk ⟨rfl, Nat.le_of_eq ((Nat.zero_add _).trans (hn.trans ((cL_len _).symm.trans (congrArg List.length hR).symm)))⟩ ?_
      conv => whnf
      exact ⟨AVle_cL _ _ hR _ hn, rfl⟩
  · have e : regsOf (.mk 7 nm r u m regs 0 kids) = (List.range m).map regs := by simp [regsOf]
    rw [e]
    conv => whnf
    repeat (first | (refine Need.mk rfl ?_; conv => whnf) | (refine Need.mk (by decide) ?_; conv => whnf) | (refine Need.mk (of_decide_eq_true rfl) ?_; conv => whnf) | (refine Need.mk (by omega) ?_; conv => whnf) | (refine Need.mk ⟨rfl, by omega, by omega⟩ ?_; conv => whnf) | (refine Need.mk ⟨rfl, rfl⟩ ?_; conv => whnf) | (refine Need.mk ⟨rfl, rfl, rfl, by simp⟩ ?_; conv => whnf) | (refine Need.mk ⟨rfl, rfl, Nat.le_refl _⟩ ?_; conv => whnf) | (refine Need.mk ⟨by omega, by omega⟩ ?_; conv => whnf) | (refine Need.mk ⟨rfl, rfl, by omega⟩ ?_; conv => whnf) | (refine Need.mk ⟨rfl, by omega⟩ ?_; conv => whnf) | (refine LoopK.rounds 3 ?_; conv => whnf) | (refine Need.mk ⟨Nat.le_trans (show 0 + m ≤ 1000000 by omega) (by decide), (show (0 + m) * 8 ≤ _ by omega)⟩ ?_; conv => whnf))
    have hR : [] ++ List.map (regRow regs) (List.range m) = cL ((List.range m).map regs) := by rw [List.nil_append]; exact cL_map regs m
    have hn : 0 + m = ((List.range m).map regs).length := by simp
    refine ⟨rfl, ?_⟩
    conv => whnf
    refine Need.mk ⟨rfl, Nat.le_of_eq ((Nat.zero_add _).trans (hn.trans ((cL_len _).symm.trans (congrArg List.length hR).symm)))⟩ ?_
    conv => whnf
    exact ⟨AVle_cL _ _ hR _ hn, rfl⟩
/-- The document's regions. -/
theorem rregs_ok (g : Gl) : ∀ (T : TT), rfits T = true → depth T ≤ 60 → PureCall (XX g) 19 [.agg T.cells] (.rslc 1 (regsOf T).length (regRow (lAt (regsOf T))))
  | .nul => fun h _ => by cases h
  | .mk k nm r u m regs n kids => fun h hd => rregs_step g k nm r u m regs n kids h hd fun hn => by
    have hk : rfits (kids 0) = true := by
      rcases rfits_cases h with ⟨_, _, h0, _⟩ | ⟨_, _, _, hk, _⟩ | ⟨_, _, _, hk, _⟩ | ⟨_, _, h0, _⟩
      · omega
      · exact hk
      · exact hk
      · omega
    subst hn
    exact rregs_ok g (kids 0) hk (by rw [depth_one] at hd; omega)
end Go.Proofs.Kd

namespace Go.Proofs.Kd
open Go Go.Proofs.De Go.Proofs.Tryd
set_option maxRecDepth 100000
set_option maxHeartbeats 4000000

theorem wReg_shift (w : Nat → Int) (q a j : Nat) (r : Int) : wReg w q r (a + j) = wReg (fun i => w (a + i)) (q - a) r j := by
  unfold wReg
  by_cases h : a + j < q
  · rw [if_pos h, if_pos (by omega)]
  · rw [if_neg h, if_neg (by omega)]
theorem withT_shift (w : Nat → Int) (q a : Nat) (ha : a ≤ q) : ∀ (T : TT) (j : Nat), withT w q T (a + j) = withT (fun i => w (a + i)) (q - a) T j
  | .nul, _ => rfl
  | .mk k nm r u m regs n kids, j => by
    have hs : wStep k q (a + j) = a + wStep k (q - a) j := by unfold wStep; split <;> omega
    have hm : min (a + wStep k (q - a) j + m) q = a + min (wStep k (q - a) j + m) (q - a) := by omega
    have e1 : (fun i => wReg w q (regs i) (wStep k q (a + j) + i)) = fun i => wReg (fun i => w (a + i)) (q - a) (regs i) (wStep k (q - a) j + i) := by
      funext i; rw [hs, Nat.add_assoc, wReg_shift]
    have e2 : (fun i => withT w q (kids i) (min (wStep k q (a + j) + m) q)) = fun i => withT (fun i => w (a + i)) (q - a) (kids i) (min (wStep k (q - a) j + m) (q - a)) := by
      funext i; rw [hs, hm, withT_shift w q a ha]
    simp only [withT]
    rw [e1, e2, wReg_shift]
/-- At the end of the others. -/
theorem withT_end (w : Nat → Int) (q : Nat) (T : TT) : withT w q T q = withT (fun i => w (q + i)) 0 T 0 := by
  have := withT_shift w q q (Nat.le_refl q) T 0
  rwa [Nat.add_zero, Nat.sub_self] at this

def RW (g : Gl) (T : TT) : Prop := ∀ (w : Nat → Int) (q : Nat), q ≤ 1000000 → PureCall (XX g) 24 [.agg T.cells, .rslc 1 q (regRow w)] (.agg (withT w q T 0).cells)
theorem RW.nil {g : Gl} {T : TT} (h : RW g T) (w : Nat → Int) : PureCall (XX g) 24 [.agg T.cells, .lit (.slice none 0 0)] (.agg (withT w 0 T 0).cells) := by
  intro M
  refine SimCall.lend [.agg T.cells, .rslc 1 0 (regRow w)] rfl ?_ ⟨f24, func24, rfl, rfl⟩
  conv => whnf
  refine ⟨⟨.refl _, .refl _, .refl _, .refl _, .refl _, .refl _, trivial⟩, ?_⟩
  conv => whnf
  exact ⟨.nil _ _, h w 0 (by decide) M⟩
theorem rwith_leaf (g : Gl) (k : Int) (hk : k = 1 ∨ k = 2 ∨ k = 3) (nm : ByteArray) (r : Int) (u : Bool) (regs : Nat → Int) (kids : Nat → TT) : RW g (.mk k nm r u 0 regs 0 kids) := by
  intro w q _
  refine PureCall.frz fun M => ?_
  refine SimCall.of_body (fn := f24) func24 (by decide) ?_
  rcases hk with rfl | rfl | rfl
  all_goals
    conv => whnf
    repeat (first | (refine Need.mk rfl ?_; conv => whnf) | (refine Need.mk (by decide) ?_; conv => whnf) | (refine Need.mk (of_decide_eq_true rfl) ?_; conv => whnf) | (refine Need.mk (by omega) ?_; conv => whnf) | (refine Need.mk ⟨rfl, by omega, by omega⟩ ?_; conv => whnf) | (refine Need.mk ⟨rfl, rfl⟩ ?_; conv => whnf) | (refine Need.mk ⟨rfl, rfl, rfl, by simp⟩ ?_; conv => whnf) | (refine Need.mk ⟨rfl, rfl, Nat.le_refl _⟩ ?_; conv => whnf) | (refine Need.mk ⟨by omega, by omega⟩ ?_; conv => whnf) | (refine Need.mk ⟨rfl, rfl, by omega⟩ ?_; conv => whnf) | (refine Need.mk ⟨rfl, by omega⟩ ?_; conv => whnf) | (refine LoopK.rounds 3 ?_; conv => whnf))
    refine ⟨rfl, ?_⟩
    conv => whnf
    exact ⟨⟨.refl _, .refl _, .refl _, .refl _, .nil _ _, .nil _ _, trivial⟩, rfl⟩
theorem rwith_zero (g : Gl) (k : Int) (hk4 : k = 4 ∨ k = 5 ∨ k = 6) (nm : ByteArray) (r : Int) (u : Bool) (regs : Nat → Int) (kids : Nat → TT) (hk : rfits (kids 0) = true) (hd : depth (kids 0) ≤ 60) (ih : RW g (kids 0)) (w : Nat → Int) :
    PureCall (XX g) 24 [.agg (TT.mk k nm r u 0 regs 1 kids).cells, .rslc 1 0 (regRow w)] (.agg (withT w 0 (.mk k nm r u 0 regs 1 kids) 0).cells) := by
  have hrg := rregs_ok g (kids 0) hk hd
  have hy : (withT w 0 (.mk k nm r u 0 regs 1 kids) 0).cells = (TT.mk k nm r u 0 (fun i => wReg w 0 (regs i) (wStep k 0 0 + i)) 1 fun i => withT w 0 (kids i) 0).cells := by
    have e : (if k = 4 then wReg w 0 r 0 else r) = r := by unfold wReg; split <;> rfl
    simp only [withT, e]
    rw [Nat.min_zero]
  rw [hy]
  refine PureCall.frz fun M => ?_
  refine SimCall.of_body (fn := f24) func24 (by decide) ?_
  have hn := ih.nil w
  rcases hk4 with rfl | rfl | rfl
  all_goals
    conv => whnf
    repeat (first | (refine Need.mk rfl ?_; conv => whnf) | (refine Need.mk (by decide) ?_; conv => whnf) | (refine Need.mk (of_decide_eq_true rfl) ?_; conv => whnf) | (refine Need.mk (by omega) ?_; conv => whnf) | (refine Need.mk ⟨rfl, by omega, by omega⟩ ?_; conv => whnf) | (refine Need.mk ⟨rfl, rfl⟩ ?_; conv => whnf) | (refine Need.mk ⟨rfl, rfl, rfl, by simp⟩ ?_; conv => whnf) | (refine Need.mk ⟨rfl, rfl, Nat.le_refl _⟩ ?_; conv => whnf) | (refine Need.mk ⟨by omega, by omega⟩ ?_; conv => whnf) | (refine Need.mk ⟨rfl, rfl, by omega⟩ ?_; conv => whnf) | (refine Need.mk ⟨rfl, by omega⟩ ?_; conv => whnf) | (refine LoopK.rounds 3 ?_; conv => whnf) | (refine DrawK.run 3 (show prog.follows .mixedOrders = true by decide) ?_; conv => whnf) | (refine HopK.intro _ [] (fun M => hn.use rfl rfl ⟨rfl, [], rfl⟩) rfl ?_; conv => whnf) | (apply HopK.full; intro M; conv => whnf) | exact ⟨rfl, [], congrArg (List.cons _) (List.append_nil _).symm⟩ | (refine CellsK.mk ⟨_, rfl, ?_⟩; conv => whnf) | (refine hrg.use rfl rfl ?_; conv => whnf))
    refine ⟨rfl, ?_⟩
    conv => whnf
    repeat (first | (refine Need.mk (of_decide_eq_true rfl) ?_; conv => whnf))
    exact ⟨⟨.refl _, .refl _, .refl _, .refl _, .nil _ _, rows1 ⟨.refl _, .refl _, .refl _, .refl _, .refl _, .refl _, trivial⟩ rfl, trivial⟩, rfl⟩
theorem rwith_box (g : Gl) (k : Int) (hk4 : k = 5 ∨ k = 6) (nm : ByteArray) (r : Int) (u : Bool) (regs : Nat → Int) (kids : Nat → TT) (hk : rfits (kids 0) = true) (hd : depth (kids 0) ≤ 60) (ih : RW g (kids 0)) (w : Nat → Int) (q : Nat) (hq : q + 1 ≤ 1000000) :
    PureCall (XX g) 24 [.agg (TT.mk k nm r u 0 regs 1 kids).cells, .rslc 1 (q + 1) (regRow w)] (.agg (withT w (q + 1) (.mk k nm r u 0 regs 1 kids) 0).cells) := by
  have hrg := rregs_ok g (kids 0) hk hd
  have hy : (withT w (q + 1) (.mk k nm r u 0 regs 1 kids) 0).cells = (TT.mk k nm r u 0 (fun i => wReg w (q + 1) (regs i) (wStep k (q + 1) 0 + i)) 1 fun i => withT w (q + 1) (kids i) 0).cells := by
    have h4 : ¬ k = 4 := by omega
    have e : wStep k (q + 1) 0 = 0 := by simp [wStep, h4]
    simp only [withT, if_neg h4, e]
    rw [show min (0 + 0) (q + 1) = 0 by omega]
  rw [hy]
  refine PureCall.frz fun M => ?_
  refine SimCall.of_body (fn := f24) func24 (by decide) ?_
  have hn : PureCall (XX g) 24 [.agg (kids 0).cells, .rslc 1 ((((q + 1 : Nat) : Int)).toNat - Int.toNat 0) fun i => regRow w (Int.toNat 0 + i)] (.agg (withT w (q + 1) (kids 0) 0).cells) := by
    have e : (fun i => regRow w (Int.toNat 0 + i)) = regRow w := funext fun i => by show regRow w (0 + i) = _; rw [Nat.zero_add]
    rw [e]; exact ih w (q + 1) hq
  rcases hk4 with rfl | rfl
  all_goals
    conv => whnf
    repeat (first | (refine Need.mk rfl ?_; conv => whnf) | (refine Need.mk (by decide) ?_; conv => whnf) | (refine Need.mk (of_decide_eq_true rfl) ?_; conv => whnf) | (refine Need.mk (by omega) ?_; conv => whnf) | (refine Need.mk ⟨rfl, by omega, by omega⟩ ?_; conv => whnf) | (refine Need.mk ⟨rfl, rfl⟩ ?_; conv => whnf) | (refine Need.mk ⟨rfl, rfl, rfl, by simp⟩ ?_; conv => whnf) | (refine Need.mk ⟨rfl, rfl, Nat.le_refl _⟩ ?_; conv => whnf) | (refine Need.mk ⟨by omega, by omega⟩ ?_; conv => whnf) | (refine Need.mk ⟨rfl, rfl, by omega⟩ ?_; conv => whnf) | (refine Need.mk ⟨rfl, by omega⟩ ?_; conv => whnf) | (refine LoopK.rounds 3 ?_; conv => whnf))
    refine Br.intro (fun h => ?_) (fun h => ?_)
    · conv => whnf
      repeat (first | (refine Need.mk rfl ?_; conv => whnf) | (refine Need.mk (by decide) ?_; conv => whnf) | (refine Need.mk (of_decide_eq_true rfl) ?_; conv => whnf) | (refine Need.mk (by omega) ?_; conv => whnf) | (refine Need.mk ⟨rfl, by omega, by omega⟩ ?_; conv => whnf) | (refine Need.mk ⟨rfl, rfl⟩ ?_; conv => whnf) | (refine Need.mk ⟨rfl, rfl, rfl, by simp⟩ ?_; conv => whnf) | (refine Need.mk ⟨rfl, rfl, Nat.le_refl _⟩ ?_; conv => whnf) | (refine Need.mk ⟨by omega, by omega⟩ ?_; conv => whnf) | (refine Need.mk ⟨rfl, rfl, by omega⟩ ?_; conv => whnf) | (refine Need.mk ⟨rfl, by omega⟩ ?_; conv => whnf) | (refine LoopK.rounds 3 ?_; conv => whnf) | (refine DrawK.run 3 (show prog.follows .mixedOrders = true by decide) ?_; conv => whnf) | (refine HopK.intro _ [] (fun M => hn.use rfl rfl ⟨rfl, [], rfl⟩) rfl ?_; conv => whnf) | (apply HopK.full; intro M; conv => whnf) | exact ⟨rfl, [], congrArg (List.cons _) (List.append_nil _).symm⟩ | (refine CellsK.mk ⟨_, rfl, ?_⟩; conv => whnf) | (refine hrg.use rfl rfl ?_; conv => whnf))
      refine ⟨rfl, ?_⟩
      conv => whnf
      repeat (first | (refine Need.mk (of_decide_eq_true rfl) ?_; conv => whnf))
      exact ⟨⟨.refl _, .refl _, .refl _, .refl _, .nil _ _, rows1 ⟨.refl _, .refl _, .refl _, .refl _, .refl _, .refl _, trivial⟩ rfl, trivial⟩, rfl⟩
    · exfalso; simp at h
end Go.Proofs.Kd

namespace Go.Proofs.Kd
open Go Go.Proofs.De Go.Proofs.Tryd
set_option maxRecDepth 100000
set_option maxHeartbeats 4000000
theorem rwith_four (g : Gl) (nm : ByteArray) (r : Int) (u : Bool) (regs : Nat → Int) (kids : Nat → TT) (hk : rfits (kids 0) = true) (hd : depth (kids 0) ≤ 60) (ih : RW g (kids 0)) (w : Nat → Int) (q : Nat) (hq : q + 1 ≤ 1000000) :
    PureCall (XX g) 24 [.agg (TT.mk 4 nm r u 0 regs 1 kids).cells, .rslc 1 (q + 1) (regRow w)] (.agg (withT w (q + 1) (.mk 4 nm r u 0 regs 1 kids) 0).cells) := by
  have hrg := rregs_ok g (kids 0) hk hd
  have hy : (withT w (q + 1) (.mk 4 nm r u 0 regs 1 kids) 0).cells = (TT.mk 4 nm (w 0) u 0 (fun i => wReg w (q + 1) (regs i) (wStep 4 (q + 1) 0 + i)) 1 fun i => withT (fun i => w (1 + i)) q (kids i) 0).cells := by
    have e1 : (fun i => withT w (q + 1) (kids i) 1) = fun i => withT (fun i => w (1 + i)) q (kids i) 0 := funext fun i => withT_shift w (q + 1) 1 (by omega) (kids i) 0
    have e2 : wReg w (q + 1) r 0 = w 0 := by simp [wReg]
    have e3 : min (wStep 4 (q + 1) 0 + 0) (q + 1) = 1 := by simp [wStep]
    simp only [withT, if_pos, e3, e1, e2]
  rw [hy]
  refine PureCall.frz fun M => ?_
  refine SimCall.of_body (fn := f24) func24 (by decide) ?_
  have hn : PureCall (XX g) 24 [.agg (kids 0).cells, .rslc 1 q (regRow fun i => w (1 + i))] (.agg (withT (fun i => w (1 + i)) q (kids 0) 0).cells) := ih _ q (by omega)
  conv => whnf
  repeat (first | (refine Need.mk rfl ?_; conv => whnf) | (refine Need.mk (by decide) ?_; conv => whnf) | (refine Need.mk (of_decide_eq_true rfl) ?_; conv => whnf) | (refine Need.mk (by omega) ?_; conv => whnf) | (refine Need.mk ⟨rfl, by omega, by omega⟩ ?_; conv => whnf) | (refine Need.mk ⟨rfl, rfl⟩ ?_; conv => whnf) | (refine Need.mk ⟨rfl, rfl, rfl, by simp⟩ ?_; conv => whnf) | (refine Need.mk ⟨rfl, rfl, Nat.le_refl _⟩ ?_; conv => whnf) | (refine Need.mk ⟨by omega, by omega⟩ ?_; conv => whnf) | (refine Need.mk ⟨rfl, rfl, by omega⟩ ?_; conv => whnf) | (refine Need.mk ⟨rfl, by omega⟩ ?_; conv => whnf))
  refine Br.intro (fun h => ?_) (fun h => ?_)
  · conv => whnf
    repeat (first | (refine Need.mk rfl ?_; conv => whnf) | (refine Need.mk (by decide) ?_; conv => whnf) | (refine Need.mk (of_decide_eq_true rfl) ?_; conv => whnf) | (refine Need.mk (by omega) ?_; conv => whnf) | (refine Need.mk ⟨rfl, by omega, by omega⟩ ?_; conv => whnf) | (refine Need.mk ⟨rfl, rfl⟩ ?_; conv => whnf) | (refine Need.mk ⟨rfl, rfl, rfl, by simp⟩ ?_; conv => whnf) | (refine Need.mk ⟨rfl, rfl, Nat.le_refl _⟩ ?_; conv => whnf) | (refine Need.mk ⟨by omega, by omega⟩ ?_; conv => whnf) | (refine Need.mk ⟨rfl, rfl, by omega⟩ ?_; conv => whnf) | (refine Need.mk ⟨rfl, by omega⟩ ?_; conv => whnf) | (refine LoopK.rounds 3 ?_; conv => whnf))
    refine Br.intro (fun h => ?_) (fun h => ?_)
    · conv => whnf
      repeat (first | (refine Need.mk rfl ?_; conv => whnf) | (refine Need.mk (by decide) ?_; conv => whnf) | (refine Need.mk (of_decide_eq_true rfl) ?_; conv => whnf) | (refine Need.mk (by omega) ?_; conv => whnf) | (refine Need.mk ⟨rfl, by omega, by omega⟩ ?_; conv => whnf) | (refine Need.mk ⟨rfl, rfl⟩ ?_; conv => whnf) | (refine Need.mk ⟨rfl, rfl, rfl, by simp⟩ ?_; conv => whnf) | (refine Need.mk ⟨rfl, rfl, Nat.le_refl _⟩ ?_; conv => whnf) | (refine Need.mk ⟨by omega, by omega⟩ ?_; conv => whnf) | (refine Need.mk ⟨rfl, rfl, by omega⟩ ?_; conv => whnf) | (refine Need.mk ⟨rfl, by omega⟩ ?_; conv => whnf) | (refine LoopK.rounds 3 ?_; conv => whnf) | (refine DrawK.run 3 (show prog.follows .mixedOrders = true by decide) ?_; conv => whnf) | (refine HopK.intro _ [] (fun M => (hn).use rfl rfl ⟨rfl, [], rfl⟩) rfl ?_; conv => whnf) | (apply HopK.full; intro M; conv => whnf) | exact ⟨rfl, [], congrArg (List.cons _) (List.append_nil _).symm⟩ | (refine CellsK.mk ⟨_, rfl, ?_⟩; conv => whnf) | (refine hrg.use rfl rfl ?_; conv => whnf))
      refine ⟨rfl, ?_⟩
      conv => whnf
      repeat (first | (refine Need.mk (of_decide_eq_true rfl) ?_; conv => whnf))
      exact ⟨⟨.refl _, .refl _, .refl _, .refl _, .nil _ _, rows1 ⟨.refl _, .refl _, .refl _, .refl _, .refl _, .refl _, trivial⟩ rfl, trivial⟩, rfl⟩
    · have h1 : ¬ 1 < ((q + 1 : Nat) : Int) := of_decide_eq_false h
      obtain rfl : q = 0 := by omega
      have hn0 := ih.nil fun i => w (1 + i)
      conv => whnf
      repeat (first | (refine Need.mk rfl ?_; conv => whnf) | (refine Need.mk (by decide) ?_; conv => whnf) | (refine Need.mk (of_decide_eq_true rfl) ?_; conv => whnf) | (refine Need.mk (by omega) ?_; conv => whnf) | (refine Need.mk ⟨rfl, by omega, by omega⟩ ?_; conv => whnf) | (refine Need.mk ⟨rfl, rfl⟩ ?_; conv => whnf) | (refine Need.mk ⟨rfl, rfl, rfl, by simp⟩ ?_; conv => whnf) | (refine Need.mk ⟨rfl, rfl, Nat.le_refl _⟩ ?_; conv => whnf) | (refine Need.mk ⟨by omega, by omega⟩ ?_; conv => whnf) | (refine Need.mk ⟨rfl, rfl, by omega⟩ ?_; conv => whnf) | (refine Need.mk ⟨rfl, by omega⟩ ?_; conv => whnf) | (refine LoopK.rounds 3 ?_; conv => whnf) | (refine DrawK.run 3 (show prog.follows .mixedOrders = true by decide) ?_; conv => whnf) | (refine HopK.intro _ [] (fun M => (hn0).use rfl rfl ⟨rfl, [], rfl⟩) rfl ?_; conv => whnf) | (apply HopK.full; intro M; conv => whnf) | exact ⟨rfl, [], congrArg (List.cons _) (List.append_nil _).symm⟩ | (refine CellsK.mk ⟨_, rfl, ?_⟩; conv => whnf) | (refine hrg.use rfl rfl ?_; conv => whnf))
      refine ⟨rfl, ?_⟩
      conv => whnf
      repeat (first | (refine Need.mk (of_decide_eq_true rfl) ?_; conv => whnf))
      exact ⟨⟨.refl _, .refl _, .refl _, .refl _, .nil _ _, rows1 ⟨.refl _, .refl _, .refl _, .refl _, .refl _, .refl _, trivial⟩ rfl, trivial⟩, rfl⟩
  · exfalso; simp at h
theorem rwith_data (g : Gl) (nm : ByteArray) (r : Int) (u : Bool) (m : Nat) (hm : m ≤ 20) (regs : Nat → Int) (kids : Nat → TT) (w : Nat → Int) (q : Nat) :
    PureCall (XX g) 24 [.agg (TT.mk 7 nm r u m regs 0 kids).cells, .rslc 1 q (regRow w)] (.agg (withT w q (.mk 7 nm r u m regs 0 kids) 0).cells) := by
  have hy : (withT w q (.mk 7 nm r u m regs 0 kids) 0).cells = (TT.mk 7 nm r u m (fun i => wReg w q (regs i) (0 + i)) 0 fun i => withT w q (kids i) (min (0 + m) q)).cells := rfl
  rw [hy]
  refine PureCall.frz fun M => ?_
  refine SimCall.of_body (fn := f24) func24 (by decide) ?_
  conv => whnf
  repeat (first | (refine Need.mk rfl ?_; conv => whnf) | (refine Need.mk (by decide) ?_; conv => whnf) | (refine Need.mk (of_decide_eq_true rfl) ?_; conv => whnf) | (refine Need.mk (by omega) ?_; conv => whnf) | (refine Need.mk ⟨rfl, by omega, by omega⟩ ?_; conv => whnf) | (refine Need.mk ⟨rfl, rfl⟩ ?_; conv => whnf) | (refine Need.mk ⟨rfl, rfl, rfl, by simp⟩ ?_; conv => whnf) | (refine Need.mk ⟨rfl, rfl, Nat.le_refl _⟩ ?_; conv => whnf) | (refine Need.mk ⟨by omega, by omega⟩ ?_; conv => whnf) | (refine Need.mk ⟨rfl, rfl, by omega⟩ ?_; conv => whnf) | (refine Need.mk ⟨rfl, by omega⟩ ?_; conv => whnf))
  refine LoopK.ix (fun i : Nat => ⟨mkE 90 [(1, .rslc 1 q (regRow w)), (2, .bptr 1 0), (4, .bptr 2 0), (5, .bptr 3 0), (6, .lit (.int .i64 (i : Nat))), (31, .rslc 1 m (regRow regs)), (32, .lit (.int .i64 (m : Nat))), (33, .lit (.int .i64 (i : Nat)))],
      [.ext M, .box (TT.mk 7 nm r u m regs 0 kids).cells, .box [.lit (.int .i64 0), .lit (.string ⟨#[]⟩), .lit (.int .i64 0), .lit (.bool false), .lit (.slice none 0 0), .lit (.slice none 0 0)], .box [.lit (.int .i64 7), .lit (.string nm), .lit (.int .i64 r), .lit (.bool u), .slc 4 1 0 i, .lit (.slice none 0 0)], .row 3 1 (rowsW w q regs 0 i)], 1⟩)
    (fun i => i ≤ m) (fun i => m - i) 0 ?_ (Nat.zero_le _) ?_
  · refine (Weak.nilCell 3 4 3 1 _ rfl rfl).trans ?_
    exact Weak.slots rfl ⟨rfl, rfl, rfl, rfl, rfl, rfl, rfl, rfl, trivial⟩ rfl rfl
  · intro i hi
    have hw4 : IntKind.i64.wrap ((i : Int) + 1) = ((i + 1 : Nat) : Int) := by rw [wrap_id (by omega) (by omega)]; omega
    conv => whnf
    refine Br.intro (fun h5 => ?_) (fun h5 => ?_)
    · simp at h5
      conv => whnf
      repeat (first | (refine Need.mk rfl ?_; conv => whnf) | (refine Need.mk (by decide) ?_; conv => whnf) | (refine Need.mk (of_decide_eq_true rfl) ?_; conv => whnf) | (refine Need.mk (by omega) ?_; conv => whnf) | (refine Need.mk ⟨rfl, by omega, by omega⟩ ?_; conv => whnf) | (refine Need.mk ⟨rfl, rfl⟩ ?_; conv => whnf) | (refine Need.mk ⟨rfl, rfl, rfl, by simp⟩ ?_; conv => whnf) | (refine Need.mk ⟨rfl, rfl, Nat.le_refl _⟩ ?_; conv => whnf) | (refine Need.mk ⟨by omega, by omega⟩ ?_; conv => whnf) | (refine Need.mk ⟨rfl, rfl, by omega⟩ ?_; conv => whnf) | (refine Need.mk ⟨rfl, by omega⟩ ?_; conv => whnf))
      refine Br.intro (fun h6 => ?_) (fun h6 => ?_)
      · simp at h6
        conv => whnf
        repeat (first | (refine Need.mk rfl ?_; conv => whnf) | (refine Need.mk (by decide) ?_; conv => whnf) | (refine Need.mk (of_decide_eq_true rfl) ?_; conv => whnf) | (refine Need.mk (by omega) ?_; conv => whnf) | (refine Need.mk ⟨rfl, by omega, by omega⟩ ?_; conv => whnf) | (refine Need.mk ⟨rfl, rfl⟩ ?_; conv => whnf) | (refine Need.mk ⟨rfl, rfl, rfl, by simp⟩ ?_; conv => whnf) | (refine Need.mk ⟨rfl, rfl, Nat.le_refl _⟩ ?_; conv => whnf) | (refine Need.mk ⟨by omega, by omega⟩ ?_; conv => whnf) | (refine Need.mk ⟨rfl, rfl, by omega⟩ ?_; conv => whnf) | (refine Need.mk ⟨rfl, by omega⟩ ?_; conv => whnf) | (refine CellsK.mk ⟨_, rfl, ?_⟩; conv => whnf) | (refine Need.mk ⟨rfl, rfl, rfl, by simp [rowsW]⟩ ?_; conv => whnf) | (refine Need.mk ⟨Nat.le_trans (show i + 1 ≤ 1000000 by omega) (by decide), (show (i + 1) * 8 ≤ _ by omega)⟩ ?_; conv => whnf))
        have hrows : List.take i (rowsW w q regs 0 i) ++ List.take 1 (List.drop 0 [[AV.lit (.int .i64 (w (i : Int).toNat))]]) = rowsW w q regs 0 (i + 1) := by
          have e : wReg w q (regs i) (0 + i) = w i := by unfold wReg; rw [Nat.zero_add, if_pos h6]
          rw [List.take_of_length_le (by simp [rowsW])]
          simp only [rowsW, List.range_succ, List.map_append, List.map_cons, List.map_nil, e]
          rfl
        refine ⟨i + 1, h5, (show m - (i + 1) < m - i by omega), Weak.nslots [0, 1, 2, 3, 6] rfl rfl rfl ⟨rfl, rfl, rfl, rfl, congrArg (fun z => AV.lit (.int .i64 z)) hw4, rfl, rfl, congrArg (fun z => AV.lit (.int .i64 z)) hw4, trivial⟩ ?_ rfl⟩
        exact congrArg (fun r => [Ob.ext M, _, _, _, Ob.row 3 1 r]) hrows
      · simp at h6
        conv => whnf
        repeat (first | (refine Need.mk rfl ?_; conv => whnf) | (refine Need.mk (by decide) ?_; conv => whnf) | (refine Need.mk (of_decide_eq_true rfl) ?_; conv => whnf) | (refine Need.mk (by omega) ?_; conv => whnf) | (refine Need.mk ⟨rfl, by omega, by omega⟩ ?_; conv => whnf) | (refine Need.mk ⟨rfl, rfl⟩ ?_; conv => whnf) | (refine Need.mk ⟨rfl, rfl, rfl, by simp⟩ ?_; conv => whnf) | (refine Need.mk ⟨rfl, rfl, Nat.le_refl _⟩ ?_; conv => whnf) | (refine Need.mk ⟨by omega, by omega⟩ ?_; conv => whnf) | (refine Need.mk ⟨rfl, rfl, by omega⟩ ?_; conv => whnf) | (refine Need.mk ⟨rfl, by omega⟩ ?_; conv => whnf) | (refine CellsK.mk ⟨_, rfl, ?_⟩; conv => whnf) | (refine Need.mk ⟨rfl, rfl, rfl, by simp [rowsW]⟩ ?_; conv => whnf) | (refine Need.mk ⟨Nat.le_trans (show i + 1 ≤ 1000000 by omega) (by decide), (show (i + 1) * 8 ≤ _ by omega)⟩ ?_; conv => whnf))
        have hrows : List.take i (rowsW w q regs 0 i) ++ List.take 1 (List.drop 0 [[AV.lit (.int .i64 (regs (i : Int).toNat))]]) = rowsW w q regs 0 (i + 1) := by
          have e : wReg w q (regs i) (0 + i) = regs i := by unfold wReg; rw [Nat.zero_add, if_neg (by omega)]
          rw [List.take_of_length_le (by simp [rowsW])]
          simp only [rowsW, List.range_succ, List.map_append, List.map_cons, List.map_nil, e]
          rfl
        refine ⟨i + 1, h5, (show m - (i + 1) < m - i by omega), Weak.nslots [0, 1, 2, 3, 6] rfl rfl rfl ⟨rfl, rfl, rfl, rfl, congrArg (fun z => AV.lit (.int .i64 z)) hw4, rfl, rfl, congrArg (fun z => AV.lit (.int .i64 z)) hw4, trivial⟩ ?_ rfl⟩
        exact congrArg (fun r => [Ob.ext M, _, _, _, Ob.row 3 1 r]) hrows
    · simp at h5
      obtain rfl : i = m := by omega
      conv => whnf
      repeat (first | (refine Need.mk rfl ?_; conv => whnf) | (refine Need.mk (by decide) ?_; conv => whnf) | (refine Need.mk (of_decide_eq_true rfl) ?_; conv => whnf) | (refine Need.mk (by omega) ?_; conv => whnf) | (refine Need.mk ⟨rfl, by omega, by omega⟩ ?_; conv => whnf) | (refine Need.mk ⟨rfl, rfl⟩ ?_; conv => whnf) | (refine Need.mk ⟨rfl, rfl, rfl, by simp⟩ ?_; conv => whnf) | (refine Need.mk ⟨rfl, rfl, Nat.le_refl _⟩ ?_; conv => whnf) | (refine Need.mk ⟨by omega, by omega⟩ ?_; conv => whnf) | (refine Need.mk ⟨rfl, rfl, by omega⟩ ?_; conv => whnf) | (refine Need.mk ⟨rfl, by omega⟩ ?_; conv => whnf) | (refine LoopK.rounds 3 ?_; conv => whnf))
      have hr : ∀ a, a < i → (rowsW w q regs 0 i).getD (0 + a) [] = [AV.lit (.int .i64 (wReg w q (regs a) (0 + a)))] := by
        intro a ha
        simp [rowsW, List.getD_eq_getElem?_getD, ha]
      refine ⟨rfl, ?_⟩
      conv => whnf
      refine Need.mk ⟨rfl, by simp [rowsW]⟩ ?_
      conv => whnf
      refine ⟨⟨.refl _, .refl _, .refl _, .refl _, rowsL (fun a ha => ?_) (fun a ha => ?_), .nil _ _, trivial⟩, rfl⟩
      · show leI ((rowsW w q regs 0 i).getD (0 + a) []) _
        rw [hr a ha]
        exact ⟨.refl _, trivial⟩
      · show ((rowsW w q regs 0 i).getD (0 + a) []).length = 1
        rw [hr a ha]; rfl
/-- The document's With. -/
theorem rwith_ok (g : Gl) : ∀ (T : TT), rfits T = true → depth T ≤ 60 → RW g T
  | .nul => fun h _ => by cases h
  | .mk k nm r u m regs n kids => fun h hd => by
    rcases rfits_cases h with ⟨h1, rfl, rfl, _⟩ | ⟨rfl, rfl, rfl, hk, _⟩ | ⟨h1, rfl, rfl, hk, _⟩ | ⟨rfl, h20, rfl, _⟩
    · exact rwith_leaf g k h1 nm r u regs kids
    · rw [depth_one] at hd
      have ih := rwith_ok g (kids 0) hk (by omega)
      intro w q hq
      match q, hq with
      | 0, _ => exact rwith_zero g 4 (.inl rfl) nm r u regs kids hk (by omega) ih w
      | q + 1, hq => exact rwith_four g nm r u regs kids hk (by omega) ih w q hq
    · rw [depth_one] at hd
      have ih := rwith_ok g (kids 0) hk (by omega)
      intro w q hq
      match q, hq with
      | 0, _ => exact rwith_zero g k (.inr h1) nm r u regs kids hk (by omega) ih w
      | q + 1, hq => exact rwith_box g k h1 nm r u regs kids hk (by omega) ih w q hq
    · intro w q _
      exact rwith_data g nm r u m h20 regs kids w q
end Go.Proofs.Kd

namespace Go.Proofs.Kd
open Go Go.Proofs.De Go.Proofs.Tryd
set_option maxRecDepth 100000
set_option maxHeartbeats 4000000

theorem anyF_self (f : Nat → Int) (m : Nat) : anyF (uneq f f) 0 m = false := anyF_none fun _ _ _ => by simp [uneq]
/-- All others nought: as it is without its regions. -/
theorem erase_with (q : Nat) : ∀ (T : TT) (j : Nat), rfits T = true → j + (regsOf T).length ≤ q → ksame (erase T) (withT (fun _ => 0) q T j) = true
  | .nul, _, h, _ => by cases h
  | .mk k nm r u m regs n kids, j, h, hq => by
    have ih := erase_with q (kids 0)
    show ksame (.mk k nm (if k = 4 then 0 else r) u m (fun _ => 0) n fun i => erase (kids i)) (.mk k nm (if k = 4 then wReg (fun _ => 0) q r j else r) u m (fun i => wReg (fun _ => 0) q (regs i) (wStep k q j + i)) n fun i => withT (fun _ => 0) q (kids i) (min (wStep k q j + m) q)) = true
    rw [ksame_mk]
    rcases rfits_cases h with ⟨a1, rfl, rfl, rfl⟩ | ⟨rfl, rfl, rfl, ak, _⟩ | ⟨a1, rfl, rfl, ak, rfl⟩ | ⟨rfl, a20, rfl, rfl, _⟩
    · have h4 : ¬ k = 4 := by omega
      simp [h4, anyF]
    · have e : regsOf (.mk 4 nm r u 0 regs 1 kids) = r :: regsOf (kids 0) := by simp [regsOf]
      rw [e] at hq
      have hlen : (r :: regsOf (kids 0)).length = (regsOf (kids 0)).length + 1 := rfl
      have hjq : j < q := by omega
      have hs : wStep 4 q j = j + 1 := by simp [wStep]; omega
      have hmin : min (j + 1 + 0) q = j + 1 := by omega
      simp [hs, hmin, wReg, hjq, anyF, ih (j + 1) ak (by omega)]
    · have h4 : ¬ k = 4 := by omega
      have e : regsOf (.mk k nm 0 u 0 regs 1 kids) = regsOf (kids 0) := by simp [regsOf, h4]
      rw [e] at hq
      have hs : wStep k q j = j := by simp [wStep, h4]
      have hmin : min (j + 0) q = j := by omega
      rw [hs, hmin]
      simp [h4, anyF, ih j ak hq]
    · have e : regsOf (.mk 7 nm 0 u m regs 0 kids) = (List.range m).map regs := by simp [regsOf]
      rw [e] at hq
      simp only [List.length_map, List.length_range] at hq
      have h2 : anyF (uneq (fun _ => 0) fun i => wReg (fun _ => 0) q (regs i) (wStep 7 q j + i)) 0 m = false := anyF_none fun i _ hi => by
        have hi' : j + i < q := by omega
        simp [uneq, wReg, wStep, hi']
      simp [h2]
/-- The document's Erase. -/
theorem rerase_ok (g : Gl) (T : TT) (h : rfits T = true) (hd : depth T ≤ 60) : PureCall (XX g) 23 [.agg T.cells] (.agg (withT (fun _ => 0) (regsOf T).length T 0).cells) := by
  have rg := rregs_ok g T h hd
  have hl := regsOf_len T h
  have wt := rwith_ok g T h hd (fun _ => 0) (regsOf T).length (by omega)
  intro M
  refine SimCall.of_body (fn := f23) func23 (by decide) ?_
  conv => whnf
  repeat (first | (refine Need.mk rfl ?_; conv => whnf) | (refine Need.mk (by decide) ?_; conv => whnf) | (refine Need.mk (of_decide_eq_true rfl) ?_; conv => whnf) | (refine Need.mk (by omega) ?_; conv => whnf) | (refine Need.mk ⟨rfl, by omega, by omega⟩ ?_; conv => whnf) | (refine Need.mk ⟨rfl, rfl⟩ ?_; conv => whnf) | (refine Need.mk ⟨rfl, rfl, rfl, by simp⟩ ?_; conv => whnf) | (refine Need.mk ⟨rfl, rfl, Nat.le_refl _⟩ ?_; conv => whnf) | (refine Need.mk ⟨by omega, by omega⟩ ?_; conv => whnf) | (refine Need.mk ⟨rfl, rfl, by omega⟩ ?_; conv => whnf) | (refine Need.mk ⟨rfl, by omega⟩ ?_; conv => whnf) | (refine DrawK.run 1 (show prog.follows .mixedOrders = true by decide) ?_; conv => whnf) | (refine HopK.intro _ [] (fun M => rg.use rfl rfl ⟨rfl, [], rfl⟩) rfl ?_; conv => whnf))
  apply HopK.full
  · intro M
    conv => whnf
    refine Need.mk ⟨rfl, by omega, by omega, by show ((8 : Nat) : Int) * ((regsOf T).length : Int) ≤ _; omega, by omega⟩ ?_
    conv => whnf
    exact ⟨rfl, [], congrArg (List.cons _) (List.append_nil _).symm⟩
  conv => whnf
  repeat (first | (refine Need.mk rfl ?_; conv => whnf) | (refine Need.mk (by decide) ?_; conv => whnf) | (refine Need.mk (of_decide_eq_true rfl) ?_; conv => whnf) | (refine Need.mk (by omega) ?_; conv => whnf) | (refine Need.mk ⟨rfl, by omega, by omega⟩ ?_; conv => whnf) | (refine Need.mk ⟨rfl, rfl⟩ ?_; conv => whnf) | (refine Need.mk ⟨rfl, rfl, rfl, by simp⟩ ?_; conv => whnf) | (refine Need.mk ⟨rfl, rfl, Nat.le_refl _⟩ ?_; conv => whnf) | (refine Need.mk ⟨by omega, by omega⟩ ?_; conv => whnf) | (refine Need.mk ⟨rfl, rfl, by omega⟩ ?_; conv => whnf) | (refine Need.mk ⟨rfl, by omega⟩ ?_; conv => whnf))
  refine HopK.intro (.agg (withT (fun _ => 0) (regsOf T).length T 0).cells) [.fz 3 1 (List.replicate ((regsOf T).length : Int).toNat [.lit (.int .i64 0)])] (fun M => ?_) rfl ?_
  · conv => whnf
    refine SimCall.lend [.agg T.cells, .rslc 1 (regsOf T).length (regRow fun _ => 0)] rfl ?_ ⟨f24, func24, rfl, rfl⟩
    conv => whnf
    refine ⟨⟨.refl _, .refl _, .refl _, .refl _, .refl _, .refl _, trivial⟩, ?_⟩
    conv => whnf
    have hr : ∀ a, a < (regsOf T).length → (List.replicate ((regsOf T).length : Int).toNat (List.map AV.lit (Value.int .i64 0).cells.toList)).getD (0 + a) [] = [AV.lit (.int .i64 0)] := by
      intro a ha
      have ha' : 0 + a < ((regsOf T).length : Int).toNat := by omega
      rw [List.getD_eq_getElem?_getD, List.getElem?_replicate, if_pos ha']; rfl
    refine Need.mk ⟨rfl, by simp⟩ ?_
    refine ⟨rowsL (fun a ha => ?_) (fun a ha => ?_), ?_⟩
    · show leI ((List.replicate ((regsOf T).length : Int).toNat (List.map AV.lit (Value.int .i64 0).cells.toList)).getD (0 + a) []) _
      rw [hr a ha]
      exact ⟨.refl _, trivial⟩
    · show ((List.replicate ((regsOf T).length : Int).toNat (List.map AV.lit (Value.int .i64 0).cells.toList)).getD (0 + a) []).length = 1
      rw [hr a ha]; rfl
    · exact wt.use rfl rfl ⟨rfl, [], rfl⟩
  conv => whnf
  apply HopK.full
  · intro M
    conv => whnf
    exact ⟨rfl, [], congrArg (List.cons _) (List.append_nil _).symm⟩
  conv => whnf
  repeat (first | (refine Need.mk rfl ?_; conv => whnf) | (refine Need.mk (by decide) ?_; conv => whnf) | (refine Need.mk (of_decide_eq_true rfl) ?_; conv => whnf) | (refine Need.mk (by omega) ?_; conv => whnf) | (refine Need.mk ⟨rfl, by omega, by omega⟩ ?_; conv => whnf) | (refine Need.mk ⟨rfl, rfl⟩ ?_; conv => whnf) | (refine Need.mk ⟨rfl, rfl, rfl, by simp⟩ ?_; conv => whnf) | (refine Need.mk ⟨rfl, rfl, Nat.le_refl _⟩ ?_; conv => whnf) | (refine Need.mk ⟨by omega, by omega⟩ ?_; conv => whnf) | (refine Need.mk ⟨rfl, rfl, by omega⟩ ?_; conv => whnf) | (refine Need.mk ⟨rfl, by omega⟩ ?_; conv => whnf))
  exact ⟨rfl, rfl⟩

/-- The law KindTells. -/
theorem lawTells_ok (g : Gl) (A : TT) (hA : A.ok) : PureCall (XX g) 5 [.agg A.cells] (.lit (.bool true)) := by
  intro M
  refine SimCall.of_body (fn := f5) func5 (by decide) ?_
  conv => whnf
  repeat' (first | (refine Need.mk rfl ?_; conv => whnf) | (refine Need.mk (by decide) ?_; conv => whnf) | (refine Need.mk (of_decide_eq_true rfl) ?_; conv => whnf) | (refine Need.mk (by omega) ?_; conv => whnf) | (refine Need.mk ⟨rfl, by omega, by omega⟩ ?_; conv => whnf) | (refine Need.mk ⟨rfl, rfl⟩ ?_; conv => whnf) | (refine Need.mk ⟨rfl, rfl, rfl, by simp⟩ ?_; conv => whnf) | (refine Need.mk ⟨rfl, rfl, Nat.le_refl _⟩ ?_; conv => whnf) | (refine Need.mk ⟨by omega, by omega⟩ ?_; conv => whnf) | (refine Need.mk ⟨rfl, rfl, by omega⟩ ?_; conv => whnf) | (refine Need.mk ⟨rfl, by omega⟩ ?_; conv => whnf) | (refine (fine_ok g A hA).use rfl rfl ?_; conv => whnf) | (refine (awake_ok g).use rfl rfl ?_; conv => whnf) | (refine Br.intro (fun h' => ?_) (fun h' => ?_) <;> ((try simp at h') <;> (conv => whnf))))
  all_goals first | exact ⟨rfl, rfl⟩ | skip
  have hA' := h'
  simp only [rright, Bool.and_eq_true, decide_eq_true_eq] at hA'
  obtain ⟨_, ad, af⟩ := hA'
  have hl := regsOf_len A af
  have c1 := kregs_ok g A af ad
  have c2 := rregs_ok g A af ad
  have c3 : PureCall (XX g) 17 [.rslc 1 (regsOf A).length (regRow (lAt (regsOf A))), .rslc 1 (regsOf A).length (regRow (lAt (regsOf A)))] (.lit (.bool true)) := by
    have := ints_ok g (lAt (regsOf A)) (lAt (regsOf A)) (regsOf A).length (regsOf A).length (by omega)
    rwa [anyF_self, decide_eq_true rfl] at this
  have c4 := kdepth_ok g A af ad
  have c5 := depth_ok g A hA (by omega)
  have c6 := kerase_ok g A af ad
  have c7 := rerase_ok g A af ad
  have c8 : PureCall (XX g) 15 [.agg (erase A).cells, .agg (withT (fun _ => 0) (regsOf A).length A 0).cells] (.lit (.bool true)) := by
    have := rsame_ok g (erase A) (withT (fun _ => 0) (regsOf A).length A 0) (by rw [shp_erase]; exact shp_right A af) (by rw [shp_with]; exact shp_right A af)
    rwa [erase_with (regsOf A).length A 0 af (by omega)] at this
  have hd : decide (depth A = depth A) = true := decide_eq_true rfl
  clear h'
  repeat' (first | (refine Need.mk rfl ?_; conv => whnf) | (refine Need.mk (by decide) ?_; conv => whnf) | (refine Need.mk (of_decide_eq_true rfl) ?_; conv => whnf) | (refine Need.mk (by omega) ?_; conv => whnf) | (refine Need.mk ⟨rfl, by omega, by omega⟩ ?_; conv => whnf) | (refine Need.mk ⟨rfl, rfl⟩ ?_; conv => whnf) | (refine Need.mk ⟨rfl, rfl, rfl, by simp⟩ ?_; conv => whnf) | (refine Need.mk ⟨rfl, rfl, Nat.le_refl _⟩ ?_; conv => whnf) | (refine Need.mk ⟨by omega, by omega⟩ ?_; conv => whnf) | (refine Need.mk ⟨rfl, rfl, by omega⟩ ?_; conv => whnf) | (refine Need.mk ⟨rfl, by omega⟩ ?_; conv => whnf) | (refine DrawK.run 0 (show prog.follows .mixedOrders = true by decide) ?_; conv => whnf) | (refine HopK.intro _ [] (fun M => (c1).use rfl rfl ⟨rfl, [], rfl⟩) rfl ?_; conv => whnf) | (refine HopK.intro _ [] (fun M => (c2).use rfl rfl ⟨rfl, [], rfl⟩) rfl ?_; conv => whnf) | (refine HopK.intro _ [] (fun M => (c3).use rfl rfl ⟨rfl, [], rfl⟩) rfl ?_; conv => whnf) | (refine HopK.intro _ [] (fun M => (c4).use rfl rfl ⟨rfl, [], rfl⟩) rfl ?_; conv => whnf) | (refine HopK.intro _ [] (fun M => (c5).use rfl rfl ⟨rfl, [], rfl⟩) rfl ?_; conv => whnf) | (refine HopK.intro _ [] (fun M => (c6).use rfl rfl ⟨rfl, [], rfl⟩) rfl ?_; conv => whnf) | (refine HopK.intro _ [] (fun M => (c7).use rfl rfl ⟨rfl, [], rfl⟩) rfl ?_; conv => whnf) | (refine HopK.intro _ [] (fun M => (c8).use rfl rfl ⟨rfl, [], rfl⟩) rfl ?_; conv => whnf) | (refine HopK.intro _ [] (fun M => (awake_ok g).use rfl rfl ⟨rfl, [], rfl⟩) rfl ?_; conv => whnf) | (refine Br.intro (fun h' => ?_) (fun h' => ?_) <;> ((try simp at h') <;> (conv => whnf))))
  all_goals first | exact ⟨rfl, rfl⟩ | exact absurd rfl h' | skip
end Go.Proofs.Kd
