/- Whether a type is right: what the document answers. Conditions: those that each statement names. -/
import Derived.Test.YtkplfedpkamogaaDoorKa

namespace Go.Proofs.Kd
open Go Go.Proofs.De Go.Proofs.Tryd
set_option maxRecDepth 100000
set_option maxHeartbeats 4000000

def badR (regs : Nat → Int) (i : Nat) : Bool := decide (regs i < 0) || decide (500 < regs i)
theorem fits1_ok (g : Gl) (nm : ByteArray) (r : Int) (u : Bool) (m : Nat) (regs : Nat → Int) (n : Nat) (kids : Nat → TT) (_hnm : nm.size ≤ 9223372036854775807) (hm : m ≤ 9223372036854775807) (_hn : n ≤ 9223372036854775807)
    (_hkid : 0 < n → PureCall (XX g) 33 [.agg (kids 0).cells] (.lit (.bool (rfits (kids 0))))) : PureCall (XX g) 33 [.agg (TT.mk 1 nm r u m regs n kids).cells] (.lit (.bool (rfits (.mk 1 nm r u m regs n kids)))) := by
  intro M
  refine SimCall.of_body (fn := f33) func33 (by decide) ?_
  conv => whnf
  repeat' (first | (refine Need.mk rfl ?_; conv => whnf) | (refine Need.mk (by decide) ?_; conv => whnf) | (refine Need.mk (of_decide_eq_true rfl) ?_; conv => whnf) | (refine Need.mk (by omega) ?_; conv => whnf) | (refine Need.mk ⟨rfl, by omega, by omega⟩ ?_; conv => whnf) | (refine Need.mk ⟨rfl, rfl⟩ ?_; conv => whnf) | (refine Need.mk ⟨rfl, rfl, rfl, by simp⟩ ?_; conv => whnf) | (refine Need.mk ⟨rfl, rfl, Nat.le_refl _⟩ ?_; conv => whnf) | (refine Need.mk ⟨by omega, by omega⟩ ?_; conv => whnf) | (refine Need.mk ⟨rfl, rfl, by omega⟩ ?_; conv => whnf) | (refine Need.mk ⟨rfl, by omega⟩ ?_; conv => whnf) | (refine DrawK.run 0 (show prog.follows .mixedOrders = true by decide) ?_; conv => whnf) | (refine Br.intro (fun h => ?_) (fun h => ?_) <;> ((try simp at h) <;> (conv => whnf))))
  all_goals simp only [TT.k, TT.nm, TT.r, TT.u, TT.m, TT.regs, TT.n] at *
  all_goals first | (refine ⟨congrArg (fun b => AV.lit (.bool b)) ?_, rfl⟩; rw [Bool.eq_iff_iff]; first | (simp [rfits]; done) | (simp [rfits]; omega) | (simp_all [rfits]; done) | (simp_all [rfits]; omega)) | skip
  have hw0 : rfits (.mk 1 nm r u m regs n kids) = (!anyF (badR regs) 0 m && decide (n = 0)) := by
    have hr1 : ¬ r < 0 := by omega
    have hr2 : ¬ 500 < r := by omega
    have hm1 : ¬ 20 < m := by omega
    have hb : (fun i => decide (regs i < 0) || decide (500 < regs i)) = badR regs := rfl
    simp only [rfits, hb]
    cases anyF (badR regs) 0 m <;> simp_all
  refine LoopK.ix (fun j : Nat => ⟨mkE 114 [(1, .bptr 1 0), (2, .lit (.bool false)), (3, .lit (.bool false)), (4, .lit (.bool false)), (82, .rslc 1 m (regRow regs)), (83, .lit (.int .i64 (m : Nat))), (84, .lit (.int .i64 (j : Nat)))], [.ext M, .box (TT.mk 1 nm r u m regs n kids).cells], 1⟩)
    (fun j => j ≤ m ∧ rfits (.mk 1 nm r u m regs n kids) = (!anyF (badR regs) j (m - j) && decide (n = 0))) (fun j => m - j) 0 ?_ ⟨Nat.zero_le _, by simpa using hw0⟩ ?_
  · exact Weak.slots rfl ⟨rfl, rfl, rfl, rfl, rfl, rfl, rfl, trivial⟩ rfl rfl
  · rintro j ⟨hj, hg⟩
    conv => whnf
    repeat' (first | (refine Need.mk rfl ?_; conv => whnf) | (refine Need.mk (by decide) ?_; conv => whnf) | (refine Need.mk (of_decide_eq_true rfl) ?_; conv => whnf) | (refine Need.mk (by omega) ?_; conv => whnf) | (refine Need.mk ⟨rfl, by omega, by omega⟩ ?_; conv => whnf) | (refine Need.mk ⟨rfl, rfl⟩ ?_; conv => whnf) | (refine Need.mk ⟨rfl, rfl, rfl, by simp⟩ ?_; conv => whnf) | (refine Need.mk ⟨rfl, rfl, Nat.le_refl _⟩ ?_; conv => whnf) | (refine Need.mk ⟨by omega, by omega⟩ ?_; conv => whnf) | (refine Need.mk ⟨rfl, rfl, by omega⟩ ?_; conv => whnf) | (refine Need.mk ⟨rfl, by omega⟩ ?_; conv => whnf) | (refine Br.intro (fun h => ?_) (fun h => ?_) <;> ((try simp at h) <;> (conv => whnf))))
    all_goals try simp only [TT.n] at h
    all_goals first
      | (refine ⟨congrArg (fun b => AV.lit (.bool b)) ?_, rfl⟩
         rw [hg, show m - j = 0 by omega, anyF]
         first | rfl | (have hn1 : n = 1 := by omega
                        simp [hn1]; done) | (have hn1 : ¬ n = 1 := by omega
                                             simp [hn1]; done) | (by_cases hz : n = 0 <;> simp [TT.n, hz]; done))
      | (refine ⟨congrArg (fun b => AV.lit (.bool b)) ?_, rfl⟩
         have hb : badR regs j = true := by simp only [badR, Bool.or_eq_true, decide_eq_true_eq]; omega
         rw [hg, show m - j = (m - (j + 1)) + 1 by omega, anyF, hb]; rfl)
      | (have hw4 : IntKind.i64.wrap ((j : Int) + 1) = ((j + 1 : Nat) : Int) := by rw [wrap_id (by omega) (by omega)]; omega
         have hb : badR regs j = false := by simp only [badR, Bool.or_eq_false_iff, decide_eq_false_iff_not]; omega
         refine ⟨j + 1, ⟨by omega, ?_⟩, (show m - (j + 1) < m - j by omega), Weak.slots rfl ⟨rfl, rfl, rfl, rfl, rfl, rfl, congrArg (fun z => AV.lit (.int .i64 z)) hw4, trivial⟩ rfl rfl⟩
         rw [hg, show m - j = (m - (j + 1)) + 1 by omega, anyF, hb]; rfl)
      | trace_state
theorem fits2_ok (g : Gl) (nm : ByteArray) (r : Int) (u : Bool) (m : Nat) (regs : Nat → Int) (n : Nat) (kids : Nat → TT) (_hnm : nm.size ≤ 9223372036854775807) (hm : m ≤ 9223372036854775807) (_hn : n ≤ 9223372036854775807)
    (_hkid : 0 < n → PureCall (XX g) 33 [.agg (kids 0).cells] (.lit (.bool (rfits (kids 0))))) : PureCall (XX g) 33 [.agg (TT.mk 2 nm r u m regs n kids).cells] (.lit (.bool (rfits (.mk 2 nm r u m regs n kids)))) := by
  intro M
  refine SimCall.of_body (fn := f33) func33 (by decide) ?_
  conv => whnf
  repeat' (first | (refine Need.mk rfl ?_; conv => whnf) | (refine Need.mk (by decide) ?_; conv => whnf) | (refine Need.mk (of_decide_eq_true rfl) ?_; conv => whnf) | (refine Need.mk (by omega) ?_; conv => whnf) | (refine Need.mk ⟨rfl, by omega, by omega⟩ ?_; conv => whnf) | (refine Need.mk ⟨rfl, rfl⟩ ?_; conv => whnf) | (refine Need.mk ⟨rfl, rfl, rfl, by simp⟩ ?_; conv => whnf) | (refine Need.mk ⟨rfl, rfl, Nat.le_refl _⟩ ?_; conv => whnf) | (refine Need.mk ⟨by omega, by omega⟩ ?_; conv => whnf) | (refine Need.mk ⟨rfl, rfl, by omega⟩ ?_; conv => whnf) | (refine Need.mk ⟨rfl, by omega⟩ ?_; conv => whnf) | (refine DrawK.run 0 (show prog.follows .mixedOrders = true by decide) ?_; conv => whnf) | (refine Br.intro (fun h => ?_) (fun h => ?_) <;> ((try simp at h) <;> (conv => whnf))))
  all_goals simp only [TT.k, TT.nm, TT.r, TT.u, TT.m, TT.regs, TT.n] at *
  all_goals first | (refine ⟨congrArg (fun b => AV.lit (.bool b)) ?_, rfl⟩; rw [Bool.eq_iff_iff]; first | (simp [rfits]; done) | (simp [rfits]; omega) | (simp_all [rfits]; done) | (simp_all [rfits]; omega)) | skip
  have hw0 : rfits (.mk 2 nm r u m regs n kids) = (!anyF (badR regs) 0 m && decide (n = 0)) := by
    have hr1 : ¬ r < 0 := by omega
    have hr2 : ¬ 500 < r := by omega
    have hm1 : ¬ 20 < m := by omega
    have hb : (fun i => decide (regs i < 0) || decide (500 < regs i)) = badR regs := rfl
    simp only [rfits, hb]
    cases anyF (badR regs) 0 m <;> simp_all
  refine LoopK.ix (fun j : Nat => ⟨mkE 114 [(1, .bptr 1 0), (2, .lit (.bool false)), (3, .lit (.bool false)), (4, .lit (.bool false)), (82, .rslc 1 m (regRow regs)), (83, .lit (.int .i64 (m : Nat))), (84, .lit (.int .i64 (j : Nat)))], [.ext M, .box (TT.mk 2 nm r u m regs n kids).cells], 1⟩)
    (fun j => j ≤ m ∧ rfits (.mk 2 nm r u m regs n kids) = (!anyF (badR regs) j (m - j) && decide (n = 0))) (fun j => m - j) 0 ?_ ⟨Nat.zero_le _, by simpa using hw0⟩ ?_
  · exact Weak.slots rfl ⟨rfl, rfl, rfl, rfl, rfl, rfl, rfl, trivial⟩ rfl rfl
  · rintro j ⟨hj, hg⟩
    conv => whnf
    repeat' (first | (refine Need.mk rfl ?_; conv => whnf) | (refine Need.mk (by decide) ?_; conv => whnf) | (refine Need.mk (of_decide_eq_true rfl) ?_; conv => whnf) | (refine Need.mk (by omega) ?_; conv => whnf) | (refine Need.mk ⟨rfl, by omega, by omega⟩ ?_; conv => whnf) | (refine Need.mk ⟨rfl, rfl⟩ ?_; conv => whnf) | (refine Need.mk ⟨rfl, rfl, rfl, by simp⟩ ?_; conv => whnf) | (refine Need.mk ⟨rfl, rfl, Nat.le_refl _⟩ ?_; conv => whnf) | (refine Need.mk ⟨by omega, by omega⟩ ?_; conv => whnf) | (refine Need.mk ⟨rfl, rfl, by omega⟩ ?_; conv => whnf) | (refine Need.mk ⟨rfl, by omega⟩ ?_; conv => whnf) | (refine Br.intro (fun h => ?_) (fun h => ?_) <;> ((try simp at h) <;> (conv => whnf))))
    all_goals try simp only [TT.n] at h
    all_goals first
      | (refine ⟨congrArg (fun b => AV.lit (.bool b)) ?_, rfl⟩
         rw [hg, show m - j = 0 by omega, anyF]
         first | rfl | (have hn1 : n = 1 := by omega
                        simp [hn1]; done) | (have hn1 : ¬ n = 1 := by omega
                                             simp [hn1]; done) | (by_cases hz : n = 0 <;> simp [TT.n, hz]; done))
      | (refine ⟨congrArg (fun b => AV.lit (.bool b)) ?_, rfl⟩
         have hb : badR regs j = true := by simp only [badR, Bool.or_eq_true, decide_eq_true_eq]; omega
         rw [hg, show m - j = (m - (j + 1)) + 1 by omega, anyF, hb]; rfl)
      | (have hw4 : IntKind.i64.wrap ((j : Int) + 1) = ((j + 1 : Nat) : Int) := by rw [wrap_id (by omega) (by omega)]; omega
         have hb : badR regs j = false := by simp only [badR, Bool.or_eq_false_iff, decide_eq_false_iff_not]; omega
         refine ⟨j + 1, ⟨by omega, ?_⟩, (show m - (j + 1) < m - j by omega), Weak.slots rfl ⟨rfl, rfl, rfl, rfl, rfl, rfl, congrArg (fun z => AV.lit (.int .i64 z)) hw4, trivial⟩ rfl rfl⟩
         rw [hg, show m - j = (m - (j + 1)) + 1 by omega, anyF, hb]; rfl)
      | trace_state
theorem fits3_ok (g : Gl) (nm : ByteArray) (r : Int) (u : Bool) (m : Nat) (regs : Nat → Int) (n : Nat) (kids : Nat → TT) (_hnm : nm.size ≤ 9223372036854775807) (hm : m ≤ 9223372036854775807) (_hn : n ≤ 9223372036854775807)
    (_hkid : 0 < n → PureCall (XX g) 33 [.agg (kids 0).cells] (.lit (.bool (rfits (kids 0))))) : PureCall (XX g) 33 [.agg (TT.mk 3 nm r u m regs n kids).cells] (.lit (.bool (rfits (.mk 3 nm r u m regs n kids)))) := by
  intro M
  refine SimCall.of_body (fn := f33) func33 (by decide) ?_
  conv => whnf
  repeat' (first | (refine Need.mk rfl ?_; conv => whnf) | (refine Need.mk (by decide) ?_; conv => whnf) | (refine Need.mk (of_decide_eq_true rfl) ?_; conv => whnf) | (refine Need.mk (by omega) ?_; conv => whnf) | (refine Need.mk ⟨rfl, by omega, by omega⟩ ?_; conv => whnf) | (refine Need.mk ⟨rfl, rfl⟩ ?_; conv => whnf) | (refine Need.mk ⟨rfl, rfl, rfl, by simp⟩ ?_; conv => whnf) | (refine Need.mk ⟨rfl, rfl, Nat.le_refl _⟩ ?_; conv => whnf) | (refine Need.mk ⟨by omega, by omega⟩ ?_; conv => whnf) | (refine Need.mk ⟨rfl, rfl, by omega⟩ ?_; conv => whnf) | (refine Need.mk ⟨rfl, by omega⟩ ?_; conv => whnf) | (refine DrawK.run 0 (show prog.follows .mixedOrders = true by decide) ?_; conv => whnf) | (refine Br.intro (fun h => ?_) (fun h => ?_) <;> ((try simp at h) <;> (conv => whnf))))
  all_goals simp only [TT.k, TT.nm, TT.r, TT.u, TT.m, TT.regs, TT.n] at *
  all_goals first | (refine ⟨congrArg (fun b => AV.lit (.bool b)) ?_, rfl⟩; rw [Bool.eq_iff_iff]; first | (simp [rfits]; done) | (simp [rfits]; omega) | (simp_all [rfits]; done) | (simp_all [rfits]; omega)) | skip
  have hw0 : rfits (.mk 3 nm r u m regs n kids) = (!anyF (badR regs) 0 m && decide (n = 0)) := by
    have hr1 : ¬ r < 0 := by omega
    have hr2 : ¬ 500 < r := by omega
    have hm1 : ¬ 20 < m := by omega
    have hb : (fun i => decide (regs i < 0) || decide (500 < regs i)) = badR regs := rfl
    simp only [rfits, hb]
    cases anyF (badR regs) 0 m <;> simp_all
  refine LoopK.ix (fun j : Nat => ⟨mkE 114 [(1, .bptr 1 0), (2, .lit (.bool false)), (3, .lit (.bool false)), (4, .lit (.bool false)), (82, .rslc 1 m (regRow regs)), (83, .lit (.int .i64 (m : Nat))), (84, .lit (.int .i64 (j : Nat)))], [.ext M, .box (TT.mk 3 nm r u m regs n kids).cells], 1⟩)
    (fun j => j ≤ m ∧ rfits (.mk 3 nm r u m regs n kids) = (!anyF (badR regs) j (m - j) && decide (n = 0))) (fun j => m - j) 0 ?_ ⟨Nat.zero_le _, by simpa using hw0⟩ ?_
  · exact Weak.slots rfl ⟨rfl, rfl, rfl, rfl, rfl, rfl, rfl, trivial⟩ rfl rfl
  · rintro j ⟨hj, hg⟩
    conv => whnf
    repeat' (first | (refine Need.mk rfl ?_; conv => whnf) | (refine Need.mk (by decide) ?_; conv => whnf) | (refine Need.mk (of_decide_eq_true rfl) ?_; conv => whnf) | (refine Need.mk (by omega) ?_; conv => whnf) | (refine Need.mk ⟨rfl, by omega, by omega⟩ ?_; conv => whnf) | (refine Need.mk ⟨rfl, rfl⟩ ?_; conv => whnf) | (refine Need.mk ⟨rfl, rfl, rfl, by simp⟩ ?_; conv => whnf) | (refine Need.mk ⟨rfl, rfl, Nat.le_refl _⟩ ?_; conv => whnf) | (refine Need.mk ⟨by omega, by omega⟩ ?_; conv => whnf) | (refine Need.mk ⟨rfl, rfl, by omega⟩ ?_; conv => whnf) | (refine Need.mk ⟨rfl, by omega⟩ ?_; conv => whnf) | (refine Br.intro (fun h => ?_) (fun h => ?_) <;> ((try simp at h) <;> (conv => whnf))))
    all_goals try simp only [TT.n] at h
    all_goals first
      | (refine ⟨congrArg (fun b => AV.lit (.bool b)) ?_, rfl⟩
         rw [hg, show m - j = 0 by omega, anyF]
         first | rfl | (have hn1 : n = 1 := by omega
                        simp [hn1]; done) | (have hn1 : ¬ n = 1 := by omega
                                             simp [hn1]; done) | (by_cases hz : n = 0 <;> simp [TT.n, hz]; done))
      | (refine ⟨congrArg (fun b => AV.lit (.bool b)) ?_, rfl⟩
         have hb : badR regs j = true := by simp only [badR, Bool.or_eq_true, decide_eq_true_eq]; omega
         rw [hg, show m - j = (m - (j + 1)) + 1 by omega, anyF, hb]; rfl)
      | (have hw4 : IntKind.i64.wrap ((j : Int) + 1) = ((j + 1 : Nat) : Int) := by rw [wrap_id (by omega) (by omega)]; omega
         have hb : badR regs j = false := by simp only [badR, Bool.or_eq_false_iff, decide_eq_false_iff_not]; omega
         refine ⟨j + 1, ⟨by omega, ?_⟩, (show m - (j + 1) < m - j by omega), Weak.slots rfl ⟨rfl, rfl, rfl, rfl, rfl, rfl, congrArg (fun z => AV.lit (.int .i64 z)) hw4, trivial⟩ rfl rfl⟩
         rw [hg, show m - j = (m - (j + 1)) + 1 by omega, anyF, hb]; rfl)
      | trace_state
theorem fits4_ok (g : Gl) (nm : ByteArray) (r : Int) (u : Bool) (m : Nat) (regs : Nat → Int) (n : Nat) (kids : Nat → TT) (_hnm : nm.size ≤ 9223372036854775807) (hm : m ≤ 9223372036854775807) (_hn : n ≤ 9223372036854775807)
    (hkid : 0 < n → PureCall (XX g) 33 [.agg (kids 0).cells] (.lit (.bool (rfits (kids 0))))) : PureCall (XX g) 33 [.agg (TT.mk 4 nm r u m regs n kids).cells] (.lit (.bool (rfits (.mk 4 nm r u m regs n kids)))) := by
  intro M
  refine SimCall.of_body (fn := f33) func33 (by decide) ?_
  conv => whnf
  repeat' (first | (refine Need.mk rfl ?_; conv => whnf) | (refine Need.mk (by decide) ?_; conv => whnf) | (refine Need.mk (of_decide_eq_true rfl) ?_; conv => whnf) | (refine Need.mk (by omega) ?_; conv => whnf) | (refine Need.mk ⟨rfl, by omega, by omega⟩ ?_; conv => whnf) | (refine Need.mk ⟨rfl, rfl⟩ ?_; conv => whnf) | (refine Need.mk ⟨rfl, rfl, rfl, by simp⟩ ?_; conv => whnf) | (refine Need.mk ⟨rfl, rfl, Nat.le_refl _⟩ ?_; conv => whnf) | (refine Need.mk ⟨by omega, by omega⟩ ?_; conv => whnf) | (refine Need.mk ⟨rfl, rfl, by omega⟩ ?_; conv => whnf) | (refine Need.mk ⟨rfl, by omega⟩ ?_; conv => whnf) | (refine DrawK.run 0 (show prog.follows .mixedOrders = true by decide) ?_; conv => whnf) | (refine Br.intro (fun h => ?_) (fun h => ?_) <;> ((try simp at h) <;> (conv => whnf))))
  all_goals simp only [TT.k, TT.nm, TT.r, TT.u, TT.m, TT.regs, TT.n] at *
  all_goals first | (refine ⟨congrArg (fun b => AV.lit (.bool b)) ?_, rfl⟩; rw [Bool.eq_iff_iff]; first | (simp [rfits]; done) | (simp [rfits]; omega) | (simp_all [rfits]; done) | (simp_all [rfits]; omega)) | skip
  have hw0 : rfits (.mk 4 nm r u m regs n kids) = (!anyF (badR regs) 0 m && (decide (n = 1) && rfits (kids 0))) := by
    have hr1 : ¬ r < 0 := by omega
    have hr2 : ¬ 500 < r := by omega
    have hm1 : ¬ 20 < m := by omega
    have hb : (fun i => decide (regs i < 0) || decide (500 < regs i)) = badR regs := rfl
    simp only [rfits, hb]
    cases anyF (badR regs) 0 m <;> simp_all
  refine LoopK.ix (fun j : Nat => ⟨mkE 114 [(1, .bptr 1 0), (2, .lit (.bool false)), (3, .lit (.bool true)), (4, .lit (.bool false)), (82, .rslc 1 m (regRow regs)), (83, .lit (.int .i64 (m : Nat))), (84, .lit (.int .i64 (j : Nat)))], [.ext M, .box (TT.mk 4 nm r u m regs n kids).cells], 1⟩)
    (fun j => j ≤ m ∧ rfits (.mk 4 nm r u m regs n kids) = (!anyF (badR regs) j (m - j) && (decide (n = 1) && rfits (kids 0)))) (fun j => m - j) 0 ?_ ⟨Nat.zero_le _, by simpa using hw0⟩ ?_
  · exact Weak.slots rfl ⟨rfl, rfl, rfl, rfl, rfl, rfl, rfl, trivial⟩ rfl rfl
  · rintro j ⟨hj, hg⟩
    conv => whnf
    repeat' (first | (refine Need.mk rfl ?_; conv => whnf) | (refine Need.mk (by decide) ?_; conv => whnf) | (refine Need.mk (of_decide_eq_true rfl) ?_; conv => whnf) | (refine Need.mk (by omega) ?_; conv => whnf) | (refine Need.mk ⟨rfl, by omega, by omega⟩ ?_; conv => whnf) | (refine Need.mk ⟨rfl, rfl⟩ ?_; conv => whnf) | (refine Need.mk ⟨rfl, rfl, rfl, by simp⟩ ?_; conv => whnf) | (refine Need.mk ⟨rfl, rfl, Nat.le_refl _⟩ ?_; conv => whnf) | (refine Need.mk ⟨by omega, by omega⟩ ?_; conv => whnf) | (refine Need.mk ⟨rfl, rfl, by omega⟩ ?_; conv => whnf) | (refine Need.mk ⟨rfl, by omega⟩ ?_; conv => whnf) | (refine (hkid (by simp only [TT.n] at h; omega)).use rfl rfl ?_; conv => whnf) | (refine Br.intro (fun h => ?_) (fun h => ?_) <;> ((try simp at h) <;> (conv => whnf))))
    all_goals try simp only [TT.n] at h
    all_goals first
      | (refine ⟨congrArg (fun b => AV.lit (.bool b)) ?_, rfl⟩
         rw [hg, show m - j = 0 by omega, anyF]
         first | rfl | (have hn1 : n = 1 := by omega
                        simp [hn1]; done) | (have hn1 : ¬ n = 1 := by omega
                                             simp [hn1]; done) | (by_cases hz : n = 0 <;> simp [TT.n, hz]; done))
      | (refine ⟨congrArg (fun b => AV.lit (.bool b)) ?_, rfl⟩
         have hb : badR regs j = true := by simp only [badR, Bool.or_eq_true, decide_eq_true_eq]; omega
         rw [hg, show m - j = (m - (j + 1)) + 1 by omega, anyF, hb]; rfl)
      | (have hw4 : IntKind.i64.wrap ((j : Int) + 1) = ((j + 1 : Nat) : Int) := by rw [wrap_id (by omega) (by omega)]; omega
         have hb : badR regs j = false := by simp only [badR, Bool.or_eq_false_iff, decide_eq_false_iff_not]; omega
         refine ⟨j + 1, ⟨by omega, ?_⟩, (show m - (j + 1) < m - j by omega), Weak.slots rfl ⟨rfl, rfl, rfl, rfl, rfl, rfl, congrArg (fun z => AV.lit (.int .i64 z)) hw4, trivial⟩ rfl rfl⟩
         rw [hg, show m - j = (m - (j + 1)) + 1 by omega, anyF, hb]; rfl)
      | trace_state
theorem fits5_ok (g : Gl) (nm : ByteArray) (r : Int) (u : Bool) (m : Nat) (regs : Nat → Int) (n : Nat) (kids : Nat → TT) (_hnm : nm.size ≤ 9223372036854775807) (hm : m ≤ 9223372036854775807) (_hn : n ≤ 9223372036854775807)
    (hkid : 0 < n → PureCall (XX g) 33 [.agg (kids 0).cells] (.lit (.bool (rfits (kids 0))))) : PureCall (XX g) 33 [.agg (TT.mk 5 nm r u m regs n kids).cells] (.lit (.bool (rfits (.mk 5 nm r u m regs n kids)))) := by
  intro M
  refine SimCall.of_body (fn := f33) func33 (by decide) ?_
  conv => whnf
  repeat' (first | (refine Need.mk rfl ?_; conv => whnf) | (refine Need.mk (by decide) ?_; conv => whnf) | (refine Need.mk (of_decide_eq_true rfl) ?_; conv => whnf) | (refine Need.mk (by omega) ?_; conv => whnf) | (refine Need.mk ⟨rfl, by omega, by omega⟩ ?_; conv => whnf) | (refine Need.mk ⟨rfl, rfl⟩ ?_; conv => whnf) | (refine Need.mk ⟨rfl, rfl, rfl, by simp⟩ ?_; conv => whnf) | (refine Need.mk ⟨rfl, rfl, Nat.le_refl _⟩ ?_; conv => whnf) | (refine Need.mk ⟨by omega, by omega⟩ ?_; conv => whnf) | (refine Need.mk ⟨rfl, rfl, by omega⟩ ?_; conv => whnf) | (refine Need.mk ⟨rfl, by omega⟩ ?_; conv => whnf) | (refine DrawK.run 0 (show prog.follows .mixedOrders = true by decide) ?_; conv => whnf) | (refine Br.intro (fun h => ?_) (fun h => ?_) <;> ((try simp at h) <;> (conv => whnf))))
  all_goals simp only [TT.k, TT.nm, TT.r, TT.u, TT.m, TT.regs, TT.n] at *
  all_goals first | (refine ⟨congrArg (fun b => AV.lit (.bool b)) ?_, rfl⟩; rw [Bool.eq_iff_iff]; first | (simp [rfits]; done) | (simp [rfits]; omega) | (simp_all [rfits]; done) | (simp_all [rfits]; omega)) | skip
  have hw0 : rfits (.mk 5 nm r u m regs n kids) = (!anyF (badR regs) 0 m && (decide (n = 1) && rfits (kids 0))) := by
    have hr1 : ¬ r < 0 := by omega
    have hr2 : ¬ 500 < r := by omega
    have hm1 : ¬ 20 < m := by omega
    have hb : (fun i => decide (regs i < 0) || decide (500 < regs i)) = badR regs := rfl
    simp only [rfits, hb]
    cases anyF (badR regs) 0 m <;> simp_all
  refine LoopK.ix (fun j : Nat => ⟨mkE 114 [(1, .bptr 1 0), (2, .lit (.bool false)), (3, .lit (.bool false)), (4, .lit (.bool true)), (82, .rslc 1 m (regRow regs)), (83, .lit (.int .i64 (m : Nat))), (84, .lit (.int .i64 (j : Nat)))], [.ext M, .box (TT.mk 5 nm r u m regs n kids).cells], 1⟩)
    (fun j => j ≤ m ∧ rfits (.mk 5 nm r u m regs n kids) = (!anyF (badR regs) j (m - j) && (decide (n = 1) && rfits (kids 0)))) (fun j => m - j) 0 ?_ ⟨Nat.zero_le _, by simpa using hw0⟩ ?_
  · exact Weak.slots rfl ⟨rfl, rfl, rfl, rfl, rfl, rfl, rfl, trivial⟩ rfl rfl
  · rintro j ⟨hj, hg⟩
    conv => whnf
    repeat' (first | (refine Need.mk rfl ?_; conv => whnf) | (refine Need.mk (by decide) ?_; conv => whnf) | (refine Need.mk (of_decide_eq_true rfl) ?_; conv => whnf) | (refine Need.mk (by omega) ?_; conv => whnf) | (refine Need.mk ⟨rfl, by omega, by omega⟩ ?_; conv => whnf) | (refine Need.mk ⟨rfl, rfl⟩ ?_; conv => whnf) | (refine Need.mk ⟨rfl, rfl, rfl, by simp⟩ ?_; conv => whnf) | (refine Need.mk ⟨rfl, rfl, Nat.le_refl _⟩ ?_; conv => whnf) | (refine Need.mk ⟨by omega, by omega⟩ ?_; conv => whnf) | (refine Need.mk ⟨rfl, rfl, by omega⟩ ?_; conv => whnf) | (refine Need.mk ⟨rfl, by omega⟩ ?_; conv => whnf) | (refine (hkid (by simp only [TT.n] at h; omega)).use rfl rfl ?_; conv => whnf) | (refine Br.intro (fun h => ?_) (fun h => ?_) <;> ((try simp at h) <;> (conv => whnf))))
    all_goals try simp only [TT.n] at h
    all_goals first
      | (refine ⟨congrArg (fun b => AV.lit (.bool b)) ?_, rfl⟩
         rw [hg, show m - j = 0 by omega, anyF]
         first | rfl | (have hn1 : n = 1 := by omega
                        simp [hn1]; done) | (have hn1 : ¬ n = 1 := by omega
                                             simp [hn1]; done) | (by_cases hz : n = 0 <;> simp [TT.n, hz]; done))
      | (refine ⟨congrArg (fun b => AV.lit (.bool b)) ?_, rfl⟩
         have hb : badR regs j = true := by simp only [badR, Bool.or_eq_true, decide_eq_true_eq]; omega
         rw [hg, show m - j = (m - (j + 1)) + 1 by omega, anyF, hb]; rfl)
      | (have hw4 : IntKind.i64.wrap ((j : Int) + 1) = ((j + 1 : Nat) : Int) := by rw [wrap_id (by omega) (by omega)]; omega
         have hb : badR regs j = false := by simp only [badR, Bool.or_eq_false_iff, decide_eq_false_iff_not]; omega
         refine ⟨j + 1, ⟨by omega, ?_⟩, (show m - (j + 1) < m - j by omega), Weak.slots rfl ⟨rfl, rfl, rfl, rfl, rfl, rfl, congrArg (fun z => AV.lit (.int .i64 z)) hw4, trivial⟩ rfl rfl⟩
         rw [hg, show m - j = (m - (j + 1)) + 1 by omega, anyF, hb]; rfl)
      | trace_state
theorem fits6_ok (g : Gl) (nm : ByteArray) (r : Int) (u : Bool) (m : Nat) (regs : Nat → Int) (n : Nat) (kids : Nat → TT) (_hnm : nm.size ≤ 9223372036854775807) (hm : m ≤ 9223372036854775807) (_hn : n ≤ 9223372036854775807)
    (hkid : 0 < n → PureCall (XX g) 33 [.agg (kids 0).cells] (.lit (.bool (rfits (kids 0))))) : PureCall (XX g) 33 [.agg (TT.mk 6 nm r u m regs n kids).cells] (.lit (.bool (rfits (.mk 6 nm r u m regs n kids)))) := by
  intro M
  refine SimCall.of_body (fn := f33) func33 (by decide) ?_
  conv => whnf
  repeat' (first | (refine Need.mk rfl ?_; conv => whnf) | (refine Need.mk (by decide) ?_; conv => whnf) | (refine Need.mk (of_decide_eq_true rfl) ?_; conv => whnf) | (refine Need.mk (by omega) ?_; conv => whnf) | (refine Need.mk ⟨rfl, by omega, by omega⟩ ?_; conv => whnf) | (refine Need.mk ⟨rfl, rfl⟩ ?_; conv => whnf) | (refine Need.mk ⟨rfl, rfl, rfl, by simp⟩ ?_; conv => whnf) | (refine Need.mk ⟨rfl, rfl, Nat.le_refl _⟩ ?_; conv => whnf) | (refine Need.mk ⟨by omega, by omega⟩ ?_; conv => whnf) | (refine Need.mk ⟨rfl, rfl, by omega⟩ ?_; conv => whnf) | (refine Need.mk ⟨rfl, by omega⟩ ?_; conv => whnf) | (refine DrawK.run 0 (show prog.follows .mixedOrders = true by decide) ?_; conv => whnf) | (refine Br.intro (fun h => ?_) (fun h => ?_) <;> ((try simp at h) <;> (conv => whnf))))
  all_goals simp only [TT.k, TT.nm, TT.r, TT.u, TT.m, TT.regs, TT.n] at *
  all_goals first | (refine ⟨congrArg (fun b => AV.lit (.bool b)) ?_, rfl⟩; rw [Bool.eq_iff_iff]; first | (simp [rfits]; done) | (simp [rfits]; omega) | (simp_all [rfits]; done) | (simp_all [rfits]; omega)) | skip
  have hw0 : rfits (.mk 6 nm r u m regs n kids) = (!anyF (badR regs) 0 m && (decide (n = 1) && rfits (kids 0))) := by
    have hr1 : ¬ r < 0 := by omega
    have hr2 : ¬ 500 < r := by omega
    have hm1 : ¬ 20 < m := by omega
    have hb : (fun i => decide (regs i < 0) || decide (500 < regs i)) = badR regs := rfl
    simp only [rfits, hb]
    cases anyF (badR regs) 0 m <;> simp_all
  refine LoopK.ix (fun j : Nat => ⟨mkE 114 [(1, .bptr 1 0), (2, .lit (.bool false)), (3, .lit (.bool false)), (4, .lit (.bool true)), (82, .rslc 1 m (regRow regs)), (83, .lit (.int .i64 (m : Nat))), (84, .lit (.int .i64 (j : Nat)))], [.ext M, .box (TT.mk 6 nm r u m regs n kids).cells], 1⟩)
    (fun j => j ≤ m ∧ rfits (.mk 6 nm r u m regs n kids) = (!anyF (badR regs) j (m - j) && (decide (n = 1) && rfits (kids 0)))) (fun j => m - j) 0 ?_ ⟨Nat.zero_le _, by simpa using hw0⟩ ?_
  · exact Weak.slots rfl ⟨rfl, rfl, rfl, rfl, rfl, rfl, rfl, trivial⟩ rfl rfl
  · rintro j ⟨hj, hg⟩
    conv => whnf
    repeat' (first | (refine Need.mk rfl ?_; conv => whnf) | (refine Need.mk (by decide) ?_; conv => whnf) | (refine Need.mk (of_decide_eq_true rfl) ?_; conv => whnf) | (refine Need.mk (by omega) ?_; conv => whnf) | (refine Need.mk ⟨rfl, by omega, by omega⟩ ?_; conv => whnf) | (refine Need.mk ⟨rfl, rfl⟩ ?_; conv => whnf) | (refine Need.mk ⟨rfl, rfl, rfl, by simp⟩ ?_; conv => whnf) | (refine Need.mk ⟨rfl, rfl, Nat.le_refl _⟩ ?_; conv => whnf) | (refine Need.mk ⟨by omega, by omega⟩ ?_; conv => whnf) | (refine Need.mk ⟨rfl, rfl, by omega⟩ ?_; conv => whnf) | (refine Need.mk ⟨rfl, by omega⟩ ?_; conv => whnf) | (refine (hkid (by simp only [TT.n] at h; omega)).use rfl rfl ?_; conv => whnf) | (refine Br.intro (fun h => ?_) (fun h => ?_) <;> ((try simp at h) <;> (conv => whnf))))
    all_goals try simp only [TT.n] at h
    all_goals first
      | (refine ⟨congrArg (fun b => AV.lit (.bool b)) ?_, rfl⟩
         rw [hg, show m - j = 0 by omega, anyF]
         first | rfl | (have hn1 : n = 1 := by omega
                        simp [hn1]; done) | (have hn1 : ¬ n = 1 := by omega
                                             simp [hn1]; done) | (by_cases hz : n = 0 <;> simp [TT.n, hz]; done))
      | (refine ⟨congrArg (fun b => AV.lit (.bool b)) ?_, rfl⟩
         have hb : badR regs j = true := by simp only [badR, Bool.or_eq_true, decide_eq_true_eq]; omega
         rw [hg, show m - j = (m - (j + 1)) + 1 by omega, anyF, hb]; rfl)
      | (have hw4 : IntKind.i64.wrap ((j : Int) + 1) = ((j + 1 : Nat) : Int) := by rw [wrap_id (by omega) (by omega)]; omega
         have hb : badR regs j = false := by simp only [badR, Bool.or_eq_false_iff, decide_eq_false_iff_not]; omega
         refine ⟨j + 1, ⟨by omega, ?_⟩, (show m - (j + 1) < m - j by omega), Weak.slots rfl ⟨rfl, rfl, rfl, rfl, rfl, rfl, congrArg (fun z => AV.lit (.int .i64 z)) hw4, trivial⟩ rfl rfl⟩
         rw [hg, show m - j = (m - (j + 1)) + 1 by omega, anyF, hb]; rfl)
      | trace_state
theorem fits7_ok (g : Gl) (nm : ByteArray) (r : Int) (u : Bool) (m : Nat) (regs : Nat → Int) (n : Nat) (kids : Nat → TT) (hnm : nm.size ≤ 9223372036854775807) (hm : m ≤ 9223372036854775807) (_hn : n ≤ 9223372036854775807)
    (_hkid : 0 < n → PureCall (XX g) 33 [.agg (kids 0).cells] (.lit (.bool (rfits (kids 0))))) : PureCall (XX g) 33 [.agg (TT.mk 7 nm r u m regs n kids).cells] (.lit (.bool (rfits (.mk 7 nm r u m regs n kids)))) := by
  intro M
  refine SimCall.of_body (fn := f33) func33 (by decide) ?_
  conv => whnf
  repeat' (first | (refine Need.mk rfl ?_; conv => whnf) | (refine Need.mk (by decide) ?_; conv => whnf) | (refine Need.mk (of_decide_eq_true rfl) ?_; conv => whnf) | (refine Need.mk (by omega) ?_; conv => whnf) | (refine Need.mk ⟨rfl, by omega, by omega⟩ ?_; conv => whnf) | (refine Need.mk ⟨rfl, rfl⟩ ?_; conv => whnf) | (refine Need.mk ⟨rfl, rfl, rfl, by simp⟩ ?_; conv => whnf) | (refine Need.mk ⟨rfl, rfl, Nat.le_refl _⟩ ?_; conv => whnf) | (refine Need.mk ⟨by omega, by omega⟩ ?_; conv => whnf) | (refine Need.mk ⟨rfl, rfl, by omega⟩ ?_; conv => whnf) | (refine Need.mk ⟨rfl, by omega⟩ ?_; conv => whnf) | (refine DrawK.run 0 (show prog.follows .mixedOrders = true by decide) ?_; conv => whnf) | (refine (word_ok g nm hnm).use rfl rfl ?_; conv => whnf) | (refine Br.intro (fun h => ?_) (fun h => ?_) <;> ((try simp at h) <;> (conv => whnf))))
  all_goals simp only [TT.k, TT.nm, TT.r, TT.u, TT.m, TT.regs, TT.n] at *
  all_goals first | (refine ⟨congrArg (fun b => AV.lit (.bool b)) ?_, rfl⟩; rw [Bool.eq_iff_iff]; first | (simp [rfits]; done) | (simp [rfits]; omega) | (simp_all [rfits]; done) | (simp_all [rfits]; omega)) | skip
  have hw0 : rfits (.mk 7 nm r u m regs n kids) = (!anyF (badR regs) 0 m && decide (n = 0)) := by
    have hr1 : ¬ r < 0 := by omega
    have hr2 : ¬ 500 < r := by omega
    have hm1 : ¬ 20 < m := by omega
    have hb : (fun i => decide (regs i < 0) || decide (500 < regs i)) = badR regs := rfl
    simp only [rfits, hb]
    cases anyF (badR regs) 0 m <;> simp_all
  refine LoopK.ix (fun j : Nat => ⟨mkE 114 [(1, .bptr 1 0), (2, .lit (.bool false)), (3, .lit (.bool false)), (4, .lit (.bool false)), (82, .rslc 1 m (regRow regs)), (83, .lit (.int .i64 (m : Nat))), (84, .lit (.int .i64 (j : Nat)))], [.ext M, .box (TT.mk 7 nm r u m regs n kids).cells], 1⟩)
    (fun j => j ≤ m ∧ rfits (.mk 7 nm r u m regs n kids) = (!anyF (badR regs) j (m - j) && decide (n = 0))) (fun j => m - j) 0 ?_ ⟨Nat.zero_le _, by simpa using hw0⟩ ?_
  · exact Weak.slots rfl ⟨rfl, rfl, rfl, rfl, rfl, rfl, rfl, trivial⟩ rfl rfl
  · rintro j ⟨hj, hg⟩
    conv => whnf
    repeat' (first | (refine Need.mk rfl ?_; conv => whnf) | (refine Need.mk (by decide) ?_; conv => whnf) | (refine Need.mk (of_decide_eq_true rfl) ?_; conv => whnf) | (refine Need.mk (by omega) ?_; conv => whnf) | (refine Need.mk ⟨rfl, by omega, by omega⟩ ?_; conv => whnf) | (refine Need.mk ⟨rfl, rfl⟩ ?_; conv => whnf) | (refine Need.mk ⟨rfl, rfl, rfl, by simp⟩ ?_; conv => whnf) | (refine Need.mk ⟨rfl, rfl, Nat.le_refl _⟩ ?_; conv => whnf) | (refine Need.mk ⟨by omega, by omega⟩ ?_; conv => whnf) | (refine Need.mk ⟨rfl, rfl, by omega⟩ ?_; conv => whnf) | (refine Need.mk ⟨rfl, by omega⟩ ?_; conv => whnf) | (refine Br.intro (fun h => ?_) (fun h => ?_) <;> ((try simp at h) <;> (conv => whnf))))
    all_goals try simp only [TT.n] at h
    all_goals first
      | (refine ⟨congrArg (fun b => AV.lit (.bool b)) ?_, rfl⟩
         rw [hg, show m - j = 0 by omega, anyF]
         first | rfl | (have hn1 : n = 1 := by omega
                        simp [hn1]; done) | (have hn1 : ¬ n = 1 := by omega
                                             simp [hn1]; done) | (by_cases hz : n = 0 <;> simp [TT.n, hz]; done))
      | (refine ⟨congrArg (fun b => AV.lit (.bool b)) ?_, rfl⟩
         have hb : badR regs j = true := by simp only [badR, Bool.or_eq_true, decide_eq_true_eq]; omega
         rw [hg, show m - j = (m - (j + 1)) + 1 by omega, anyF, hb]; rfl)
      | (have hw4 : IntKind.i64.wrap ((j : Int) + 1) = ((j + 1 : Nat) : Int) := by rw [wrap_id (by omega) (by omega)]; omega
         have hb : badR regs j = false := by simp only [badR, Bool.or_eq_false_iff, decide_eq_false_iff_not]; omega
         refine ⟨j + 1, ⟨by omega, ?_⟩, (show m - (j + 1) < m - j by omega), Weak.slots rfl ⟨rfl, rfl, rfl, rfl, rfl, rfl, congrArg (fun z => AV.lit (.int .i64 z)) hw4, trivial⟩ rfl rfl⟩
         rw [hg, show m - j = (m - (j + 1)) + 1 by omega, anyF, hb]; rfl)
      | trace_state
end Go.Proofs.Kd

namespace Go.Proofs.Kd
open Go Go.Proofs.De Go.Proofs.Tryd
set_option maxRecDepth 100000
set_option maxHeartbeats 4000000

theorem fits_out_ok (g : Gl) (k : Int) (nm : ByteArray) (r : Int) (u : Bool) (m : Nat) (regs : Nat → Int) (n : Nat) (kids : Nat → TT) (hk : k < 1 ∨ 7 < k) : PureCall (XX g) 33 [.agg (TT.mk k nm r u m regs n kids).cells] (.lit (.bool (rfits (.mk k nm r u m regs n kids)))) := by
  intro M
  have h0 : rfits (.mk k nm r u m regs n kids) = false := by rcases hk with h | h <;> simp [rfits, h]
  rw [h0]
  have e4 : (decide (k = 4)) = false := by simp; omega
  have e5 : (decide (k = 5)) = false := by simp; omega
  have e6 : (decide (k = 6)) = false := by simp; omega
  have e7 : (decide (k = 7)) = false := by simp; omega
  refine SimCall.of_body (fn := f33) func33 (by decide) ?_
  conv => whnf
  repeat' (first | (refine Need.mk rfl ?_; conv => whnf) | (refine Need.mk (by decide) ?_; conv => whnf) | (refine Need.mk (of_decide_eq_true rfl) ?_; conv => whnf) | (refine Need.mk (by omega) ?_; conv => whnf) | (refine Need.mk ⟨rfl, by omega, by omega⟩ ?_; conv => whnf) | (refine Need.mk ⟨rfl, rfl⟩ ?_; conv => whnf) | (refine Need.mk ⟨rfl, rfl, rfl, by simp⟩ ?_; conv => whnf) | (refine Need.mk ⟨rfl, rfl, Nat.le_refl _⟩ ?_; conv => whnf) | (refine Need.mk ⟨by omega, by omega⟩ ?_; conv => whnf) | (refine Need.mk ⟨rfl, rfl, by omega⟩ ?_; conv => whnf) | (refine Need.mk ⟨rfl, by omega⟩ ?_; conv => whnf) | (refine DrawK.run 0 (show prog.follows .mixedOrders = true by decide) ?_; conv => whnf) | (refine Br.intro (fun h => ?_) (fun h => ?_) <;> ((try simp at h) <;> (conv => whnf))))
  all_goals simp only [TT.k] at *
  all_goals first | exact ⟨rfl, rfl⟩ | exact ⟨trivial, rfl⟩ | (exfalso; omega)

theorem fits_ok (g : Gl) : ∀ (T : TT), T.ok → PureCall (XX g) 33 [.agg T.cells] (.lit (.bool (rfits T)))
  | .nul, hok => hok.elim
  | .mk k nm r u m regs n kids, hok => by
    obtain ⟨h1, h2, h3, h4⟩ := hok
    have hkid : 0 < n → PureCall (XX g) 33 [.agg (kids 0).cells] (.lit (.bool (rfits (kids 0)))) := fun h => fits_ok g (kids 0) (h4 0 h)
    by_cases hk : k < 1 ∨ 7 < k
    · exact fits_out_ok g k nm r u m regs n kids hk
    · rcases (by omega : k = 1 ∨ k = 2 ∨ k = 3 ∨ k = 4 ∨ k = 5 ∨ k = 6 ∨ k = 7) with rfl | rfl | rfl | rfl | rfl | rfl | rfl
      · exact fits1_ok g nm r u m regs n kids h1 h2 h3 hkid
      · exact fits2_ok g nm r u m regs n kids h1 h2 h3 hkid
      · exact fits3_ok g nm r u m regs n kids h1 h2 h3 hkid
      · exact fits4_ok g nm r u m regs n kids h1 h2 h3 hkid
      · exact fits5_ok g nm r u m regs n kids h1 h2 h3 hkid
      · exact fits6_ok g nm r u m regs n kids h1 h2 h3 hkid
      · exact fits7_ok g nm r u m regs n kids h1 h2 h3 hkid

theorem rright_ok (g : Gl) (T : TT) (hok : T.ok) (hd : depth T ≤ 1000000) : PureCall (XX g) 13 [.agg T.cells] (.lit (.bool (rright T))) := by
  intro M
  refine SimCall.of_body (fn := f13) func13 (by decide) ?_
  conv => whnf
  repeat' (first | (refine Need.mk rfl ?_; conv => whnf) | (refine Need.mk (by decide) ?_; conv => whnf) | (refine Need.mk (of_decide_eq_true rfl) ?_; conv => whnf) | (refine Need.mk (by omega) ?_; conv => whnf) | (refine Need.mk ⟨rfl, by omega, by omega⟩ ?_; conv => whnf) | (refine Need.mk ⟨rfl, rfl⟩ ?_; conv => whnf) | (refine Need.mk ⟨rfl, rfl, rfl, by simp⟩ ?_; conv => whnf) | (refine Need.mk ⟨rfl, rfl, Nat.le_refl _⟩ ?_; conv => whnf) | (refine Need.mk ⟨by omega, by omega⟩ ?_; conv => whnf) | (refine Need.mk ⟨rfl, rfl, by omega⟩ ?_; conv => whnf) | (refine Need.mk ⟨rfl, by omega⟩ ?_; conv => whnf) | (refine (depth_ok g T hok hd).use rfl rfl ?_; conv => whnf) | (refine (fits_ok g T hok).use rfl rfl ?_; conv => whnf) | (refine Br.intro (fun h => ?_) (fun h => ?_) <;> ((try simp at h) <;> (conv => whnf))))
  all_goals (refine ⟨congrArg (fun b => AV.lit (.bool b)) ?_, rfl⟩; rw [Bool.eq_iff_iff]; first | (simp [rright]; done) | (simp [rright]; omega) | (simp_all [rright]; done) | (simp_all [rright]; omega))
end Go.Proofs.Kd
