/- A region of five operations that draws its order inside a round, where the first one waits for nothing and only the fourth one waits for it: the three orders, each walked. No conditions beyond those that each statement names. -/
import Derived.Test.YtdccodnompalbaaQr
namespace Go.Proofs.Ytdccodnompalbaa

/-- K at the normal end, Q at the others. -/
def nrm (K : Act → World → Prop) (Q : Exit → Act → World → Prop) : Exit → Act → World → Prop
  | .normal, a, w => K a w
  | e, a, w => Q e a w

section
variable {F : Fence} {n : Nat} {P : Program} {ops : Array Oper} {md : Region.Mode}
theorem letsOut_nrm {K : Act → World → Prop} {Q : Exit → Act → World → Prop} (h : LetsOut (nrm K Q)) : LetsOut Q := h
theorem uponIn_nrm {o : Oper} {a : Act} {K : Act → World → Prop} {Q : Exit → Act → World → Prop} {r : Result Next} (h : o.uponIn F n P a K (nrm K Q) r) : o.uponIn F n P a K Q r := by
  cases r with
  | ok x w' =>
    cases x
    case enter f args => exact ⟨h.1, h.2.mono fun e w'' he => by cases e <;> exact he⟩
    case round l f tmps assign body => exact ⟨h.1, h.2.mono fun e w'' he => by cases e <;> exact he⟩
    all_goals exact h
  | halt x w' => cases x <;> exact h
theorem wpOpIn_one {i : Nat} {o : Oper} {K : Act → World → Prop} {Q : Exit → Act → World → Prop} {a : Act} {w : World} (h0 : ops[i]? = some o) (h : wpListIn F n P ops (nrm K Q) [o] a w) : wpOpIn F n P ops Q i K a w := by
  unfold wpOpIn
  simp only [h0]
  unfold wpListIn at h
  split
  · rename_i hw
    rw [if_pos hw] at h
    exact ⟨h.1, uponIn_nrm h.2⟩
  · rename_i hw
    rw [if_neg hw] at h
    exact h
theorem wpAnyIn_ready {Q : Exit → Act → World → Prop} {fuel : Nat} {listed : Array Bool} {a : Act} {w : World} {rs : List Nat} (h : Region.ready md ops listed = rs) (hne : rs ≠ [])
    (H : ∀ i ∈ rs, wpOpIn F n P ops Q i (wpAnyIn F n P md ops Q fuel (listed.setIfInBounds i true)) a w) : wpAnyIn F n P md ops Q (fuel + 1) listed a w :=
  ⟨fun h0 => absurd (h.symm.trans h0) hne, fun i hi => H i (by rw [← h]; exact hi)⟩
theorem wpListIn_cons {Q : Exit → Act → World → Prop} {o : Oper} {rest : List Oper} {a : Act} {w : World} (h : wpListIn F n P ops Q (o :: rest) a w) : wpListIn F n P ops (nrm (wpListIn F n P ops Q rest) Q) [o] a w := by
  unfold wpListIn at h ⊢
  split
  · rename_i hw
    rw [if_pos hw] at h
    refine ⟨h.1, ?_⟩
    have h2 := h.2
    revert h2
    generalize (o.semAt F.round a.eval).run P w = r
    intro h2
    cases r with
    | ok x w' =>
      cases x
      case enter f args => exact ⟨h2.1, h2.2.mono fun e w'' he => by cases e <;> exact he⟩
      case round l f tmps assign body => exact ⟨h2.1, h2.2.mono fun e w'' he => by cases e <;> exact he⟩
      all_goals exact h2
    | halt x w' => cases x <;> exact h2
  · rename_i hw
    rw [if_neg hw] at h
    exact h
theorem wpOpIn_first {Q : Exit → Act → World → Prop} {i : Nat} {o : Oper} {rest : List Oper} {K : Act → World → Prop} {a : Act} {w : World} (h0 : ops[i]? = some o) (hK : ∀ a w, wpListIn F n P ops Q rest a w → K a w) (h : wpListIn F n P ops Q (o :: rest) a w) : wpOpIn F n P ops Q i K a w :=
  wpOpIn_mono hK (wpOpIn_one h0 (wpListIn_cons h))

/-- The three orders. -/
theorem wpIn_region_three {id : Nat} {Q : Exit → Act → World → Prop} {a : Act} {w : World} {o0 o1 o2 o3 o4 : Oper} (hm : P.follows .mixedOrders = true)
    (hr : (Region.ready .any #[o0, o1, o2, o3, o4] #[false, false, false, false, false] == [0, 1] && Region.ready .any #[o0, o1, o2, o3, o4] #[true, false, false, false, false] == [1] && Region.ready .any #[o0, o1, o2, o3, o4] #[false, true, false, false, false] == [0, 2] &&
      Region.ready .any #[o0, o1, o2, o3, o4] #[true, true, false, false, false] == [2] && Region.ready .any #[o0, o1, o2, o3, o4] #[false, true, true, false, false] == [0] && Region.ready .any #[o0, o1, o2, o3, o4] #[true, true, true, false, false] == [3] &&
      Region.ready .any #[o0, o1, o2, o3, o4] #[true, true, true, true, false] == [4] && Region.ready .any #[o0, o1, o2, o3, o4] #[true, true, true, true, true] == []) = true)
    (H1 : wpListIn F n P #[o0, o1, o2, o3, o4] Q [o0, o1, o2, o3, o4] a w.drew)
    (H2 : wpListIn F n P #[o0, o1, o2, o3, o4] (nrm (fun a' w' => wpListIn F n P #[o0, o1, o2, o3, o4] Q [o0, o2, o3, o4] a' w' ∧ wpListIn F n P #[o0, o1, o2, o3, o4] Q [o2, o0, o3, o4] a' w') Q) [o1] a w.drew) :
    (Code.region id #[o0, o1, o2, o3, o4] true).wpIn F n P Q a w := by
  simp only [Bool.and_eq_true, beq_iff_eq] at hr
  obtain ⟨⟨⟨⟨⟨⟨⟨r0, r1⟩, r2⟩, r3⟩, r4⟩, r5⟩, r6⟩, r7⟩ := hr
  refine wpIn_region_any hm ?_
  show wpAnyIn F n P .any #[o0, o1, o2, o3, o4] Q 5 #[false, false, false, false, false] a w.drew
  have t4 : ∀ a' w', wpListIn F n P #[o0, o1, o2, o3, o4] Q [o4] a' w' → wpAnyIn F n P .any #[o0, o1, o2, o3, o4] Q 1 #[true, true, true, true, false] a' w' := fun a' w' h =>
    wpAnyIn_ready r6 (by simp) fun i hi => by
      rw [List.mem_singleton] at hi; subst hi
      exact wpOpIn_first (rest := []) rfl (fun a'' w'' h' => ⟨r7, h'⟩) h
  have t3 : ∀ a' w', wpListIn F n P #[o0, o1, o2, o3, o4] Q [o3, o4] a' w' → wpAnyIn F n P .any #[o0, o1, o2, o3, o4] Q 2 #[true, true, true, false, false] a' w' := fun a' w' h =>
    wpAnyIn_ready r5 (by simp) fun i hi => by
      rw [List.mem_singleton] at hi; subst hi
      exact wpOpIn_first rfl t4 h
  have t2 : ∀ a' w', wpListIn F n P #[o0, o1, o2, o3, o4] Q [o2, o3, o4] a' w' → wpAnyIn F n P .any #[o0, o1, o2, o3, o4] Q 3 #[true, true, false, false, false] a' w' := fun a' w' h =>
    wpAnyIn_ready r3 (by simp) fun i hi => by
      rw [List.mem_singleton] at hi; subst hi
      exact wpOpIn_first rfl t3 h
  have t2' : ∀ a' w', wpListIn F n P #[o0, o1, o2, o3, o4] Q [o0, o3, o4] a' w' → wpAnyIn F n P .any #[o0, o1, o2, o3, o4] Q 3 #[false, true, true, false, false] a' w' := fun a' w' h =>
    wpAnyIn_ready r4 (by simp) fun i hi => by
      rw [List.mem_singleton] at hi; subst hi
      exact wpOpIn_first rfl t3 h
  refine wpAnyIn_ready r0 (by simp) fun i hi => ?_
  rcases List.mem_cons.1 hi with rfl | hi
  · exact wpOpIn_first rfl (fun a' w' h => wpAnyIn_ready r1 (by simp) fun j hj => by
      rw [List.mem_singleton] at hj; subst hj
      exact wpOpIn_first rfl t2 h) H1
  · rw [List.mem_singleton] at hi; subst hi
    refine wpOpIn_mono (fun a' w' h => ?_) (wpOpIn_one rfl H2)
    refine wpAnyIn_ready r2 (by simp) fun j hj => ?_
    rcases List.mem_cons.1 hj with rfl | hj
    · exact wpOpIn_first rfl t2 h.1
    · rw [List.mem_singleton] at hj; subst hj
      exact wpOpIn_first rfl t2' h.2
end
end Go.Proofs.Ytdccodnompalbaa
