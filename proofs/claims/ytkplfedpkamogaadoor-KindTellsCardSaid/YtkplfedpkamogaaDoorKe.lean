/- Right types: their shape, Erase, With, Regions, Same; the law KindErased walked. Conditions: those that each statement names. -/
import Derived.Test.YtkplfedpkamogaaDoorKa
import Derived.Test.YtkplfedpkamogaaDoorDd
import Derived.Test.YtkplfedpkamogaaDoorKc

namespace Go.Proofs.Kd
open Go Go.Proofs.De Go.Proofs.Tryd
set_option maxRecDepth 100000
set_option maxHeartbeats 4000000

/-- What a right type has. -/
theorem rfits_cases {k : Int} {nm : ByteArray} {r : Int} {u : Bool} {m : Nat} {regs : Nat → Int} {n : Nat} {kids : Nat → TT} (h : rfits (.mk k nm r u m regs n kids) = true) :
    ((k = 1 ∨ k = 2 ∨ k = 3) ∧ m = 0 ∧ n = 0 ∧ r = 0) ∨ (k = 4 ∧ m = 0 ∧ n = 1 ∧ rfits (kids 0) = true ∧ 0 ≤ r ∧ r ≤ 500) ∨ ((k = 5 ∨ k = 6) ∧ m = 0 ∧ n = 1 ∧ rfits (kids 0) = true ∧ r = 0) ∨ (k = 7 ∧ m ≤ 20 ∧ n = 0 ∧ r = 0 ∧ ∀ i, i < m → 0 ≤ regs i ∧ regs i ≤ 500) := by
  have h0 := h
  have hk : 1 ≤ k ∧ k ≤ 7 := by
    constructor
    · rcases Int.lt_or_le k 1 with h' | h'
      · simp [rfits, h'] at h
      · exact h'
    · rcases Int.lt_or_le 7 k with h' | h'
      · simp [rfits, h'] at h
      · exact h'
  unfold rfits at h
  rcases (by omega : k = 1 ∨ k = 2 ∨ k = 3 ∨ k = 4 ∨ k = 5 ∨ k = 6 ∨ k = 7) with rfl | rfl | rfl | rfl | rfl | rfl | rfl
  · simp at h; exact .inl ⟨by simp, by omega, by omega, by omega⟩
  · simp at h; exact .inl ⟨by simp, by omega, by omega, by omega⟩
  · simp at h; exact .inl ⟨by simp, by omega, by omega, by omega⟩
  · simp at h; exact .inr (.inl ⟨rfl, by omega, by omega, h.2.2.2.2, by omega, by omega⟩)
  · simp at h; exact .inr (.inr (.inl ⟨by simp, by omega, by omega, h.2.2.2.2, by omega⟩))
  · simp at h; exact .inr (.inr (.inl ⟨by simp, by omega, by omega, h.2.2.2.2, by omega⟩))
  · simp at h
    refine .inr (.inr (.inr ⟨rfl, by omega, by omega, by omega, fun i hi => ?_⟩))
    have h3 : anyF (fun i => decide (regs i < 0) || decide (500 < regs i)) 0 m = false := h.2.2.1
    have := anyF_false h3 i (by omega) (by omega)
    simp at this
    omega

/-- How many items may still be gone through. -/
def leftv : TT → Int → Int
  | .nul, items => items
  | .mk _ _ _ _ m _ n kids, items => if n = 0 then items - 1 - m else leftv (kids 0) (items - 1 - m)
theorem depth_one {k : Int} {nm : ByteArray} {r : Int} {u : Bool} {m : Nat} {regs : Nat → Int} {kids : Nat → TT} : depth (.mk k nm r u m regs 1 kids) = 1 + depth (kids 0) := by
  have := depth_pos (kids 0)
  simp only [depth, maxF]; omega
theorem leftv_ge : ∀ (T : TT) (items : Int), rfits T = true → items - 21 * depth T ≤ leftv T items ∧ leftv T items ≤ items
  | .nul, items, h => by cases h
  | .mk k nm r u m regs n kids, items, h => by
    rcases rfits_cases h with ⟨_, rfl, rfl, _⟩ | ⟨_, rfl, rfl, hk, _⟩ | ⟨_, rfl, rfl, hk, _⟩ | ⟨_, h20, rfl, _⟩
    · have := depth_pos (.mk k nm r u 0 regs 0 kids)
      simp only [leftv, if_pos]; omega
    · have := leftv_ge (kids 0) (items - 1 - (0 : Nat)) hk
      rw [depth_one]; simp only [leftv]; rw [if_neg (by decide)]; omega
    · have := leftv_ge (kids 0) (items - 1 - (0 : Nat)) hk
      rw [depth_one]; simp only [leftv]; rw [if_neg (by decide)]; omega
    · have := depth_pos (.mk k nm r u m regs 0 kids)
      simp only [leftv, if_pos]; omega
theorem left_ok (g : Gl) : ∀ (T : TT) (levels items : Int), rfits T = true → depth T ≤ levels → levels ≤ 65536 → 21 * depth T < items → items ≤ 1048576 → PureCall (XX g) 56 [.agg T.cells, .lit (.int .i64 levels), .lit (.int .i64 items)] (.lit (.int .i64 (leftv T items)))
  | .nul, _, _, h, _, _, _, _ => by cases h
  | .mk k nm r u m regs n kids, levels, items, h, hl1, hl2, hi1, hi2 => by
    have hdp := depth_pos (.mk k nm r u m regs n kids)
    have hn : n = 0 ∨ (n = 1 ∧ m = 0 ∧ rfits (kids 0) = true) := by
      rcases rfits_cases h with ⟨_, rfl, rfl, _⟩ | ⟨_, rfl, rfl, hk, _⟩ | ⟨_, rfl, rfl, hk, _⟩ | ⟨_, h20, rfl, _⟩
      · exact .inl rfl
      · exact .inr ⟨rfl, rfl, hk⟩
      · exact .inr ⟨rfl, rfl, hk⟩
      · exact .inl rfl
    have hm : m ≤ 20 := by rcases rfits_cases h with ⟨_, rfl, rfl, _⟩ | ⟨_, rfl, rfl, hk, _⟩ | ⟨_, rfl, rfl, hk, _⟩ | ⟨_, h20, rfl, _⟩ <;> omega
    have hw : max 0 (IntKind.i64.wrap (IntKind.i64.wrap (items - 1) - (m : Nat))) = items - 1 - m := by rw [wrap_id (z := items - 1) (by omega) (by omega), wrap_id (by omega) (by omega)]; omega
    have hwl : IntKind.i64.wrap (levels - 1) = levels - 1 := wrap_id (by omega) (by omega)
    intro M
    refine SimCall.of_body (fn := f56) func56 (by decide) ?_
    rcases hn with rfl | ⟨rfl, rfl, hk⟩
    · conv => whnf
      repeat' (first | (refine Need.mk rfl ?_; conv => whnf) | (refine Need.mk (by decide) ?_; conv => whnf) | (refine Need.mk (of_decide_eq_true rfl) ?_; conv => whnf) | (refine Need.mk (by omega) ?_; conv => whnf) | (refine Need.mk ⟨rfl, by omega, by omega⟩ ?_; conv => whnf) | (refine Need.mk ⟨rfl, rfl⟩ ?_; conv => whnf) | (refine Need.mk ⟨rfl, rfl, rfl, by simp⟩ ?_; conv => whnf) | (refine Need.mk ⟨rfl, rfl, Nat.le_refl _⟩ ?_; conv => whnf) | (refine Need.mk ⟨by omega, by omega⟩ ?_; conv => whnf) | (refine Need.mk ⟨rfl, rfl, by omega⟩ ?_; conv => whnf) | (refine Need.mk ⟨rfl, by omega⟩ ?_; conv => whnf) | (refine LoopK.rounds 3 ?_; conv => whnf) | (refine Br.intro (fun h => ?_) (fun h => ?_) <;> ((try simp at h) <;> (conv => whnf))))
      · exfalso; omega
      · exact ⟨congrArg (fun z => AV.lit (.int .i64 z)) hw, rfl⟩
    · have hkid : PureCall (XX g) 56 [.agg (kids 0).cells, .lit (.int .i64 (IntKind.i64.wrap (levels - 1))), .lit (.int .i64 (max 0 (IntKind.i64.wrap (IntKind.i64.wrap (items - 1) - ((0 : Nat) : Int)))))] (.lit (.int .i64 (leftv (kids 0) (items - 1 - (0 : Nat))))) := by
        rw [hwl, hw]
        exact left_ok g (kids 0) (levels - 1) (items - 1 - (0 : Nat)) hk (by rw [depth_one] at hl1; omega) (by omega) (by rw [depth_one] at hi1; omega) (by omega)
      conv => whnf
      refine Br.intro (fun h1 => ?_) (fun h1 => ?_)
      · exfalso; simp at h1; omega
      · conv => whnf
        repeat (first | (refine Need.mk rfl ?_; conv => whnf) | (refine Need.mk (by decide) ?_; conv => whnf) | (refine Need.mk (of_decide_eq_true rfl) ?_; conv => whnf) | (refine Need.mk (by omega) ?_; conv => whnf) | (refine Need.mk ⟨rfl, by omega, by omega⟩ ?_; conv => whnf) | (refine Need.mk ⟨rfl, rfl⟩ ?_; conv => whnf) | (refine Need.mk ⟨rfl, rfl, rfl, by simp⟩ ?_; conv => whnf) | (refine Need.mk ⟨rfl, rfl, Nat.le_refl _⟩ ?_; conv => whnf) | (refine Need.mk ⟨by omega, by omega⟩ ?_; conv => whnf) | (refine Need.mk ⟨rfl, rfl, by omega⟩ ?_; conv => whnf) | (refine Need.mk ⟨rfl, by omega⟩ ?_; conv => whnf) | (refine LoopK.rounds 3 ?_; conv => whnf))
        refine Br.intro (fun h2 => ?_) (fun h2 => ?_)
        · exfalso
          have h3 : max 0 (IntKind.i64.wrap (IntKind.i64.wrap (items - 1) - ((0 : Nat) : Int))) = 0 := of_decide_eq_true h2
          rw [hw] at h3
          omega
        · conv => whnf
          repeat (first | (refine Need.mk rfl ?_; conv => whnf) | (refine Need.mk (by decide) ?_; conv => whnf) | (refine Need.mk (of_decide_eq_true rfl) ?_; conv => whnf) | (refine Need.mk (by omega) ?_; conv => whnf) | (refine Need.mk ⟨rfl, by omega, by omega⟩ ?_; conv => whnf) | (refine Need.mk ⟨rfl, rfl⟩ ?_; conv => whnf) | (refine Need.mk ⟨rfl, rfl, rfl, by simp⟩ ?_; conv => whnf) | (refine Need.mk ⟨rfl, rfl, Nat.le_refl _⟩ ?_; conv => whnf) | (refine Need.mk ⟨by omega, by omega⟩ ?_; conv => whnf) | (refine Need.mk ⟨rfl, rfl, by omega⟩ ?_; conv => whnf) | (refine Need.mk ⟨rfl, by omega⟩ ?_; conv => whnf) | (refine hkid.use rfl rfl ?_; conv => whnf))
          exact ⟨rfl, rfl⟩
/-- There is an end to a right type. -/
theorem ends_ok (g : Gl) (T : TT) (h : rfits T = true) (hd : depth T ≤ 60) : PureCall (XX g) 41 [.agg T.cells] (.lit (.bool true)) := by
  have hge := (leftv_ge T 1048576 h).1
  intro M
  refine SimCall.of_body (fn := f41) func41 (by decide) ?_
  conv => whnf
  repeat (first | (refine Need.mk rfl ?_; conv => whnf) | (refine Need.mk (by decide) ?_; conv => whnf) | (refine Need.mk (of_decide_eq_true rfl) ?_; conv => whnf) | (refine Need.mk (by omega) ?_; conv => whnf) | (refine Need.mk ⟨rfl, by omega, by omega⟩ ?_; conv => whnf) | (refine Need.mk ⟨rfl, rfl⟩ ?_; conv => whnf) | (refine Need.mk ⟨rfl, rfl, rfl, by simp⟩ ?_; conv => whnf) | (refine Need.mk ⟨rfl, rfl, Nat.le_refl _⟩ ?_; conv => whnf) | (refine Need.mk ⟨by omega, by omega⟩ ?_; conv => whnf) | (refine Need.mk ⟨rfl, rfl, by omega⟩ ?_; conv => whnf) | (refine Need.mk ⟨rfl, by omega⟩ ?_; conv => whnf) | (refine (left_ok g T 65536 1048576 h (by omega) (by decide) (by omega) (by decide)).use rfl rfl ?_; conv => whnf))
  exact ⟨congrArg (fun b => AV.lit (.bool b)) (decide_eq_true (by omega)), rfl⟩
end Go.Proofs.Kd

namespace Go.Proofs.Kd
open Go Go.Proofs.De Go.Proofs.Tryd
set_option maxRecDepth 100000
set_option maxHeartbeats 4000000

def erase : TT → TT
  | .nul => .nul
  | .mk k nm r u m _ n kids => .mk k nm (if k = 4 then 0 else r) u m (fun _ => 0) n fun i => erase (kids i)

theorem zero_ok (g : Gl) (r : Int) : PureCall (XX g) 38 [.lit (.int .i64 r)] (.lit (.int .i64 0)) := by
  intro M
  refine SimCall.of_body (fn := f38) func38 (by decide) ?_
  conv => whnf
  exact ⟨rfl, rfl⟩
theorem anewE_leaf (g : Gl) (k : Int) (hk : k = 1 ∨ k = 2 ∨ k = 3) (nm : ByteArray) (r : Int) (u : Bool) (regs : Nat → Int) (kids : Nat → TT) :
    PureCall (XX g) 54 [.agg (TT.mk k nm r u 0 regs 0 kids).cells, .fn 38 []] (.agg (erase (.mk k nm r u 0 regs 0 kids)).cells) := by
  refine PureCall.frz fun M => ?_
  refine SimCall.of_body (fn := f54) func54 (by decide) ?_
  rcases hk with rfl | rfl | rfl
  all_goals
    conv => whnf
    repeat (first | (refine Need.mk rfl ?_; conv => whnf) | (refine Need.mk (by decide) ?_; conv => whnf) | (refine Need.mk (of_decide_eq_true rfl) ?_; conv => whnf) | (refine Need.mk (by omega) ?_; conv => whnf) | (refine Need.mk ⟨rfl, by omega, by omega⟩ ?_; conv => whnf) | (refine Need.mk ⟨rfl, rfl⟩ ?_; conv => whnf) | (refine Need.mk ⟨rfl, rfl, rfl, by simp⟩ ?_; conv => whnf) | (refine Need.mk ⟨rfl, rfl, Nat.le_refl _⟩ ?_; conv => whnf) | (refine Need.mk ⟨by omega, by omega⟩ ?_; conv => whnf) | (refine Need.mk ⟨rfl, rfl, by omega⟩ ?_; conv => whnf) | (refine Need.mk ⟨rfl, by omega⟩ ?_; conv => whnf) | (refine LoopK.rounds 3 ?_; conv => whnf))
    refine ⟨rfl, ?_⟩
    conv => whnf
    exact ⟨⟨.refl _, .refl _, .refl _, .refl _, .nil _ _, .nil _ _, trivial⟩, rfl⟩
theorem anewE_one (g : Gl) (k : Int) (hk : k = 4 ∨ k = 5 ∨ k = 6) (nm : ByteArray) (r : Int) (u : Bool) (regs : Nat → Int) (kids : Nat → TT) (hkid : PureCall (XX g) 54 [.agg (kids 0).cells, .fn 38 []] (.agg (erase (kids 0)).cells)) :
    PureCall (XX g) 54 [.agg (TT.mk k nm r u 0 regs 1 kids).cells, .fn 38 []] (.agg (erase (.mk k nm r u 0 regs 1 kids)).cells) := by
  refine PureCall.frz fun M => ?_
  refine SimCall.of_body (fn := f54) func54 (by decide) ?_
  rcases hk with rfl | rfl | rfl
  all_goals
    conv => whnf
    repeat (first | (refine Need.mk rfl ?_; conv => whnf) | (refine Need.mk (by decide) ?_; conv => whnf) | (refine Need.mk (of_decide_eq_true rfl) ?_; conv => whnf) | (refine Need.mk (by omega) ?_; conv => whnf) | (refine Need.mk ⟨rfl, by omega, by omega⟩ ?_; conv => whnf) | (refine Need.mk ⟨rfl, rfl⟩ ?_; conv => whnf) | (refine Need.mk ⟨rfl, rfl, rfl, by simp⟩ ?_; conv => whnf) | (refine Need.mk ⟨rfl, rfl, Nat.le_refl _⟩ ?_; conv => whnf) | (refine Need.mk ⟨by omega, by omega⟩ ?_; conv => whnf) | (refine Need.mk ⟨rfl, rfl, by omega⟩ ?_; conv => whnf) | (refine Need.mk ⟨rfl, by omega⟩ ?_; conv => whnf) | (refine LoopK.rounds 3 ?_; conv => whnf) | (refine (zero_ok g r).use rfl rfl ?_; conv => whnf) | (refine hkid.use rfl rfl ?_; conv => whnf) | (refine CellsK.mk ⟨_, rfl, ?_⟩; conv => whnf))
    refine ⟨rfl, ?_⟩
    conv => whnf
    repeat (first | (refine Need.mk (of_decide_eq_true rfl) ?_; conv => whnf))
    exact ⟨⟨.refl _, .refl _, .refl _, .refl _, .nil _ _, rows1 ⟨.refl _, .refl _, .refl _, .refl _, .refl _, .refl _, trivial⟩ rfl, trivial⟩, rfl⟩
theorem anewE_data (g : Gl) (nm : ByteArray) (r : Int) (u : Bool) (m : Nat) (hm : m ≤ 20) (regs : Nat → Int) (kids : Nat → TT) :
    PureCall (XX g) 54 [.agg (TT.mk 7 nm r u m regs 0 kids).cells, .fn 38 []] (.agg (erase (.mk 7 nm r u m regs 0 kids)).cells) := by
  refine PureCall.frz fun M => ?_
  refine SimCall.of_body (fn := f54) func54 (by decide) ?_
  conv => whnf
  repeat (first | (refine Need.mk rfl ?_; conv => whnf) | (refine Need.mk (by decide) ?_; conv => whnf) | (refine Need.mk (of_decide_eq_true rfl) ?_; conv => whnf) | (refine Need.mk (by omega) ?_; conv => whnf) | (refine Need.mk ⟨rfl, by omega, by omega⟩ ?_; conv => whnf) | (refine Need.mk ⟨rfl, rfl⟩ ?_; conv => whnf) | (refine Need.mk ⟨rfl, rfl, rfl, by simp⟩ ?_; conv => whnf) | (refine Need.mk ⟨rfl, rfl, Nat.le_refl _⟩ ?_; conv => whnf) | (refine Need.mk ⟨by omega, by omega⟩ ?_; conv => whnf) | (refine Need.mk ⟨rfl, rfl, by omega⟩ ?_; conv => whnf) | (refine Need.mk ⟨rfl, by omega⟩ ?_; conv => whnf))
  refine LoopK.ix (fun j : Nat => ⟨mkE 52 [(1, .fn 38 []), (2, .bptr 1 0), (4, .bptr 2 0), (5, .slc 3 1 0 j), (20, .rslc 1 m (regRow regs)), (21, .lit (.int .i64 (m : Nat))), (22, .lit (.int .i64 (j : Nat)))],
      [.ext M, .box (TT.mk 7 nm r u m regs 0 kids).cells, .box [.lit (.int .i64 0), .lit (.string ⟨#[]⟩), .lit (.int .i64 0), .lit (.bool false), .lit (.slice none 0 0), .lit (.slice none 0 0)], .row 3 1 (List.replicate j [.lit (.int .i64 0)])], 1⟩)
    (fun j => j ≤ m) (fun j => m - j) 0 ?_ (Nat.zero_le _) ?_
  · refine (Weak.nil 5 3 1 rfl).trans ?_
    exact Weak.slots rfl ⟨rfl, rfl, rfl, rfl, rfl, rfl, rfl, trivial⟩ rfl rfl
  · intro j hj
    conv => whnf
    refine Br.intro (fun h5 => ?_) (fun h5 => ?_)
    · simp at h5
      conv => whnf
      repeat (first | (refine Need.mk rfl ?_; conv => whnf) | (refine Need.mk (by decide) ?_; conv => whnf) | (refine Need.mk (of_decide_eq_true rfl) ?_; conv => whnf) | (refine Need.mk (by omega) ?_; conv => whnf) | (refine Need.mk ⟨rfl, by omega, by omega⟩ ?_; conv => whnf) | (refine Need.mk ⟨rfl, rfl⟩ ?_; conv => whnf) | (refine Need.mk ⟨rfl, rfl, rfl, by simp⟩ ?_; conv => whnf) | (refine Need.mk ⟨rfl, rfl, Nat.le_refl _⟩ ?_; conv => whnf) | (refine Need.mk ⟨by omega, by omega⟩ ?_; conv => whnf) | (refine Need.mk ⟨rfl, rfl, by omega⟩ ?_; conv => whnf) | (refine Need.mk ⟨rfl, by omega⟩ ?_; conv => whnf) | (refine (zero_ok g (regs (j : Int).toNat)).use rfl rfl ?_; conv => whnf) | (refine CellsK.mk ⟨_, rfl, ?_⟩; conv => whnf) | (refine Need.mk ⟨rfl, rfl, rfl, by simp⟩ ?_; conv => whnf) | (refine Need.mk ⟨Nat.le_trans (show j + 1 ≤ 1000000 by omega) (by decide), (show (j + 1) * 8 ≤ _ by omega)⟩ ?_; conv => whnf))
      have hw4 : IntKind.i64.wrap ((j : Int) + 1) = ((j + 1 : Nat) : Int) := by rw [wrap_id (by omega) (by omega)]; omega
      have hrows : List.take j (List.replicate j [AV.lit (.int .i64 0)]) ++ List.take 1 (List.drop 0 [[AV.lit (.int .i64 0)]]) = List.replicate (j + 1) [AV.lit (.int .i64 0)] := by
        rw [List.take_of_length_le (by simp), List.replicate_succ']; rfl
      refine ⟨j + 1, h5, (show m - (j + 1) < m - j by omega), Weak.nslots [0, 1, 2, 5] rfl rfl rfl ⟨rfl, rfl, rfl, rfl, rfl, rfl, congrArg (fun z => AV.lit (.int .i64 z)) hw4, trivial⟩ ?_ rfl⟩
      exact congrArg (fun r => [Ob.ext M, _, _, Ob.row 3 1 r]) hrows
    · simp at h5
      obtain rfl : j = m := by omega
      conv => whnf
      repeat (first | (refine Need.mk rfl ?_; conv => whnf) | (refine Need.mk (by decide) ?_; conv => whnf) | (refine Need.mk (of_decide_eq_true rfl) ?_; conv => whnf) | (refine Need.mk (by omega) ?_; conv => whnf) | (refine Need.mk ⟨rfl, by omega, by omega⟩ ?_; conv => whnf) | (refine Need.mk ⟨rfl, rfl⟩ ?_; conv => whnf) | (refine Need.mk ⟨rfl, rfl, rfl, by simp⟩ ?_; conv => whnf) | (refine Need.mk ⟨rfl, rfl, Nat.le_refl _⟩ ?_; conv => whnf) | (refine Need.mk ⟨by omega, by omega⟩ ?_; conv => whnf) | (refine Need.mk ⟨rfl, rfl, by omega⟩ ?_; conv => whnf) | (refine Need.mk ⟨rfl, by omega⟩ ?_; conv => whnf) | (refine LoopK.rounds 3 ?_; conv => whnf))
      have hr : ∀ i, i < j → (List.replicate j [AV.lit (.int .i64 0)]).getD (0 + i) [] = [AV.lit (.int .i64 0)] := by
        intro i hi
        simp [hi]
      refine ⟨rfl, ?_⟩
      conv => whnf
      refine Need.mk ⟨rfl, by simp⟩ ?_
      conv => whnf
      refine ⟨⟨.refl _, .refl _, .refl _, .refl _, rowsL (fun i hi => ?_) (fun i hi => ?_), .nil _ _, trivial⟩, rfl⟩
      · show leI ((List.replicate j [AV.lit (.int .i64 0)]).getD (0 + i) []) _
        rw [hr i hi]
        exact ⟨.refl _, trivial⟩
      · show ((List.replicate j [AV.lit (.int .i64 0)]).getD (0 + i) []).length = 1
        rw [hr i hi]; rfl
theorem anewE_ok (g : Gl) : ∀ (T : TT), rfits T = true → PureCall (XX g) 54 [.agg T.cells, .fn 38 []] (.agg (erase T).cells)
  | .nul, h => by cases h
  | .mk k nm r u m regs n kids, h => by
    rcases rfits_cases h with ⟨h1, rfl, rfl, _⟩ | ⟨h1, rfl, rfl, hk, _⟩ | ⟨h1, rfl, rfl, hk, _⟩ | ⟨rfl, h20, rfl, _⟩
    · exact anewE_leaf g k h1 nm r u regs kids
    · exact anewE_one g k (.inl h1) nm r u regs kids (anewE_ok g (kids 0) hk)
    · exact anewE_one g k (.inr h1) nm r u regs kids (anewE_ok g (kids 0) hk)
    · exact anewE_data g nm r u m h20 regs kids
/-- Erase. -/
theorem kerase_ok (g : Gl) (T : TT) (h : rfits T = true) (hd : depth T ≤ 60) : PureCall (XX g) 22 [.agg T.cells] (.agg (erase T).cells) := by
  have hret : PureCall (XX g) 35 [.agg T.cells, .fn 38 []] (.agg (erase T).cells) := by
    intro M
    refine SimCall.of_body (fn := f35) func35 (by decide) ?_
    conv => whnf
    repeat (first | (refine Need.mk rfl ?_; conv => whnf) | (refine Need.mk (by decide) ?_; conv => whnf) | (refine Need.mk (of_decide_eq_true rfl) ?_; conv => whnf) | (refine Need.mk (by omega) ?_; conv => whnf) | (refine Need.mk ⟨rfl, by omega, by omega⟩ ?_; conv => whnf) | (refine Need.mk ⟨rfl, rfl⟩ ?_; conv => whnf) | (refine Need.mk ⟨rfl, rfl, rfl, by simp⟩ ?_; conv => whnf) | (refine Need.mk ⟨rfl, rfl, Nat.le_refl _⟩ ?_; conv => whnf) | (refine Need.mk ⟨by omega, by omega⟩ ?_; conv => whnf) | (refine Need.mk ⟨rfl, rfl, by omega⟩ ?_; conv => whnf) | (refine Need.mk ⟨rfl, by omega⟩ ?_; conv => whnf) | (refine (ends_ok g T h hd).use rfl rfl ?_; conv => whnf) | (refine (anewE_ok g T h).use rfl rfl ?_; conv => whnf))
    exact ⟨rfl, rfl⟩
  intro M
  refine SimCall.of_body (fn := f22) func22 (by decide) ?_
  conv => whnf
  repeat (first | (refine Need.mk rfl ?_; conv => whnf) | (refine Need.mk (by decide) ?_; conv => whnf) | (refine Need.mk (of_decide_eq_true rfl) ?_; conv => whnf) | (refine Need.mk (by omega) ?_; conv => whnf) | (refine Need.mk ⟨rfl, by omega, by omega⟩ ?_; conv => whnf) | (refine Need.mk ⟨rfl, rfl⟩ ?_; conv => whnf) | (refine Need.mk ⟨rfl, rfl, rfl, by simp⟩ ?_; conv => whnf) | (refine Need.mk ⟨rfl, rfl, Nat.le_refl _⟩ ?_; conv => whnf) | (refine Need.mk ⟨by omega, by omega⟩ ?_; conv => whnf) | (refine Need.mk ⟨rfl, rfl, by omega⟩ ?_; conv => whnf) | (refine Need.mk ⟨rfl, by omega⟩ ?_; conv => whnf) | (refine hret.use rfl rfl ?_; conv => whnf))
  exact ⟨rfl, rfl⟩
end Go.Proofs.Kd

namespace Go.Proofs.Kd
open Go Go.Proofs.De Go.Proofs.Tryd
set_option maxRecDepth 100000
set_option maxHeartbeats 4000000

/-- The next one, from place j on. -/
def wReg (w : Nat → Int) (q : Nat) (r : Int) (j : Nat) : Int := if j < q then w j else r
def wStep (k : Int) (q j : Nat) : Nat := if k = 4 then min (j + 1) q else j
def withT (w : Nat → Int) (q : Nat) : TT → Nat → TT
  | .nul, _ => .nul
  | .mk k nm r u m regs n kids, j => .mk k nm (if k = 4 then wReg w q r j else r) u m (fun i => wReg w q (regs i) (wStep k q j + i)) n fun i => withT w q (kids i) (min (wStep k q j + m) q)
def wNext (q : Nat) : TT → Nat → Nat
  | .nul, j => j
  | .mk k _ _ _ m _ n kids, j => if n = 0 then min (wStep k q j + m) q else wNext q (kids 0) (min (wStep k q j + m) q)
/-- What the function that is handed down holds. -/
def wHeap (w : Nat → Int) (q j : Nat) : List Ob := [.box [.lit (.int .i64 (j : Nat))], .box [.rslc 1 q (regRow w)]]
def wFn : AV := .fn 39 [.bptr 1 0, .bptr 2 0]
theorem other_ok (g : Gl) (w : Nat → Int) (q j : Nat) (hq : q ≤ 1000000) (hj : j ≤ q) (r : Int) : HeapCall (XX g) 39 [.lit (.int .i64 r), .bptr 1 0, .bptr 2 0] (wHeap w q j) (.lit (.int .i64 (wReg w q r j))) (wHeap w q (min (j + 1) q)) := by
  have hw : IntKind.i64.wrap ((j : Int) + 1) = ((j + 1 : Nat) : Int) := by rw [wrap_id (by omega) (by omega)]; omega
  intro M
  refine SimCall.of_body (fn := f39) func39 (by decide) ?_
  conv => whnf
  repeat' (first | (refine Need.mk rfl ?_; conv => whnf) | (refine Need.mk (by decide) ?_; conv => whnf) | (refine Need.mk (of_decide_eq_true rfl) ?_; conv => whnf) | (refine Need.mk (by omega) ?_; conv => whnf) | (refine Need.mk ⟨rfl, by omega, by omega⟩ ?_; conv => whnf) | (refine Need.mk ⟨rfl, rfl⟩ ?_; conv => whnf) | (refine Need.mk ⟨rfl, rfl, rfl, by simp⟩ ?_; conv => whnf) | (refine Need.mk ⟨rfl, rfl, Nat.le_refl _⟩ ?_; conv => whnf) | (refine Need.mk ⟨by omega, by omega⟩ ?_; conv => whnf) | (refine Need.mk ⟨rfl, rfl, by omega⟩ ?_; conv => whnf) | (refine Need.mk ⟨rfl, by omega⟩ ?_; conv => whnf) | (refine Br.intro (fun h' => ?_) (fun h' => ?_) <;> ((try simp at h') <;> (conv => whnf))))
  · have hlt : j < q := by omega
    refine ⟨congrArg (fun z => AV.lit (.int .i64 z)) (by simp [wReg, hlt]), [], ?_⟩
    rw [show min (j + 1) q = j + 1 by omega]
    exact congrArg (fun z => [Ob.ext M, Ob.box [AV.lit (.int .i64 z)], _]) hw
  · have hlt : ¬ j < q := by omega
    refine ⟨congrArg (fun z => AV.lit (.int .i64 z)) (by simp [wReg, hlt]), [], ?_⟩
    rw [show min (j + 1) q = j by omega]
    rfl
theorem anewW_leaf (g : Gl) (w : Nat → Int) (q j : Nat) (hj : j ≤ q) (k : Int) (hk : k = 1 ∨ k = 2 ∨ k = 3) (nm : ByteArray) (r : Int) (u : Bool) (regs : Nat → Int) (kids : Nat → TT) :
    HeapCall (XX g) 54 [.agg (TT.mk k nm r u 0 regs 0 kids).cells, wFn] (wHeap w q j) (.agg (withT w q (.mk k nm r u 0 regs 0 kids) j).cells) (wHeap w q (wNext q (.mk k nm r u 0 regs 0 kids) j)) := by
  intro M
  have hx : wNext q (.mk k nm r u 0 regs 0 kids) j = j := by
    have h4 : ¬ k = 4 := by omega
    simp [wNext, wStep, h4]; omega
  rw [hx]
  refine SimCall.frz ?_
  refine SimCall.of_body (fn := f54) func54 (by decide) ?_
  rcases hk with rfl | rfl | rfl
  all_goals
    conv => whnf
    repeat (first | (refine Need.mk rfl ?_; conv => whnf) | (refine Need.mk (by decide) ?_; conv => whnf) | (refine Need.mk (of_decide_eq_true rfl) ?_; conv => whnf) | (refine Need.mk (by omega) ?_; conv => whnf) | (refine Need.mk ⟨rfl, by omega, by omega⟩ ?_; conv => whnf) | (refine Need.mk ⟨rfl, rfl⟩ ?_; conv => whnf) | (refine Need.mk ⟨rfl, rfl, rfl, by simp⟩ ?_; conv => whnf) | (refine Need.mk ⟨rfl, rfl, Nat.le_refl _⟩ ?_; conv => whnf) | (refine Need.mk ⟨by omega, by omega⟩ ?_; conv => whnf) | (refine Need.mk ⟨rfl, rfl, by omega⟩ ?_; conv => whnf) | (refine Need.mk ⟨rfl, by omega⟩ ?_; conv => whnf) | (refine LoopK.rounds 3 ?_; conv => whnf))
    refine ⟨rfl, ?_⟩
    conv => whnf
    exact ⟨⟨.refl _, .refl _, .refl _, .refl _, .nil _ _, .nil _ _, trivial⟩, _, rfl⟩
theorem anewW_one (g : Gl) (w : Nat → Int) (q j : Nat) (hq : q ≤ 1000000) (hj : j ≤ q) (k : Int) (hk : k = 4 ∨ k = 5 ∨ k = 6) (nm : ByteArray) (r : Int) (u : Bool) (regs : Nat → Int) (kids : Nat → TT)
    (hkid : HeapCall (XX g) 54 [.agg (kids 0).cells, wFn] (wHeap w q (wStep k q j)) (.agg (withT w q (kids 0) (wStep k q j)).cells) (wHeap w q (wNext q (kids 0) (wStep k q j)))) :
    HeapCall (XX g) 54 [.agg (TT.mk k nm r u 0 regs 1 kids).cells, wFn] (wHeap w q j) (.agg (withT w q (.mk k nm r u 0 regs 1 kids) j).cells) (wHeap w q (wNext q (.mk k nm r u 0 regs 1 kids) j)) := by
  have hs : min (wStep k q j + 0) q = wStep k q j := by unfold wStep; split <;> omega
  have hx : wNext q (.mk k nm r u 0 regs 1 kids) j = wNext q (kids 0) (wStep k q j) := by
    simp only [wNext]; rw [if_neg (by decide), hs]
  have hy : (withT w q (.mk k nm r u 0 regs 1 kids) j).cells = (TT.mk k nm (if k = 4 then wReg w q r j else r) u 0 (fun i => wReg w q (regs i) (wStep k q j + i)) 1 fun i => withT w q (kids i) (wStep k q j)).cells := by
    simp only [withT, hs]
  rw [hx, hy]
  intro M
  refine SimCall.frz ?_
  refine SimCall.of_body (fn := f54) func54 (by decide) ?_
  rcases hk with rfl | rfl | rfl
  all_goals
    conv => whnf
    repeat (first | (refine Need.mk rfl ?_; conv => whnf) | (refine Need.mk (by decide) ?_; conv => whnf) | (refine Need.mk (of_decide_eq_true rfl) ?_; conv => whnf) | (refine Need.mk (by omega) ?_; conv => whnf) | (refine Need.mk ⟨rfl, by omega, by omega⟩ ?_; conv => whnf) | (refine Need.mk ⟨rfl, rfl⟩ ?_; conv => whnf) | (refine Need.mk ⟨rfl, rfl, rfl, by simp⟩ ?_; conv => whnf) | (refine Need.mk ⟨rfl, rfl, Nat.le_refl _⟩ ?_; conv => whnf) | (refine Need.mk ⟨by omega, by omega⟩ ?_; conv => whnf) | (refine Need.mk ⟨rfl, rfl, by omega⟩ ?_; conv => whnf) | (refine Need.mk ⟨rfl, by omega⟩ ?_; conv => whnf) | (refine LoopK.rounds 3 ?_; conv => whnf) | (refine HeapCall.use [1, 2] (other_ok g w q j hq hj r) rfl rfl (by exact Nat.le_refl 2) ?_; conv => whnf) | (refine HeapCall.use [1, 2] hkid rfl rfl (by exact Nat.le_refl 2) ?_; conv => whnf) | (refine CellsK.mk ⟨_, rfl, ?_⟩; conv => whnf))
    refine ⟨rfl, ?_⟩
    conv => whnf
    repeat (first | (refine Need.mk (of_decide_eq_true rfl) ?_; conv => whnf))
    exact ⟨⟨.refl _, .refl _, .refl _, .refl _, .nil _ _, rows1 ⟨.refl _, .refl _, .refl _, .refl _, .refl _, .refl _, trivial⟩ rfl, trivial⟩, _, rfl⟩
def rowsW (w : Nat → Int) (q : Nat) (regs : Nat → Int) (j i : Nat) : List (List AV) := (List.range i).map fun a => [.lit (.int .i64 (wReg w q (regs a) (j + a)))]
theorem wReg_min (w : Nat → Int) (q : Nat) (r : Int) (a : Nat) : wReg w q r (min a q) = wReg w q r a := by
  unfold wReg
  by_cases h : a < q
  · rw [show min a q = a by omega]
  · rw [if_neg (by omega), if_neg h]
theorem anewW_data (g : Gl) (w : Nat → Int) (q j : Nat) (hq : q ≤ 1000000) (hj : j ≤ q) (nm : ByteArray) (r : Int) (u : Bool) (m : Nat) (hm : m ≤ 20) (regs : Nat → Int) (kids : Nat → TT) :
    HeapCall (XX g) 54 [.agg (TT.mk 7 nm r u m regs 0 kids).cells, wFn] (wHeap w q j) (.agg (withT w q (.mk 7 nm r u m regs 0 kids) j).cells) (wHeap w q (wNext q (.mk 7 nm r u m regs 0 kids) j)) := by
  have hx : wNext q (.mk 7 nm r u m regs 0 kids) j = min (j + m) q := by simp [wNext, wStep]
  have hy : (withT w q (.mk 7 nm r u m regs 0 kids) j).cells = (TT.mk 7 nm r u m (fun i => wReg w q (regs i) (j + i)) 0 fun i => withT w q (kids i) (min (wStep 7 q j + m) q)).cells := by
    simp [withT, wStep]
  rw [hx, hy]
  intro M
  refine SimCall.frz ?_
  refine SimCall.of_body (fn := f54) func54 (by decide) ?_
  conv => whnf
  repeat (first | (refine Need.mk rfl ?_; conv => whnf) | (refine Need.mk (by decide) ?_; conv => whnf) | (refine Need.mk (of_decide_eq_true rfl) ?_; conv => whnf) | (refine Need.mk (by omega) ?_; conv => whnf) | (refine Need.mk ⟨rfl, by omega, by omega⟩ ?_; conv => whnf) | (refine Need.mk ⟨rfl, rfl⟩ ?_; conv => whnf) | (refine Need.mk ⟨rfl, rfl, rfl, by simp⟩ ?_; conv => whnf) | (refine Need.mk ⟨rfl, rfl, Nat.le_refl _⟩ ?_; conv => whnf) | (refine Need.mk ⟨by omega, by omega⟩ ?_; conv => whnf) | (refine Need.mk ⟨rfl, rfl, by omega⟩ ?_; conv => whnf) | (refine Need.mk ⟨rfl, by omega⟩ ?_; conv => whnf))
  refine LoopK.ix (fun i : Nat => ⟨mkE 52 [(1, wFn), (2, .bptr 3 0), (4, .bptr 4 0), (5, .slc 5 1 0 i), (20, .rslc 1 m (regRow regs)), (21, .lit (.int .i64 (m : Nat))), (22, .lit (.int .i64 (i : Nat)))],
      [.ext M, .box [.lit (.int .i64 ((min (j + i) q : Nat) : Int))], .box [.rslc 1 q (regRow w)], .box (TT.mk 7 nm r u m regs 0 kids).cells, .box [.lit (.int .i64 0), .lit (.string ⟨#[]⟩), .lit (.int .i64 0), .lit (.bool false), .lit (.slice none 0 0), .lit (.slice none 0 0)], .row 3 1 (rowsW w q regs j i)], 3⟩)
    (fun i => i ≤ m) (fun i => m - i) 0 ?_ (Nat.zero_le _) ?_
  · refine (Weak.nil 5 3 1 rfl).trans ?_
    have hj0 : (j : Int) = ((min (j + 0) q : Nat) : Int) := by omega
    exact Weak.slots rfl ⟨rfl, rfl, rfl, rfl, rfl, rfl, rfl, trivial⟩ (congrArg (fun z => [Ob.ext M, Ob.box [AV.lit (.int .i64 z)], _, _, _, _]) hj0) rfl
  · intro i hi
    conv => whnf
    refine Br.intro (fun h5 => ?_) (fun h5 => ?_)
    · simp at h5
      conv => whnf
      repeat (first | (refine Need.mk rfl ?_; conv => whnf) | (refine Need.mk (by decide) ?_; conv => whnf) | (refine Need.mk (of_decide_eq_true rfl) ?_; conv => whnf) | (refine Need.mk (by omega) ?_; conv => whnf) | (refine Need.mk ⟨rfl, by omega, by omega⟩ ?_; conv => whnf) | (refine Need.mk ⟨rfl, rfl⟩ ?_; conv => whnf) | (refine Need.mk ⟨rfl, rfl, rfl, by simp⟩ ?_; conv => whnf) | (refine Need.mk ⟨rfl, rfl, Nat.le_refl _⟩ ?_; conv => whnf) | (refine Need.mk ⟨by omega, by omega⟩ ?_; conv => whnf) | (refine Need.mk ⟨rfl, rfl, by omega⟩ ?_; conv => whnf) | (refine Need.mk ⟨rfl, by omega⟩ ?_; conv => whnf) | (refine HeapCall.use [1, 2] (other_ok g w q (min (j + i) q) hq (by omega) (regs (i : Int).toNat)) rfl rfl (by exact Nat.le_refl 2) ?_; conv => whnf) | (refine CellsK.mk ⟨_, rfl, ?_⟩; conv => whnf) | (refine Need.mk ⟨rfl, rfl, rfl, by simp [rowsW]⟩ ?_; conv => whnf) | (refine Need.mk ⟨Nat.le_trans (show i + 1 ≤ 1000000 by omega) (by decide), (show (i + 1) * 8 ≤ _ by omega)⟩ ?_; conv => whnf))
      have hw4 : IntKind.i64.wrap ((i : Int) + 1) = ((i + 1 : Nat) : Int) := by rw [wrap_id (by omega) (by omega)]; omega
      have hrows : List.take i (rowsW w q regs j i) ++ List.take 1 (List.drop 0 [[AV.lit (.int .i64 (wReg w q (regs (i : Int).toNat) (min (j + i) q)))]]) = rowsW w q regs j (i + 1) := by
        rw [List.take_of_length_le (by simp [rowsW]), wReg_min]
        simp only [rowsW, List.range_succ, List.map_append]
        rfl
      have hb : ((min (min (j + i) q + 1) q : Nat) : Int) = ((min (j + (i + 1)) q : Nat) : Int) := by omega
      refine ⟨i + 1, h5, (show m - (i + 1) < m - i by omega), Weak.nslots [0, 1, 2, 3, 4, 7] rfl rfl rfl ⟨rfl, rfl, rfl, rfl, rfl, rfl, congrArg (fun z => AV.lit (.int .i64 z)) hw4, trivial⟩ ?_ rfl⟩
      refine Eq.trans ?_ (congrArg (fun z => [Ob.ext M, Ob.box [AV.lit (.int .i64 z)], _, _, _, Ob.row 3 1 (rowsW w q regs j (i + 1))]) hb)
      exact congrArg (fun r => [Ob.ext M, _, _, _, _, Ob.row 3 1 r]) hrows
    · simp at h5
      obtain rfl : i = m := by omega
      conv => whnf
      repeat (first | (refine Need.mk rfl ?_; conv => whnf) | (refine Need.mk (by decide) ?_; conv => whnf) | (refine Need.mk (of_decide_eq_true rfl) ?_; conv => whnf) | (refine Need.mk (by omega) ?_; conv => whnf) | (refine Need.mk ⟨rfl, by omega, by omega⟩ ?_; conv => whnf) | (refine Need.mk ⟨rfl, rfl⟩ ?_; conv => whnf) | (refine Need.mk ⟨rfl, rfl, rfl, by simp⟩ ?_; conv => whnf) | (refine Need.mk ⟨rfl, rfl, Nat.le_refl _⟩ ?_; conv => whnf) | (refine Need.mk ⟨by omega, by omega⟩ ?_; conv => whnf) | (refine Need.mk ⟨rfl, rfl, by omega⟩ ?_; conv => whnf) | (refine Need.mk ⟨rfl, by omega⟩ ?_; conv => whnf) | (refine LoopK.rounds 3 ?_; conv => whnf))
      have hr : ∀ a, a < i → (rowsW w q regs j i).getD (0 + a) [] = [AV.lit (.int .i64 (wReg w q (regs a) (j + a)))] := by
        intro a ha
        simp [rowsW, List.getD_eq_getElem?_getD, ha]
      refine ⟨rfl, ?_⟩
      conv => whnf
      refine Need.mk ⟨rfl, by simp [rowsW]⟩ ?_
      conv => whnf
      refine ⟨⟨.refl _, .refl _, .refl _, .refl _, rowsL (fun a ha => ?_) (fun a ha => ?_), .nil _ _, trivial⟩, _, rfl⟩
      · show leI ((rowsW w q regs j i).getD (0 + a) []) _
        rw [hr a ha]
        exact ⟨.refl _, trivial⟩
      · show ((rowsW w q regs j i).getD (0 + a) []).length = 1
        rw [hr a ha]; rfl
theorem wStep_le (k : Int) (q j : Nat) (h : j ≤ q) : wStep k q j ≤ q := by unfold wStep; split <;> omega
theorem anewW_ok (g : Gl) (w : Nat → Int) (q : Nat) (hq : q ≤ 1000000) : ∀ (T : TT) (j : Nat), rfits T = true → j ≤ q → HeapCall (XX g) 54 [.agg T.cells, wFn] (wHeap w q j) (.agg (withT w q T j).cells) (wHeap w q (wNext q T j))
  | .nul, _, h, _ => by cases h
  | .mk k nm r u m regs n kids, j, h, hj => by
    rcases rfits_cases h with ⟨h1, rfl, rfl, _⟩ | ⟨h1, rfl, rfl, hk, _⟩ | ⟨h1, rfl, rfl, hk, _⟩ | ⟨rfl, h20, rfl, _⟩
    · exact anewW_leaf g w q j hj k h1 nm r u regs kids
    · exact anewW_one g w q j hq hj k (.inl h1) nm r u regs kids (anewW_ok g w q hq (kids 0) _ hk (wStep_le k q j hj))
    · exact anewW_one g w q j hq hj k (.inr h1) nm r u regs kids (anewW_ok g w q hq (kids 0) _ hk (wStep_le k q j hj))
    · exact anewW_data g w q j hq hj nm r u m h20 regs kids
/-- With. -/
theorem kwith_ok (g : Gl) (w : Nat → Int) (q : Nat) (hq : q ≤ 1000000) (T : TT) (h : rfits T = true) (hd : depth T ≤ 60) : PureCall (XX g) 25 [.agg T.cells, .rslc 1 q (regRow w)] (.agg (withT w q T 0).cells) := by
  have hret : HeapCall (XX g) 35 [.agg T.cells, wFn] (wHeap w q 0) (.agg (withT w q T 0).cells) (wHeap w q (wNext q T 0)) := by
    intro M
    refine SimCall.of_body (fn := f35) func35 (by decide) ?_
    conv => whnf
    repeat (first | (refine Need.mk rfl ?_; conv => whnf) | (refine Need.mk (by decide) ?_; conv => whnf) | (refine Need.mk (of_decide_eq_true rfl) ?_; conv => whnf) | (refine Need.mk (by omega) ?_; conv => whnf) | (refine Need.mk ⟨rfl, by omega, by omega⟩ ?_; conv => whnf) | (refine Need.mk ⟨rfl, rfl⟩ ?_; conv => whnf) | (refine Need.mk ⟨rfl, rfl, rfl, by simp⟩ ?_; conv => whnf) | (refine Need.mk ⟨rfl, rfl, Nat.le_refl _⟩ ?_; conv => whnf) | (refine Need.mk ⟨by omega, by omega⟩ ?_; conv => whnf) | (refine Need.mk ⟨rfl, rfl, by omega⟩ ?_; conv => whnf) | (refine Need.mk ⟨rfl, by omega⟩ ?_; conv => whnf) | (refine (ends_ok g T h hd).use rfl rfl ?_; conv => whnf) | (refine HeapCall.use [1, 2] (anewW_ok g w q hq T 0 h (Nat.zero_le _)) rfl rfl (by exact Nat.le_refl 2) ?_; conv => whnf))
    exact ⟨rfl, _, rfl⟩
  intro M
  refine SimCall.of_body (fn := f25) func25 (by decide) ?_
  conv => whnf
  repeat (first | (refine Need.mk rfl ?_; conv => whnf) | (refine Need.mk (by decide) ?_; conv => whnf) | (refine Need.mk (of_decide_eq_true rfl) ?_; conv => whnf) | (refine Need.mk (by omega) ?_; conv => whnf) | (refine Need.mk ⟨rfl, by omega, by omega⟩ ?_; conv => whnf) | (refine Need.mk ⟨rfl, rfl⟩ ?_; conv => whnf) | (refine Need.mk ⟨rfl, rfl, rfl, by simp⟩ ?_; conv => whnf) | (refine Need.mk ⟨rfl, rfl, Nat.le_refl _⟩ ?_; conv => whnf) | (refine Need.mk ⟨by omega, by omega⟩ ?_; conv => whnf) | (refine Need.mk ⟨rfl, rfl, by omega⟩ ?_; conv => whnf) | (refine Need.mk ⟨rfl, by omega⟩ ?_; conv => whnf) | (refine HeapCall.use [4, 2] hret rfl rfl (by exact Nat.le_refl 2) ?_; conv => whnf))
  exact ⟨rfl, rfl⟩
end Go.Proofs.Kd

namespace Go.Proofs.Kd
open Go Go.Proofs.De Go.Proofs.Tryd
set_option maxRecDepth 100000
set_option maxHeartbeats 4000000

def regsOf : TT → List Int
  | .nul => []
  | .mk k _ r _ m regs n kids => (if k = 4 then [r] else []) ++ (List.range m).map regs ++ (if n = 0 then [] else regsOf (kids 0))
def cL (L : List Int) : List (List AV) := L.map fun z => [.lit (.int .i64 z)]
def rHeap (L : List Int) : List Ob := [.box [.slc 2 1 0 L.length], .row 3 1 (cL L)]
def rOut (L : List Int) : List Ob := [.box [.slc 3 1 0 L.length], .none, .row 3 1 (cL L)]
def rFn : AV := .fn 36 [.bptr 1 0]
theorem cL_len (L : List Int) : (cL L).length = L.length := by simp [cL]
theorem out_ok (g : Gl) (L : List Int) (hL : L.length ≤ 100000) (r : Int) : HeapCall (XX g) 36 [.lit (.int .i64 r), .bptr 1 0] (rHeap L) (.lit (.int .i64 r)) (rOut (L ++ [r])) := by
  intro M
  refine SimCall.pick [(0, true), (1, true), (2, false), (4, true)] rfl rfl ?_
  refine SimCall.of_body (fn := f36) func36 (by decide) ?_
  conv => whnf
  repeat (first | (refine Need.mk rfl ?_; conv => whnf) | (refine Need.mk (by decide) ?_; conv => whnf) | (refine Need.mk (of_decide_eq_true rfl) ?_; conv => whnf) | (refine Need.mk (by omega) ?_; conv => whnf) | (refine Need.mk ⟨rfl, by omega, by omega⟩ ?_; conv => whnf) | (refine Need.mk ⟨rfl, rfl⟩ ?_; conv => whnf) | (refine Need.mk ⟨rfl, rfl, rfl, by simp⟩ ?_; conv => whnf) | (refine Need.mk ⟨rfl, rfl, Nat.le_refl _⟩ ?_; conv => whnf) | (refine Need.mk ⟨by omega, by omega⟩ ?_; conv => whnf) | (refine Need.mk ⟨rfl, rfl, by omega⟩ ?_; conv => whnf) | (refine Need.mk ⟨rfl, by omega⟩ ?_; conv => whnf) | (refine CellsK.mk ⟨_, rfl, ?_⟩; conv => whnf) | (refine Need.mk ⟨rfl, rfl, rfl, by rw [cL_len]; exact Nat.le_refl _⟩ ?_; conv => whnf) | (refine Need.mk ⟨Nat.le_trans (show L.length + 1 ≤ 1000000 by omega) (by decide), (show (L.length + 1) * 8 ≤ _ by omega)⟩ ?_; conv => whnf))
  have hrows : List.take L.length (cL L) ++ List.take 1 (List.drop 0 [[AV.lit (.int .i64 r)]]) = cL (L ++ [r]) := by
    rw [List.take_of_length_le (by rw [cL_len]; exact Nat.le_refl _)]
    simp [cL]
  have hlen : (L ++ [r]).length = L.length + 1 := by simp
  refine ⟨rfl, [], ?_⟩
  unfold rOut
  rw [← hrows, hlen]
  rfl
theorem anewR_leaf (g : Gl) (L : List Int) (k : Int) (hk : k = 1 ∨ k = 2 ∨ k = 3) (nm : ByteArray) (r : Int) (u : Bool) (regs : Nat → Int) (kids : Nat → TT) :
    HeapCall (XX g) 54 [.agg (TT.mk k nm r u 0 regs 0 kids).cells, rFn] (rHeap L) (.agg (TT.mk k nm r u 0 regs 0 kids).cells) (rOut L) := by
  intro M
  refine SimCall.pickFrz [(0, true), (1, true), (2, false), (2, true)] rfl rfl rfl ?_
  refine SimCall.of_body (fn := f54) func54 (by decide) ?_
  rcases hk with rfl | rfl | rfl
  all_goals
    conv => whnf
    repeat (first | (refine Need.mk rfl ?_; conv => whnf) | (refine Need.mk (by decide) ?_; conv => whnf) | (refine Need.mk (of_decide_eq_true rfl) ?_; conv => whnf) | (refine Need.mk (by omega) ?_; conv => whnf) | (refine Need.mk ⟨rfl, by omega, by omega⟩ ?_; conv => whnf) | (refine Need.mk ⟨rfl, rfl⟩ ?_; conv => whnf) | (refine Need.mk ⟨rfl, rfl, rfl, by simp⟩ ?_; conv => whnf) | (refine Need.mk ⟨rfl, rfl, Nat.le_refl _⟩ ?_; conv => whnf) | (refine Need.mk ⟨by omega, by omega⟩ ?_; conv => whnf) | (refine Need.mk ⟨rfl, rfl, by omega⟩ ?_; conv => whnf) | (refine Need.mk ⟨rfl, by omega⟩ ?_; conv => whnf) | (refine LoopK.rounds 3 ?_; conv => whnf))
    refine ⟨rfl, ?_⟩
    conv => whnf
    exact ⟨⟨.refl _, .refl _, .refl _, .refl _, .nil _ _, .nil _ _, trivial⟩, [], rfl⟩
theorem anewR_four (g : Gl) (L : List Int) (hL : L.length ≤ 100000) (nm : ByteArray) (r : Int) (u : Bool) (regs : Nat → Int) (kids : Nat → TT)
    (hkid : HeapCall (XX g) 54 [.agg (kids 0).cells, rFn] (rHeap (L ++ [r])) (.agg (kids 0).cells) (rOut (L ++ [r] ++ regsOf (kids 0)))) :
    HeapCall (XX g) 54 [.agg (TT.mk 4 nm r u 0 regs 1 kids).cells, rFn] (rHeap L) (.agg (TT.mk 4 nm r u 0 regs 1 kids).cells) (rOut (L ++ [r] ++ regsOf (kids 0))) := by
  intro M
  refine SimCall.pickFrz [(0, true), (1, true), (2, false), (7, true)] rfl rfl rfl ?_
  refine SimCall.of_body (fn := f54) func54 (by decide) ?_
  conv => whnf
  repeat (first | (refine Need.mk rfl ?_; conv => whnf) | (refine Need.mk (by decide) ?_; conv => whnf) | (refine Need.mk (of_decide_eq_true rfl) ?_; conv => whnf) | (refine Need.mk (by omega) ?_; conv => whnf) | (refine Need.mk ⟨rfl, by omega, by omega⟩ ?_; conv => whnf) | (refine Need.mk ⟨rfl, rfl⟩ ?_; conv => whnf) | (refine Need.mk ⟨rfl, rfl, rfl, by simp⟩ ?_; conv => whnf) | (refine Need.mk ⟨rfl, rfl, Nat.le_refl _⟩ ?_; conv => whnf) | (refine Need.mk ⟨by omega, by omega⟩ ?_; conv => whnf) | (refine Need.mk ⟨rfl, rfl, by omega⟩ ?_; conv => whnf) | (refine Need.mk ⟨rfl, by omega⟩ ?_; conv => whnf) | (refine LoopK.rounds 3 ?_; conv => whnf) | (refine HeapCall.use [1, 2] (out_ok g L hL r) rfl rfl (by exact Nat.le_succ 2) ?_; conv => whnf) | (refine HeapCall.use [1, 5] hkid rfl rfl (by exact Nat.le_succ 2) ?_; conv => whnf) | (refine CellsK.mk ⟨_, rfl, ?_⟩; conv => whnf))
  refine ⟨rfl, ?_⟩
  conv => whnf
  repeat (first | (refine Need.mk (of_decide_eq_true rfl) ?_; conv => whnf))
  exact ⟨⟨.refl _, .refl _, .refl _, .refl _, .nil _ _, rows1 ⟨.refl _, .refl _, .refl _, .refl _, .refl _, .refl _, trivial⟩ rfl, trivial⟩, [], rfl⟩
theorem anewR_one (g : Gl) (L : List Int) (k : Int) (hk : k = 5 ∨ k = 6) (nm : ByteArray) (r : Int) (u : Bool) (regs : Nat → Int) (kids : Nat → TT)
    (hkid : HeapCall (XX g) 54 [.agg (kids 0).cells, rFn] (rHeap L) (.agg (kids 0).cells) (rOut (L ++ regsOf (kids 0)))) :
    HeapCall (XX g) 54 [.agg (TT.mk k nm r u 0 regs 1 kids).cells, rFn] (rHeap L) (.agg (TT.mk k nm r u 0 regs 1 kids).cells) (rOut (L ++ regsOf (kids 0))) := by
  intro M
  refine SimCall.pickFrz [(0, true), (1, true), (2, false), (6, true)] rfl rfl rfl ?_
  refine SimCall.of_body (fn := f54) func54 (by decide) ?_
  rcases hk with rfl | rfl
  all_goals
    conv => whnf
    repeat (first | (refine Need.mk rfl ?_; conv => whnf) | (refine Need.mk (by decide) ?_; conv => whnf) | (refine Need.mk (of_decide_eq_true rfl) ?_; conv => whnf) | (refine Need.mk (by omega) ?_; conv => whnf) | (refine Need.mk ⟨rfl, by omega, by omega⟩ ?_; conv => whnf) | (refine Need.mk ⟨rfl, rfl⟩ ?_; conv => whnf) | (refine Need.mk ⟨rfl, rfl, rfl, by simp⟩ ?_; conv => whnf) | (refine Need.mk ⟨rfl, rfl, Nat.le_refl _⟩ ?_; conv => whnf) | (refine Need.mk ⟨by omega, by omega⟩ ?_; conv => whnf) | (refine Need.mk ⟨rfl, rfl, by omega⟩ ?_; conv => whnf) | (refine Need.mk ⟨rfl, by omega⟩ ?_; conv => whnf) | (refine LoopK.rounds 3 ?_; conv => whnf) | (refine HeapCall.use [1, 2] hkid rfl rfl (by exact Nat.le_succ 2) ?_; conv => whnf) | (refine CellsK.mk ⟨_, rfl, ?_⟩; conv => whnf))
    refine ⟨rfl, ?_⟩
    conv => whnf
    repeat (first | (refine Need.mk (of_decide_eq_true rfl) ?_; conv => whnf))
    exact ⟨⟨.refl _, .refl _, .refl _, .refl _, .nil _ _, rows1 ⟨.refl _, .refl _, .refl _, .refl _, .refl _, .refl _, trivial⟩ rfl, trivial⟩, [], rfl⟩
/-- Data's regions, and what stands ahead of them. -/
def rAt (L : List Int) (regs : Nat → Int) (i : Nat) : List Int := L ++ (List.range i).map regs
theorem rAt_succ (L : List Int) (regs : Nat → Int) (i : Nat) : rAt L regs i ++ [regs i] = rAt L regs (i + 1) := by simp [rAt, List.range_succ]
theorem rAt_len (L : List Int) (regs : Nat → Int) (i : Nat) : (rAt L regs i).length = L.length + i := by simp [rAt]
theorem anewR_data (g : Gl) (L : List Int) (hL : L.length ≤ 50000) (nm : ByteArray) (r : Int) (u : Bool) (m : Nat) (hm : m ≤ 20) (regs : Nat → Int) (kids : Nat → TT) :
    HeapCall (XX g) 54 [.agg (TT.mk 7 nm r u m regs 0 kids).cells, rFn] (rHeap L) (.agg (TT.mk 7 nm r u m regs 0 kids).cells) (rOut (rAt L regs m)) := by
  intro M
  refine SimCall.pickFrz [(0, true), (1, true), (2, false), (3, true)] rfl rfl rfl ?_
  refine SimCall.of_body (fn := f54) func54 (by decide) ?_
  conv => whnf
  repeat (first | (refine Need.mk rfl ?_; conv => whnf) | (refine Need.mk (by decide) ?_; conv => whnf) | (refine Need.mk (of_decide_eq_true rfl) ?_; conv => whnf) | (refine Need.mk (by omega) ?_; conv => whnf) | (refine Need.mk ⟨rfl, by omega, by omega⟩ ?_; conv => whnf) | (refine Need.mk ⟨rfl, rfl⟩ ?_; conv => whnf) | (refine Need.mk ⟨rfl, rfl, rfl, by simp⟩ ?_; conv => whnf) | (refine Need.mk ⟨rfl, rfl, Nat.le_refl _⟩ ?_; conv => whnf) | (refine Need.mk ⟨by omega, by omega⟩ ?_; conv => whnf) | (refine Need.mk ⟨rfl, rfl, by omega⟩ ?_; conv => whnf) | (refine Need.mk ⟨rfl, by omega⟩ ?_; conv => whnf))
  refine LoopK.ix (fun i : Nat => ⟨mkE 52 [(1, rFn), (2, .bptr 4 0), (4, .bptr 5 0), (5, .slc 6 1 0 i), (20, .rslc 1 m (regRow regs)), (21, .lit (.int .i64 (m : Nat))), (22, .lit (.int .i64 (i : Nat)))],
      [.ext M, .box [.slc 3 1 0 (rAt L regs i).length], .none, .row 3 1 (cL (rAt L regs i)), .box (TT.mk 7 nm r u m regs 0 kids).cells, .box [.lit (.int .i64 0), .lit (.string ⟨#[]⟩), .lit (.int .i64 0), .lit (.bool false), .lit (.slice none 0 0), .lit (.slice none 0 0)], .row 3 1 (cL ((List.range i).map regs))], 3⟩)
    (fun i => i ≤ m) (fun i => m - i) 0 ?_ (Nat.zero_le _) ?_
  · refine (Weak.nil 5 3 1 rfl).trans ?_
    have h0 : rAt L regs 0 = L := by simp [rAt]
    rw [h0]
    exact Weak.pslots [(0, true), (1, true), (2, false), (2, true), (3, true), (4, true), (5, true)] rfl rfl rfl ⟨rfl, rfl, rfl, rfl, rfl, rfl, rfl, trivial⟩ rfl rfl
  · intro i hi
    conv => whnf
    refine Br.intro (fun h5 => ?_) (fun h5 => ?_)
    · simp at h5
      conv => whnf
      repeat (first | (refine Need.mk rfl ?_; conv => whnf) | (refine Need.mk (by decide) ?_; conv => whnf) | (refine Need.mk (of_decide_eq_true rfl) ?_; conv => whnf) | (refine Need.mk (by omega) ?_; conv => whnf) | (refine Need.mk ⟨rfl, by omega, by omega⟩ ?_; conv => whnf) | (refine Need.mk ⟨rfl, rfl⟩ ?_; conv => whnf) | (refine Need.mk ⟨rfl, rfl, rfl, by simp⟩ ?_; conv => whnf) | (refine Need.mk ⟨rfl, rfl, Nat.le_refl _⟩ ?_; conv => whnf) | (refine Need.mk ⟨by omega, by omega⟩ ?_; conv => whnf) | (refine Need.mk ⟨rfl, rfl, by omega⟩ ?_; conv => whnf) | (refine Need.mk ⟨rfl, by omega⟩ ?_; conv => whnf) | (refine HeapCall.use [1, 3] (out_ok g (rAt L regs i) (by rw [rAt_len]; omega) (regs (i : Int).toNat)) rfl rfl (by exact Nat.le_succ 2) ?_; conv => whnf) | (refine CellsK.mk ⟨_, rfl, ?_⟩; conv => whnf) | (refine Need.mk ⟨rfl, rfl, rfl, by simp [cL]⟩ ?_; conv => whnf) | (refine Need.mk ⟨Nat.le_trans (show i + 1 ≤ 1000000 by omega) (by decide), (show (i + 1) * 8 ≤ _ by omega)⟩ ?_; conv => whnf))
      have hw4 : IntKind.i64.wrap ((i : Int) + 1) = ((i + 1 : Nat) : Int) := by rw [wrap_id (by omega) (by omega)]; omega
      have hrows : List.take i (cL ((List.range i).map regs)) ++ List.take 1 (List.drop 0 [[AV.lit (.int .i64 (regs i))]]) = cL ((List.range (i + 1)).map regs) := by
        rw [List.take_of_length_le (by simp [cL])]
        simp [cL, List.range_succ]
      refine ⟨i + 1, h5, (show m - (i + 1) < m - i by omega), Weak.pslots [(0, true), (1, true), (2, false), (7, true), (4, true), (5, true), (9, true)] rfl rfl rfl ⟨rfl, rfl, rfl, rfl, rfl, rfl, congrArg (fun z => AV.lit (.int .i64 z)) hw4, trivial⟩ ?_ rfl⟩
      exact congr (congrArg (fun (a : List Int) (r : List (List AV)) => [Ob.ext M, .box [.slc 3 1 0 a.length], .none, .row 3 1 (cL a), .box (TT.mk 7 nm _ u m regs 0 kids).cells, .box [.lit (.int .i64 0), .lit (.string ⟨#[]⟩), .lit (.int .i64 0), .lit (.bool false), .lit (.slice none 0 0), .lit (.slice none 0 0)], .row 3 1 r]) (rAt_succ L regs i)) hrows
    · simp at h5
      obtain rfl : i = m := by omega
      conv => whnf
      repeat (first | (refine Need.mk rfl ?_; conv => whnf) | (refine Need.mk (by decide) ?_; conv => whnf) | (refine Need.mk (of_decide_eq_true rfl) ?_; conv => whnf) | (refine Need.mk (by omega) ?_; conv => whnf) | (refine Need.mk ⟨rfl, by omega, by omega⟩ ?_; conv => whnf) | (refine Need.mk ⟨rfl, rfl⟩ ?_; conv => whnf) | (refine Need.mk ⟨rfl, rfl, rfl, by simp⟩ ?_; conv => whnf) | (refine Need.mk ⟨rfl, rfl, Nat.le_refl _⟩ ?_; conv => whnf) | (refine Need.mk ⟨by omega, by omega⟩ ?_; conv => whnf) | (refine Need.mk ⟨rfl, rfl, by omega⟩ ?_; conv => whnf) | (refine Need.mk ⟨rfl, by omega⟩ ?_; conv => whnf) | (refine LoopK.rounds 3 ?_; conv => whnf))
      have hr : ∀ a, a < i → (cL ((List.range i).map regs)).getD (0 + a) [] = [AV.lit (.int .i64 (regs a))] := by
        intro a ha
        simp [cL, List.getD_eq_getElem?_getD, ha]
      refine ⟨rfl, ?_⟩
      conv => whnf
      refine Need.mk ⟨rfl, by simp [cL]⟩ ?_
      conv => whnf
      refine ⟨⟨.refl _, .refl _, .refl _, .refl _, rowsL (fun a ha => ?_) (fun a ha => ?_), .nil _ _, trivial⟩, [], rfl⟩
      · show leI ((cL ((List.range i).map regs)).getD (0 + a) []) _
        rw [hr a ha]
        exact ⟨.refl _, trivial⟩
      · show ((cL ((List.range i).map regs)).getD (0 + a) []).length = 1
        rw [hr a ha]; rfl
theorem regsOf_len : ∀ (T : TT), rfits T = true → (regsOf T).length ≤ 20 * depth T
  | .nul, h => by cases h
  | .mk k nm r u m regs n kids, h => by
    rcases rfits_cases h with ⟨h1, rfl, rfl, _⟩ | ⟨rfl, rfl, rfl, hk, _⟩ | ⟨h1, rfl, rfl, hk, _⟩ | ⟨rfl, h20, rfl, _⟩
    · have := depth_pos (.mk k nm r u 0 regs 0 kids)
      have h4 : ¬ k = 4 := by omega
      simp [regsOf, h4]; omega
    · have := regsOf_len (kids 0) hk
      rw [depth_one]; simp [regsOf]; omega
    · have := regsOf_len (kids 0) hk
      have h4 : ¬ k = 4 := by omega
      rw [depth_one]; simp [regsOf, h4]; omega
    · have := depth_pos (.mk 7 nm r u m regs 0 kids)
      simp [regsOf]; omega
theorem anewR_step (g : Gl) (k : Int) (nm : ByteArray) (r : Int) (u : Bool) (m : Nat) (regs : Nat → Int) (n : Nat) (kids : Nat → TT) (L : List Int) (h : rfits (.mk k nm r u m regs n kids) = true) (hL : L.length + 20 * depth (.mk k nm r u m regs n kids) ≤ 50000)
    (ih : rfits (kids 0) = true → ∀ L' : List Int, L'.length + 20 * depth (kids 0) ≤ 50000 → HeapCall (XX g) 54 [.agg (kids 0).cells, rFn] (rHeap L') (.agg (kids 0).cells) (rOut (L' ++ regsOf (kids 0)))) :
    HeapCall (XX g) 54 [.agg (TT.mk k nm r u m regs n kids).cells, rFn] (rHeap L) (.agg (TT.mk k nm r u m regs n kids).cells) (rOut (L ++ regsOf (.mk k nm r u m regs n kids))) := by
  have hdp := depth_pos (.mk k nm r u m regs n kids)
  rcases rfits_cases h with ⟨h1, rfl, rfl, _⟩ | ⟨rfl, rfl, rfl, hk, _⟩ | ⟨h1, rfl, rfl, hk, _⟩ | ⟨rfl, h20, rfl, _⟩
  · have h4 : ¬ k = 4 := by omega
    have e : L ++ regsOf (.mk k nm r u 0 regs 0 kids) = L := by simp [regsOf, h4]
    rw [e]
    exact anewR_leaf g L k h1 nm r u regs kids
  · have e : L ++ regsOf (.mk 4 nm r u 0 regs 1 kids) = L ++ [r] ++ regsOf (kids 0) := by simp [regsOf]
    rw [e]
    rw [depth_one] at hL
    have := depth_pos (kids 0)
    exact anewR_four g L (by omega) nm r u regs kids (ih hk (L ++ [r]) (by rw [List.length_append]; show L.length + 1 + 20 * depth (kids 0) ≤ 50000; omega))
  · have h4 : ¬ k = 4 := by omega
    have e : L ++ regsOf (.mk k nm r u 0 regs 1 kids) = L ++ regsOf (kids 0) := by simp [regsOf, h4]
    rw [e]
    rw [depth_one] at hL
    exact anewR_one g L k h1 nm r u regs kids (ih hk L (by omega))
  · have e : L ++ regsOf (.mk 7 nm r u m regs 0 kids) = rAt L regs m := by simp [regsOf, rAt]
    rw [e]
    exact anewR_data g L (by omega) nm r u m h20 regs kids
theorem anewR_ok (g : Gl) : ∀ (T : TT) (L : List Int), rfits T = true → L.length + 20 * depth T ≤ 50000 → HeapCall (XX g) 54 [.agg T.cells, rFn] (rHeap L) (.agg T.cells) (rOut (L ++ regsOf T))
  | .nul => fun _ h _ => by cases h
  | .mk k nm r u m regs n kids => fun L h hL => anewR_step g k nm r u m regs n kids L h hL fun hk L' hL' => anewR_ok g (kids 0) L' hk hL'
/-- A list, as the answer has it. -/
def lAt (L : List Int) (i : Nat) : Int := L.getD i 0
/-- Regions. -/
theorem kregs_ok (g : Gl) (T : TT) (h : rfits T = true) (hd : depth T ≤ 60) : PureCall (XX g) 18 [.agg T.cells] (.rslc 1 (regsOf T).length (regRow (lAt (regsOf T)))) := by
  have hret : HeapCall (XX g) 35 [.agg T.cells, rFn] (rHeap []) (.agg T.cells) (rOut ([] ++ regsOf T)) := by
    intro M
    refine SimCall.pick [(0, true), (1, true), (2, false), (5, true)] rfl rfl ?_
    refine SimCall.of_body (fn := f35) func35 (by decide) ?_
    conv => whnf
    repeat (first | (refine Need.mk rfl ?_; conv => whnf) | (refine Need.mk (by decide) ?_; conv => whnf) | (refine Need.mk (of_decide_eq_true rfl) ?_; conv => whnf) | (refine Need.mk (by omega) ?_; conv => whnf) | (refine Need.mk ⟨rfl, by omega, by omega⟩ ?_; conv => whnf) | (refine Need.mk ⟨rfl, rfl⟩ ?_; conv => whnf) | (refine Need.mk ⟨rfl, rfl, rfl, by simp⟩ ?_; conv => whnf) | (refine Need.mk ⟨rfl, rfl, Nat.le_refl _⟩ ?_; conv => whnf) | (refine Need.mk ⟨by omega, by omega⟩ ?_; conv => whnf) | (refine Need.mk ⟨rfl, rfl, by omega⟩ ?_; conv => whnf) | (refine Need.mk ⟨rfl, by omega⟩ ?_; conv => whnf) | (refine (ends_ok g T h hd).use rfl rfl ?_; conv => whnf) | (refine HeapCall.use [1, 2] (anewR_ok g T [] h (by show 0 + 20 * depth T ≤ 50000; omega)) rfl rfl (by exact Nat.le_succ 2) ?_; conv => whnf))
    exact ⟨rfl, [], rfl⟩
  have hlen : (regsOf T).length = (cL (regsOf T)).length := (cL_len _).symm
  refine PureCall.frz fun M => ?_
  refine SimCall.of_body (fn := f18) func18 (by decide) ?_
  conv => whnf
  repeat (first | (refine Need.mk rfl ?_; conv => whnf) | (refine Need.mk (by decide) ?_; conv => whnf) | (refine Need.mk (of_decide_eq_true rfl) ?_; conv => whnf) | (refine Need.mk (by omega) ?_; conv => whnf) | (refine Need.mk ⟨rfl, by omega, by omega⟩ ?_; conv => whnf) | (refine Need.mk ⟨rfl, rfl⟩ ?_; conv => whnf) | (refine Need.mk ⟨rfl, rfl, rfl, by simp⟩ ?_; conv => whnf) | (refine Need.mk ⟨rfl, rfl, Nat.le_refl _⟩ ?_; conv => whnf) | (refine Need.mk ⟨by omega, by omega⟩ ?_; conv => whnf) | (refine Need.mk ⟨rfl, rfl, by omega⟩ ?_; conv => whnf) | (refine Need.mk ⟨rfl, by omega⟩ ?_; conv => whnf))
  refine SimCall.nilBox 2 3 1 rfl ?_
  refine HeapCall.use [2, 3] hret rfl rfl (by exact Nat.le_succ 2) ?_
  conv => whnf
  repeat (first | (refine Need.mk rfl ?_; conv => whnf) | (refine Need.mk (by decide) ?_; conv => whnf) | (refine Need.mk (of_decide_eq_true rfl) ?_; conv => whnf) | (refine Need.mk (by omega) ?_; conv => whnf) | (refine Need.mk ⟨rfl, by omega, by omega⟩ ?_; conv => whnf) | (refine Need.mk ⟨rfl, rfl⟩ ?_; conv => whnf) | (refine Need.mk ⟨rfl, rfl, rfl, by simp⟩ ?_; conv => whnf) | (refine Need.mk ⟨rfl, rfl, Nat.le_refl _⟩ ?_; conv => whnf) | (refine Need.mk ⟨by omega, by omega⟩ ?_; conv => whnf) | (refine Need.mk ⟨rfl, rfl, by omega⟩ ?_; conv => whnf) | (refine Need.mk ⟨rfl, by omega⟩ ?_; conv => whnf))
  have hr : ∀ a, a < (regsOf T).length → (cL (regsOf T)).getD (0 + a) [] = [AV.lit (.int .i64 (lAt (regsOf T) a))] := by
    intro a ha
    simp [cL, lAt, List.getD_eq_getElem?_getD, ha]
  refine ⟨rfl, ?_⟩
  conv => whnf
  refine Need.mk ⟨rfl, (Nat.le_of_eq ((Nat.zero_add _).trans hlen) : 0 + (regsOf T).length ≤ _)⟩ ?_
  conv => whnf
  refine ⟨rowsL (fun a ha => ?_) (fun a ha => ?_), rfl⟩
  · show leI ((cL (regsOf T)).getD (0 + a) []) _
    rw [hr a ha]
    exact ⟨.refl _, trivial⟩
  · show ((cL (regsOf T)).getD (0 + a) []).length = 1
    rw [hr a ha]; rfl
end Go.Proofs.Kd

namespace Go.Proofs.Kd
open Go Go.Proofs.De Go.Proofs.Tryd
set_option maxRecDepth 100000
set_option maxHeartbeats 4000000

def uneq (f h : Nat → Int) (i : Nat) : Bool := !decide (f i = h i)
theorem equal_ok (g : Gl) (f h : Nat → Int) (m m' : Nat) (hm : m ≤ 1000000) : PureCall (XX g) 52 [.rslc 1 m (regRow f), .rslc 1 m' (regRow h)] (.lit (.bool (decide (m = m') && !anyF (uneq f h) 0 m))) := by
  intro M
  refine SimCall.of_body (fn := f52) func52 (by decide) ?_
  conv => whnf
  repeat (first | (refine Need.mk rfl ?_; conv => whnf) | (refine Need.mk (by decide) ?_; conv => whnf) | (refine Need.mk (of_decide_eq_true rfl) ?_; conv => whnf) | (refine Need.mk (by omega) ?_; conv => whnf) | (refine Need.mk ⟨rfl, by omega, by omega⟩ ?_; conv => whnf) | (refine Need.mk ⟨rfl, rfl⟩ ?_; conv => whnf) | (refine Need.mk ⟨rfl, rfl, rfl, by simp⟩ ?_; conv => whnf) | (refine Need.mk ⟨rfl, rfl, Nat.le_refl _⟩ ?_; conv => whnf) | (refine Need.mk ⟨by omega, by omega⟩ ?_; conv => whnf) | (refine Need.mk ⟨rfl, rfl, by omega⟩ ?_; conv => whnf) | (refine Need.mk ⟨rfl, by omega⟩ ?_; conv => whnf))
  refine Br.intro (fun h1 => ?_) (fun h1 => ?_)
  · simp at h1
    conv => whnf
    refine ⟨congrArg (fun b => AV.lit (.bool b)) ?_, rfl⟩
    have h2 : ¬ m = m' := by omega
    simp [h2]
  · simp at h1
    obtain rfl : m = m' := by omega
    conv => whnf
    repeat (first | (refine Need.mk rfl ?_; conv => whnf) | (refine Need.mk (by decide) ?_; conv => whnf) | (refine Need.mk (of_decide_eq_true rfl) ?_; conv => whnf) | (refine Need.mk (by omega) ?_; conv => whnf) | (refine Need.mk ⟨rfl, by omega, by omega⟩ ?_; conv => whnf) | (refine Need.mk ⟨rfl, rfl⟩ ?_; conv => whnf) | (refine Need.mk ⟨rfl, rfl, rfl, by simp⟩ ?_; conv => whnf) | (refine Need.mk ⟨rfl, rfl, Nat.le_refl _⟩ ?_; conv => whnf) | (refine Need.mk ⟨by omega, by omega⟩ ?_; conv => whnf) | (refine Need.mk ⟨rfl, rfl, by omega⟩ ?_; conv => whnf) | (refine Need.mk ⟨rfl, by omega⟩ ?_; conv => whnf))
    refine LoopK.ix (fun j : Nat => ⟨mkE 26 [(0, .rslc 1 m (regRow f)), (1, .rslc 1 m (regRow h)), (12, .lit (.int .i64 (m : Nat))), (13, .lit (.int .i64 (j : Nat)))], [.ext M], 1⟩)
      (fun j => j ≤ m ∧ (decide (m = m) && !anyF (uneq f h) 0 m) = !anyF (uneq f h) j (m - j)) (fun j => m - j) 0 ?_ ⟨Nat.zero_le _, by simp⟩ ?_
    · exact Weak.slots rfl ⟨rfl, rfl, rfl, rfl, trivial⟩ rfl rfl
    · rintro j ⟨hj, hg⟩
      conv => whnf
      repeat' (first | (refine Need.mk rfl ?_; conv => whnf) | (refine Need.mk (by decide) ?_; conv => whnf) | (refine Need.mk (of_decide_eq_true rfl) ?_; conv => whnf) | (refine Need.mk (by omega) ?_; conv => whnf) | (refine Need.mk ⟨rfl, by omega, by omega⟩ ?_; conv => whnf) | (refine Need.mk ⟨rfl, rfl⟩ ?_; conv => whnf) | (refine Need.mk ⟨rfl, rfl, rfl, by simp⟩ ?_; conv => whnf) | (refine Need.mk ⟨rfl, rfl, Nat.le_refl _⟩ ?_; conv => whnf) | (refine Need.mk ⟨by omega, by omega⟩ ?_; conv => whnf) | (refine Need.mk ⟨rfl, rfl, by omega⟩ ?_; conv => whnf) | (refine Need.mk ⟨rfl, by omega⟩ ?_; conv => whnf) | (refine DrawK.run 0 (show prog.follows .mixedOrders = true by decide) ?_; conv => whnf) | (refine Br.intro (fun h' => ?_) (fun h' => ?_) <;> ((try simp at h') <;> (conv => whnf))))
      all_goals first
        | (refine ⟨congrArg (fun b => AV.lit (.bool b)) ?_, rfl⟩
           rw [hg, show m - j = 0 by omega, anyF]; rfl)
        | (refine ⟨congrArg (fun b => AV.lit (.bool b)) ?_, rfl⟩
           have hb : uneq f h j = true := by simpa [uneq] using h'
           rw [hg, show m - j = (m - (j + 1)) + 1 by omega, anyF, hb]; rfl)
        | (have hw4 : IntKind.i64.wrap ((j : Int) + 1) = ((j + 1 : Nat) : Int) := by rw [wrap_id (by omega) (by omega)]; omega
           have hb : uneq f h j = false := by simpa [uneq] using h'
           refine ⟨j + 1, ⟨by omega, ?_⟩, (show m - (j + 1) < m - j by omega), Weak.slots rfl ⟨rfl, rfl, rfl, congrArg (fun z => AV.lit (.int .i64 z)) hw4, trivial⟩ rfl rfl⟩
           rw [hg, show m - j = (m - (j + 1)) + 1 by omega, anyF, hb]; rfl)
        | trace_state
theorem ints_ok (g : Gl) (f h : Nat → Int) (m m' : Nat) (hm : m ≤ 1000000) : PureCall (XX g) 17 [.rslc 1 m (regRow f), .rslc 1 m' (regRow h)] (.lit (.bool (decide (m = m') && !anyF (uneq f h) 0 m))) := by
  intro M
  refine SimCall.of_body (fn := f17) func17 (by decide) ?_
  conv => whnf
  repeat (first | (refine Need.mk rfl ?_; conv => whnf) | (refine Need.mk (by decide) ?_; conv => whnf) | (refine Need.mk (of_decide_eq_true rfl) ?_; conv => whnf) | (refine Need.mk (by omega) ?_; conv => whnf) | (refine Need.mk ⟨rfl, by omega, by omega⟩ ?_; conv => whnf) | (refine Need.mk ⟨rfl, rfl⟩ ?_; conv => whnf) | (refine Need.mk ⟨rfl, rfl, rfl, by simp⟩ ?_; conv => whnf) | (refine Need.mk ⟨rfl, rfl, Nat.le_refl _⟩ ?_; conv => whnf) | (refine Need.mk ⟨by omega, by omega⟩ ?_; conv => whnf) | (refine Need.mk ⟨rfl, rfl, by omega⟩ ?_; conv => whnf) | (refine Need.mk ⟨rfl, by omega⟩ ?_; conv => whnf))
  refine Br.intro (fun h1 => ?_) (fun h1 => ?_)
  · simp at h1
    conv => whnf
    refine ⟨congrArg (fun b => AV.lit (.bool b)) ?_, rfl⟩
    have h2 : ¬ m = m' := by omega
    simp [h2]
  · simp at h1
    obtain rfl : m = m' := by omega
    conv => whnf
    repeat (first | (refine Need.mk rfl ?_; conv => whnf) | (refine Need.mk (by decide) ?_; conv => whnf) | (refine Need.mk (of_decide_eq_true rfl) ?_; conv => whnf) | (refine Need.mk (by omega) ?_; conv => whnf) | (refine Need.mk ⟨rfl, by omega, by omega⟩ ?_; conv => whnf) | (refine Need.mk ⟨rfl, rfl⟩ ?_; conv => whnf) | (refine Need.mk ⟨rfl, rfl, rfl, by simp⟩ ?_; conv => whnf) | (refine Need.mk ⟨rfl, rfl, Nat.le_refl _⟩ ?_; conv => whnf) | (refine Need.mk ⟨by omega, by omega⟩ ?_; conv => whnf) | (refine Need.mk ⟨rfl, rfl, by omega⟩ ?_; conv => whnf) | (refine Need.mk ⟨rfl, by omega⟩ ?_; conv => whnf))
    refine LoopK.ix (fun j : Nat => ⟨mkE 26 [(0, .rslc 1 m (regRow f)), (1, .rslc 1 m (regRow h)), (12, .lit (.int .i64 (m : Nat))), (13, .lit (.int .i64 (j : Nat)))], [.ext M], 1⟩)
      (fun j => j ≤ m ∧ (decide (m = m) && !anyF (uneq f h) 0 m) = !anyF (uneq f h) j (m - j)) (fun j => m - j) 0 ?_ ⟨Nat.zero_le _, by simp⟩ ?_
    · exact Weak.slots rfl ⟨rfl, rfl, rfl, rfl, trivial⟩ rfl rfl
    · rintro j ⟨hj, hg⟩
      conv => whnf
      repeat' (first | (refine Need.mk rfl ?_; conv => whnf) | (refine Need.mk (by decide) ?_; conv => whnf) | (refine Need.mk (of_decide_eq_true rfl) ?_; conv => whnf) | (refine Need.mk (by omega) ?_; conv => whnf) | (refine Need.mk ⟨rfl, by omega, by omega⟩ ?_; conv => whnf) | (refine Need.mk ⟨rfl, rfl⟩ ?_; conv => whnf) | (refine Need.mk ⟨rfl, rfl, rfl, by simp⟩ ?_; conv => whnf) | (refine Need.mk ⟨rfl, rfl, Nat.le_refl _⟩ ?_; conv => whnf) | (refine Need.mk ⟨by omega, by omega⟩ ?_; conv => whnf) | (refine Need.mk ⟨rfl, rfl, by omega⟩ ?_; conv => whnf) | (refine Need.mk ⟨rfl, by omega⟩ ?_; conv => whnf) | (refine DrawK.run 0 (show prog.follows .mixedOrders = true by decide) ?_; conv => whnf) | (refine Br.intro (fun h' => ?_) (fun h' => ?_) <;> ((try simp at h') <;> (conv => whnf))))
      all_goals first
        | (refine ⟨congrArg (fun b => AV.lit (.bool b)) ?_, rfl⟩
           rw [hg, show m - j = 0 by omega, anyF]; rfl)
        | (refine ⟨congrArg (fun b => AV.lit (.bool b)) ?_, rfl⟩
           have hb : uneq f h j = true := by simpa [uneq] using h'
           rw [hg, show m - j = (m - (j + 1)) + 1 by omega, anyF, hb]; rfl)
        | (have hw4 : IntKind.i64.wrap ((j : Int) + 1) = ((j + 1 : Nat) : Int) := by rw [wrap_id (by omega) (by omega)]; omega
           have hb : uneq f h j = false := by simpa [uneq] using h'
           refine ⟨j + 1, ⟨by omega, ?_⟩, (show m - (j + 1) < m - j by omega), Weak.slots rfl ⟨rfl, rfl, rfl, congrArg (fun z => AV.lit (.int .i64 z)) hw4, trivial⟩ rfl rfl⟩
           rw [hg, show m - j = (m - (j + 1)) + 1 by omega, anyF, hb]; rfl)
        | trace_state

/-- One part at most within each, twenty regions at most. -/
def shp : TT → Bool
  | .nul => false
  | .mk _ _ _ _ m _ n kids => decide (m ≤ 20) && (decide (n = 0) || (decide (n = 1) && shp (kids 0)))
theorem shp_right : ∀ (T : TT), rfits T = true → shp T = true
  | .nul, h => by cases h
  | .mk k nm r u m regs n kids, h => by
    rcases rfits_cases h with ⟨_, rfl, rfl, _⟩ | ⟨_, rfl, rfl, hk, _⟩ | ⟨_, rfl, rfl, hk, _⟩ | ⟨_, h20, rfl, _⟩
    · rfl
    · have := shp_right (kids 0) hk
      simp [shp, this]
    · have := shp_right (kids 0) hk
      simp [shp, this]
    · simp [shp, h20]
/-- Whether two types are alike, of which the first is so. -/
def ksame : TT → TT → Bool
  | .nul, _ => false
  | .mk k nm r u m regs n kids, U => decide (k = U.k) && decide (nm.data.toList = U.nm.data.toList) && decide (r = U.r) && decide (u = U.u) && (decide (m = U.m) && !anyF (uneq regs U.regs) 0 m) && (decide (n = U.n) && (decide (n = 0) || ksame (kids 0) (U.kid 0)))
theorem ksame_mk (k k' : Int) (nm nm' : ByteArray) (r r' : Int) (u u' : Bool) (m m' : Nat) (regs regs' : Nat → Int) (n n' : Nat) (kids kids' : Nat → TT) :
    ksame (.mk k nm r u m regs n kids) (.mk k' nm' r' u' m' regs' n' kids') = (decide (k = k') && decide (nm.data.toList = nm'.data.toList) && decide (r = r') && decide (u = u') && (decide (m = m') && !anyF (uneq regs regs') 0 m) && (decide (n = n') && (decide (n = 0) || ksame (kids 0) (kids' 0)))) := rfl
def mapBox : Ob := .box [.lit (.map none)]
theorem lists0_ok (g : Gl) (row row' : Nat → List AV) (n' : Nat) (deep : Int) : HeapCall (XX g) 53 [.bptr 1 0, .rslc 6 0 row, .rslc 6 n' row', .lit (.int .i64 deep)] [mapBox] (.lit (.bool (decide (0 = n')))) [mapBox] := by
  intro M
  refine SimCall.of_body (fn := f53) func53 (by decide) ?_
  conv => whnf
  repeat' (first | (refine Need.mk rfl ?_; conv => whnf) | (refine Need.mk (by decide) ?_; conv => whnf) | (refine Need.mk (of_decide_eq_true rfl) ?_; conv => whnf) | (refine Need.mk (by omega) ?_; conv => whnf) | (refine Need.mk ⟨rfl, by omega, by omega⟩ ?_; conv => whnf) | (refine Need.mk ⟨rfl, rfl⟩ ?_; conv => whnf) | (refine Need.mk ⟨rfl, rfl, rfl, by simp⟩ ?_; conv => whnf) | (refine Need.mk ⟨rfl, rfl, Nat.le_refl _⟩ ?_; conv => whnf) | (refine Need.mk ⟨by omega, by omega⟩ ?_; conv => whnf) | (refine Need.mk ⟨rfl, rfl, by omega⟩ ?_; conv => whnf) | (refine Need.mk ⟨rfl, by omega⟩ ?_; conv => whnf) | (refine LoopK.rounds 3 ?_; conv => whnf) | (refine Br.intro (fun h' => ?_) (fun h' => ?_) <;> ((try simp at h') <;> (conv => whnf))))
  · have h2 : ¬ 0 = n' := by omega
    exact ⟨congrArg (fun b => AV.lit (.bool b)) (decide_eq_false h2).symm, [], rfl⟩
  · have h2 : 0 = n' := by omega
    exact ⟨congrArg (fun b => AV.lit (.bool b)) (decide_eq_true h2).symm, [], rfl⟩
theorem lists1_ok (g : Gl) (f h : Nat → TT) (n' : Nat) (deep : Int)
    (hkid : n' = 1 → HeapCall (XX g) 34 [.bptr 1 0, .agg (f 0).cells, .agg (h 0).cells, .lit (.int .i64 deep)] [mapBox] (.lit (.bool (ksame (f 0) (h 0)))) [mapBox]) :
    HeapCall (XX g) 53 [.bptr 1 0, .rslc 6 1 (fun i => (f i).cells), .rslc 6 n' (fun i => (h i).cells), .lit (.int .i64 deep)] [mapBox] (.lit (.bool (decide (1 = n') && ksame (f 0) (h 0)))) [mapBox] := by
  intro M
  by_cases hn : n' = 1
  · subst hn
    have hk := hkid rfl
    refine SimCall.of_body (fn := f53) func53 (by decide) ?_
    conv => whnf
    repeat' (first | (refine Need.mk rfl ?_; conv => whnf) | (refine Need.mk (by decide) ?_; conv => whnf) | (refine Need.mk (of_decide_eq_true rfl) ?_; conv => whnf) | (refine Need.mk (by omega) ?_; conv => whnf) | (refine Need.mk ⟨rfl, by omega, by omega⟩ ?_; conv => whnf) | (refine Need.mk ⟨rfl, rfl⟩ ?_; conv => whnf) | (refine Need.mk ⟨rfl, rfl, rfl, by simp⟩ ?_; conv => whnf) | (refine Need.mk ⟨rfl, rfl, Nat.le_refl _⟩ ?_; conv => whnf) | (refine Need.mk ⟨by omega, by omega⟩ ?_; conv => whnf) | (refine Need.mk ⟨rfl, rfl, by omega⟩ ?_; conv => whnf) | (refine Need.mk ⟨rfl, by omega⟩ ?_; conv => whnf) | (refine LoopK.rounds 3 ?_; conv => whnf) | (refine DrawK.run 0 (show prog.follows .mixedOrders = true by decide) ?_; conv => whnf) | (apply HopK.full; intro M; conv => whnf) | (refine HeapCall.use [1] hk rfl rfl (by decide) ?_; conv => whnf) | exact ⟨rfl, [], congrArg (List.cons _) (List.append_nil _).symm⟩ | (refine Br.intro (fun h' => ?_) (fun h' => ?_) <;> ((try simp at h') <;> (conv => whnf))))
    all_goals exact ⟨congrArg (fun b => AV.lit (.bool b)) (by rw [h']; rfl), [], rfl⟩
  · refine SimCall.of_body (fn := f53) func53 (by decide) ?_
    conv => whnf
    repeat (first | (refine Need.mk rfl ?_; conv => whnf) | (refine Need.mk (by decide) ?_; conv => whnf) | (refine Need.mk (of_decide_eq_true rfl) ?_; conv => whnf) | (refine Need.mk (by omega) ?_; conv => whnf) | (refine Need.mk ⟨rfl, by omega, by omega⟩ ?_; conv => whnf) | (refine Need.mk ⟨rfl, rfl⟩ ?_; conv => whnf) | (refine Need.mk ⟨rfl, rfl, rfl, by simp⟩ ?_; conv => whnf) | (refine Need.mk ⟨rfl, rfl, Nat.le_refl _⟩ ?_; conv => whnf) | (refine Need.mk ⟨by omega, by omega⟩ ?_; conv => whnf) | (refine Need.mk ⟨rfl, rfl, by omega⟩ ?_; conv => whnf) | (refine Need.mk ⟨rfl, by omega⟩ ?_; conv => whnf))
    refine Br.intro (fun h1 => ?_) (fun h1 => ?_)
    · conv => whnf
      have h2 : ¬ 1 = n' := fun e => hn e.symm
      exact ⟨congrArg (fun b => AV.lit (.bool b)) (by simp [h2]), [], rfl⟩
    · exfalso
      simp at h1
      omega
theorem same_ok (g : Gl) : ∀ (T U : TT) (deep : Int), shp T = true → shp U = true → 0 ≤ deep → depth T + deep ≤ 65536 →
    HeapCall (XX g) 34 [.bptr 1 0, .agg T.cells, .agg U.cells, .lit (.int .i64 deep)] [mapBox] (.lit (.bool (ksame T U))) [mapBox]
  | .nul, _, _, h, _, _, _ => by cases h
  | _, .nul, _, _, h, _, _ => by cases h
  | .mk k nm r u m regs n kids, .mk k' nm' r' u' m' regs' n' kids', deep, hT, hU, hd, hdd => by
    have hdp := depth_pos (.mk k nm r u m regs n kids)
    simp only [shp, Bool.and_eq_true, Bool.or_eq_true, decide_eq_true_eq] at hT hU
    have hm : m ≤ 20 := hT.1
    have hn : n = 0 ∨ (n = 1 ∧ shp (kids 0) = true) := hT.2
    have hn' : n' = 1 → shp (kids' 0) = true := fun e => by
      rcases hU.2 with e' | e'
      · omega
      · exact e'.2
    have hw : IntKind.i64.wrap (deep + 1) = deep + 1 := wrap_id (by omega) (by omega)
    have hl : HeapCall (XX g) 53 [.bptr 1 0, .rslc 6 n (fun i => (kids i).cells), .rslc 6 n' (fun i => (kids' i).cells), .lit (.int .i64 (IntKind.i64.wrap (deep + 1)))] [mapBox] (.lit (.bool (decide (n = n') && (decide (n = 0) || ksame (kids 0) (kids' 0))))) [mapBox] := by
      rw [hw]
      rcases hn with rfl | ⟨rfl, hk⟩
      · have := lists0_ok g (fun i => (kids i).cells) (fun i => (kids' i).cells) n' (deep + 1)
        simpa using this
      · have := lists1_ok g kids kids' n' (deep + 1) fun e => same_ok g (kids 0) (kids' 0) (deep + 1) hk (hn' e) (by omega) (by rw [depth_one] at hdd; omega)
        simpa using this
    intro M
    refine SimCall.of_body (fn := f34) func34 (by decide) ?_
    conv => whnf
    repeat' (first | (refine Need.mk rfl ?_; conv => whnf) | (refine Need.mk (by decide) ?_; conv => whnf) | (refine Need.mk (of_decide_eq_true rfl) ?_; conv => whnf) | (refine Need.mk (by omega) ?_; conv => whnf) | (refine Need.mk ⟨rfl, by omega, by omega⟩ ?_; conv => whnf) | (refine Need.mk ⟨rfl, rfl⟩ ?_; conv => whnf) | (refine Need.mk ⟨rfl, rfl, rfl, by simp⟩ ?_; conv => whnf) | (refine Need.mk ⟨rfl, rfl, Nat.le_refl _⟩ ?_; conv => whnf) | (refine Need.mk ⟨by omega, by omega⟩ ?_; conv => whnf) | (refine Need.mk ⟨rfl, rfl, by omega⟩ ?_; conv => whnf) | (refine Need.mk ⟨rfl, by omega⟩ ?_; conv => whnf) | (refine (equal_ok g regs regs' m m' (by omega)).use rfl rfl ?_; conv => whnf) | (refine HeapCall.use [1] hl rfl rfl (by decide) ?_; conv => whnf) | (refine Br.intro (fun h' => ?_) (fun h' => ?_) <;> ((try simp at h') <;> (conv => whnf))))
    all_goals clear hl hn hn' hT hU
    all_goals simp only [TT.k, TT.nm, TT.r, TT.u] at *
    all_goals first
      | (exfalso; omega)
      | (refine ⟨congrArg (fun b => AV.lit (.bool b)) ?_, _, rfl⟩
         rw [ksame_mk]
         simp_all; done)
      | (have e3 : (decide (m = m') && !anyF (uneq regs regs') 0 m) = false := by
           by_cases e : m = m'
           · rw [h' e]; simp
           · simp [e]
         refine ⟨congrArg (fun b => AV.lit (.bool b)) ?_, _, rfl⟩
         rw [ksame_mk, e3]
         simp)
      | (have e4 := h'.2
         refine ⟨congrArg (fun b => AV.lit (.bool b)) ?_, _, rfl⟩
         have e3 : nm.data.toList = nm'.data.toList := congrArg Array.toList (show nm.data = nm'.data by assumption)
         rw [ksame_mk, decide_eq_true (p := k = k') (by assumption), decide_eq_true e3, decide_eq_true (p := r = r') (by assumption), decide_eq_true (p := u = u') (by assumption), decide_eq_true h'.1, e4]
         rfl)
/-- Same. -/
theorem ksame_ok (g : Gl) (T U : TT) (hT : shp T = true) (hU : shp U = true) (hd : depth T ≤ 60) : PureCall (XX g) 14 [.agg T.cells, .agg U.cells] (.lit (.bool (ksame T U))) := by
  intro M
  refine SimCall.of_body (fn := f14) func14 (by decide) ?_
  conv => whnf
  repeat (first | (refine Need.mk rfl ?_; conv => whnf) | (refine Need.mk (by decide) ?_; conv => whnf) | (refine Need.mk (of_decide_eq_true rfl) ?_; conv => whnf) | (refine Need.mk (by omega) ?_; conv => whnf) | (refine Need.mk ⟨rfl, by omega, by omega⟩ ?_; conv => whnf) | (refine Need.mk ⟨rfl, rfl⟩ ?_; conv => whnf) | (refine Need.mk ⟨rfl, rfl, rfl, by simp⟩ ?_; conv => whnf) | (refine Need.mk ⟨rfl, rfl, Nat.le_refl _⟩ ?_; conv => whnf) | (refine Need.mk ⟨by omega, by omega⟩ ?_; conv => whnf) | (refine Need.mk ⟨rfl, rfl, by omega⟩ ?_; conv => whnf) | (refine Need.mk ⟨rfl, by omega⟩ ?_; conv => whnf) | (refine HeapCall.use [3] (same_ok g T U 1 hT hU (by decide) (by omega)) rfl rfl (by decide) ?_; conv => whnf))
  exact ⟨rfl, rfl⟩
end Go.Proofs.Kd

namespace Go.Proofs.Kd
open Go Go.Proofs.De Go.Proofs.Tryd
set_option maxRecDepth 100000
set_option maxHeartbeats 4000000

theorem maxF_congr {f h : Nat → Int} : ∀ {k i : Nat} {a : Int}, (∀ j, f j = h j) → maxF f i k a = maxF h i k a
  | 0, _, _, _ => rfl
  | k + 1, i, a, e => by simp only [maxF, e]; exact maxF_congr e
theorem depth_erase : ∀ (T : TT), depth (erase T) = depth T
  | .nul => rfl
  | .mk k nm r u m regs n kids => by
    simp only [erase, depth]
    rw [maxF_congr fun j => depth_erase (kids j)]
theorem depth_with (w : Nat → Int) (q : Nat) : ∀ (T : TT) (j : Nat), depth (withT w q T j) = depth T
  | .nul, _ => rfl
  | .mk k nm r u m regs n kids, j => by
    simp only [withT, depth]
    rw [maxF_congr fun i => depth_with w q (kids i) _]
theorem shp_erase : ∀ (T : TT), shp (erase T) = shp T
  | .nul => rfl
  | .mk k nm r u m regs n kids => by simp only [erase, shp, shp_erase (kids 0)]
theorem shp_with (w : Nat → Int) (q : Nat) : ∀ (T : TT) (j : Nat), shp (withT w q T j) = shp T
  | .nul, _ => rfl
  | .mk k nm r u m regs n kids, j => by simp only [withT, shp, shp_with w q (kids 0)]
theorem anyF_none {f : Nat → Bool} : ∀ {k i : Nat}, (∀ j, i ≤ j → j < i + k → f j = false) → anyF f i k = false
  | 0, _, _ => rfl
  | k + 1, i, h => by
    simp only [anyF, h i (Nat.le_refl _) (by omega), Bool.false_or]
    exact anyF_none fun j h1 h2 => h j (by omega) (by omega)

/-- Alike without their regions just if the one with the other's regions is the other. -/
theorem erased_same (w : Nat → Int) (q : Nat) : ∀ (A B : TT) (j : Nat), rfits A = true → rfits B = true → (∀ i, i < (regsOf B).length → w (j + i) = (regsOf B).getD i 0) → j + (regsOf B).length = q →
    ksame (erase A) (erase B) = ksame (withT w q A j) B
  | .nul, _, _, h, _, _, _ => by cases h
  | _, .nul, _, _, h, _, _ => by cases h
  | .mk k nm r u m regs n kids, .mk k' nm' r' u' m' regs' n' kids', j, hA, hB, hw, hq => by
    have ih := erased_same w q (kids 0) (kids' 0)
    show ksame (.mk k nm (if k = 4 then 0 else r) u m (fun _ => 0) n fun i => erase (kids i)) (.mk k' nm' (if k' = 4 then 0 else r') u' m' (fun _ => 0) n' fun i => erase (kids' i)) =
      ksame (.mk k nm (if k = 4 then wReg w q r j else r) u m (fun i => wReg w q (regs i) (wStep k q j + i)) n fun i => withT w q (kids i) (min (wStep k q j + m) q)) (.mk k' nm' r' u' m' regs' n' kids')
    rw [ksame_mk, ksame_mk]
    by_cases hk : k = k'
    · subst hk
      rcases rfits_cases hA with ⟨a1, rfl, rfl, rfl⟩ | ⟨rfl, rfl, rfl, ak, _⟩ | ⟨a1, rfl, rfl, ak, rfl⟩ | ⟨rfl, a20, rfl, rfl, _⟩
      · rcases rfits_cases hB with ⟨b1, rfl, rfl, rfl⟩ | ⟨rfl, rfl, rfl, bk, _⟩ | ⟨b1, rfl, rfl, bk, rfl⟩ | ⟨rfl, b20, rfl, rfl, _⟩
        · have h4 : ¬ k = 4 := by omega
          simp [h4, anyF]
        · omega
        · omega
        · omega
      · rcases rfits_cases hB with ⟨b1, rfl, rfl, rfl⟩ | ⟨_, rfl, rfl, bk, _⟩ | ⟨b1, rfl, rfl, bk, rfl⟩ | ⟨b1, b20, rfl, rfl, _⟩
        · omega
        · have e : regsOf (.mk 4 nm' r' u' 0 regs' 1 kids') = r' :: regsOf (kids' 0) := by simp [regsOf]
          rw [e] at hw hq
          have hlen : (r' :: regsOf (kids' 0)).length = (regsOf (kids' 0)).length + 1 := rfl
          have hjq : j < q := by omega
          have h0 : w j = r' := by have := hw 0 (by omega); simpa using this
          have hs : wStep 4 q j = j + 1 := by simp [wStep]; omega
          have hih := ih (j + 1) ak bk (fun i hi => by
            have := hw (i + 1) (by omega)
            rw [show j + 1 + i = j + (i + 1) by omega, this]; rfl) (by omega)
          have hmin : min (j + 1 + 0) q = j + 1 := by omega
          simp [hs, hmin, wReg, hjq, h0, anyF, hih]
        · omega
        · omega
      · rcases rfits_cases hB with ⟨b1, rfl, rfl, rfl⟩ | ⟨rfl, rfl, rfl, bk, _⟩ | ⟨b1, rfl, rfl, bk, rfl⟩ | ⟨rfl, b20, rfl, rfl, _⟩
        · omega
        · omega
        · have h4 : ¬ k = 4 := by omega
          have e : regsOf (.mk k nm' 0 u' 0 regs' 1 kids') = regsOf (kids' 0) := by simp [regsOf, h4]
          rw [e] at hw hq
          have hs : wStep k q j = j := by simp [wStep, h4]
          have hmin : min (j + 0) q = j := by omega
          have hih := ih j ak bk hw hq
          rw [hs, hmin]
          simp [h4, anyF, hih]
        · omega
      · rcases rfits_cases hB with ⟨b1, rfl, rfl, rfl⟩ | ⟨b1, rfl, rfl, bk, _⟩ | ⟨b1, rfl, rfl, bk, rfl⟩ | ⟨_, b20, rfl, rfl, _⟩
        · omega
        · omega
        · omega
        · have e : regsOf (.mk 7 nm' 0 u' m' regs' 0 kids') = (List.range m').map regs' := by simp [regsOf]
          rw [e] at hw hq
          simp only [List.length_map, List.length_range] at hw hq
          have h1 : anyF (uneq (fun _ => 0) fun _ => 0) 0 m = false := anyF_none fun _ _ _ => by simp [uneq]
          by_cases hm : m = m'
          · subst hm
            have h2 : anyF (uneq (fun i => wReg w q (regs i) (wStep 7 q j + i)) regs') 0 m = false := anyF_none fun i _ hi => by
              have hi' : i < m := by omega
              have := hw i hi'
              simp [hi'] at this
              have hjq : j + i < q := by omega
              simp [uneq, wReg, wStep, hjq, this]
            simp [h1, h2]
          · simp [hm]
    · simp [hk]

theorem fine_ok (g : Gl) (T : TT) (hok : T.ok) : PureCall (XX g) 16 [.agg T.cells] (.lit (.bool (!great T 62 && rright T))) := by
  intro M
  refine SimCall.of_body (fn := f16) func16 (by decide) ?_
  conv => whnf
  repeat (first | (refine Need.mk rfl ?_; conv => whnf) | (refine Need.mk (by decide) ?_; conv => whnf) | (refine Need.mk (of_decide_eq_true rfl) ?_; conv => whnf) | (refine Need.mk (by omega) ?_; conv => whnf) | (refine Need.mk ⟨rfl, by omega, by omega⟩ ?_; conv => whnf) | (refine Need.mk ⟨rfl, rfl⟩ ?_; conv => whnf) | (refine Need.mk ⟨rfl, rfl, rfl, by simp⟩ ?_; conv => whnf) | (refine Need.mk ⟨rfl, rfl, Nat.le_refl _⟩ ?_; conv => whnf) | (refine Need.mk ⟨by omega, by omega⟩ ?_; conv => whnf) | (refine Need.mk ⟨rfl, rfl, by omega⟩ ?_; conv => whnf) | (refine Need.mk ⟨rfl, by omega⟩ ?_; conv => whnf) | (refine (great_ok g T 62 hok (by decide) (by decide)).use rfl rfl ?_; conv => whnf))
  refine Br.intro (fun h => ?_) (fun h => ?_)
  · conv => whnf
    have h' : great T 62 = false := by simpa using h
    have hd := great_depth T 62 h'
    repeat (first | (refine Need.mk rfl ?_; conv => whnf) | (refine Need.mk (by decide) ?_; conv => whnf) | (refine Need.mk (of_decide_eq_true rfl) ?_; conv => whnf) | (refine Need.mk (by omega) ?_; conv => whnf) | (refine Need.mk ⟨rfl, by omega, by omega⟩ ?_; conv => whnf) | (refine Need.mk ⟨rfl, rfl⟩ ?_; conv => whnf) | (refine Need.mk ⟨rfl, rfl, rfl, by simp⟩ ?_; conv => whnf) | (refine Need.mk ⟨rfl, rfl, Nat.le_refl _⟩ ?_; conv => whnf) | (refine Need.mk ⟨by omega, by omega⟩ ?_; conv => whnf) | (refine Need.mk ⟨rfl, rfl, by omega⟩ ?_; conv => whnf) | (refine Need.mk ⟨rfl, by omega⟩ ?_; conv => whnf) | (refine (rright_ok g T hok (by omega)).use rfl rfl ?_; conv => whnf))
    exact ⟨congrArg (fun b => AV.lit (.bool b)) (by rw [h']; rfl), rfl⟩
  · conv => whnf
    have h' : great T 62 = true := by simpa using h
    exact ⟨congrArg (fun b => AV.lit (.bool b)) (by rw [h']; rfl), rfl⟩

/-- The law KindErased. -/
theorem lawErased_ok (g : Gl) (A B : TT) (hA : A.ok) (hB : B.ok) : PureCall (XX g) 9 [.agg A.cells, .agg B.cells] (.lit (.bool true)) := by
  intro M
  refine SimCall.of_body (fn := f9) func9 (by decide) ?_
  conv => whnf
  repeat' (first | (refine Need.mk rfl ?_; conv => whnf) | (refine Need.mk (by decide) ?_; conv => whnf) | (refine Need.mk (of_decide_eq_true rfl) ?_; conv => whnf) | (refine Need.mk (by omega) ?_; conv => whnf) | (refine Need.mk ⟨rfl, by omega, by omega⟩ ?_; conv => whnf) | (refine Need.mk ⟨rfl, rfl⟩ ?_; conv => whnf) | (refine Need.mk ⟨rfl, rfl, rfl, by simp⟩ ?_; conv => whnf) | (refine Need.mk ⟨rfl, rfl, Nat.le_refl _⟩ ?_; conv => whnf) | (refine Need.mk ⟨by omega, by omega⟩ ?_; conv => whnf) | (refine Need.mk ⟨rfl, rfl, by omega⟩ ?_; conv => whnf) | (refine Need.mk ⟨rfl, by omega⟩ ?_; conv => whnf) | (refine (fine_ok g A hA).use rfl rfl ?_; conv => whnf) | (refine (fine_ok g B hB).use rfl rfl ?_; conv => whnf) | (refine (awake_ok g).use rfl rfl ?_; conv => whnf) | (refine Br.intro (fun h' => ?_) (fun h' => ?_) <;> ((try simp at h') <;> (conv => whnf))))
  all_goals first | exact ⟨rfl, rfl⟩ | skip
  rename_i hA'
  have hB' := h'
  simp only [rright, Bool.and_eq_true, decide_eq_true_eq] at hA' hB'
  obtain ⟨_, ad, af⟩ := hA'
  obtain ⟨_, bd, bf⟩ := hB'
  have e1 := kerase_ok g A af ad
  have e2 := kerase_ok g B bf bd
  have s1 := ksame_ok g (erase A) (erase B) (by rw [shp_erase]; exact shp_right A af) (by rw [shp_erase]; exact shp_right B bf) (by rw [depth_erase]; exact ad)
  have rg := kregs_ok g B bf bd
  have hl := regsOf_len B bf
  have wt := kwith_ok g (lAt (regsOf B)) (regsOf B).length (by omega) A af ad
  have s2 := ksame_ok g (withT (lAt (regsOf B)) (regsOf B).length A 0) B (by rw [shp_with]; exact shp_right A af) (shp_right B bf) (by rw [depth_with]; exact ad)
  have hsame := erased_same (lAt (regsOf B)) (regsOf B).length A B 0 af bf (fun i _ => by rw [Nat.zero_add]; rfl) (Nat.zero_add _)
  clear h'
  repeat' (first | (refine Need.mk rfl ?_; conv => whnf) | (refine Need.mk (by decide) ?_; conv => whnf) | (refine Need.mk (of_decide_eq_true rfl) ?_; conv => whnf) | (refine Need.mk (by omega) ?_; conv => whnf) | (refine Need.mk ⟨rfl, by omega, by omega⟩ ?_; conv => whnf) | (refine Need.mk ⟨rfl, rfl⟩ ?_; conv => whnf) | (refine Need.mk ⟨rfl, rfl, rfl, by simp⟩ ?_; conv => whnf) | (refine Need.mk ⟨rfl, rfl, Nat.le_refl _⟩ ?_; conv => whnf) | (refine Need.mk ⟨by omega, by omega⟩ ?_; conv => whnf) | (refine Need.mk ⟨rfl, rfl, by omega⟩ ?_; conv => whnf) | (refine Need.mk ⟨rfl, by omega⟩ ?_; conv => whnf) | (refine DrawK.run 0 (show prog.follows .mixedOrders = true by decide) ?_; conv => whnf) | (refine HopK.intro _ [] (fun M => (e1).use rfl rfl ⟨rfl, [], rfl⟩) rfl ?_; conv => whnf) | (refine HopK.intro _ [] (fun M => (e2).use rfl rfl ⟨rfl, [], rfl⟩) rfl ?_; conv => whnf) | (refine HopK.intro _ [] (fun M => (s1).use rfl rfl ⟨rfl, [], rfl⟩) rfl ?_; conv => whnf) | (refine HopK.intro _ [] (fun M => (rg).use rfl rfl ⟨rfl, [], rfl⟩) rfl ?_; conv => whnf) | (refine HopK.intro _ [] (fun M => (wt).use rfl rfl ⟨rfl, [], rfl⟩) rfl ?_; conv => whnf) | (refine HopK.intro _ [] (fun M => (s2).use rfl rfl ⟨rfl, [], rfl⟩) rfl ?_; conv => whnf) | (refine HopK.intro _ [] (fun M => (awake_ok g).use rfl rfl ⟨rfl, [], rfl⟩) rfl ?_; conv => whnf) | (refine Br.intro (fun h' => ?_) (fun h' => ?_) <;> ((try simp at h') <;> (conv => whnf))))
  all_goals first | exact ⟨rfl, rfl⟩ | exact absurd hsame h'
end Go.Proofs.Kd
