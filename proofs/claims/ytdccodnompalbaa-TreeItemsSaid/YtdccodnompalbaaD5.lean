/- What stands in a place, and what a node's kids must be, by the document's own answer. No conditions beyond the bounds that each statement names. -/
import Derived.Test.YtdccodnompalbaaD4
import Derived.Deep.Cut
import Derived.Deep.CutBlock
namespace Go.Proofs.Ytdccodnompalbaa
open Go.RowKit Go.Shelf

def standsM (k want : Int) : Bool :=
  if want = 6 then (k == 0 || classM k == 4) else if want = 7 then (k == 0 || classM k == 2) else if want = 8 then (k == 0 || (k == 53 || k == 59)) else if want = 9 ∨ want = 5000 then k == 5
  else if want = 5001 ∨ want = 5002 then k == 6 else if want < 6 then classM k == want else k == want - 10

set_option maxRecDepth 20000 in
set_option maxHeartbeats 4000000 in
theorem refStands_v (k : Int) (t : ByteArray) (n a : Int) (p : Option Addr) (l c : Nat) (want : Int) (w : World) (h0 : 0 ≤ want) (h1 : want ≤ 100000) :
    Calls Try.prog 53 #[.agg #[.int .i64 k, .string t, .int .i64 n, .slice p l c, .int .i64 a], .int .i64 want] w fun e w' => e = .returned (.bool (standsM k want)) ∧ Below w.heap.size w w' := by
  have hc := fun w => refClass_any k w
  have hB : ∀ o, Below w.heap.size w (w.alloc o) := fun o => bl_alloc (Below.refl _ _) o
  have HBB := hide hB
  clear hB
  by_cases q6 : want = 6
  · subst q6
    rw [show standsM k 6 = (k == 0 || classM k == 4) from rfl]
    by_cases e0 : k = 0
    · subst e0
      go_enter Try.func53, Try.ntmps53
      go_wp2
      go_ret
      exact ⟨rfl, HBB.out _⟩
    · rw [show (k == 0 || classM k == 4) = (classM k == 4) by simp [e0]]
      generalize classM k = C at *
      go_enter Try.func53, Try.ntmps53
      go_wp2_with (go_at_call 67; refine (hc _).mono ?_; rintro e w' ⟨rfl, rfl⟩)
      go_ret
      exact ⟨ret_bool (by simp [e0]), HBB.out _⟩
  by_cases q7 : want = 7
  · subst q7
    rw [show standsM k 7 = (k == 0 || classM k == 2) from rfl]
    by_cases e0 : k = 0
    · subst e0
      go_enter Try.func53, Try.ntmps53
      go_wp2
      go_ret
      exact ⟨rfl, HBB.out _⟩
    · rw [show (k == 0 || classM k == 2) = (classM k == 2) by simp [e0]]
      generalize classM k = C at *
      go_enter Try.func53, Try.ntmps53
      go_wp2_with (go_at_call 67; refine (hc _).mono ?_; rintro e w' ⟨rfl, rfl⟩)
      go_ret
      exact ⟨ret_bool (by simp [e0]), HBB.out _⟩
  by_cases q8 : want = 8
  · subst q8
    rw [show standsM k 8 = (k == 0 || (k == 53 || k == 59)) from rfl]
    by_cases e0 : k = 0
    · subst e0
      go_enter Try.func53, Try.ntmps53
      go_wp2
      go_ret
      exact ⟨rfl, HBB.out _⟩
    by_cases e1 : k = 53
    · subst e1
      go_enter Try.func53, Try.ntmps53
      go_wp2
      go_ret
      exact ⟨rfl, HBB.out _⟩
    by_cases e2 : k = 59
    · subst e2
      go_enter Try.func53, Try.ntmps53
      go_wp2
      go_ret
      exact ⟨rfl, HBB.out _⟩
    · rw [show (k == 0 || (k == 53 || k == 59)) = false by simp [e0, e1, e2]]
      go_enter Try.func53, Try.ntmps53
      go_wp2
      go_ret
      exact ⟨ret_bool (by first | rfl | (simp [e0, e1, e2]; done) | omega), HBB.out _⟩
  by_cases q9 : want = 9
  · subst q9
    rw [show standsM k 9 = (k == 5) from rfl]
    go_enter Try.func53, Try.ntmps53
    go_wp2
    go_ret
    exact ⟨ret_bool (by first | rfl | simp), HBB.out _⟩
  by_cases q5000 : want = 5000
  · subst q5000
    rw [show standsM k 5000 = (k == 5) from rfl]
    go_enter Try.func53, Try.ntmps53
    go_wp2
    go_ret
    exact ⟨ret_bool (by first | rfl | simp), HBB.out _⟩
  by_cases q5001 : want = 5001
  · subst q5001
    rw [show standsM k 5001 = (k == 6) from rfl]
    go_enter Try.func53, Try.ntmps53
    go_wp2
    go_ret
    exact ⟨ret_bool (by first | rfl | simp), HBB.out _⟩
  by_cases q5002 : want = 5002
  · subst q5002
    rw [show standsM k 5002 = (k == 6) from rfl]
    go_enter Try.func53, Try.ntmps53
    go_wp2
    go_ret
    exact ⟨ret_bool (by first | rfl | simp), HBB.out _⟩
  rcases Int.lt_or_le want 6 with hw | hw
  · have e : standsM k want = (classM k == want) := by simp [standsM, q6, q7, q8, q9, q5000, q5001, q5002, hw]
    rw [e]
    clear e
    generalize classM k = C at *
    go_enter Try.func53, Try.ntmps53
    go_wp2_with (go_at_call 67; refine (hc _).mono ?_; rintro e w' ⟨rfl, rfl⟩)
    go_ret
    exact ⟨ret_bool (by first | rfl | simp), HBB.out _⟩
  · have e : standsM k want = (k == want - 10) := by
      have : ¬ want < 6 := by omega
      simp [standsM, q6, q7, q8, q9, q5000, q5001, q5002, this]
    rw [e]
    clear e hc
    have hww : wrap64 (want - 10) = want - 10 := IntWalk.wrap64_in _ (by omega)
    go_enter Try.func53, Try.ntmps53
    go_wp2
    go_ret
    exact ⟨ret_bool (by first | rfl | simp), HBB.out _⟩
end Go.Proofs.Ytdccodnompalbaa
