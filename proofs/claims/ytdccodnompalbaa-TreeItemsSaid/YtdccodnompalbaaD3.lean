/- Classes, places, numbers and texts of nodes by the document's own answer. No conditions beyond the bounds that each statement names. -/
import Derived.Test.YtdccodnompalbaaD2
namespace Go.Proofs.Ytdccodnompalbaa
open Go.RowKit Go.Shelf

def classM (k : Int) : Int :=
  if 2 ≤ k ∧ k ≤ 4 then 1 else if 20 ≤ k ∧ k ≤ 26 then 2 else if k = 30 ∨ k = 31 then 3 else if k = 6 ∨ (40 ≤ k ∧ k ≤ 62 ∧ k ≠ 49 ∧ k ≠ 51 ∧ k ≠ 61) then 4 else if 70 ≤ k ∧ k ≤ 74 then 5 else 0

set_option maxHeartbeats 4000000 in
theorem refClass_any (k : Int) (w : World) : Calls Try.prog 67 #[.int .i64 k] w fun e w' => e = .returned (.int .i64 (classM k)) ∧ w = w' := by
  go_enter Try.func67, Try.ntmps67
  go_wp2
  all_goals (go_ret; refine ⟨ret_int ?_, rfl⟩; unfold classM; simp only [beq_iff_eq, beq_eq_false_iff_ne, ne_eq, bne_iff_ne, bne_eq_false_iff_eq] at *; (repeat' split) <;> first | rfl | omega | (exfalso; simp_all; done))
end Go.Proofs.Ytdccodnompalbaa
