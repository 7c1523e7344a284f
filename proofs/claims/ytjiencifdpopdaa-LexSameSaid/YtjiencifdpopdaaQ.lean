/- The law LexSame, walked: it answers true. No conditions beyond what the library's variable holds. -/
import Derived.Test.YtjiencifdpopdaaH
namespace Go.Proofs.Ytjiencifdpopdaa
open Go.RowKit

set_option maxHeartbeats 2000000 in
theorem lexSame_walk (va vb : Value) (la lb : List RT) (w : World) (hm : MaxOk w) (ha : Toks w va la) (hb : Toks w vb lb) :
    Calls Try.prog 7 #[va, vb] w fun e w' => e = .returned (.bool true) ∧ Below w.heap.size w w' := by
  have HWK := hide wakes_any
  have HM := hide hm
  have HA := hide ha
  have HB := hide hb
  have h16 := fun w ha hb hl => lexSame_any va vb la lb w ha hb hl
  have h17 := fun w ha hb hl => refSame_any va vb la lb w ha hb hl
  obtain ⟨pa, ca, rfl, hca, _⟩ := ha
  obtain ⟨pb, cb, rfl, hcb, _⟩ := hb
  have H16 := hide h16
  have H17 := hide h17
  clear h16 h17 hm
  generalize allR sameKT la lb = R at *
  by_cases h1 : 50 < la.length
  · have d1 : decide ((50 : Int) < (la.length : Int)) = true := by simp; omega
    go_enter Try.func7, Try.ntmps7
    go_wp2_with fail
    refine (HWK.out _ HM.out).mono ?_
    rintro e w1 ⟨rfl, hb1⟩
    have HB1 := hide hb1
    clear hb1 h1
    go_wp2
    go_ret
    exact ⟨rfl, HB1.out⟩
  · have d1 : decide ((50 : Int) < (la.length : Int)) = false := by simp; omega
    have HL : Hid (la.length ≤ 1000000) := by unfold Hid; omega
    clear h1
    by_cases h2 : 50 < lb.length
    · have d2 : decide ((50 : Int) < (lb.length : Int)) = true := by simp; omega
      go_enter Try.func7, Try.ntmps7
      go_wp2_with fail
      refine (HWK.out _ HM.out).mono ?_
      rintro e w1 ⟨rfl, hb1⟩
      have HB1 := hide hb1
      clear hb1 h2
      go_wp2
      go_ret
      exact ⟨rfl, HB1.out⟩
    · have d2 : decide ((50 : Int) < (lb.length : Int)) = false := by simp; omega
      clear h2
      go_enter Try.func7, Try.ntmps7
      go_wp2_with fail
      refine (HWK.out _ HM.out).mono ?_
      rintro e w1 ⟨rfl, hb1⟩
      have HB1 := hide hb1
      clear hb1
      go_wp2_with fail
      refine (H16.out _ (HA.out.below HB1.out) (HB.out.below HB1.out) HL.out).mono ?_
      rintro e w2 ⟨rfl, hb2⟩
      have HB2 := hide (bl_trans HB1.out hb2)
      clear hb2
      go_wp2_with fail
      refine (H17.out _ (HA.out.below HB2.out) (HB.out.below HB2.out) HL.out).mono ?_
      rintro e w3 ⟨rfl, n, hn⟩
      have HB3 : Hid (Below w.heap.size w w3) := by rw [hn]; exact bl_drewN HB2.out n
      clear hn
      go_wp2
      go_ret
      exact ⟨ret_bool (by simp), HB3.out⟩
end Go.Proofs.Ytjiencifdpopdaa
