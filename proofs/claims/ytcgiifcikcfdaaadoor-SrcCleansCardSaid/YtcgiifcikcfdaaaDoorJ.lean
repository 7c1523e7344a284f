/- The law SrcCleans, walked: it answers true. No conditions beyond what the library's variables hold. -/
import Derived.Test.YtcgiifcikcfdaaaDoorI
namespace Go.Proofs.YtcgiifcikcfdaaaDoor
open Go.RowKit

set_option maxHeartbeats 1000000 in
theorem srcCleans_walk (s : ByteArray) (w : World) (hr : Ready w) :
    Calls Tryd.prog 3 #[.string s] w fun e w' => e = .returned (.bool true) ∧ Below w.heap.size w w' := by
  have HA := hide awake_any
  have HR := hide hr
  clear hr
  by_cases hs : (70000 : Int) < s.size
  · go_enter Tryd.func3, Tryd.ntmps3
    go_wp2_with fail
    refine (HA.out _ HR.out).mono ?_
    rintro e w1 ⟨rfl, hb1⟩
    have HB1 := hide hb1
    clear hb1
    go_wp2_with fail
    refine (HA.out _ (HR.out.below HB1.out)).mono ?_
    rintro e w2 ⟨rfl, hb2⟩
    have HB2 := hide (bl_trans HB1.out hb2)
    clear hb2
    go_wp2
    go_ret
    exact ⟨rfl, HB2.out⟩
  · obtain ⟨a, b, hab⟩ : ∃ a b : Int, clnV (cln s.data.toList) = .agg #[.int .i64 a, .int .i64 b] := ⟨_, _, rfl⟩
    have h1 := fun w => clean_any s w (by omega)
    have h2 := fun w => refClean_any s w (by omega)
    rw [hab] at h1 h2
    have H1 := hide h1
    have H2 := hide h2
    clear h1 h2 hab
    go_enter Tryd.func3, Tryd.ntmps3
    go_wp2_with fail
    refine (HA.out _ HR.out).mono ?_
    rintro e w1 ⟨rfl, hb1⟩
    have HB1 := hide hb1
    clear hb1
    go_wp2_with fail
    refine (H1.out _).mono ?_
    rintro e w2 ⟨rfl, hb2⟩
    have HB2 := hide (bl_trans HB1.out hb2)
    clear hb2
    go_wp2_with fail
    refine (H2.out _).mono ?_
    rintro e w3 ⟨rfl, hb3⟩
    have HB3 := hide (bl_trans HB2.out hb3)
    clear hb3
    go_wp2
    go_ret
    exact ⟨rfl, HB3.out⟩
end Go.Proofs.YtcgiifcikcfdaaaDoor
