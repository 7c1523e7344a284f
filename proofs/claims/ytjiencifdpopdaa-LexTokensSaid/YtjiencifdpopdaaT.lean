/- The law LexTokens, walked: it answers true. No conditions beyond what the library's variable holds. -/
import Derived.Test.YtjiencifdpopdaaRt
import Derived.Test.YtjiencifdpopdaaR
namespace Go.Proofs.Ytjiencifdpopdaa
open Go.RowKit

theorem ans_few (l : List UInt8) : (ans l).1.length ≤ l.length := by
  rcases ans_cases l with h | h
  · exact (M.T_len _ _ _ _ (ans_ok h).2).1
  · rw [(ans_bad h).1]; exact Nat.zero_le _

set_option maxRecDepth 20000 in
set_option maxHeartbeats 4000000 in
theorem lexTokens_walk (s : ByteArray) (w : World) (hm : MaxOk w) :
    Calls Try.prog 3 #[.string s] w fun e w' => e = .returned (.bool true) ∧ Below w.heap.size w w' := by
  have HWK := hide wakes_any
  have HM := hide hm
  clear hm
  by_cases hs : (400 : Int) < s.size
  · go_enter Try.func3, Try.ntmps3
    go_wp2_with fail
    refine (HWK.out _ HM.out).mono ?_
    rintro e w1 ⟨rfl, hb1⟩
    have HB1 := hide hb1
    clear hb1
    go_wp2
    go_ret
    exact ⟨rfl, HB1.out⟩
  · have HTA := hide fun w hm => tokens_any s w (by omega) hm
    have HTB := hide fun w => refTokens_any s w (by omega)
    have hfew : ((ans s.data.toList).1.map encT).length ≤ 1000000 := by
      rw [List.length_map]
      have := ans_few s.data.toList
      rw [len_of] at this; omega
    have hls := fun va vb w ha hb => lawSame_any va vb ((ans s.data.toList).1.map encT) ((ans s.data.toList).1.map encT) w ha hb hfew
    simp only [allR_self sameKTA kta_self] at hls
    have HLS := hide hls
    obtain ⟨f1, f2, hf⟩ : ∃ f1 f2, (ans s.data.toList).2 = (f1, f2) := ⟨_, _, rfl⟩
    rw [hf] at HTA HTB
    rw [show fltV (f1, f2) = .agg #[.int .i64 f1, .int .i64 f2] from rfl] at HTA HTB
    generalize (ans s.data.toList).1.map encT = ts at *
    clear hls hfew hf
    go_enter Try.func3, Try.ntmps3
    go_wp2_with fail
    refine (HWK.out _ HM.out).mono ?_
    rintro e w1 ⟨rfl, hb1⟩
    have HB1 := hide hb1
    clear hb1
    go_wp2_with fail
    refine (HTA.out _ (HM.out.below HB1.out)).mono ?_
    rintro e w2 ⟨va, rfl, hta, hb2⟩
    have HB2 := hide (bl_alloc (bl_trans HB1.out hb2) (Obj.cells #[.int .i64 f1, .int .i64 f2] 26))
    have HTA2 := hide (hta.below (bl_alloc (Below.refl _ w2) (Obj.cells #[.int .i64 f1, .int .i64 f2] 26)))
    clear hb2 hta
    go_wp2_with fail
    refine (HTB.out _).mono ?_
    rintro e w3 ⟨vb, rfl, htb, hb3⟩
    have hb3' := bl_alloc hb3 (Obj.cells #[.int .i64 f1, .int .i64 f2] 26)
    have HB3 := hide (bl_trans HB2.out hb3')
    have HTA3 := hide (HTA2.out.below hb3')
    have HTB3 := hide (htb.below (bl_alloc (Below.refl _ w3) (Obj.cells #[.int .i64 f1, .int .i64 f2] 26)))
    have hlt2 : w2.heap.size < (w2.alloc (Obj.cells #[Value.int .i64 f1, .int .i64 f2] 26)).heap.size := by simp
    have y0 := hb3'.cell (p := ⟨w2.heap.size, 0, none⟩) hlt2
    have y1 := hb3'.cell (p := ⟨w2.heap.size, 1, none⟩) hlt2
    clear hb3 hb3' htb hlt2
    simp at y0 y1
    go_wp2_with fail
    refine (HLS.out _ _ _ HTA3.out HTB3.out).mono ?_
    rintro e w4 ⟨rfl, n, rfl⟩
    go_wp2
    go_ret
    exact ⟨rfl, bl_drewN HB3.out n⟩
end Go.Proofs.Ytjiencifdpopdaa
