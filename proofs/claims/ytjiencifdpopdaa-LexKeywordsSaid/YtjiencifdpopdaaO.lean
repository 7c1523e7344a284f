/- The law LexKeywords, walked: it answers true. No conditions beyond what the library's variable holds. -/
import Derived.Test.YtjiencifdpopdaaY
namespace Go.Proofs.Ytjiencifdpopdaa
open Go.RowKit

set_option maxRecDepth 20000 in
set_option maxHeartbeats 4000000 in
theorem lexKeywords_walk (s : ByteArray) (k : Int) (w : World) (hm : MaxOk w) (hk : 0 ≤ k ∧ k ≤ 255) :
    Calls Try.prog 6 #[.string s, .int .u8 k] w fun e w' => e = .returned (.bool true) ∧ Below w.heap.size w w' := by
  have HWK := hide wakes_any
  have HM := hide hm
  clear hm
  by_cases h1 : (200 : Int) < s.size
  · have d1 : decide ((200 : Int) < (s.size : Int)) = true := by simp; omega
    clear h1
    go_enter Try.func6, Try.ntmps6
    go_wp2_with fail
    refine (HWK.out _ HM.out).mono ?_
    rintro e w1 ⟨rfl, hb1⟩
    have HB1 := hide hb1
    clear hb1
    go_wp2
    go_ret
    exact ⟨rfl, HB1.out⟩
  have d1 : decide ((200 : Int) < (s.size : Int)) = false := by simp; omega
  clear h1
  obtain ⟨j, hj, hj22⟩ : ∃ j : Nat, k.tmod 22 = (j : Int) ∧ j < 22 := by
    refine ⟨(k.tmod 22).toNat, ?_, ?_⟩
    · have := Int.tmod_nonneg 22 hk.1; omega
    · have h0 := Int.tmod_nonneg 22 hk.1
      have h2 := Int.tmod_lt_of_pos k (show (0 : Int) < 22 by decide)
      omega
  obtain ⟨x, hx⟩ : ∃ x, keyB[j]? = some x := ⟨_, List.getElem?_eq_getElem (show j < keyB.length from hj22)⟩
  have hxm : x ∈ keyB := List.mem_of_getElem? hx
  have hxl : x.data.toList ∈ keyLs := by rw [← keyB_lists]; exact List.mem_map.2 ⟨x, hxm, rfl⟩
  have hxs : x.size ≤ 8 := by
    have : ∀ y ∈ keyB, y.size ≤ 8 := by decide
    exact this x hxm
  have HT := hide fun w hm => tokens_any x w (by omega) hm
  rw [key_token _ hxl, show fltV (([⟨2, x.data.toList, 0⟩], (0, 0)) : List M.Tok × (Nat × Nat)).2 = .agg #[.int .i64 0, .int .i64 0] from rfl] at HT
  have hex : encT ⟨2, x.data.toList, 0⟩ = ((2 : Int), x, (0 : Int)) := by
    have : (⟨x.data.toList.toArray⟩ : ByteArray) = x := by cases x; simp
    unfold encT; rw [this]; rfl
  rw [show ([(⟨2, x.data.toList, 0⟩ : M.Tok)], ((0, 0) : Nat × Nat)).1.map encT = [((2 : Int), x, (0 : Int))] by rw [← hex]; rfl] at HT
  have HKS := hide fun w => keywords_any w
  have HLS := hide fun w => lexKeyword_any s w
  have HRS := hide fun w => refKeyword_any s w
  have HLX : Hid (∀ w, Calls Try.prog 19 #[.string x] w fun e w' => e = .returned (.bool true) ∧ w = w') := fun w => by
    have := lexKeyword_any x w
    rw [key_has x hxm] at this; exact this
  have HX := hide hx
  generalize hasB keyB s = R at *
  clear hx hxm hxl hxs hex
  go_enter Try.func6, Try.ntmps6
  go_wp2_with fail
  refine (HWK.out _ HM.out).mono ?_
  rintro e w1 ⟨rfl, hb1⟩
  have HB1 := hide hb1
  clear hb1
  go_wp2_with fail
  refine (HKS.out _).mono ?_
  rintro e w2 ⟨v, rfl, ht2, hb2⟩
  have HB2 := hide (bl_trans HB1.out hb2)
  obtain ⟨g, off, c, rfl, hc, hg, hcell⟩ := ht2
  have c1 := hcell j x HX.out
  rw [show keyB.length = 22 from rfl]
  clear hb2 hcell hc
  go_wp2_with fail
  refine (HT.out _ (HM.out.below HB2.out)).mono ?_
  rintro e w3 ⟨v3', rfl, ht3, hb3⟩
  obtain ⟨p, c3, rfl, q1, q2⟩ := ht3
  obtain ⟨g3, off3, rfl, hg3, hx3⟩ := q2 (by simp)
  obtain ⟨y1, y2, _⟩ := hx3 0 _ rfl
  have z1 := (World.cell?_alloc_lt w3 (Obj.cells #[Value.int .i64 0, .int .i64 0] 26) ⟨g3, off3 + 0 * 3, none⟩ hg3).trans y1
  have z2 := (World.cell?_alloc_lt w3 (Obj.cells #[Value.int .i64 0, .int .i64 0] 26) ⟨g3, off3 + 0 * 3 + 1, none⟩ hg3).trans y2
  simp at z1 z2
  have Z1 := hide z1
  have Z2 := hide z2
  have HG3 := hide (show g3 < (w3.alloc (Obj.cells #[Value.int .i64 0, .int .i64 0] 26)).heap.size from Nat.lt_of_lt_of_le hg3 (by simp))
  have HB3 := hide (bl_alloc (bl_trans HB2.out hb3) (Obj.cells #[Value.int .i64 0, .int .i64 0] 26))
  simp only [List.length_cons, List.length_nil]
  clear hb3 q1 hx3 y1 y2 z1 z2 c1
  go_wp2_with fail
  refine (HLS.out _).mono ?_
  rintro e w' ⟨rfl, rfl⟩
  go_wp2_with fail
  refine (HRS.out _).mono ?_
  rintro e w4 ⟨rfl, hb4⟩
  have hlt : w3.heap.size < (w3.alloc (Obj.cells #[Value.int .i64 0, .int .i64 0] 26)).heap.size := by simp
  have f0 := hb4.cell (p := ⟨w3.heap.size, 0, none⟩) hlt
  have f1 := hb4.cell (p := ⟨w3.heap.size, 1, none⟩) hlt
  have t1 := (hb4.cell (p := ⟨g3, off3, none⟩) HG3.out).trans Z1.out
  have t2 := (hb4.cell (p := ⟨g3, off3 + 1, none⟩) HG3.out).trans Z2.out
  have HB4 := hide (bl_trans HB3.out hb4)
  clear hb4 hlt
  simp at f0 f1
  go_wp2_with fail
  refine (HLX.out _).mono ?_
  rintro e w' ⟨rfl, rfl⟩
  go_wp2
  go_ret
  exact ⟨rfl, HB4.out⟩
end Go.Proofs.Ytjiencifdpopdaa
