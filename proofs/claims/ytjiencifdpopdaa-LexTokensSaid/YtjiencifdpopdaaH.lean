/- The law's own first question: it is answered by true. No conditions beyond what the library's variable holds. -/
import Derived.Test.YtjiencifdpopdaaG
namespace Go.Proofs.Ytjiencifdpopdaa
open Go.RowKit

def wk1 : List UInt8 := [102, 110, 32, 102, 40, 120, 58, 38, 39, 97, 32, 105, 110, 116, 41, 123, 125, 32, 47, 47, 32, 110, 111]
def wk2 : List UInt8 := [120, 47, 42]
theorem wk1_f : (ans wk1).2 = (0, 0) := by kernel_rfl
theorem wk1_l : ((ans wk1).1.map encT).length = 11 := by kernel_rfl
theorem wk1_6 : ((ans wk1).1.map encT)[6]? = some (3, ⟨#[39, 97]⟩, 8) := by kernel_rfl
theorem wk2_f : (ans wk2).2 = (21, 1) := by kernel_rfl

set_option maxHeartbeats 2000000 in
theorem wakes_any (w : World) (hm : MaxOk w) : Calls Try.prog 10 #[] w fun e w' => e = .returned (.bool true) ∧ Below w.heap.size w w' := by
  have h1 : ∀ w, MaxOk w → Calls Try.prog 11 #[.string ⟨#[102, 110, 32, 102, 40, 120, 58, 38, 39, 97, 32, 105, 110, 116, 41, 123, 125, 32, 47, 47, 32, 110, 111]⟩] w fun e w' => ∃ (p : Option Addr) (c : Nat), e = .returned (.tuple #[.slice p 11 c, .agg #[.int .i64 0, .int .i64 0]]) ∧ (∃ g off : Nat, p = some ⟨g, off, none⟩ ∧ g < w'.heap.size ∧ w'.cell? ⟨g, off + 6 * 3, none⟩ = some (.int .i64 3) ∧ w'.cell? ⟨g, off + 6 * 3 + 1, none⟩ = some (.string ⟨#[39, 97]⟩)) ∧ Below w.heap.size w w' := fun w hm => by
    refine (tokens_any ⟨#[102, 110, 32, 102, 40, 120, 58, 38, 39, 97, 32, 105, 110, 116, 41, 123, 125, 32, 47, 47, 32, 110, 111]⟩ w (by decide) hm).mono ?_
    rintro e w' ⟨v, rfl, ht, hb⟩
    rw [show ans (⟨#[102, 110, 32, 102, 40, 120, 58, 38, 39, 97, 32, 105, 110, 116, 41, 123, 125, 32, 47, 47, 32, 110, 111]⟩ : ByteArray).data.toList = ans wk1 from rfl] at ht ⊢
    rw [wk1_f]
    obtain ⟨p, c, rfl, hc, h3⟩ := ht
    obtain ⟨g, off, hp, hg, hx⟩ := h3 (by intro h; have := wk1_l; rw [h] at this; simp at this)
    obtain ⟨x1, x2, _⟩ := hx 6 _ wk1_6
    rw [wk1_l]
    exact ⟨p, c, rfl, ⟨g, off, hp, hg, x1, x2⟩, hb⟩
  have h2 : ∀ w, MaxOk w → Calls Try.prog 11 #[.string ⟨#[120, 47, 42]⟩] w fun e w' => ∃ v, e = .returned (.tuple #[v, .agg #[.int .i64 21, .int .i64 1]]) ∧ Below w.heap.size w w' := fun w hm => by
    refine (tokens_any ⟨#[120, 47, 42]⟩ w (by decide) hm).mono ?_
    rintro e w' ⟨v, rfl, ht, hb⟩
    rw [show ans (⟨#[120, 47, 42]⟩ : ByteArray).data.toList = ans wk2 from rfl, wk2_f]
    exact ⟨v, rfl, hb⟩
  have H1 := hide h1
  have H2 := hide h2
  have HM := hide hm
  clear h1 h2 hm
  go_enter Try.func10, Try.ntmps10
  go_wp2_with fail
  refine (H1.out _ HM.out).mono ?_
  rintro e w1 ⟨p, c, rfl, ⟨g, off, rfl, hg, x1, x2⟩, hb1⟩
  have HB1 := hide (bl_alloc hb1 (Obj.cells #[Value.int IntKind.i64 0, Value.int IntKind.i64 0] 26))
  have HX1 := hide x1
  have HX2 := hide x2
  clear hb1 x1 x2
  go_wp2_with fail
  refine (H2.out _ (HM.out.below HB1.out)).mono ?_
  rintro e w2 ⟨v, rfl, hb2⟩
  have hb3 := bl_alloc hb2 (Obj.cells #[Value.int IntKind.i64 21, Value.int IntKind.i64 1] 26)
  have hg2 : g < (w1.alloc (Obj.cells #[Value.int IntKind.i64 0, Value.int IntKind.i64 0] 26)).heap.size := Nat.lt_of_lt_of_le hg (by simp)
  have y1 := (hb3.cell (p := ⟨g, off + 6 * 3, none⟩) hg2).trans ((World.cell?_alloc_lt _ _ _ (by exact hg)).trans HX1.out)
  have y2 := (hb3.cell (p := ⟨g, off + 6 * 3 + 1, none⟩) hg2).trans ((World.cell?_alloc_lt _ _ _ (by exact hg)).trans HX2.out)
  have hlt : w1.heap.size < (w1.alloc (Obj.cells #[Value.int IntKind.i64 0, Value.int IntKind.i64 0] 26)).heap.size := by simp
  have z0 := hb3.cell (p := ⟨w1.heap.size, 0, none⟩) hlt
  have z1 := hb3.cell (p := ⟨w1.heap.size, 1, none⟩) hlt
  have HB3 := hide (bl_trans HB1.out hb3)
  clear hb2 hb3 HX1 HX2 HB1 hg2 hlt
  simp at z0 z1
  go_wp2
  go_ret
  exact ⟨rfl, HB3.out⟩
end Go.Proofs.Ytjiencifdpopdaa
