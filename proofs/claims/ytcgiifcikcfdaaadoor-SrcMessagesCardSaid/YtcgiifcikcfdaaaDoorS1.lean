/- What each listed kind says, by the program and by the document's own answer, kind by kind. No conditions. -/
import Derived.Test.YtcgiifcikcfdaaaDoorR
namespace Go.Proofs.YtcgiifcikcfdaaaDoor
open Go.RowKit
/-- What a kind says, by both. -/
def Wd (k : Int) (b : ByteArray) : Prop := b.size ≤ 100 ∧
  (∀ w, Calls Tryd.prog 35 #[.int .i64 k] w fun e w' => e = .returned (.string b) ∧ Below w.heap.size w w') ∧
  (∀ w, Calls Tryd.prog 37 #[.int .i64 k] w fun e w' => e = .returned (.string b) ∧ Below w.heap.size w w')

theorem wd0 : Wd 0 ⟨#[114, 105, 103, 104, 116]⟩ := by
  refine ⟨by decide, fun w => ?_, fun w => ?_⟩
  · go_enter Tryd.func35, Tryd.ntmps35
    go_wp2
    go_ret
    exact ⟨rfl, Below.refl _ _⟩
  · go_enter Tryd.func37, Tryd.ntmps37
    go_wp2
    go_ret
    exact ⟨rfl, Below.refl _ _⟩
theorem wd10 : Wd 10 ⟨#[97, 32, 98, 121, 116, 101, 32, 116, 104, 97, 116, 32, 110, 111, 32, 115, 111, 117, 114, 99, 101, 32, 104, 97, 115]⟩ := by
  refine ⟨by decide, fun w => ?_, fun w => ?_⟩
  · go_enter Tryd.func35, Tryd.ntmps35
    go_wp2
    go_ret
    exact ⟨rfl, Below.refl _ _⟩
  · go_enter Tryd.func37, Tryd.ntmps37
    go_wp2
    go_ret
    exact ⟨rfl, Below.refl _ _⟩
theorem wd11 : Wd 11 ⟨#[97, 32, 112, 108, 97, 99, 101, 32, 116, 104, 97, 116, 32, 105, 115, 110, 39, 116, 32, 116, 104, 101, 114, 101]⟩ := by
  refine ⟨by decide, fun w => ?_, fun w => ?_⟩
  · go_enter Tryd.func35, Tryd.ntmps35
    go_wp2
    go_ret
    exact ⟨rfl, Below.refl _ _⟩
  · go_enter Tryd.func37, Tryd.ntmps37
    go_wp2
    go_ret
    exact ⟨rfl, Below.refl _ _⟩
theorem wd20 : Wd 20 ⟨#[110, 111, 32, 116, 111, 107, 101, 110, 32, 98, 101, 103, 105, 110, 115, 32, 115, 111]⟩ := by
  refine ⟨by decide, fun w => ?_, fun w => ?_⟩
  · go_enter Tryd.func35, Tryd.ntmps35
    go_wp2
    go_ret
    exact ⟨rfl, Below.refl _ _⟩
  · go_enter Tryd.func37, Tryd.ntmps37
    go_wp2
    go_ret
    exact ⟨rfl, Below.refl _ _⟩
theorem wd21 : Wd 21 ⟨#[97, 32, 99, 111, 109, 109, 101, 110, 116, 32, 116, 104, 97, 116, 32, 105, 115, 110, 39, 116, 32, 99, 108, 111, 115, 101, 100]⟩ := by
  refine ⟨by decide, fun w => ?_, fun w => ?_⟩
  · go_enter Tryd.func35, Tryd.ntmps35
    go_wp2
    go_ret
    exact ⟨rfl, Below.refl _ _⟩
  · go_enter Tryd.func37, Tryd.ntmps37
    go_wp2
    go_ret
    exact ⟨rfl, Below.refl _ _⟩
theorem wd22 : Wd 22 ⟨#[97, 32, 110, 117, 109, 98, 101, 114, 32, 116, 104, 97, 116, 32, 105, 115, 32, 116, 111, 111, 32, 103, 114, 101, 97, 116]⟩ := by
  refine ⟨by decide, fun w => ?_, fun w => ?_⟩
  · go_enter Tryd.func35, Tryd.ntmps35
    go_wp2
    go_ret
    exact ⟨rfl, Below.refl _ _⟩
  · go_enter Tryd.func37, Tryd.ntmps37
    go_wp2
    go_ret
    exact ⟨rfl, Below.refl _ _⟩
theorem wd30 : Wd 30 ⟨#[97, 32, 110, 111, 100, 101, 32, 116, 104, 97, 116, 32, 109, 97, 121, 32, 110, 111, 116, 32, 98, 101]⟩ := by
  refine ⟨by decide, fun w => ?_, fun w => ?_⟩
  · go_enter Tryd.func35, Tryd.ntmps35
    go_wp2
    go_ret
    exact ⟨rfl, Below.refl _ _⟩
  · go_enter Tryd.func37, Tryd.ntmps37
    go_wp2
    go_ret
    exact ⟨rfl, Below.refl _ _⟩
theorem wd31 : Wd 31 ⟨#[116, 111, 111, 32, 100, 101, 101, 112]⟩ := by
  refine ⟨by decide, fun w => ?_, fun w => ?_⟩
  · go_enter Tryd.func35, Tryd.ntmps35
    go_wp2
    go_ret
    exact ⟨rfl, Below.refl _ _⟩
  · go_enter Tryd.func37, Tryd.ntmps37
    go_wp2
    go_ret
    exact ⟨rfl, Below.refl _ _⟩
theorem wd32 : Wd 32 ⟨#[116, 111, 111, 32, 109, 97, 110, 121]⟩ := by
  refine ⟨by decide, fun w => ?_, fun w => ?_⟩
  · go_enter Tryd.func35, Tryd.ntmps35
    go_wp2
    go_ret
    exact ⟨rfl, Below.refl _ _⟩
  · go_enter Tryd.func37, Tryd.ntmps37
    go_wp2
    go_ret
    exact ⟨rfl, Below.refl _ _⟩
theorem wd40 : Wd 40 ⟨#[97, 110, 111, 116, 104, 101, 114, 32, 116, 111, 107, 101, 110, 32, 105, 115, 32, 119, 97, 110, 116, 101, 100]⟩ := by
  refine ⟨by decide, fun w => ?_, fun w => ?_⟩
  · go_enter Tryd.func35, Tryd.ntmps35
    go_wp2
    go_ret
    exact ⟨rfl, Below.refl _ _⟩
  · go_enter Tryd.func37, Tryd.ntmps37
    go_wp2
    go_ret
    exact ⟨rfl, Below.refl _ _⟩
theorem wd41 : Wd 41 ⟨#[115, 111, 109, 101, 116, 104, 105, 110, 103, 32, 105, 115, 32, 108, 101, 102, 116, 32, 111, 118, 101, 114]⟩ := by
  refine ⟨by decide, fun w => ?_, fun w => ?_⟩
  · go_enter Tryd.func35, Tryd.ntmps35
    go_wp2
    go_ret
    exact ⟨rfl, Below.refl _ _⟩
  · go_enter Tryd.func37, Tryd.ntmps37
    go_wp2
    go_ret
    exact ⟨rfl, Below.refl _ _⟩
theorem wd60 : Wd 60 ⟨#[110, 111, 32, 115, 117, 99, 104, 32, 116, 101, 109, 112, 108, 97, 116, 101]⟩ := by
  refine ⟨by decide, fun w => ?_, fun w => ?_⟩
  · go_enter Tryd.func35, Tryd.ntmps35
    go_wp2
    go_ret
    exact ⟨rfl, Below.refl _ _⟩
  · go_enter Tryd.func37, Tryd.ntmps37
    go_wp2
    go_ret
    exact ⟨rfl, Below.refl _ _⟩
theorem wd61 : Wd 61 ⟨#[97, 110, 111, 116, 104, 101, 114, 32, 110, 117, 109, 98, 101, 114, 32, 111, 102, 32, 97, 114, 103, 117, 109, 101, 110, 116, 115, 32, 105, 115, 32, 119, 97, 110, 116, 101, 100]⟩ := by
  refine ⟨by decide, fun w => ?_, fun w => ?_⟩
  · go_enter Tryd.func35, Tryd.ntmps35
    go_wp2
    go_ret
    exact ⟨rfl, Below.refl _ _⟩
  · go_enter Tryd.func37, Tryd.ntmps37
    go_wp2
    go_ret
    exact ⟨rfl, Below.refl _ _⟩
theorem wd62 : Wd 62 ⟨#[109, 111, 114, 101, 32, 105, 110, 115, 116, 97, 110, 99, 101, 115, 32, 116, 104, 97, 110, 32, 109, 97, 121, 32, 98, 101]⟩ := by
  refine ⟨by decide, fun w => ?_, fun w => ?_⟩
  · go_enter Tryd.func35, Tryd.ntmps35
    go_wp2
    go_ret
    exact ⟨rfl, Below.refl _ _⟩
  · go_enter Tryd.func37, Tryd.ntmps37
    go_wp2
    go_ret
    exact ⟨rfl, Below.refl _ _⟩
theorem wd63 : Wd 63 ⟨#[97, 32, 116, 121, 112, 101, 32, 97, 114, 103, 117, 109, 101, 110, 116, 32, 116, 104, 97, 116, 32, 104, 111, 108, 100, 115, 32, 114, 101, 102, 101, 114, 101, 110, 99, 101, 115]⟩ := by
  refine ⟨by decide, fun w => ?_, fun w => ?_⟩
  · go_enter Tryd.func35, Tryd.ntmps35
    go_wp2
    go_ret
    exact ⟨rfl, Below.refl _ _⟩
  · go_enter Tryd.func37, Tryd.ntmps37
    go_wp2
    go_ret
    exact ⟨rfl, Below.refl _ _⟩
theorem wd70 : Wd 70 ⟨#[97, 32, 116, 101, 120, 116, 32, 116, 104, 97, 116, 32, 105, 115, 32, 110, 111, 32, 116, 121, 112, 101, 39, 115]⟩ := by
  refine ⟨by decide, fun w => ?_, fun w => ?_⟩
  · go_enter Tryd.func35, Tryd.ntmps35
    go_wp2
    go_ret
    exact ⟨rfl, Below.refl _ _⟩
  · go_enter Tryd.func37, Tryd.ntmps37
    go_wp2
    go_ret
    exact ⟨rfl, Below.refl _ _⟩
theorem wd80 : Wd 80 ⟨#[97, 32, 110, 97, 109, 101, 32, 116, 104, 97, 116, 32, 105, 115, 32, 116, 104, 101, 114, 101, 32, 97, 108, 114, 101, 97, 100, 121]⟩ := by
  refine ⟨by decide, fun w => ?_, fun w => ?_⟩
  · go_enter Tryd.func35, Tryd.ntmps35
    go_wp2
    go_ret
    exact ⟨rfl, Below.refl _ _⟩
  · go_enter Tryd.func37, Tryd.ntmps37
    go_wp2
    go_ret
    exact ⟨rfl, Below.refl _ _⟩
theorem wd81 : Wd 81 ⟨#[110, 111, 32, 115, 117, 99, 104, 32, 116, 121, 112, 101]⟩ := by
  refine ⟨by decide, fun w => ?_, fun w => ?_⟩
  · go_enter Tryd.func35, Tryd.ntmps35
    go_wp2
    go_ret
    exact ⟨rfl, Below.refl _ _⟩
  · go_enter Tryd.func37, Tryd.ntmps37
    go_wp2
    go_ret
    exact ⟨rfl, Below.refl _ _⟩
theorem wd82 : Wd 82 ⟨#[110, 111, 32, 115, 117, 99, 104, 32, 114, 101, 103, 105, 111, 110, 44, 32, 111, 114, 32, 97, 110, 111, 116, 104, 101, 114, 32, 110, 117, 109, 98, 101, 114, 32, 111, 102, 32, 116, 104, 101, 109]⟩ := by
  refine ⟨by decide, fun w => ?_, fun w => ?_⟩
  · go_enter Tryd.func35, Tryd.ntmps35
    go_wp2
    go_ret
    exact ⟨rfl, Below.refl _ _⟩
  · go_enter Tryd.func37, Tryd.ntmps37
    go_wp2
    go_ret
    exact ⟨rfl, Below.refl _ _⟩
theorem wd83 : Wd 83 ⟨#[97, 32, 116, 121, 112, 101, 32, 116, 104, 97, 116, 32, 104, 111, 108, 100, 115, 32, 105, 116, 115, 101, 108, 102]⟩ := by
  refine ⟨by decide, fun w => ?_, fun w => ?_⟩
  · go_enter Tryd.func35, Tryd.ntmps35
    go_wp2
    go_ret
    exact ⟨rfl, Below.refl _ _⟩
  · go_enter Tryd.func37, Tryd.ntmps37
    go_wp2
    go_ret
    exact ⟨rfl, Below.refl _ _⟩
end Go.Proofs.YtcgiifcikcfdaaaDoor
