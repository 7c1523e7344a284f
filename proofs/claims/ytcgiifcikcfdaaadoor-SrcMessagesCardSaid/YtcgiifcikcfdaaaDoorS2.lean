/- What each listed kind says, by the program and by the document's own answer, kind by kind. No conditions. -/
import Derived.Test.YtcgiifcikcfdaaaDoorS1
namespace Go.Proofs.YtcgiifcikcfdaaaDoor
open Go.RowKit

theorem wd84 : Wd 84 ⟨#[97, 32, 99, 111, 112, 121, 32, 116, 121, 112, 101, 32, 119, 104, 111, 115, 101, 32, 112, 97, 114, 116, 115, 32, 99, 97, 110, 39, 116, 32, 98, 101, 32, 99, 111, 112, 105, 101, 100]⟩ := by
  refine ⟨by decide, fun w => ?_, fun w => ?_⟩
  · go_enter Tryd.func35, Tryd.ntmps35
    go_wp2
    go_ret
    exact ⟨rfl, Below.refl _ _⟩
  · go_enter Tryd.func37, Tryd.ntmps37
    go_wp2
    go_ret
    exact ⟨rfl, Below.refl _ _⟩
theorem wd90 : Wd 90 ⟨#[97, 32, 114, 101, 115, 117, 108, 116, 39, 115, 32, 114, 101, 103, 105, 111, 110, 32, 116, 104, 97, 116, 32, 99, 97, 110, 39, 116, 32, 98, 101, 32, 116, 111, 108, 100]⟩ := by
  refine ⟨by decide, fun w => ?_, fun w => ?_⟩
  · go_enter Tryd.func35, Tryd.ntmps35
    go_wp2
    go_ret
    exact ⟨rfl, Below.refl _ _⟩
  · go_enter Tryd.func37, Tryd.ntmps37
    go_wp2
    go_ret
    exact ⟨rfl, Below.refl _ _⟩
theorem wd91 : Wd 91 ⟨#[110, 111, 32, 115, 117, 99, 104, 32, 102, 117, 110, 99, 116, 105, 111, 110]⟩ := by
  refine ⟨by decide, fun w => ?_, fun w => ?_⟩
  · go_enter Tryd.func35, Tryd.ntmps35
    go_wp2
    go_ret
    exact ⟨rfl, Below.refl _ _⟩
  · go_enter Tryd.func37, Tryd.ntmps37
    go_wp2
    go_ret
    exact ⟨rfl, Below.refl _ _⟩
theorem wd100 : Wd 100 ⟨#[110, 111, 32, 115, 117, 99, 104, 32, 110, 97, 109, 101]⟩ := by
  refine ⟨by decide, fun w => ?_, fun w => ?_⟩
  · go_enter Tryd.func35, Tryd.ntmps35
    go_wp2
    go_ret
    exact ⟨rfl, Below.refl _ _⟩
  · go_enter Tryd.func37, Tryd.ntmps37
    go_wp2
    go_ret
    exact ⟨rfl, Below.refl _ _⟩
theorem wd101 : Wd 101 ⟨#[110, 111, 32, 115, 117, 99, 104, 32, 108, 111, 111, 112]⟩ := by
  refine ⟨by decide, fun w => ?_, fun w => ?_⟩
  · go_enter Tryd.func35, Tryd.ntmps35
    go_wp2
    go_ret
    exact ⟨rfl, Below.refl _ _⟩
  · go_enter Tryd.func37, Tryd.ntmps37
    go_wp2
    go_ret
    exact ⟨rfl, Below.refl _ _⟩
theorem wd110 : Wd 110 ⟨#[97, 110, 111, 116, 104, 101, 114, 32, 116, 121, 112, 101, 32, 105, 115, 32, 119, 97, 110, 116, 101, 100]⟩ := by
  refine ⟨by decide, fun w => ?_, fun w => ?_⟩
  · go_enter Tryd.func35, Tryd.ntmps35
    go_wp2
    go_ret
    exact ⟨rfl, Below.refl _ _⟩
  · go_enter Tryd.func37, Tryd.ntmps37
    go_wp2
    go_ret
    exact ⟨rfl, Below.refl _ _⟩
theorem wd111 : Wd 111 ⟨#[105, 116, 32, 99, 97, 110, 39, 116, 32, 98, 101, 32, 100, 111, 110, 101, 32, 119, 105, 116, 104, 32, 97, 32, 118, 97, 108, 117, 101, 32, 111, 102, 32, 116, 104, 97, 116, 32, 116, 121, 112, 101]⟩ := by
  refine ⟨by decide, fun w => ?_, fun w => ?_⟩
  · go_enter Tryd.func35, Tryd.ntmps35
    go_wp2
    go_ret
    exact ⟨rfl, Below.refl _ _⟩
  · go_enter Tryd.func37, Tryd.ntmps37
    go_wp2
    go_ret
    exact ⟨rfl, Below.refl _ _⟩
theorem wd112 : Wd 112 ⟨#[110, 111, 32, 115, 117, 99, 104, 32, 102, 105, 101, 108, 100, 44, 32, 111, 114, 32, 110, 111, 116, 32, 97, 108, 108, 32, 111, 102, 32, 116, 104, 101, 109]⟩ := by
  refine ⟨by decide, fun w => ?_, fun w => ?_⟩
  · go_enter Tryd.func35, Tryd.ntmps35
    go_wp2
    go_ret
    exact ⟨rfl, Below.refl _ _⟩
  · go_enter Tryd.func37, Tryd.ntmps37
    go_wp2
    go_ret
    exact ⟨rfl, Below.refl _ _⟩
theorem wd113 : Wd 113 ⟨#[110, 111, 116, 104, 105, 110, 103, 32, 116, 111, 32, 119, 104, 105, 99, 104, 32, 115, 111, 109, 101, 116, 104, 105, 110, 103, 32, 99, 97, 110, 32, 98, 101, 32, 97, 115, 115, 105, 103, 110, 101, 100]⟩ := by
  refine ⟨by decide, fun w => ?_, fun w => ?_⟩
  · go_enter Tryd.func35, Tryd.ntmps35
    go_wp2
    go_ret
    exact ⟨rfl, Below.refl _ _⟩
  · go_enter Tryd.func37, Tryd.ntmps37
    go_wp2
    go_ret
    exact ⟨rfl, Below.refl _ _⟩
theorem wd114 : Wd 114 ⟨#[105, 116, 32, 105, 115, 110, 39, 116, 32, 109, 117, 116, 97, 98, 108, 101]⟩ := by
  refine ⟨by decide, fun w => ?_, fun w => ?_⟩
  · go_enter Tryd.func35, Tryd.ntmps35
    go_wp2
    go_ret
    exact ⟨rfl, Below.refl _ _⟩
  · go_enter Tryd.func37, Tryd.ntmps37
    go_wp2
    go_ret
    exact ⟨rfl, Below.refl _ _⟩
theorem wd120 : Wd 120 ⟨#[97, 32, 118, 97, 108, 117, 101, 32, 116, 104, 97, 116, 32, 110, 111, 32, 112, 97, 116, 116, 101, 114, 110, 32, 116, 97, 107, 101, 115]⟩ := by
  refine ⟨by decide, fun w => ?_, fun w => ?_⟩
  · go_enter Tryd.func35, Tryd.ntmps35
    go_wp2
    go_ret
    exact ⟨rfl, Below.refl _ _⟩
  · go_enter Tryd.func37, Tryd.ntmps37
    go_wp2
    go_ret
    exact ⟨rfl, Below.refl _ _⟩
theorem wd121 : Wd 121 ⟨#[97, 32, 112, 97, 116, 116, 101, 114, 110, 32, 116, 104, 97, 116, 32, 116, 97, 107, 101, 115, 32, 110, 111, 116, 104, 105, 110, 103, 32, 109, 111, 114, 101]⟩ := by
  refine ⟨by decide, fun w => ?_, fun w => ?_⟩
  · go_enter Tryd.func35, Tryd.ntmps35
    go_wp2
    go_ret
    exact ⟨rfl, Below.refl _ _⟩
  · go_enter Tryd.func37, Tryd.ntmps37
    go_wp2
    go_ret
    exact ⟨rfl, Below.refl _ _⟩
theorem wd130 : Wd 130 ⟨#[97, 32, 118, 97, 108, 117, 101, 32, 111, 102, 32, 109, 111, 114, 101, 32, 116, 104, 97, 110, 32, 77, 97, 120, 87, 111, 114, 100, 115, 32, 119, 111, 114, 100, 115]⟩ := by
  refine ⟨by decide, fun w => ?_, fun w => ?_⟩
  · go_enter Tryd.func35, Tryd.ntmps35
    go_wp2
    go_ret
    exact ⟨rfl, Below.refl _ _⟩
  · go_enter Tryd.func37, Tryd.ntmps37
    go_wp2
    go_ret
    exact ⟨rfl, Below.refl _ _⟩
theorem wd140 : Wd 140 ⟨#[97, 32, 98, 111, 100, 121, 32, 116, 104, 97, 116, 32, 109, 97, 121, 32, 110, 111, 116, 32, 98, 101]⟩ := by
  refine ⟨by decide, fun w => ?_, fun w => ?_⟩
  · go_enter Tryd.func35, Tryd.ntmps35
    go_wp2
    go_ret
    exact ⟨rfl, Below.refl _ _⟩
  · go_enter Tryd.func37, Tryd.ntmps37
    go_wp2
    go_ret
    exact ⟨rfl, Below.refl _ _⟩
theorem wd143 : Wd 143 ⟨#[97, 32, 115, 116, 97, 116, 101, 109, 101, 110, 116, 32, 111, 114, 32, 97, 110, 32, 101, 110, 100, 32, 116, 104, 97, 116, 32, 109, 97, 121, 32, 110, 111, 116, 32, 98, 101]⟩ := by
  refine ⟨by decide, fun w => ?_, fun w => ?_⟩
  · go_enter Tryd.func35, Tryd.ntmps35
    go_wp2
    go_ret
    exact ⟨rfl, Below.refl _ _⟩
  · go_enter Tryd.func37, Tryd.ntmps37
    go_wp2
    go_ret
    exact ⟨rfl, Below.refl _ _⟩
theorem wd144 : Wd 144 ⟨#[97, 32, 109, 111, 118, 101, 32, 111, 117, 116, 32, 111, 102, 32, 119, 104, 97, 116, 32, 105, 115, 32, 98, 101, 104, 105, 110, 100, 32, 97, 32, 112, 111, 105, 110, 116, 101, 114, 44, 32, 111, 114, 32, 97, 32, 99, 111, 112, 121, 32, 111, 102, 32, 119, 104, 97, 116, 32, 99, 97, 110, 39, 116, 32, 98, 101, 32, 99, 111, 112, 105, 101, 100]⟩ := by
  refine ⟨by decide, fun w => ?_, fun w => ?_⟩
  · go_enter Tryd.func35, Tryd.ntmps35
    go_wp2
    go_ret
    exact ⟨rfl, Below.refl _ _⟩
  · go_enter Tryd.func37, Tryd.ntmps37
    go_wp2
    go_ret
    exact ⟨rfl, Below.refl _ _⟩
theorem wd145 : Wd 145 ⟨#[97, 32, 119, 114, 105, 116, 101, 44, 32, 111, 114, 32, 97, 32, 117, 110, 105, 113, 117, 101, 32, 98, 111, 114, 114, 111, 119, 44, 32, 116, 104, 114, 111, 117, 103, 104, 32, 97, 32, 115, 104, 97, 114, 101, 100, 32, 114, 101, 102, 101, 114, 101, 110, 99, 101]⟩ := by
  refine ⟨by decide, fun w => ?_, fun w => ?_⟩
  · go_enter Tryd.func35, Tryd.ntmps35
    go_wp2
    go_ret
    exact ⟨rfl, Below.refl _ _⟩
  · go_enter Tryd.func37, Tryd.ntmps37
    go_wp2
    go_ret
    exact ⟨rfl, Below.refl _ _⟩
theorem wd150 : Wd 150 ⟨#[97, 32, 116, 101, 120, 116, 32, 116, 104, 97, 116, 32, 105, 115, 32, 110, 111, 110, 101]⟩ := by
  refine ⟨by decide, fun w => ?_, fun w => ?_⟩
  · go_enter Tryd.func35, Tryd.ntmps35
    go_wp2
    go_ret
    exact ⟨rfl, Below.refl _ _⟩
  · go_enter Tryd.func37, Tryd.ntmps37
    go_wp2
    go_ret
    exact ⟨rfl, Below.refl _ _⟩
end Go.Proofs.YtcgiifcikcfdaaaDoor
