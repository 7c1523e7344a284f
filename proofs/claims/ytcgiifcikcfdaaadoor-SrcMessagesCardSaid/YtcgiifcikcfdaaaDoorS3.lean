/- What each listed kind says, by the program and by the document's own answer, kind by kind. No conditions. -/
import Derived.Test.YtcgiifcikcfdaaaDoorS2
namespace Go.Proofs.YtcgiifcikcfdaaaDoor
open Go.RowKit

theorem wd160 : Wd 160 ⟨#[97, 32, 102, 117, 110, 99, 116, 105, 111, 110, 32, 116, 104, 97, 116, 32, 99, 111, 109, 101, 115, 32, 116, 111, 32, 109, 111, 114, 101, 32, 116, 104, 97, 110, 32, 109, 97, 121, 32, 98, 101]⟩ := by
  refine ⟨by decide, fun w => ?_, fun w => ?_⟩
  · go_enter Tryd.func35, Tryd.ntmps35
    go_wp2
    go_ret
    exact ⟨rfl, Below.refl _ _⟩
  · go_enter Tryd.func37, Tryd.ntmps37
    go_wp2
    go_ret
    exact ⟨rfl, Below.refl _ _⟩
theorem wd190 : Wd 190 ⟨#[115, 111, 109, 101, 116, 104, 105, 110, 103, 32, 116, 104, 97, 116, 32, 109, 97, 121, 32, 110, 111, 116, 32, 98, 101, 32, 115, 101, 116, 32, 105, 115, 32, 117, 115, 101, 100]⟩ := by
  refine ⟨by decide, fun w => ?_, fun w => ?_⟩
  · go_enter Tryd.func35, Tryd.ntmps35
    go_wp2
    go_ret
    exact ⟨rfl, Below.refl _ _⟩
  · go_enter Tryd.func37, Tryd.ntmps37
    go_wp2
    go_ret
    exact ⟨rfl, Below.refl _ _⟩
theorem wd191 : Wd 191 ⟨#[115, 111, 109, 101, 116, 104, 105, 110, 103, 32, 116, 104, 97, 116, 32, 109, 97, 121, 32, 98, 101, 32, 115, 101, 116, 32, 105, 115, 32, 115, 101, 116, 32, 97, 115, 32, 105, 102, 32, 105, 116, 32, 119, 101, 114, 101, 110, 39, 116]⟩ := by
  refine ⟨by decide, fun w => ?_, fun w => ?_⟩
  · go_enter Tryd.func35, Tryd.ntmps35
    go_wp2
    go_ret
    exact ⟨rfl, Below.refl _ _⟩
  · go_enter Tryd.func37, Tryd.ntmps37
    go_wp2
    go_ret
    exact ⟨rfl, Below.refl _ _⟩
theorem wd192 : Wd 192 ⟨#[115, 111, 109, 101, 116, 104, 105, 110, 103, 32, 116, 104, 97, 116, 32, 110, 101, 101, 100, 115, 32, 97, 32, 100, 114, 111, 112, 32, 109, 97, 121, 32, 98, 101, 32, 108, 101, 102, 116, 32, 111, 118, 101, 114]⟩ := by
  refine ⟨by decide, fun w => ?_, fun w => ?_⟩
  · go_enter Tryd.func35, Tryd.ntmps35
    go_wp2
    go_ret
    exact ⟨rfl, Below.refl _ _⟩
  · go_enter Tryd.func37, Tryd.ntmps37
    go_wp2
    go_ret
    exact ⟨rfl, Below.refl _ _⟩
theorem wd193 : Wd 193 ⟨#[115, 111, 109, 101, 116, 104, 105, 110, 103, 32, 116, 104, 97, 116, 32, 105, 115, 110, 39, 116, 32, 109, 117, 116, 97, 98, 108, 101, 32, 109, 97, 121, 32, 98, 101, 32, 115, 101, 116, 32, 97, 103, 97, 105, 110]⟩ := by
  refine ⟨by decide, fun w => ?_, fun w => ?_⟩
  · go_enter Tryd.func35, Tryd.ntmps35
    go_wp2
    go_ret
    exact ⟨rfl, Below.refl _ _⟩
  · go_enter Tryd.func37, Tryd.ntmps37
    go_wp2
    go_ret
    exact ⟨rfl, Below.refl _ _⟩
theorem wd240 : Wd 240 ⟨#[97, 32, 114, 101, 103, 105, 111, 110, 32, 116, 104, 97, 116, 32, 109, 117, 115, 116, 32, 111, 117, 116, 108, 105, 118, 101, 32, 97, 110, 111, 116, 104, 101, 114, 32, 111, 110, 101, 44, 32, 97, 110, 100, 32, 105, 115, 110, 39, 116, 32, 115, 97, 105, 100, 32, 116, 111]⟩ := by
  refine ⟨by decide, fun w => ?_, fun w => ?_⟩
  · go_enter Tryd.func35, Tryd.ntmps35
    go_wp2
    go_ret
    exact ⟨rfl, Below.refl _ _⟩
  · go_enter Tryd.func37, Tryd.ntmps37
    go_wp2
    go_ret
    exact ⟨rfl, Below.refl _ _⟩
theorem wd270 : Wd 270 ⟨#[105, 116, 32, 105, 115, 32, 98, 111, 114, 114, 111, 119, 101, 100]⟩ := by
  refine ⟨by decide, fun w => ?_, fun w => ?_⟩
  · go_enter Tryd.func35, Tryd.ntmps35
    go_wp2
    go_ret
    exact ⟨rfl, Below.refl _ _⟩
  · go_enter Tryd.func37, Tryd.ntmps37
    go_wp2
    go_ret
    exact ⟨rfl, Below.refl _ _⟩
theorem wd280 : Wd 280 ⟨#[97, 32, 99, 101, 114, 116, 105, 102, 105, 99, 97, 116, 101, 32, 116, 104, 97, 116, 32, 100, 111, 101, 115, 110, 39, 116, 32, 104, 111, 108, 100]⟩ := by
  refine ⟨by decide, fun w => ?_, fun w => ?_⟩
  · go_enter Tryd.func35, Tryd.ntmps35
    go_wp2
    go_ret
    exact ⟨rfl, Below.refl _ _⟩
  · go_enter Tryd.func37, Tryd.ntmps37
    go_wp2
    go_ret
    exact ⟨rfl, Below.refl _ _⟩
theorem wd290 : Wd 290 ⟨#[97, 32, 112, 97, 116, 104, 32, 116, 104, 97, 116, 32, 115, 104, 111, 119, 115, 32, 110, 111, 116, 104, 105, 110, 103]⟩ := by
  refine ⟨by decide, fun w => ?_, fun w => ?_⟩
  · go_enter Tryd.func35, Tryd.ntmps35
    go_wp2
    go_ret
    exact ⟨rfl, Below.refl _ _⟩
  · go_enter Tryd.func37, Tryd.ntmps37
    go_wp2
    go_ret
    exact ⟨rfl, Below.refl _ _⟩
theorem wd300 : Wd 300 ⟨#[97, 32, 116, 111, 117, 99, 104, 32, 111, 102, 32, 119, 104, 97, 116, 32, 105, 115, 32, 102, 114, 101, 101, 100]⟩ := by
  refine ⟨by decide, fun w => ?_, fun w => ?_⟩
  · go_enter Tryd.func35, Tryd.ntmps35
    go_wp2
    go_ret
    exact ⟨rfl, Below.refl _ _⟩
  · go_enter Tryd.func37, Tryd.ntmps37
    go_wp2
    go_ret
    exact ⟨rfl, Below.refl _ _⟩
theorem wd301 : Wd 301 ⟨#[105, 116, 32, 105, 115, 32, 102, 114, 101, 101, 100, 32, 97, 108, 114, 101, 97, 100, 121]⟩ := by
  refine ⟨by decide, fun w => ?_, fun w => ?_⟩
  · go_enter Tryd.func35, Tryd.ntmps35
    go_wp2
    go_ret
    exact ⟨rfl, Below.refl _ _⟩
  · go_enter Tryd.func37, Tryd.ntmps37
    go_wp2
    go_ret
    exact ⟨rfl, Below.refl _ _⟩
theorem wd302 : Wd 302 ⟨#[97, 32, 116, 111, 117, 99, 104, 32, 111, 102, 32, 119, 104, 97, 116, 32, 110, 101, 118, 101, 114, 32, 119, 97, 115]⟩ := by
  refine ⟨by decide, fun w => ?_, fun w => ?_⟩
  · go_enter Tryd.func35, Tryd.ntmps35
    go_wp2
    go_ret
    exact ⟨rfl, Below.refl _ _⟩
  · go_enter Tryd.func37, Tryd.ntmps37
    go_wp2
    go_ret
    exact ⟨rfl, Below.refl _ _⟩
theorem wd303 : Wd 303 ⟨#[110, 111, 32, 114, 111, 111, 109]⟩ := by
  refine ⟨by decide, fun w => ?_, fun w => ?_⟩
  · go_enter Tryd.func35, Tryd.ntmps35
    go_wp2
    go_ret
    exact ⟨rfl, Below.refl _ _⟩
  · go_enter Tryd.func37, Tryd.ntmps37
    go_wp2
    go_ret
    exact ⟨rfl, Below.refl _ _⟩
theorem wd310 : Wd 310 ⟨#[97, 32, 112, 114, 111, 103, 114, 97, 109, 32, 116, 104, 97, 116, 32, 109, 97, 121, 32, 110, 111, 116, 32, 98, 101]⟩ := by
  refine ⟨by decide, fun w => ?_, fun w => ?_⟩
  · go_enter Tryd.func35, Tryd.ntmps35
    go_wp2
    go_ret
    exact ⟨rfl, Below.refl _ _⟩
  · go_enter Tryd.func37, Tryd.ntmps37
    go_wp2
    go_ret
    exact ⟨rfl, Below.refl _ _⟩
theorem wd311 : Wd 311 ⟨#[105, 116, 32, 104, 97, 115, 32, 115, 116, 111, 112, 112, 101, 100, 32, 97, 108, 114, 101, 97, 100, 121]⟩ := by
  refine ⟨by decide, fun w => ?_, fun w => ?_⟩
  · go_enter Tryd.func35, Tryd.ntmps35
    go_wp2
    go_ret
    exact ⟨rfl, Below.refl _ _⟩
  · go_enter Tryd.func37, Tryd.ntmps37
    go_wp2
    go_ret
    exact ⟨rfl, Below.refl _ _⟩
theorem wd320 : Wd 320 ⟨#[98, 121, 116, 101, 115, 32, 116, 104, 97, 116, 32, 97, 114, 101, 32, 110, 111, 32, 112, 114, 111, 103, 114, 97, 109, 39, 115]⟩ := by
  refine ⟨by decide, fun w => ?_, fun w => ?_⟩
  · go_enter Tryd.func35, Tryd.ntmps35
    go_wp2
    go_ret
    exact ⟨rfl, Below.refl _ _⟩
  · go_enter Tryd.func37, Tryd.ntmps37
    go_wp2
    go_ret
    exact ⟨rfl, Below.refl _ _⟩
theorem wd360 : Wd 360 ⟨#[110, 111, 116, 104, 105, 110, 103, 32, 116, 111, 32, 98, 101, 32, 114, 117, 110]⟩ := by
  refine ⟨by decide, fun w => ?_, fun w => ?_⟩
  · go_enter Tryd.func35, Tryd.ntmps35
    go_wp2
    go_ret
    exact ⟨rfl, Below.refl _ _⟩
  · go_enter Tryd.func37, Tryd.ntmps37
    go_wp2
    go_ret
    exact ⟨rfl, Below.refl _ _⟩
theorem wd410 : Wd 410 ⟨#[97, 32, 108, 105, 110, 101, 32, 116, 104, 97, 116, 32, 105, 115, 32, 110, 111, 110, 101]⟩ := by
  refine ⟨by decide, fun w => ?_, fun w => ?_⟩
  · go_enter Tryd.func35, Tryd.ntmps35
    go_wp2
    go_ret
    exact ⟨rfl, Below.refl _ _⟩
  · go_enter Tryd.func37, Tryd.ntmps37
    go_wp2
    go_ret
    exact ⟨rfl, Below.refl _ _⟩
end Go.Proofs.YtcgiifcikcfdaaaDoor
