/- x -/
import Derived.Test.YtcgiifcikcfdaaaDoorO
import Derived.Test.YtcgiifcikcfdaaaDoorK
namespace Go.Proofs.YtcgiifcikcfdaaaDoor
open Go.ChangeShapes Go.WideShapes Go.ChangeAt Go.ChangeMaps Go.RowKit

theorem two_of {α : Type} {cs : Array α} (h : cs.size = 2) : ∃ c0 c1, cs = #[c0, c1] := by
  obtain ⟨l⟩ := cs
  match l, h with
  | [c0, c1], _ => exact ⟨c0, c1, rfl⟩

theorem arr_open {H : Type} {enc : TypeId × Value → H} {W : World} {r : Reach} {b0 base : Nat} {sp : Nat → Bool} {held : Bool} {v : Value} {d : DataW H} {ps : List MemPlace}
    (hv : Value.okWide Tryd.prog W r b0 37 v) (h : DataW.Trod enc Tryd.prog W base sp held 37 v d ps) :
    ∃ x0 x1 : Int, v = .agg #[.int .i64 x0, .int .i64 x1] ∧ d = .agg [.lit (.int .i64 x0), .lit (.int .i64 x1)] ∧ ps = [] ∧ (Lit.int .i64 x0).wf = true ∧ (Lit.int .i64 x1).wf = true := by
  have hc : Tryd.prog.cellsOf 37 = 2 := by kernel_rfl
  have hc3 : Tryd.prog.cellsOf 3 = 1 := by kernel_rfl
  simp only [Value.okWide, Tryd.underlying37] at hv
  obtain ⟨cs, rfl, h2, _⟩ := hv
  obtain ⟨c0, c1, rfl⟩ := two_of (h2.trans hc)
  obtain ⟨fuel, hf⟩ := h
  obtain ⟨xs, m, _, hx, _, hl, hi⟩ := DataW.trod_array Tryd.underlying37 (by simpa [Value.cells] using hf)
  match xs, hl with
  | [y0, y1], _ =>
    have e0 := hi 0 (by omega)
    have e1 := hi 1 (by omega)
    rw [hc3] at e0 e1
    simp at e0 e1
    obtain ⟨a0, q0, rfl, w0⟩ := DataW.trod_int Tryd.underlying3 e0
    obtain ⟨a1, q1, rfl, w1⟩ := DataW.trod_int Tryd.underlying3 e1
    simp at q0 q1
    subst q0
    subst q1
    simp only [Prod.mk.injEq] at hx
    exact ⟨a0, a1, rfl, by rw [hx.1]; rfl, by rw [hx.2]; rfl, w0, w1⟩

theorem arr_shut {H : Type} {enc : TypeId × Value → H} {W : World} {base : Nat} {sp : Nat → Bool} {held : Bool} {x0 x1 : Int} (w0 : (Lit.int .i64 x0).wf = true) (w1 : (Lit.int .i64 x1).wf = true) :
    DataW.Trod enc Tryd.prog W base sp held 37 (.agg #[.int .i64 x0, .int .i64 x1]) (.agg [.lit (.int .i64 x0), .lit (.int .i64 x1)]) [] := by
  have hc : Tryd.prog.cellsOf 37 = 2 := by kernel_rfl
  have hc3 : Tryd.prog.cellsOf 3 = 1 := by kernel_rfl
  refine ⟨3, ?_⟩
  have hr : List.range 2 = [0, 1] := rfl
  simp [DataW.trod, Tryd.underlying37, Tryd.underlying3, hc, hc3, hr, Value.cells, w0, w1]
end Go.Proofs.YtcgiifcikcfdaaaDoor
