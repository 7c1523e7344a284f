/- From a law's walk to its row: what all the laws of the seat share. No conditions beyond those that each statement names. -/
import Derived.Test.YtjiencifdpopdaaH
import Derived.Test.YtjiencifdpopdaaRows
import Derived.ProofKit
import Derived.OpenShut
import Derived.Deep.DeepHandedRow
import Derived.LaidSub
import Derived.LaidMore
import Derived.Lay
import Derived.SevenTiedAt
namespace Go.Proofs.Ytjiencifdpopdaa
open Go.ChangeShapes Go.WideShapes Go.ChangeAt Go.RowKit

theorem own : ownKnob Try.prog.godebug = none := by kernel_rfl

theorem ready_of {W : World} (hS : W.ShapedOpen Try.prog) : MaxOk W := Try.laysM219.s1_3 W hS

section
variable {H : Type} {enc : TypeId × Value → H} {P : Program}
/-- The row's last step, where nothing that is read lies in memory, and the call has made new memory alone. -/
theorem post_new {f : Func} {s : ChangeSpec} {fresh handsOn again : Bool} {W W' : World} {args : Array Value} {v : Value} {ds gs : List (DataW H)}
    (hW : DataW.Whole enc P f.params.toList s.vars false W args.toList ds gs [])
    (hres : ∀ (b : Nat) (sp : Nat → Bool) (hd : Bool), DataW.TrodAll enc P W' b sp hd f.resultTypes.toList (v.resultList f.resultTypes.size) (s.fn H (ds ++ gs)).results [])
    (hargs : ∀ sp : Nat → Bool, DataW.TrodAll enc P W' 0 sp true f.params.toList args.toList (s.fn H (ds ++ gs)).args [])
    (hvars : ∀ sp : Nat → Bool, DataW.TrodVars enc P W' sp s.vars (s.fn H (ds ++ gs)).vars [])
    (hb : Below W.heap.size W W')
    (hok : ∀ (j : Nat) (t : TypeId) (r : Value), f.resultTypes[j]? = some t → (v.resultList f.resultTypes.size)[j]? = some r → Value.okWide P W' .any 0 t r) :
    s.post enc P f false fresh handsOn again W args v W' := by
  refine ⟨ds, gs, [], [], [], [], hW, hres _ _ _, hargs _, hvars _, hb.frame _, fun _ => ?_⟩
  exact ⟨hok, _, _, [], ⟨[], [], trodAll_append (hargs _) (hres _ _ _), hvars _, rfl, ⟨fun b off hp => absurd hp List.not_mem_nil, fun ha => absurd ha Bool.false_ne_true⟩⟩, fun p hp _ => absurd hp List.not_mem_nil⟩
end

/-- The witness's world. -/
noncomputable def laidW (os : Os) : World := World.laidAll Try.prog os []
theorem laidW_met (os : Os) (args : Array Value) : laidMetH Try.prog [] ((laidW os).forCall (fun _ _ => 0) ⟨#[], args, []⟩).memory := by
  rw [MakeChecks.laidMetH_plain _ _ _ (by kernel_rfl)]
  exact laidMet_laidAll _ (by kernel_rfl) (by kernel_rfl)
end Go.Proofs.Ytjiencifdpopdaa
