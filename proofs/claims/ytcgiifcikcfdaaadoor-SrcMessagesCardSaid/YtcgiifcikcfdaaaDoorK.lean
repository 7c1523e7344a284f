/- From a law's walk to its row: what all the laws of the seat share. No conditions beyond those that each statement names. -/
import Derived.Test.YtcgiifcikcfdaaaDoorI
import Derived.Test.YtcgiifcikcfdaaaDoorCards
import Derived.Test.YtcgiifcikcfdaaaDoorTie
import Derived.ProofKit
import Derived.OpenShut
import Derived.Deep.DeepHandedRow
import Derived.LaidSub
import Derived.LaidMore
import Derived.Lay
import Derived.SevenTiedAt
namespace Go.Proofs.YtcgiifcikcfdaaaDoor
open Go.ChangeShapes Go.WideShapes Go.ChangeAt Go.RowKit

theorem own : ownKnob Tryd.prog.godebug = none := by kernel_rfl

/-- What each row lists. -/
def laidAll : List (String × DataW Unit) := Rows.srcCleansRow.laid

theorem ready_of {W : World} (hL : laidMetH Tryd.prog laidAll W) (hS : W.ShapedOpen Tryd.prog) : Ready W := by
  have hm : MaxOk W := Tryd.laysM146.s1_3 W hS
  have h1 : laidMet Tryd.prog (laidAll.filter fun x => x.1 == "internal/strconv.uint64pow10") W := by
    rw [MakeChecks.laidMetH_plain _ _ _ (by kernel_rfl)] at hL
    exact hL.filter _
  have e : (laidAll.filter fun x => x.1 == "internal/strconv.uint64pow10") = [("internal/strconv.uint64pow10", Lib.tabData .u64 Lib.pow10Tab)] := by kernel_rfl
  rw [e] at h1
  have ht := Lib.tabIs_of_head (rest := []) gPow (t := 70) (e := 61) (n := 20) (by kernel_rfl) (by kernel_rfl) (by kernel_rfl) (by kernel_rfl) (by kernel_rfl) h1
  refine ⟨hm, ht, ?_⟩
  exact World.block_lt_of_cell? _ _ (ht.cell gPow 0 (by decide))

section
variable {H : Type} {enc : TypeId × Value → H} {P : Program}
/-- The row's last step, where nothing that is read lies in memory, and the call has made new memory alone. -/
theorem post_new {f : Func} {s : ChangeSpec} {fresh handsOn again : Bool} {W W' : World} {args : Array Value} {v : Value} {ds gs : List (DataW H)}
    (hW : DataW.Whole enc P f.params.toList s.vars false W args.toList ds gs [])
    (hres : ∀ (b : Nat) (sp : Nat → Bool) (hd : Bool), DataW.TrodAll enc P W' b sp hd f.resultTypes.toList (v.resultList f.resultTypes.size) (s.fn H (ds ++ gs)).results [])
    (hargs : ∀ sp : Nat → Bool, DataW.TrodAll enc P W' 0 sp true f.params.toList args.toList (s.fn H (ds ++ gs)).args [])
    (hvars : ∀ sp : Nat → Bool, DataW.TrodVars enc P W' sp s.vars (s.fn H (ds ++ gs)).vars [])
    (hb : Below W.heap.size W W')
    (hok : ∀ (j : Nat) (t : TypeId) (r : Value), f.resultTypes[j]? = some t → (v.resultList f.resultTypes.size)[j]? = some r → Value.okWide P W' .any 0 t r) :
    s.post enc P f false fresh handsOn again W args v W' := by
  refine ⟨ds, gs, [], [], [], [], hW, hres _ _ _, hargs _, hvars _, hb.frame _, fun _ => ?_⟩
  exact ⟨hok, _, _, [], ⟨[], [], trodAll_append (hargs _) (hres _ _ _), hvars _, rfl, ⟨fun b off hp => absurd hp List.not_mem_nil, fun ha => absurd ha Bool.false_ne_true⟩⟩, fun p hp _ => absurd hp List.not_mem_nil⟩
end

/-- The witness's world: all that the rows list is laid. -/
noncomputable def laidW (os : Os) : World := World.laidAll Tryd.prog os laidAll
theorem laidW_met (os : Os) (args : Array Value) : laidMetH Tryd.prog laidAll ((laidW os).forCall (fun _ _ => 0) ⟨#[], args, []⟩).memory := by
  rw [MakeChecks.laidMetH_plain _ _ _ (by kernel_rfl)]
  exact laidMet_laidAll _ (by kernel_rfl) (by kernel_rfl)
end Go.Proofs.YtcgiifcikcfdaaaDoor
