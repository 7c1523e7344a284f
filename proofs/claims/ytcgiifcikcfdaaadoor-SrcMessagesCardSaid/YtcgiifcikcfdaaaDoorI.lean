/- The law's own first question, awake: it is answered by true. No conditions beyond what the library's variables hold. -/
import Derived.Test.YtcgiifcikcfdaaaDoorH
namespace Go.Proofs.YtcgiifcikcfdaaaDoor
open Go.RowKit

theorem says100 (w : World) : Calls Tryd.prog 35 #[.int .i64 100] w fun e w' => e = .returned (.string ⟨#[110, 111, 32, 115, 117, 99, 104, 32, 110, 97, 109, 101]⟩) ∧ Below w.heap.size w w' := by
  go_enter Tryd.func35, Tryd.ntmps35
  go_wp2
  go_ret
  exact ⟨rfl, Below.refl _ _⟩

theorem num_one : num 1 = ⟨#[49]⟩ := by
  unfold num
  show (⟨(Lib.itoa ((1 : Nat) : Int)).toArray⟩ : ByteArray) = _
  rw [Lib.itoa_nonneg, Lib.decDigits_one (by decide)]
  rfl
theorem msg_one : msg ⟨#[120]⟩ 0 ⟨#[110, 111, 32, 115, 117, 99, 104, 32, 110, 97, 109, 101]⟩ = ⟨#[108, 105, 110, 101, 32, 49, 44, 32, 99, 111, 108, 117, 109, 110, 32, 49, 58, 32, 110, 111, 32, 115, 117, 99, 104, 32, 110, 97, 109, 101, 10, 120, 10, 94, 10]⟩ := by
  unfold msg
  rw [show line ⟨#[120]⟩ 0 = 1 by decide, show col ⟨#[120]⟩ 0 = 1 by decide, num_one, show exc (⟨#[120]⟩ : ByteArray).data.toList (min (max 0 0) ((⟨#[120]⟩ : ByteArray).size : Int)).toNat = [120, 10, 94, 10] by decide]
  rfl

set_option maxHeartbeats 1000000 in
theorem awake_any (w : World) (hr : Ready w) : Calls Tryd.prog 11 #[] w fun e w' => e = .returned (.bool true) ∧ Below w.heap.size w w' := by
  have hW : ∀ w, Calls Tryd.prog 17 #[.string ⟨#[97, 98, 10, 99]⟩, .int .i64 3] w fun e w' => e = .returned (.tuple #[.int .i64 2, .int .i64 1]) ∧ w = w' := fun w => where_any ⟨#[97, 98, 10, 99]⟩ 3 w (by decide)
  have hA1 : ∀ w, Calls Tryd.prog 19 #[.string ⟨#[97, 98, 10, 99]⟩, .int .i64 2, .int .i64 2] w fun e w' => e = .returned (.tuple #[.int .i64 4, .int .i64 0]) ∧ w = w' := fun w => at_any ⟨#[97, 98, 10, 99]⟩ 2 2 w (by decide) (by decide) (by decide)
  have hA2 : ∀ w, Calls Tryd.prog 19 #[.string ⟨#[97, 98, 10, 99]⟩, .int .i64 3, .int .i64 1] w fun e w' => e = .returned (.tuple #[.int .i64 0, .int .i64 11]) ∧ w = w' := fun w => at_any ⟨#[97, 98, 10, 99]⟩ 3 1 w (by decide) (by decide) (by decide)
  have hC1 : ∀ w, Calls Tryd.prog 12 #[.string ⟨#[102, 110, 32, 97, 10]⟩] w fun e w' => e = .returned (.agg #[.int .i64 0, .int .i64 0]) ∧ Below w.heap.size w w' := fun w => clean_any ⟨#[102, 110, 32, 97, 10]⟩ w (by decide)
  have hC2 : ∀ w, Calls Tryd.prog 12 #[.string ⟨#[97, 0]⟩] w fun e w' => e = .returned (.agg #[.int .i64 10, .int .i64 1]) ∧ Below w.heap.size w w' := fun w => clean_any ⟨#[97, 0]⟩ w (by decide)
  have hL : ∀ w, MaxOk w → Calls Tryd.prog 14 #[.string ⟨#[97, 98, 10, 99]⟩] w fun e w' => ∃ v, e = .returned v ∧ Txts w' v [[97, 98], [99]] ∧ Below w.heap.size w w' := fun w h => lines_any ⟨#[97, 98, 10, 99]⟩ w (by decide) h
  have hE : ∀ w, Calls Tryd.prog 21 #[.string ⟨#[9, 120]⟩, .int .i64 1] w fun e w' => e = .returned (.string ⟨#[9, 120, 10, 9, 94, 10]⟩) ∧ Below w.heap.size w w' := fun w => excerpt_any ⟨#[9, 120]⟩ 1 w (by decide)
  have hM : ∀ w, Ready w → Calls Tryd.prog 23 #[.string ⟨#[120]⟩, .agg #[.int .i64 100, .int .i64 0]] w fun e w' => e = .returned (.string ⟨#[108, 105, 110, 101, 32, 49, 44, 32, 99, 111, 108, 117, 109, 110, 32, 49, 58, 32, 110, 111, 32, 115, 117, 99, 104, 32, 110, 97, 109, 101, 10, 120, 10, 94, 10]⟩) ∧ Below w.heap.size w w' := fun w h => by
    rw [← msg_one]; exact message_of ⟨#[120]⟩ 100 0 _ w (by decide) (by decide) h (fun w _ => says100 w)
  have HW := hide hW
  have HA1 := hide hA1
  have HA2 := hide hA2
  have HC1 := hide hC1
  have HC2 := hide hC2
  have HL := hide hL
  have HE := hide hE
  have HM := hide hM
  have HR := hide hr
  clear hW hA1 hA2 hC1 hC2 hL hE hM hr
  go_enter Tryd.func11, Tryd.ntmps11
  go_wp2_with fail
  refine (HW.out _).mono ?_
  rintro e w' ⟨rfl, rfl⟩
  go_wp2_with fail
  refine (HA1.out _).mono ?_
  rintro e w' ⟨rfl, rfl⟩
  go_wp2_with fail
  refine (HA2.out _).mono ?_
  rintro e w' ⟨rfl, rfl⟩
  go_wp2_with fail
  refine (HC1.out _).mono ?_
  rintro e w1 ⟨rfl, hb1⟩
  have HB1 := hide hb1
  clear hb1
  go_wp2_with fail
  refine (HC2.out _).mono ?_
  rintro e w2 ⟨rfl, hb2⟩
  have HB2 := hide (bl_trans HB1.out hb2)
  clear hb2
  go_wp2_with fail
  refine (HL.out _ (HR.out.below HB2.out).max).mono ?_
  rintro e w3 ⟨v, rfl, ht, hb3⟩
  have HB3 := hide (bl_trans HB2.out hb3)
  have HT := hide ht
  clear hb3 ht
  go_wp2_with fail
  have hT2 : Txts (w3.alloc (Obj.cells #[Value.string ⟨#[97, 98]⟩, Value.string ⟨#[99]⟩] 9)) (Value.slice (some ⟨w3.heap.size, 0, none⟩) 2 2) [[97, 98], [99]] :=
    Txts.of_new w3 [⟨#[97, 98]⟩, ⟨#[99]⟩] 9 2 2 rfl (by decide)
  have hsame := same_any v _ _ _ _ (HT.out.below ((Below.refl _ _).alloc (Nat.le_refl _) (Obj.cells #[Value.string ⟨#[97, 98]⟩, Value.string ⟨#[99]⟩] 9))) hT2 (by decide)
  have hb4 : Below w.heap.size w (w3.alloc (Obj.cells #[Value.string ⟨#[97, 98]⟩, Value.string ⟨#[99]⟩] 9)) := bl_alloc HB3.out _
  rw [show decide (([[97, 98], [99]] : List (List UInt8)) = [[97, 98], [99]]) = true from rfl] at hsame
  have HS := hide hsame
  have HB4 := hide hb4
  clear hsame hb4 hT2
  refine HS.out.mono ?_
  rintro e w5 ⟨rfl, n, hn⟩
  have HB5 : Hid (Below w.heap.size w w5) := by rw [hn]; exact bl_drewN HB4.out n
  clear hn
  go_wp2_with fail
  refine (HE.out _).mono ?_
  rintro e w6 ⟨rfl, hb6⟩
  have HB6 := hide (bl_trans HB5.out hb6)
  clear hb6
  go_wp2_with fail
  refine (HM.out _ (HR.out.below HB6.out)).mono ?_
  rintro e w7 ⟨rfl, hb7⟩
  have HB7 := hide (bl_trans HB6.out hb7)
  clear hb7
  go_wp2
  go_ret
  exact ⟨rfl, HB7.out⟩
end Go.Proofs.YtcgiifcikcfdaaaDoor
