/- The laws of layer 3 walked: Items. No conditions beyond the bounds that each statement names. -/
import Derived.Test.YtdccodnompalbaaE3
import Derived.Test.YtdccodnompalbaaA
namespace Go.Proofs.Ytdccodnompalbaa
open Go.RowKit Go.Shelf

set_option maxRecDepth 20000 in
set_option maxHeartbeats 4000000 in
theorem lawItems_any (p : Option Addr) (len cc : Nat) (kid : Nat → NT) (w : World) (hL : Lies w.heap.size w (.mk 1 ⟨#[]⟩ 0 (.slice p len cc) len kid 0)) (hS : (NT.mk 1 ⟨#[]⟩ 0 (.slice p len cc) len kid 0).sized maxLen)
    (hm : ∀ w', Below w.heap.size w w' → MaxOk w') :
    Calls Try.prog 4 #[.slice p len cc] w fun e w' => e = .returned (.bool true) ∧ Below w.heap.size w w' := by
  obtain ⟨T, hT⟩ : ∃ T : NT, T = .mk 1 ⟨#[]⟩ 0 (.slice p len cc) len kid 0 := ⟨_, rfl⟩
  rw [← hT] at hL hS
  have hv : T.val = .agg #[.int .i64 1, .string ⟨#[]⟩, .int .i64 0, .slice p len cc, .int .i64 0] := by rw [hT]; rfl
  have HA := hide fun w' (hb : Below w.heap.size w w') => alive_any w' (hm w' hb)
  have HG := hide fun w' (hb : Below w.heap.size w w') => lawGreat_any T w' ((hL.below hb).mono hb.size) hS
  have HR1 := hide fun w' (hb : Below w.heap.size w w') (hg : tooGreat T = false) => right_any T w' (good_of ((hL.below hb).mono hb.size) hS hg) (hm w' hb)
  have HR2 := hide fun w' (hb : Below w.heap.size w w') (hg : tooGreat T = false) => (let G := good_of ((hL.below hb).mono hb.size) hS hg; refRight_any T w' G.lies G.ok (by have := G.size; omega) (by have := G.depth; omega))
  rw [right_eq T] at HR1
  generalize refRightM T = R at HR1 HR2
  obtain ⟨ra, rb⟩ := R
  have HCb := hide fun (W w' : World) (hb : Below (W.alloc (boxO T)).heap.size (W.alloc (boxO T)) w') => (box_new W T).below hb (by simp)
  have HCc : Hid (∀ (W w' : World), Below (W.alloc (boxO T)).heap.size (W.alloc (boxO T)) w' → w'.cell? ⟨W.heap.size, 0, none⟩ = some (.int .i64 1) ∧ w'.cell? ⟨W.heap.size, 1, none⟩ = some (.string ⟨#[]⟩) ∧ w'.cell? ⟨W.heap.size, 2, none⟩ = some (.int .i64 0) ∧ w'.cell? ⟨W.heap.size, 3, none⟩ = some (.slice p len cc) ∧ w'.cell? ⟨W.heap.size, 4, none⟩ = some (.int .i64 0)) := hide fun W w' hb => by
    have := HCb.out W w' hb
    unfold Cells5 at this
    rw [hT] at this
    exact this
  have HB0 := hide fun (W : World) (hb : Below w.heap.size w W) => bl_alloc hb (boxO T)
  clear HCb hL hS hm
  simp only at HR1 HR2
  have hbox : boxO T = .cells #[.int .i64 1, .string ⟨#[]⟩, .int .i64 0, .slice p len cc, .int .i64 0] 24 := by rw [hT]; rfl
  simp only [hv, hbox] at HG HR1 HR2 HCc HB0
  clear hbox hv hT
  go_enter Try.func4, Try.ntmps4
  cases hg : tooGreat T
  · have HR1' := hide fun w' hb => HR1.out w' hb hg
    have HR2' := hide fun w' hb => HR2.out w' hb hg
    rw [hg] at HG
    clear HR1 HR2
    go_wp2_with (first
      | (go_at_call 11; refine (HA.out _ (Below.refl _ _)).mono ?_; clear HA; rintro e w3 ⟨rfl, hb3⟩; have HB3 := hide hb3; clear hb3)
      | (go_at_call 12; refine (HG.out _ (HB0.out _ HB3.out)).mono ?_; clear HG; rintro e w5 ⟨rfl, hb5⟩; have HB5 := hide hb5; obtain ⟨r0, r1, r2, r3, r4⟩ := HCc.out _ w5 HB5.out; clear hb5))
    have HBd := hide (show Below w.heap.size w w5.drew from (bl_trans (HB0.out _ HB3.out) HB5.out).drew)
    have HBe := hide (show Below (w3.alloc (.cells #[.int .i64 1, .string ⟨#[]⟩, .int .i64 0, .slice p len cc, .int .i64 0] 24)).heap.size _ w5.drew from HB5.out.drew)
    go_region_held3 (fun w' => w'.cell? ⟨w3.heap.size, 0, none⟩ = some (.int .i64 1) ∧ w'.cell? ⟨w3.heap.size, 1, none⟩ = some (.string ⟨#[]⟩) ∧ w'.cell? ⟨w3.heap.size, 2, none⟩ = some (.int .i64 0) ∧ w'.cell? ⟨w3.heap.size, 3, none⟩ = some (.slice p len cc) ∧ w'.cell? ⟨w3.heap.size, 4, none⟩ = some (.int .i64 0))
      (first | exact ⟨by (repeat first | with_reducible assumption | (with_reducible refine keep_alloc ?_) | (with_reducible refine keep_drew ?_) | (with_reducible refine keep_set (blk_ne (Ne.symm (by with_reducible assumption))) ?_)), by (repeat first | with_reducible assumption | (with_reducible refine keep_alloc ?_) | (with_reducible refine keep_drew ?_) | (with_reducible refine keep_set (blk_ne (Ne.symm (by with_reducible assumption))) ?_)), by (repeat first | with_reducible assumption | (with_reducible refine keep_alloc ?_) | (with_reducible refine keep_drew ?_) | (with_reducible refine keep_set (blk_ne (Ne.symm (by with_reducible assumption))) ?_)), by (repeat first | with_reducible assumption | (with_reducible refine keep_alloc ?_) | (with_reducible refine keep_drew ?_) | (with_reducible refine keep_set (blk_ne (Ne.symm (by with_reducible assumption))) ?_)), by (repeat first | with_reducible assumption | (with_reducible refine keep_alloc ?_) | (with_reducible refine keep_drew ?_) | (with_reducible refine keep_set (blk_ne (Ne.symm (by with_reducible assumption))) ?_))⟩ | trivial) (first
      | (go_at_call 13; refine (HR1'.out _ HBd.out).mono ?_; rintro e w7 ⟨rfl, hb7⟩; have HB7 := hide (bl_trans HBd.out hb7); have HB7e := hide (HBe.out.trans (hb7.mono HBe.out.size)); obtain ⟨e0, e1, e2, e3, e4⟩ := HCc.out _ w7 HB7e.out; clear hb7)
      | (go_at_call 14; refine (HR2'.out _ HB7.out).mono ?_; rintro e w9 ⟨rfl, hb9⟩; have HB9 := hide (bl_trans HB7.out hb9); obtain ⟨f0, f1, f2, f3, f4⟩ := HCc.out _ w9 (HB7e.out.trans (hb9.mono HB7e.out.size)); clear hb9))
    go_wp2
    go_ret
    exact ⟨rfl, HB9.out⟩
  · rw [hg] at HG
    go_wp2_with (first
      | (go_at_call 11; refine (HA.out _ (Below.refl _ _)).mono ?_; clear HA; rintro e w3 ⟨rfl, hb3⟩; have HB3 := hide hb3; clear hb3)
      | (go_at_call 12; refine (HG.out _ (HB0.out _ HB3.out)).mono ?_; clear HG; rintro e w5 ⟨rfl, hb5⟩; have HB5 := hide hb5; clear hb5))
    go_ret
    exact ⟨rfl, bl_trans (HB0.out _ HB3.out) HB5.out⟩
end Go.Proofs.Ytdccodnompalbaa
