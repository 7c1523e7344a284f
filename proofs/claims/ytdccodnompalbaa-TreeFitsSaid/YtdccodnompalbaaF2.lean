/- The laws of layer 3 walked: Fits. No conditions beyond the bounds that each statement names. -/
import Derived.Test.YtdccodnompalbaaF1
import Derived.Test.YtdccodnompalbaaA
namespace Go.Proofs.Ytdccodnompalbaa
open Go.RowKit Go.Shelf

set_option maxRecDepth 20000 in
set_option maxHeartbeats 4000000 in
theorem lawFits_any (T : NT) (cl : Int) (w : World) (hL : Lies w.heap.size w T) (hS : T.sized maxLen) (hm : ∀ w', Below w.heap.size w w' → MaxOk w') :
    Calls Try.prog 5 #[T.val, .int .i64 cl] w fun e w' => e = .returned (.bool true) ∧ Below w.heap.size w w' := by
  obtain ⟨p, cc, hs, ⟨hlc, _⟩, hK⟩ := hL.eq
  have HA := hide fun w' (hb : Below w.heap.size w w') => alive_any w' (hm w' hb)
  have HG := hide fun w' (hb : Below w.heap.size w w') => lawGreat_any T w' ((hL.below hb).mono hb.size) hS
  have HR1 := hide fun (c : Int) w' (hb : Below w.heap.size w w') (hg : tooGreat T = false) => fits_any T c w' (good_of ((hL.below hb).mono hb.size) hS hg) (hm w' hb)
  have HR2 := hide fun (c : Int) w' (hb : Below w.heap.size w w') (hg : tooGreat T = false) => (let G := good_of ((hL.below hb).mono hb.size) hS hg; refFits_any T c w' G.lies G.ok (by have := G.size; omega) (by have := G.depth; omega))
  simp only [fits_eq T] at HR1
  generalize refFitsM T = R at HR1 HR2
  have HCb := hide fun w' (hb : Below (w.alloc (boxO T)).heap.size (w.alloc (boxO T)) w') => (box_new w T).below hb (by simp)
  have HCc : Hid (∀ w', Below (w.alloc (boxO T)).heap.size (w.alloc (boxO T)) w' → w'.cell? ⟨w.heap.size, 0, none⟩ = some (.int .i64 T.k) ∧ w'.cell? ⟨w.heap.size, 1, none⟩ = some (.string T.t) ∧ w'.cell? ⟨w.heap.size, 2, none⟩ = some (.int .i64 T.n) ∧ w'.cell? ⟨w.heap.size, 3, none⟩ = some (.slice p T.len cc) ∧ w'.cell? ⟨w.heap.size, 4, none⟩ = some (.int .i64 T.a)) := hide fun w' hb => by
    have := HCb.out w' hb
    unfold Cells5 at this
    rw [hs] at this
    exact this
  clear HCb hL hS hK hm
  have HB0 := hide (bl_alloc (Below.refl w.heap.size w) (boxO T))
  simp only [boxO, NT.val, hs] at HG HR1 HR2 HCc HB0 ⊢
  go_enter Try.func5, Try.ntmps5
  cases hg : tooGreat T
  · have HR1' := hide fun c w' hb => HR1.out c w' hb hg
    have HR2' := hide fun c w' hb => HR2.out c w' hb hg
    rw [hg] at HG
    clear HR1 HR2
    go_wp2_with (first
      | (go_at_call 11; refine (HA.out _ HB0.out).mono ?_; clear HA; rintro e w3 ⟨rfl, hb3⟩; have HB3 := hide hb3; obtain ⟨q0, q1, q2, q3, q4⟩ := HCc.out w3 HB3.out; clear hb3)
      | (go_at_call 12; refine (HG.out _ (bl_trans HB0.out HB3.out)).mono ?_; clear HG; rintro e w5 ⟨rfl, hb5⟩; have HB5 := hide (HB3.out.trans (hb5.mono HB3.out.size)); obtain ⟨r0, r1, r2, r3, r4⟩ := HCc.out w5 HB5.out; clear hb5))
    have HB55 := hide (bl_trans HB0.out HB5.out)
    go_loopw [5] (fun i wr => ∃ j : Nat, j ≤ 7 ∧ i = .int .i64 j ∧ Below w5.heap.size w5 wr) (fun i _ => 7 - (intOf i).toNat)
    case atStart => exact ⟨0, Nat.zero_le _, rfl, Below.refl _ _⟩
    case round =>
      obtain ⟨j, hj, rfl, hb⟩ := hrel
      have HBd := hide (show Below w.heap.size w wr.drew from (bl_trans HB55.out hb).drew)
      have HBe := hide (show Below (w.alloc (.cells #[.int .i64 T.k, .string T.t, .int .i64 T.n, .slice p T.len cc, .int .i64 T.a] 24)).heap.size _ wr.drew from (HB5.out.trans (hb.mono HB5.out.size)).drew)
      have HBf := hide (show Below w5.heap.size w5 wr.drew from hb.drew)
      obtain ⟨t0, t1, t2, t3, t4⟩ := HCc.out wr (HB5.out.trans (hb.mono HB5.out.size))
      clear hb r0 r1 r2 r3 r4 q0 q1 q2 q3 q4
      rcases Nat.lt_or_ge j 7 with hlt | hge
      · have hi' : (j : Int) ≤ 6 := by omega
        go_wp2
        go_region_held3 (fun w' => w'.cell? ⟨w.heap.size, 0, none⟩ = some (.int .i64 T.k) ∧ w'.cell? ⟨w.heap.size, 1, none⟩ = some (.string T.t) ∧ w'.cell? ⟨w.heap.size, 2, none⟩ = some (.int .i64 T.n) ∧ w'.cell? ⟨w.heap.size, 3, none⟩ = some (.slice p T.len cc) ∧ w'.cell? ⟨w.heap.size, 4, none⟩ = some (.int .i64 T.a))
          (first | exact ⟨by (repeat first | with_reducible assumption | (with_reducible refine keep_alloc ?_) | (with_reducible refine keep_drew ?_) | (with_reducible refine keep_set (blk_ne (Ne.symm (by with_reducible assumption))) ?_)), by (repeat first | with_reducible assumption | (with_reducible refine keep_alloc ?_) | (with_reducible refine keep_drew ?_) | (with_reducible refine keep_set (blk_ne (Ne.symm (by with_reducible assumption))) ?_)), by (repeat first | with_reducible assumption | (with_reducible refine keep_alloc ?_) | (with_reducible refine keep_drew ?_) | (with_reducible refine keep_set (blk_ne (Ne.symm (by with_reducible assumption))) ?_)), by (repeat first | with_reducible assumption | (with_reducible refine keep_alloc ?_) | (with_reducible refine keep_drew ?_) | (with_reducible refine keep_set (blk_ne (Ne.symm (by with_reducible assumption))) ?_)), by (repeat first | with_reducible assumption | (with_reducible refine keep_alloc ?_) | (with_reducible refine keep_drew ?_) | (with_reducible refine keep_set (blk_ne (Ne.symm (by with_reducible assumption))) ?_))⟩ | trivial) (first
          | (go_at_call 15; refine (HR1'.out _ _ HBd.out).mono ?_; rintro e w7 ⟨rfl, hb7⟩; have HB7 := hide (bl_trans HBd.out hb7); have HB7e := hide (HBe.out.trans (hb7.mono HBe.out.size)); have HB7f := hide (HBf.out.trans (hb7.mono HBf.out.size)); obtain ⟨e0, e1, e2, e3, e4⟩ := HCc.out w7 HB7e.out; clear hb7)
          | (go_at_call 16; refine (HR2'.out _ _ HB7.out).mono ?_; rintro e w9 ⟨rfl, hb9⟩; have HB9 := hide (bl_trans HB7.out hb9); have HB9f := hide (HB7f.out.trans (hb9.mono HB7f.out.size)); obtain ⟨f0, f1, f2, f3, f4⟩ := HCc.out w9 (HB7e.out.trans (hb9.mono HB7e.out.size)); clear hb9))
        go_wp2
        go_roundw
        case rel => exact ⟨j + 1, by omega, by go_num, HB9f.out⟩
        case measure => simp [intOf]; omega
      · have hi' : ¬ (j : Int) ≤ 6 := by omega
        go_wp2
        go_region_held3 (fun w' => w'.cell? ⟨w.heap.size, 0, none⟩ = some (.int .i64 T.k) ∧ w'.cell? ⟨w.heap.size, 1, none⟩ = some (.string T.t) ∧ w'.cell? ⟨w.heap.size, 2, none⟩ = some (.int .i64 T.n) ∧ w'.cell? ⟨w.heap.size, 3, none⟩ = some (.slice p T.len cc) ∧ w'.cell? ⟨w.heap.size, 4, none⟩ = some (.int .i64 T.a))
          (first | exact ⟨by (repeat first | with_reducible assumption | (with_reducible refine keep_alloc ?_) | (with_reducible refine keep_drew ?_) | (with_reducible refine keep_set (blk_ne (Ne.symm (by with_reducible assumption))) ?_)), by (repeat first | with_reducible assumption | (with_reducible refine keep_alloc ?_) | (with_reducible refine keep_drew ?_) | (with_reducible refine keep_set (blk_ne (Ne.symm (by with_reducible assumption))) ?_)), by (repeat first | with_reducible assumption | (with_reducible refine keep_alloc ?_) | (with_reducible refine keep_drew ?_) | (with_reducible refine keep_set (blk_ne (Ne.symm (by with_reducible assumption))) ?_)), by (repeat first | with_reducible assumption | (with_reducible refine keep_alloc ?_) | (with_reducible refine keep_drew ?_) | (with_reducible refine keep_set (blk_ne (Ne.symm (by with_reducible assumption))) ?_)), by (repeat first | with_reducible assumption | (with_reducible refine keep_alloc ?_) | (with_reducible refine keep_drew ?_) | (with_reducible refine keep_set (blk_ne (Ne.symm (by with_reducible assumption))) ?_))⟩ | trivial) (first
          | (go_at_call 15; refine (HR1'.out _ _ HBd.out).mono ?_; rintro e w7 ⟨rfl, hb7⟩; have HB7 := hide (bl_trans HBd.out hb7); have HB7e := hide (HBe.out.trans (hb7.mono HBe.out.size)); have HB7f := hide (HBf.out.trans (hb7.mono HBf.out.size)); obtain ⟨e0, e1, e2, e3, e4⟩ := HCc.out w7 HB7e.out; clear hb7)
          | (go_at_call 16; refine (HR2'.out _ _ HB7.out).mono ?_; rintro e w9 ⟨rfl, hb9⟩; have HB9 := hide (bl_trans HB7.out hb9); have HB9f := hide (HB7f.out.trans (hb9.mono HB7f.out.size)); obtain ⟨f0, f1, f2, f3, f4⟩ := HCc.out w9 (HB7e.out.trans (hb9.mono HB7e.out.size)); clear hb9))
        go_wp2
        go_ret
        exact ⟨rfl, HB9.out⟩
  · rw [hg] at HG
    go_wp2_with (first
      | (go_at_call 11; refine (HA.out _ HB0.out).mono ?_; clear HA; rintro e w3 ⟨rfl, hb3⟩; have HB3 := hide hb3; obtain ⟨q0, q1, q2, q3, q4⟩ := HCc.out w3 HB3.out; clear hb3)
      | (go_at_call 12; refine (HG.out _ (bl_trans HB0.out HB3.out)).mono ?_; clear HG; rintro e w5 ⟨rfl, hb5⟩; have HB5 := hide (HB3.out.trans (hb5.mono HB3.out.size)); obtain ⟨r0, r1, r2, r3, r4⟩ := HCc.out w5 HB5.out; clear hb5))
    go_ret
    exact ⟨rfl, bl_trans HB0.out HB5.out⟩
end Go.Proofs.Ytdccodnompalbaa
