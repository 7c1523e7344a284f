/- The laws of layer 3 walked: Kids. No conditions beyond the bounds that each statement names. -/
import Derived.Test.YtdccodnompalbaaKq
namespace Go.Proofs.Ytdccodnompalbaa
open Go.RowKit Go.Shelf

set_option maxRecDepth 20000 in
set_option maxHeartbeats 8000000 in
theorem lawKids_any (A : NT) (u : Int) (w : World) (hu : 0 ≤ u ∧ u ≤ 255) (hLA : Lies w.heap.size w A) (hSA : A.sized maxLen) (hm : ∀ w', Below w.heap.size w w' → MaxOk w') :
    Calls Try.prog 10 #[A.val, .int .u8 u] w fun e w' => e = .returned (.bool true) ∧ Below w.heap.size w w' := by
  obtain ⟨p, c, hs, ⟨hlc, _⟩, hK⟩ := hLA.eq
  have HA := hide fun w' (hb : Below w.heap.size w w') => alive_any w' (hm w' hb)
  have HG1 := hide fun w' (hb : Below w.heap.size w w') => lawGreat_any A w' ((hLA.below hb).mono hb.size) hSA
  have HRi := hide fun w' (hb : Below w.heap.size w w') (hg : tooGreat A = false) => right_any A w' (good_of ((hLA.below hb).mono hb.size) hSA hg) (hm w' hb)
  have HGd := hide fun (hg : tooGreat A = false) => good_of hLA hSA hg
  have HMx := hide hm
  have HSz := hide fun w' (hb : Below w.heap.size w w') (hg : tooGreat A = false) => size_any A w' (good_of ((hLA.below hb).mono hb.size) hSA hg)
  have HDp := hide fun w' (hb : Below w.heap.size w w') (hg : tooGreat A = false) => (let G := good_of hLA hSA hg; depth_any A w' ((hLA.below hb).mono hb.size) G.ok G.depth)
  have HK : Hid (tooGreat A = false → (rightM A).1 = 0 → ∀ j, j < A.len → ∃ pk ck, (A.kid j).s = .slice pk (A.kid j).len ck ∧ (A.kid j).depth < A.depth ∧ ∀ w', Below w.heap.size w w' →
      Calls Try.prog 15 #[.agg #[.int .i64 (A.kid j).k, .string (A.kid j).t, .int .i64 (A.kid j).n, .slice pk (A.kid j).len ck, .int .i64 (A.kid j).a], .int .i64 1] w' (fun e w'' => e = .returned (.bool true) ∧ Below w'.heap.size w' w'') ∧ Calls Try.prog 24 #[.agg #[.int .i64 (A.kid j).k, .string (A.kid j).t, .int .i64 (A.kid j).n, .slice pk (A.kid j).len ck, .int .i64 (A.kid j).a]] w' (fun e w'' => e = .returned (.int .i64 ((A.kid j).depth : Int)) ∧ Below w'.heap.size w' w'') ∧
      Calls Try.prog 23 #[.agg #[.int .i64 (A.kid j).k, .string (A.kid j).t, .int .i64 (A.kid j).n, .slice pk (A.kid j).len ck, .int .i64 (A.kid j).a]] w' (fun e w'' => e = .returned (.int .i64 ((A.kid j).size : Int)) ∧ Below w'.heap.size w' w'')) := hide fun hg hr j hj => by
    have G := good_of hLA hSA hg
    obtain ⟨_, _, _, _, hC⟩ := hK (by omega)
    have hLk := (hC j hj).2
    obtain ⟨pk, ck, e, _, _⟩ := hLk.eq
    have h1 : (A.kid j).size ≤ sumN (fun i => (A.kid i).size) A.len := sumN_le (f := fun i => (A.kid i).size) hj
    have h2 : (A.kid j).depth ≤ maxN (fun i => (A.kid i).depth) A.len := maxN_le (f := fun i => (A.kid i).depth) hj
    have s1 := NT.size_eq A
    have s2 := NT.depth_eq A
    have g1 := G.size
    have g2 := G.depth
    refine ⟨pk, ck, e, by omega, fun w' hb => ?_⟩
    have hGk : Good w' (A.kid j) := ⟨(hLk.below hb).mono hb.size, NT.ok_kid G.ok hj, by omega, by omega⟩
    have f1 := fits_any (A.kid j) 1 w' hGk (hm w' hb)
    have f2 := depth_any (A.kid j) w' hGk.lies hGk.ok hGk.depth
    have f3 := size_any (A.kid j) w' hGk
    rw [fits_item hr hj] at f1
    simp only [NT.val, e] at f1 f2 f3
    exact ⟨f1, f2, f3⟩
  have HC : Hid (A.len ≠ 0 → ∃ g off, p = some ⟨g, off, none⟩ ∧ g < w.heap.size ∧ ∀ i, i < A.len → Cells5 w g (off + i * 5) (A.kid i)) := hide fun hne => by
    obtain ⟨g, off, h1, h2, h3⟩ := hK hne
    exact ⟨g, off, h1, h2, fun i hi => (h3 i hi).1⟩
  have HSe := hide (NT.size_eq A)
  have HLK : Hid (∀ i, i < A.len → Lies w.heap.size w (A.kid i)) := hide fun i hi => by
    obtain ⟨_, _, _, _, hC⟩ := hK (by omega)
    exact (hC i hi).2
  have HLEN0 := hide (len_le_size A)
  have HSb := hide fun (hg : tooGreat A = false) => (good_of hLA hSA hg).size
  have hl' : A.len ≤ 9223372036854775807 := ((NT.sized_eq _ _).1 hSA).2.1
  have hb0 := box_new w A
  have hB1 : Below w.heap.size w (w.alloc (boxO A)) := bl_alloc (Below.refl _ _) _
  clear hLA hSA hm hK
  simp only [NT.val, boxO, hs, Cells5] at HG1 HRi HSz HDp hb0 hB1 ⊢
  clear hs
  obtain ⟨W1, hW1⟩ : ∃ W1, w.alloc (Obj.cells #[.int .i64 A.k, .string A.t, .int .i64 A.n, .slice p A.len c, .int .i64 A.a] 24) = W1 := ⟨_, rfl⟩
  rw [hW1] at hb0 hB1
  have HCe : Hid (∀ w', Below W1.heap.size W1 w' → (w'.cell? ⟨w.heap.size, 0, none⟩ = some (.int .i64 A.k) ∧ w'.cell? ⟨w.heap.size, 1, none⟩ = some (.string A.t) ∧ w'.cell? ⟨w.heap.size, 2, none⟩ = some (.int .i64 A.n) ∧ w'.cell? ⟨w.heap.size, 3, none⟩ = some (.slice p A.len c) ∧ w'.cell? ⟨w.heap.size, 4, none⟩ = some (.int .i64 A.a))) := hide fun w' hb => by
    have e : ∀ (a : Addr) (v : Value), W1.cell? a = some v → w'.cell? a = some v := fun a v hv => (hb.cell (p := a) (World.block_lt_of_cell? _ _ hv)).trans hv
    obtain ⟨a0, a1, a2, a3, a4⟩ := hb0
    exact ⟨e _ _ a0, e _ _ a1, e _ _ a2, e _ _ a3, e _ _ a4⟩
  have HB1 := hide hB1
  clear hB1 hb0
  have hfd := field29
  cases hg1 : tooGreat A
  · rw [hg1] at HG1
    have HRi' := hide fun w' hb => HRi.out w' hb hg1
    have HSz' := hide fun w' hb => HSz.out w' hb hg1
    have HDp' := hide fun w' hb => HDp.out w' hb hg1
    have HK' := hide (HK.out hg1)
    have hsb := HSb.out hg1
    have HGd' := hide (HGd.out hg1)
    clear HRi HSz HDp HK hg1 HSb HGd
    obtain ⟨RR, hRR⟩ : ∃ RR, RR = rightM A := ⟨_, rfl⟩
    rw [← hRR] at HRi' HK'
    have HRR := hide hRR
    clear hRR
    obtain ⟨r1, r2⟩ := RR
    simp only at HRi' HK'
    by_cases hr : r1 = 0
    · subst hr
      have HK'' := hide (HK'.out rfl)
      clear HK'
      go_enter Try.func10, Try.ntmps10
      go_wp2_with (first
        | (go_at_call 11; refine (HA.out _ HB1.out).mono ?_; clear HA; rintro e w3 ⟨rfl, hb3⟩; have HB3 := hide hb3; obtain ⟨a0, a1, a2, a3, a4⟩ := HCe.out w3 HB3.out; clear hb3)
        | (go_at_call 12; refine (HG1.out _ (bl_trans HB1.out HB3.out)).mono ?_; clear HG1; rintro e w5 ⟨rfl, hb5⟩; have HB5 := hide (HB3.out.trans (hb5.mono HB3.out.size)); obtain ⟨s0, s1, s2, s3, s4⟩ := HCe.out w5 HB5.out; clear hb5 a0 a1 a2 a3 a4)
        | (go_at_call 13; refine (HRi'.out _ (bl_trans HB1.out HB5.out)).mono ?_; clear HRi'; rintro e w6 ⟨rfl, hb6⟩; have HB6 := hide (HB5.out.trans (hb6.mono HB5.out.size)); clear hb6 s0 s1 s2 s3 s4))
      clear hW1
      obtain ⟨F, hF⟩ : ∃ F : Nat → Nat, F = fun i => (A.kid i).size := ⟨_, rfl⟩
      have HF := hide hF
      rw [← hF] at HSe
      have HFb : Hid (∀ j, j ≤ A.len → sumN F j ≤ 1000000) := hide fun j hj => by
        have h1 : ∀ n, sumN F j ≤ sumN F (j + n) := by
          intro n
          induction n with
          | zero => exact Nat.le_refl _
          | succ n ihn => rw [← Nat.add_assoc]; simp only [sumN]; omega
        have h2 := h1 (A.len - j)
        rw [show j + (A.len - j) = A.len by omega] at h2
        have := HSe.out
        omega
      clear hF
      go_loopw [5, 6] (fun d i wr => ∃ j : Nat, j ≤ A.len ∧ i = .int .i64 j ∧ d = .int .i64 ((1 + sumN F j : Nat) : Int) ∧ Below w6.heap.size w6 wr) (fun _ i _ => A.len - (intOf i).toNat)
      case atStart => exact ⟨0, Nat.zero_le _, rfl, by simp [sumN], Below.refl _ _⟩
      case round =>
        obtain ⟨j, hj, rfl, rfl, hb⟩ := hrel
        have HBr := hide hb
        have HBe := hide (HB6.out.trans (hb.mono HB6.out.size))
        have HBw := hide (bl_trans HB1.out (HB6.out.trans (hb.mono HB6.out.size)))
        obtain ⟨x0, x1, x2, x3, x4⟩ := HCe.out wr HBe.out
        obtain ⟨G, hG⟩ : ∃ G, sumN F j = G := ⟨_, rfl⟩
        have hGb := HFb.out j hj
        rw [hG] at hGb ⊢
        have HG := hide hG
        clear hb hG
        rcases Nat.lt_or_ge j A.len with hlt | hge
        · have hi' : (j : Int) < (A.len : Int) := by omega
          obtain ⟨pk, ck, ek, hdk, hcs⟩ := HK''.out j hlt
          obtain ⟨g, off, rfl, hg, hCC⟩ := HC.out (by omega)
          obtain ⟨c0, c1, c2, c3, c4⟩ := ((hCC j hlt).below HBw.out hg).nat
          rw [ek] at c3
          obtain ⟨W5, hW5⟩ : ∃ W5, wr.alloc (Obj.cells #[.int .i64 (A.kid j).k, .string (A.kid j).t, .int .i64 (A.kid j).n, .slice pk (A.kid j).len ck, .int .i64 (A.kid j).a] 24) = W5 := ⟨_, rfl⟩
          have hB5 := box_new wr (A.kid j)
          simp only [boxO, ek] at hB5
          rw [hW5] at hB5
          have hb5 : Below wr.heap.size wr W5 := by rw [← hW5]; exact bl_alloc (Below.refl _ _) _
          have HB5k := hide hB5
          obtain ⟨v0, v1, v2, v3, v4⟩ := hB5
          rw [ek] at v3
          simp only [Nat.zero_add] at v1 v2 v3 v4
          have HEK := hide ek
          obtain ⟨y0, y1, y2, y3, y4⟩ := HCe.out W5 (HBe.out.trans (hb5.mono HBe.out.size))
          have HBk := hide hb5
          have HCk : Hid (∀ w', Below W5.heap.size W5 w' → (w'.cell? ⟨wr.heap.size, 0, none⟩ = some (.int .i64 (A.kid j).k) ∧ w'.cell? ⟨wr.heap.size, 1, none⟩ = some (.string (A.kid j).t) ∧ w'.cell? ⟨wr.heap.size, 2, none⟩ = some (.int .i64 (A.kid j).n) ∧ w'.cell? ⟨wr.heap.size, 3, none⟩ = some (.slice pk (A.kid j).len ck) ∧ w'.cell? ⟨wr.heap.size, 4, none⟩ = some (.int .i64 (A.kid j).a))) := hide fun w' hb => by
            have h := HB5k.out.below hb (World.block_lt_of_cell? _ _ HB5k.out.1)
            unfold Cells5 at h
            rw [HEK.out] at h
            exact h
          have hGn := HFb.out (j + 1) (by omega)
          have HN := hide (show sumN F (j + 1) = G + F j from by simp only [sumN, HG.out])
          rw [HN.out] at hGn
          have HFj := hide (show F j = (A.kid j).size by rw [HF.out])
          have hge' : ((((A.kid j).depth : Nat) : Int) ≥ ((A.depth : Nat) : Int)) = False := by simp; omega
          have hge2 : decide (((A.depth : Nat) : Int) ≤ (((A.kid j).depth : Nat) : Int)) = false := by simp; omega
          have HD5 := hide (show Below w.heap.size w W5.drew from (HBw.out.trans (hb5.mono HBw.out.size)).drew)
          have HE5 := hide (show Below W1.heap.size W1 W5.drew from (HBe.out.trans (hb5.mono HBe.out.size)).drew)
          have HK5 := hide (show Below W5.heap.size W5 W5.drew from (Below.refl _ _).drew)
          have HCs := hide hcs
          clear hCC ek hb5 hcs
          go_wp2
          go_region_held3 (fun w' => (w'.cell? ⟨w.heap.size, 0, none⟩ = some (.int .i64 A.k) ∧ w'.cell? ⟨w.heap.size, 1, none⟩ = some (.string A.t) ∧ w'.cell? ⟨w.heap.size, 2, none⟩ = some (.int .i64 A.n) ∧ w'.cell? ⟨w.heap.size, 3, none⟩ = some (.slice (some ⟨g, off, none⟩) A.len c) ∧ w'.cell? ⟨w.heap.size, 4, none⟩ = some (.int .i64 A.a)) ∧ (w'.cell? ⟨wr.heap.size, 0, none⟩ = some (.int .i64 (A.kid j).k) ∧ w'.cell? ⟨wr.heap.size, 1, none⟩ = some (.string (A.kid j).t) ∧ w'.cell? ⟨wr.heap.size, 2, none⟩ = some (.int .i64 (A.kid j).n) ∧ w'.cell? ⟨wr.heap.size, 3, none⟩ = some (.slice pk (A.kid j).len ck) ∧ w'.cell? ⟨wr.heap.size, 4, none⟩ = some (.int .i64 (A.kid j).a)))
            (first | exact ⟨⟨by (repeat first | with_reducible assumption | (with_reducible refine kp_alloc ?_) | (with_reducible refine kp_drew ?_)), by (repeat first | with_reducible assumption | (with_reducible refine kp_alloc ?_) | (with_reducible refine kp_drew ?_)), by (repeat first | with_reducible assumption | (with_reducible refine kp_alloc ?_) | (with_reducible refine kp_drew ?_)), by (repeat first | with_reducible assumption | (with_reducible refine kp_alloc ?_) | (with_reducible refine kp_drew ?_)), by (repeat first | with_reducible assumption | (with_reducible refine kp_alloc ?_) | (with_reducible refine kp_drew ?_))⟩, ⟨by (repeat first | with_reducible assumption | (with_reducible refine kp_alloc ?_) | (with_reducible refine kp_drew ?_)), by (repeat first | with_reducible assumption | (with_reducible refine kp_alloc ?_) | (with_reducible refine kp_drew ?_)), by (repeat first | with_reducible assumption | (with_reducible refine kp_alloc ?_) | (with_reducible refine kp_drew ?_)), by (repeat first | with_reducible assumption | (with_reducible refine kp_alloc ?_) | (with_reducible refine kp_drew ?_)), by (repeat first | with_reducible assumption | (with_reducible refine kp_alloc ?_) | (with_reducible refine kp_drew ?_))⟩⟩ | trivial) (first
            | (go_at_call 15; refine (HCs.out _ HD5.out).1.mono ?_; rintro e w7 ⟨rfl, hb7⟩; have HD7 := hide (bl_trans HD5.out hb7); have HE7 := hide (HE5.out.trans (hb7.mono HE5.out.size)); have HK7 := hide (HK5.out.trans (hb7.mono HK5.out.size)); obtain ⟨y0, y1, y2, y3, y4⟩ := HCe.out w7 HE7.out; obtain ⟨z0, z1, z2, z3, z4⟩ := HCk.out w7 HK7.out; clear hb7)
            | (go_at_call 24; refine (HDp'.out _ HD8.out).mono ?_; rintro e w9 ⟨rfl, hb9⟩; have HD9 := hide (bl_trans HD8.out hb9); have HE9 := hide (HE8.out.trans (hb9.mono HE8.out.size)); have HK9 := hide (HK8.out.trans (hb9.mono HK8.out.size)); obtain ⟨y0, y1, y2, y3, y4⟩ := HCe.out w9 HE9.out; obtain ⟨z0, z1, z2, z3, z4⟩ := HCk.out w9 HK9.out; clear hb9)
            | (go_at_call 24; refine (HCs.out _ HD7.out).2.1.mono ?_; rintro e w8 ⟨rfl, hb8⟩; have HD8 := hide (bl_trans HD7.out hb8); have HE8 := hide (HE7.out.trans (hb8.mono HE7.out.size)); have HK8 := hide (HK7.out.trans (hb8.mono HK7.out.size)); obtain ⟨y0, y1, y2, y3, y4⟩ := HCe.out w8 HE8.out; obtain ⟨z0, z1, z2, z3, z4⟩ := HCk.out w8 HK8.out; clear hb8))
          go_wp2_with (go_at_call 23; refine (HCs.out _ HD9.out).2.2.mono ?_; rintro e wA ⟨rfl, hbA⟩; rw [← HFj.out]; have HDA := hide hbA; clear hbA)
          go_roundw
          case rel => exact ⟨j + 1, by omega, by go_num, by rw [HN.out]; congr 1; omega, HBr.out.trans ((HBk.out.trans ((HK9.out.trans (HDA.out.mono HK9.out.size)).mono HBk.out.size)).mono HBr.out.size)⟩
          case measure => simp [intOf]; omega
        · have he : j = A.len := by omega
          have hsz := HSz'.out wr HBw.out
          have hs1 : A.size = 1 + G := by rw [HSe.out, ← HG.out, he]
          rw [hs1] at hsz
          have HS1 := hide hs1
          clear hs1
          by_cases h0 : A.len = 0
          · have hj0 : j = 0 := by omega
            have hz0 : ((A.len : Nat) : Int) = 0 := by omega
            subst hj0
            clear he hge hj h0
            go_wp2_with (first
              | (go_at_call 23; refine hsz.mono ?_; clear hsz; rintro e w7 ⟨rfl, hb7⟩; have HB7 := hide hb7; have hsz := HSz'.out w7 (bl_trans HBw.out hb7); rw [HS1.out] at hsz; obtain ⟨y0, y1, y2, y3, y4⟩ := HCe.out w7 (HBe.out.trans (hb7.mono HBe.out.size)); clear hb7)
              | (go_at_call 23; refine hsz.mono ?_; clear hsz; rintro e w8 ⟨rfl, hb8⟩; have HB8 := hide (bl_trans HB7.out hb8); clear hb8))
            go_ret
            exact ⟨rfl, bl_trans HBw.out HB8.out⟩
          · have hmod := Int.emod_lt_of_pos u (show (0 : Int) < (A.len : Int) by omega)
            have hge0 := Int.emod_nonneg u (show (A.len : Int) ≠ 0 by omega)
            obtain ⟨ii, hii⟩ : ∃ ii : Nat, u % (A.len : Int) = (ii : Int) := ⟨(u % (A.len : Int)).toNat, by omega⟩
            have hlt2 : ii < A.len := by omega
            have hnz : ¬ (A.len : Int) = 0 := by omega
            have hwu : wrap64 u = u := IntWalk.wrap64_in _ (by omega)
            obtain ⟨g, off, rfl, hg, hCC⟩ := HC.out h0
            have HCC := hide hCC
            have HG0 := hide hg
            have HLT2 := hide hlt2
            have HLEN := hide (show A.len ≤ 1000000 by have := HLEN0.out; omega)
            have hjl : ¬ (j : Int) < (A.len : Int) := by omega
            clear hmod hge0 he hge hj h0 hCC hg hlt2
            go_upto_region 16 with (go_at_call 23; refine hsz.mono ?_; clear hsz; rintro e w7 ⟨rfl, hb7⟩; have HB7 := hide hb7; obtain ⟨y0, y1, y2, y3, y4⟩ := HCe.out w7 (HBe.out.trans (hb7.mono HBe.out.size)); clear hb7 x0 x1 x2 x3 x4)
            have HY3 := hide y3
            have hcl : w.heap.size < w7.heap.size := World.block_lt_of_cell? _ _ y3
            have HBW7 := hide (bl_trans HBw.out HB7.out)
            have HP : Hid (∃ (f : Nat → Value) (w8 : World) (g8 : Nat), True) := hide ⟨fun _ => undef, w, 0, trivial⟩
            rw [hii]
            refine region16_any (by kernel_rfl) w7 w.heap.size g off A.len c ii A.kid ?_ ?_ ?_ HY3.out (Nat.lt_of_lt_of_le HG0.out HBW7.out.size) (fun i hi => (HCC.out i hi).below HBW7.out HG0.out) (fun i hi => ((HLK.out i hi).below HBW7.out).mono HBW7.out.size) HLT2.out HLEN.out hlc ?_
            · kernel_rfl
            · rfl
            · rfl
            intro f w8 g8 e8 hg8 hP8
            have HBW8 := hide (bl_trans HBW7.out hP8.below)
            have HP8 := hide hP8
            have HG8 := hide hg8
            simp only [over, List.foldl_cons, List.foldl_nil, e8, List.setIfInBounds_toArray, List.set_cons_succ, List.set_cons_zero]
            generalize f 67 = x67, f 68 = x68, f 69 = x69, f 70 = x70, f 71 = x71, f 72 = x72, f 73 = x73, f 74 = x74, f 75 = x75, f 76 = x76, f 77 = x77, f 78 = x78, f 79 = x79
            clear e8 hg8 hP8 HP f y0 y1 y2 y3 y4
            go_wp2_with fail
            have HY8 : Hid (w8.cell? ⟨w.heap.size, 3, none⟩ = some (.slice (some ⟨g, off, none⟩) A.len c)) := hide ((HP8.out.below.cell (p := ⟨w.heap.size, 3, none⟩) hcl).trans HY3.out)
            refine region17_any (by kernel_rfl) w8 w.heap.size g off A.len c ii A.kid ?_ ?_ ?_ HY8.out (Nat.lt_of_lt_of_le HG0.out HBW8.out.size) (fun i hi => (HCC.out i hi).below HBW8.out HG0.out) (fun i hi => ((HLK.out i hi).below HBW8.out).mono HBW8.out.size) HLT2.out HLEN.out ?_
            · kernel_rfl
            · rfl
            · rfl
            intro f w9 g9 e9 hg9 hP9
            have HBW9 := hide (bl_trans HBW8.out hP9.below)
            have HP9 := hide hP9
            have HG9 := hide hg9
            simp only [over, List.foldl_cons, List.foldl_nil, e9, List.setIfInBounds_toArray, List.set_cons_succ, List.set_cons_zero]
            generalize f 80 = x80, f 81 = x81, f 82 = x82, f 83 = x83, f 84 = x84, f 85 = x85, f 86 = x86, f 87 = x87, f 88 = x88, f 89 = x89, f 90 = x90, f 91 = x91
            clear e9 hg9 hP9 f
            obtain ⟨p1, c1, hC1, hR1⟩ := HP8.out.cells
            have hC1' := hC1.below HP9.out.below (World.block_lt_of_cell? _ _ hC1.1)
            have hR1' := row_below hR1 HP9.out.below
            obtain ⟨p2, c2, hC2, hR2⟩ := HP9.out.cells
            have HL9 := hide (fun i (hi : i < A.len) => ((HLK.out i hi).below HBW9.out).mono HBW9.out.size)
            have hr0 : (rightM A).1 = 0 := by rw [← HRR.out]
            have HL := hide (less_any HGd'.out hr0 hR1' HLT2.out HL9.out (HMx.out _ HBW9.out))
            obtain ⟨z, hz, HZ⟩ := more_any HGd'.out hr0 hR2 HLT2.out HL9.out
            have HM := hide (fun W2 (hb : Below w9.heap.size w9 W2) => HZ W2 hb (HMx.out _ (bl_trans HBW9.out hb)))
            have HC2 := hide hC2
            obtain ⟨t0, t1, t2, t3, t4⟩ := hC1'
            simp only [NT.k, NT.t, NT.n, NT.s, NT.a] at t0 t1 t2 t3 t4
            clear hC1 hR1 hR1' hR2 hr0 HZ hC2 hcl hnz hwu hii
            have HLT10 : Hid (g9 < w9.heap.size) := hide (World.block_lt_of_cell? _ _ HC2.out.1)
            have HC3 : Hid (∀ W2, Below w9.heap.size w9 W2 → W2.cell? ⟨g9, 0, none⟩ = some (.int .i64 1) ∧ W2.cell? ⟨g9, 1, none⟩ = some (.string ⟨#[]⟩) ∧ W2.cell? ⟨g9, 2, none⟩ = some (.int .i64 0) ∧ W2.cell? ⟨g9, 3, none⟩ = some (.slice p2 (A.len + 1) c2) ∧ W2.cell? ⟨g9, 4, none⟩ = some (.int .i64 0)) := hide fun W2 hb => by
              have h := HC2.out.below hb HLT10.out
              unfold Cells5 at h
              simpa only [NT.k, NT.t, NT.n, NT.s, NT.a, Nat.zero_add] using h
            simp only [Nat.zero_add] at t1 t2 t3 t4
            by_cases hz20 : (20000 : Int) < (z : Int)
            · have hd : decide ((20000 : Int) < (z : Int)) = true := by simpa using hz20
              go_wp2_with (first
                | (go_at_call 13; refine HL.out.mono ?_; clear HL; rintro e wA ⟨rL, rfl, hbA⟩; have HBA := hide hbA; obtain ⟨s0, s1, s2, s3, s4⟩ := HC3.out wA hbA; clear hbA)
                | (go_at_call 23; refine (HM.out _ HBA.out).1.mono ?_; rintro e wB ⟨rfl, hbB⟩; have HBB := hide (bl_trans HBA.out hbB); clear hbB))
              go_ret
              exact ⟨rfl, bl_trans HBW9.out HBB.out⟩
            · have hzz : z ≤ 20000 := by omega
              have HZZ := hide hzz
              have hd : decide ((20000 : Int) < (z : Int)) = false := by simpa using hz20
              clear hzz
              go_wp2_with (first
                | (go_at_call 13; refine HL.out.mono ?_; clear HL; rintro e wA ⟨rL, rfl, hbA⟩; have HBA := hide hbA; obtain ⟨s0, s1, s2, s3, s4⟩ := HC3.out wA hbA; clear hbA)
                | (go_at_call 23; refine (HM.out _ HBA.out).1.mono ?_; rintro e wB ⟨rfl, hbB⟩; have HBB := hide (bl_trans HBA.out hbB); obtain ⟨s0, s1, s2, s3, s4⟩ := HC3.out wB HBB.out; clear hbB)
                | (go_at_call 13; refine ((HM.out _ HBB.out).2 HZZ.out).mono ?_; rintro e wC ⟨rM, rfl, hbC⟩; have HBC := hide (bl_trans HBB.out hbC); clear hbC))
              go_ret
              exact ⟨rfl, bl_trans HBW9.out HBC.out⟩
    · have hne : (r1 != 0) = true := by simpa using hr
      clear hr HK'
      go_enter Try.func10, Try.ntmps10
      go_wp2_with (first
        | (go_at_call 11; refine (HA.out _ HB1.out).mono ?_; clear HA; rintro e w3 ⟨rfl, hb3⟩; have HB3 := hide hb3; obtain ⟨a0, a1, a2, a3, a4⟩ := HCe.out w3 HB3.out; clear hb3)
        | (go_at_call 12; refine (HG1.out _ (bl_trans HB1.out HB3.out)).mono ?_; clear HG1; rintro e w5 ⟨rfl, hb5⟩; have HB5 := hide (HB3.out.trans (hb5.mono HB3.out.size)); obtain ⟨s0, s1, s2, s3, s4⟩ := HCe.out w5 HB5.out; clear hb5 a0 a1 a2 a3 a4)
        | (go_at_call 13; refine (HRi'.out _ (bl_trans HB1.out HB5.out)).mono ?_; clear HRi'; rintro e w6 ⟨rfl, hb6⟩; have HB6 := hide (HB5.out.trans (hb6.mono HB5.out.size)); clear hb6))
      go_ret
      exact ⟨rfl, bl_trans HB1.out HB6.out⟩
  · rw [hg1] at HG1
    go_enter Try.func10, Try.ntmps10
    go_wp2_with (first
      | (go_at_call 11; refine (HA.out _ HB1.out).mono ?_; clear HA; rintro e w3 ⟨rfl, hb3⟩; have HB3 := hide hb3; obtain ⟨a0, a1, a2, a3, a4⟩ := HCe.out w3 HB3.out; clear hb3)
      | (go_at_call 12; refine (HG1.out _ (bl_trans HB1.out HB3.out)).mono ?_; clear HG1; rintro e w5 ⟨rfl, hb5⟩; have HB5 := hide (HB3.out.trans (hb5.mono HB3.out.size)); obtain ⟨s0, s1, s2, s3, s4⟩ := HCe.out w5 HB5.out; clear hb5 a0 a1 a2 a3 a4))
    go_ret
    exact ⟨rfl, bl_trans HB1.out HB5.out⟩
end Go.Proofs.Ytdccodnompalbaa
