/- The laws of layer 3 walked: Bare. No conditions beyond the bounds that each statement names. -/
import Derived.Test.YtdccodnompalbaaB8
import Derived.Test.YtdccodnompalbaaF4
import Derived.Test.YtdccodnompalbaaN2
namespace Go.Proofs.Ytdccodnompalbaa
open Go.RowKit Go.Shelf

/-- What is asked of the bare tree, called by its value. -/
structure Asks (T X : NT) (p : Option Addr) (c : Nat) (w7 : World) : Prop where
  alike : ∀ (Y : NT) py cy, Y.s = .slice py Y.len cy → Bared T Y → ∀ w', Lies w'.heap.size w' Y → Below w7.heap.size w7 w' → Calls Try.prog 19 #[.agg #[.int .i64 X.k, .string X.t, .int .i64 X.n, .slice p X.len c, .int .i64 X.a], .agg #[.int .i64 Y.k, .string Y.t, .int .i64 Y.n, .slice py Y.len cy, .int .i64 Y.a]] w' fun e w'' => e = .returned (.bool true) ∧ Below w'.heap.size w' w''
  again : ∀ w', Below w7.heap.size w7 w' → Calls Try.prog 29 #[.agg #[.int .i64 X.k, .string X.t, .int .i64 X.n, .slice p X.len c, .int .i64 X.a]] w' fun e w'' => ∃ Z pz cz, e = .returned (.agg #[.int .i64 Z.k, .string Z.t, .int .i64 Z.n, .slice pz Z.len cz, .int .i64 Z.a]) ∧ Z.s = .slice pz Z.len cz ∧ Copied X Z ∧ Lies w''.heap.size w'' Z ∧ Below w'.heap.size w' w''
  same : ∀ (Z : NT) pz cz, Z.s = .slice pz Z.len cz → Copied X Z → ∀ w', Lies w'.heap.size w' Z → Below w7.heap.size w7 w' → Calls Try.prog 17 #[.agg #[.int .i64 Z.k, .string Z.t, .int .i64 Z.n, .slice pz Z.len cz, .int .i64 Z.a], .agg #[.int .i64 X.k, .string X.t, .int .i64 X.n, .slice p X.len c, .int .i64 X.a]] w' fun e w'' => e = .returned (.bool true) ∧ Below w'.heap.size w' w''
  fits : ∀ (cl : Int) w', Below w7.heap.size w7 w' → Calls Try.prog 15 #[.agg #[.int .i64 X.k, .string X.t, .int .i64 X.n, .slice p X.len c, .int .i64 X.a], .int .i64 cl] w' fun e w'' => e = .returned (.bool (fitsM X cl)) ∧ Below w'.heap.size w' w''
  right : ∀ w', Below w7.heap.size w7 w' → Calls Try.prog 13 #[.agg #[.int .i64 X.k, .string X.t, .int .i64 X.n, .slice p X.len c, .int .i64 X.a]] w' fun e w'' => e = .returned (.agg #[.int .i64 (rightM X).1, .int .i64 (rightM X).2]) ∧ Below w'.heap.size w' w''
theorem asks_of {T X : NT} {p : Option Addr} {c : Nat} {w7 : World} (hX : Bared T X) (hs : X.s = .slice p X.len c) (hL : Lies w7.heap.size w7 X) (hS : T.sized maxLen) (hg : T.short 4000000000 ∧ T.depth ≤ 900 ∧ T.size ≤ 1000000) (hm : MaxOk w7) : Asks T X p c w7 := by
  have hSX : X.sized maxLen := hX.sized hS
  have hz : X.size ≤ 1000000 := by rw [hX.size]; exact hg.2.2
  have hd : X.depth ≤ 900 := by rw [hX.depth]; exact hg.2.1
  have hG : ∀ w', Below w7.heap.size w7 w' → Good w' X := fun w' hb => ⟨(hL.below hb).mono hb.size, ⟨hSX, hX.short hg.1⟩, hd, hz⟩
  have hv : X.val = .agg #[.int .i64 X.k, .string X.t, .int .i64 X.n, .slice p X.len c, .int .i64 X.a] := by rw [NT.val, hs]
  refine ⟨fun Y py cy hy hY w' hl hb => ?_, fun w' hb => ?_, fun Z pz cz hz' hZ w' hl hb => ?_, fun cl w' hb => ?_, fun w' hb => ?_⟩
  · have := alike_any X Y w' (hG w' hb).lies hl hSX (hY.sized hS) hz (by omega) (Made.both (fun _ _ => rfl) (fun _ => rfl) hX hY)
    rw [hv, NT.val, hy] at this
    exact this
  · have := bare_any X w' (hG w' hb).lies hSX hz
    rw [hv] at this
    refine this.mono ?_
    rintro e w'' ⟨Z, rfl, hZ, hLZ, hb'⟩
    obtain ⟨pz, cz, hsz, _, _⟩ := liesP_eq.1 hLZ
    exact ⟨Z, pz, cz, by rw [NT.val, hsz], hsz, bared_twice hX hZ, hLZ.lies, hb'⟩
  · have := same_any Z X w' hl (hG w' hb).lies (hZ.sized hSX) hSX
    rw [hv, NT.val, hz', (copied_symm hZ).same] at this
    exact this
  · have := fits_any X cl w' (hG w' hb) (hm.below hb)
    rw [hv] at this
    exact this
  · have := right_any X w' (hG w' hb) (hm.below hb)
    rw [hv] at this
    exact this

set_option maxRecDepth 20000 in
set_option maxHeartbeats 4000000 in
theorem lawBare_any (A : NT) (w : World) (hLA : Lies w.heap.size w A) (hSA : A.sized maxLen) (hm : ∀ w', Below w.heap.size w w' → MaxOk w') :
    Calls Try.prog 9 #[A.val] w fun e w' => e = .returned (.bool true) ∧ Below w.heap.size w w' := by
  obtain ⟨p, c, hs, _, _⟩ := hLA.eq
  have HA := hide fun w' (hb : Below w.heap.size w w') => alive_any w' (hm w' hb)
  have HG1 := hide fun w' (hb : Below w.heap.size w w') => lawGreat_any A w' ((hLA.below hb).mono hb.size) hSA
  have HBa := hide fun w' (hb : Below w.heap.size w w') (hg : tooGreat A = false) => bare_any A w' ((hLA.below hb).mono hb.size) hSA (good_of hLA hSA hg).size
  have HRb := hide fun w' (hb : Below w.heap.size w w') (hg : tooGreat A = false) => refBare_any A w' ((hLA.below hb).mono hb.size) hSA (good_of hLA hSA hg).size
  have HFi := hide fun (cl : Int) w' (hb : Below w.heap.size w w') (hg : tooGreat A = false) => fits_any A cl w' (good_of ((hLA.below hb).mono hb.size) hSA hg) (hm w' hb)
  have HRi := hide fun w' (hb : Below w.heap.size w w') (hg : tooGreat A = false) => right_any A w' (good_of ((hLA.below hb).mono hb.size) hSA hg) (hm w' hb)
  have HAs := hide fun (X : NT) (px : Option Addr) (cx : Nat) (w7 : World) (hX : Bared A X) (hsx : X.s = .slice px X.len cx) (hLX : Lies w7.heap.size w7 X) (hb : Below w.heap.size w w7) (hg : tooGreat A = false) =>
    asks_of hX hsx hLX hSA (let G := good_of hLA hSA hg; ⟨G.ok.2, G.depth, G.size⟩) (hm w7 hb)
  have hb0 := box_new w A
  have hB1 : Below w.heap.size w (w.alloc (boxO A)) := bl_alloc (Below.refl _ _) _
  clear hLA hSA hm
  simp only [NT.val, boxO, hs, Cells5] at HG1 HBa HRb HFi HRi hb0 hB1 ⊢
  clear hs
  obtain ⟨W1, hW1⟩ : ∃ W1, w.alloc (Obj.cells #[.int .i64 A.k, .string A.t, .int .i64 A.n, .slice p A.len c, .int .i64 A.a] 24) = W1 := ⟨_, rfl⟩
  rw [hW1] at hb0 hB1
  have HCe : Hid (∀ w', Below W1.heap.size W1 w' → (w'.cell? ⟨w.heap.size, 0, none⟩ = some (.int .i64 A.k) ∧ w'.cell? ⟨w.heap.size, 1, none⟩ = some (.string A.t) ∧ w'.cell? ⟨w.heap.size, 2, none⟩ = some (.int .i64 A.n) ∧ w'.cell? ⟨w.heap.size, 3, none⟩ = some (.slice p A.len c) ∧ w'.cell? ⟨w.heap.size, 4, none⟩ = some (.int .i64 A.a))) := hide fun w' hb => by
    have e : ∀ (a : Addr) (v : Value), W1.cell? a = some v → w'.cell? a = some v := fun a v hv => (hb.cell (p := a) (World.block_lt_of_cell? _ _ hv)).trans hv
    obtain ⟨a0, a1, a2, a3, a4⟩ := hb0
    exact ⟨e _ _ a0, e _ _ a1, e _ _ a2, e _ _ a3, e _ _ a4⟩
  have HB1 := hide hB1
  clear hB1 hb0
  have hfd := field29
  go_enter Try.func9, Try.ntmps9
  cases hg1 : tooGreat A
  · rw [hg1] at HG1
    have HBa' := hide fun w' hb => HBa.out w' hb hg1
    have HRb' := hide fun w' hb => HRb.out w' hb hg1
    have HFi' := hide fun cl w' hb => HFi.out cl w' hb hg1
    have HRi' := hide fun w' hb => HRi.out w' hb hg1
    have HAs' := hide fun X px cx w7 h1 h2 h3 h4 => HAs.out X px cx w7 h1 h2 h3 h4 hg1
    clear HBa HRb HFi HRi HAs hg1
    go_wp2_with (first
      | (go_at_call 11; refine (HA.out _ HB1.out).mono ?_; clear HA; rintro e w3 ⟨rfl, hb3⟩; have HB3 := hide hb3; obtain ⟨a0, a1, a2, a3, a4⟩ := HCe.out w3 HB3.out; clear hb3)
      | (go_at_call 12; refine (HG1.out _ (bl_trans HB1.out HB3.out)).mono ?_; clear HG1; rintro e w5 ⟨rfl, hb5⟩; have HB5 := hide (HB3.out.trans (hb5.mono HB3.out.size)); obtain ⟨s0, s1, s2, s3, s4⟩ := HCe.out w5 HB5.out; clear hb5 a0 a1 a2 a3 a4)
      | (go_at_call 29; refine (HBa'.out _ (bl_trans HB1.out HB5.out)).mono ?_; clear HBa'; rintro e w6 ⟨X, rfl, hX, hLX, hb6⟩; obtain ⟨px, cx, hsx, _, _⟩ := liesP_eq.1 hLX; simp only [hsx]; obtain ⟨w7, hw7⟩ : ∃ w7, w6.alloc (Obj.cells #[.int .i64 X.k, .string X.t, .int .i64 X.n, .slice px X.len cx, .int .i64 X.a] 24) = w7 := ⟨_, rfl⟩; have hb7 : Below w6.heap.size w6 w7 := (by rw [← hw7]; exact bl_alloc (Below.refl _ _) _); have hx7 : Cells5 w7 w6.heap.size 0 X := (by have h := box_new w6 X; rw [boxO, hsx, hw7] at h; exact h); have hLX7 : Lies w7.heap.size w7 X := ((hLX.lies).below hb7).mono hb7.size; have HB7 := hide (HB5.out.trans ((bl_trans hb6 hb7).mono HB5.out.size)); have HAX := hide (HAs'.out X px cx w7 hX hsx hLX7 (bl_trans HB1.out HB7.out)); have HX := hide hX; have HX7 := hide hx7; unfold Cells5 at hx7; rw [hsx] at hx7; obtain ⟨m0, m1, m2, m3, m4⟩ := hx7; obtain ⟨n0, n1, n2, n3, n4⟩ := HCe.out w7 HB7.out; have HSX := hide hsx; clear hb6 hb7 hX hLX hLX7 hsx s0 s1 s2 s3 s4))
    clear hW1
    have HCx : Hid (∀ w', Below w7.heap.size w7 w' → (w'.cell? ⟨w6.heap.size, 0, none⟩ = some (.int .i64 X.k) ∧ w'.cell? ⟨w6.heap.size, 1, none⟩ = some (.string X.t) ∧ w'.cell? ⟨w6.heap.size, 2, none⟩ = some (.int .i64 X.n) ∧ w'.cell? ⟨w6.heap.size, 3, none⟩ = some (.slice px X.len cx) ∧ w'.cell? ⟨w6.heap.size, 4, none⟩ = some (.int .i64 X.a))) := hide fun w' hb => by
      have h := HX7.out.below hb (World.block_lt_of_cell? _ _ HX7.out.1)
      unfold Cells5 at h
      rw [HSX.out] at h
      exact h
    have HBd := hide (show Below w.heap.size w w7.drew from (bl_trans HB1.out HB7.out).drew)
    have HBe := hide (show Below W1.heap.size W1 w7.drew from HB7.out.drew)
    have HBf := hide (show Below w7.heap.size w7 w7.drew from (Below.refl _ _).drew)
    go_region_held3 (fun w' => (w'.cell? ⟨w.heap.size, 0, none⟩ = some (.int .i64 A.k) ∧ w'.cell? ⟨w.heap.size, 1, none⟩ = some (.string A.t) ∧ w'.cell? ⟨w.heap.size, 2, none⟩ = some (.int .i64 A.n) ∧ w'.cell? ⟨w.heap.size, 3, none⟩ = some (.slice p A.len c) ∧ w'.cell? ⟨w.heap.size, 4, none⟩ = some (.int .i64 A.a)) ∧ (w'.cell? ⟨w6.heap.size, 0, none⟩ = some (.int .i64 X.k) ∧ w'.cell? ⟨w6.heap.size, 1, none⟩ = some (.string X.t) ∧ w'.cell? ⟨w6.heap.size, 2, none⟩ = some (.int .i64 X.n) ∧ w'.cell? ⟨w6.heap.size, 3, none⟩ = some (.slice px X.len cx) ∧ w'.cell? ⟨w6.heap.size, 4, none⟩ = some (.int .i64 X.a)))
      (first | exact ⟨⟨by (repeat first | with_reducible assumption | (with_reducible refine kp_alloc ?_) | (with_reducible refine kp_drew ?_)), by (repeat first | with_reducible assumption | (with_reducible refine kp_alloc ?_) | (with_reducible refine kp_drew ?_)), by (repeat first | with_reducible assumption | (with_reducible refine kp_alloc ?_) | (with_reducible refine kp_drew ?_)), by (repeat first | with_reducible assumption | (with_reducible refine kp_alloc ?_) | (with_reducible refine kp_drew ?_)), by (repeat first | with_reducible assumption | (with_reducible refine kp_alloc ?_) | (with_reducible refine kp_drew ?_))⟩, ⟨by (repeat first | with_reducible assumption | (with_reducible refine kp_alloc ?_) | (with_reducible refine kp_drew ?_)), by (repeat first | with_reducible assumption | (with_reducible refine kp_alloc ?_) | (with_reducible refine kp_drew ?_)), by (repeat first | with_reducible assumption | (with_reducible refine kp_alloc ?_) | (with_reducible refine kp_drew ?_)), by (repeat first | with_reducible assumption | (with_reducible refine kp_alloc ?_) | (with_reducible refine kp_drew ?_)), by (repeat first | with_reducible assumption | (with_reducible refine kp_alloc ?_) | (with_reducible refine kp_drew ?_))⟩⟩ | trivial) (first
      | (go_at_call 30; refine (HRb'.out _ HBd.out).mono ?_; rintro e w8 ⟨Y, rfl, hY, hLY, hb8⟩; obtain ⟨py, cy, hsy, _, _⟩ := liesP_eq.1 hLY; simp only [hsy]; have HD8 := hide (bl_trans HBd.out hb8); have HE8 := hide (HBe.out.trans (hb8.mono HBe.out.size)); have HF8 := hide (HBf.out.trans (hb8.mono HBf.out.size)); obtain ⟨x0, x1, x2, x3, x4⟩ := HCe.out w8 HE8.out; obtain ⟨y0, y1, y2, y3, y4⟩ := HCx.out w8 HF8.out; have HKY := hide (HAX.out.alike Y py cy hsy hY w8 hLY.lies HF8.out); clear hb8 hY hLY hsy)
      | (go_at_call 19; refine HKY.out.mono ?_; rintro e w9 ⟨rfl, hb9⟩; have HD9 := hide (bl_trans HD8.out hb9); have HE9 := hide (HE8.out.trans (hb9.mono HE8.out.size)); have HF9 := hide (HF8.out.trans (hb9.mono HF8.out.size)); obtain ⟨x0, x1, x2, x3, x4⟩ := HCe.out w9 HE9.out; obtain ⟨y0, y1, y2, y3, y4⟩ := HCx.out w9 HF9.out; clear hb9)
      | (go_at_call 29; refine (HAX.out.again _ HF9.out).mono ?_; rintro e wA ⟨Z, pz, cz, rfl, hsz, hZ, hLZ, hbA⟩; have HDA := hide (bl_trans HD9.out hbA); have HEA := hide (HE9.out.trans (hbA.mono HE9.out.size)); have HFA := hide (HF9.out.trans (hbA.mono HF9.out.size)); obtain ⟨x0, x1, x2, x3, x4⟩ := HCe.out wA HEA.out; obtain ⟨y0, y1, y2, y3, y4⟩ := HCx.out wA HFA.out; have HKZ := hide (HAX.out.same Z pz cz hsz hZ wA hLZ HFA.out); clear hbA hZ hLZ hsz)
      | (go_at_call 17; refine HKZ.out.mono ?_; rintro e wB ⟨rfl, hbB⟩; have HDB := hide (bl_trans HDA.out hbB); have HEB := hide (HEA.out.trans (hbB.mono HEA.out.size)); have HFB := hide (HFA.out.trans (hbB.mono HFA.out.size)); obtain ⟨x0, x1, x2, x3, x4⟩ := HCe.out wB HEB.out; obtain ⟨y0, y1, y2, y3, y4⟩ := HCx.out wB HFB.out; clear hbB))
    go_wp2
    clear m0 m1 m2 m3 m4 n0 n1 n2 n3 n4
    go_loopw [4] (fun i wr => ∃ j : Nat, 1 ≤ j ∧ j ≤ 6 ∧ i = .int .i64 j ∧ Below wB.heap.size wB wr) (fun i _ => 6 - (intOf i).toNat)
    case atStart => exact ⟨1, by omega, by omega, rfl, Below.refl _ _⟩
    case round =>
      obtain ⟨j, hj1, hj, rfl, hb⟩ := hrel
      have HDr := hide (bl_trans HDB.out hb)
      have HEr := hide (HEB.out.trans (hb.mono HEB.out.size))
      have HFr := hide (HFB.out.trans (hb.mono HFB.out.size))
      have HBr := hide hb
      obtain ⟨x0, x1, x2, x3, x4⟩ := HCe.out wr HEr.out
      obtain ⟨y0, y1, y2, y3, y4⟩ := HCx.out wr HFr.out
      clear hb
      rcases Nat.lt_or_ge j 6 with hlt | hge
      · have hi' : (j : Int) ≤ 5 := by omega
        have hf := HFi'.out j wr HDr.out
        have HI := hide (fits_bare HX.out j)
        generalize fitsM A j = R at *
        cases R
        · go_wp2_with (go_at_call 15; refine hf.mono ?_; clear hf; rintro e wC ⟨rfl, hbC⟩; have HBC := hide hbC; obtain ⟨z0, z1, z2, z3, z4⟩ := HCx.out wC (HFr.out.trans (hbC.mono HFr.out.size)); clear hbC)
          go_roundw
          case rel => exact ⟨j + 1, by omega, by omega, by go_num, HBr.out.trans (HBC.out.mono HBr.out.size)⟩
          case measure => simp [intOf]; omega
        · have hfx := fun w' hb => HAX.out.fits j w' hb
          rw [HI.out rfl] at hfx
          go_wp2_with (first
            | (go_at_call 15; refine hf.mono ?_; clear hf; rintro e wC ⟨rfl, hbC⟩; have HBC := hide hbC; have HFC := hide (HFr.out.trans (hbC.mono HFr.out.size)); obtain ⟨z0, z1, z2, z3, z4⟩ := HCx.out wC HFC.out; clear hbC)
            | (go_at_call 15; refine (hfx _ HFC.out).mono ?_; clear hfx; rintro e wD ⟨rfl, hbD⟩; have HBD := hide hbD; clear hbD))
          go_roundw
          case rel => exact ⟨j + 1, by omega, by omega, by go_num, HBr.out.trans ((bl_trans HBC.out HBD.out).mono HBr.out.size)⟩
          case measure => simp [intOf]; omega
      · have he : j = 6 := by omega
        subst he
        have hr := HRi'.out wr HDr.out
        have hrx := HAX.out.right
        have HI := hide (right_bare HX.out)
        generalize rightM A = R at *
        generalize rightM X = RX at *
        obtain ⟨r1, r2⟩ := R
        obtain ⟨q1, q2⟩ := RX
        simp only at hr hrx HI
        by_cases hr1 : r1 = 0
        · have hq := HI.out hr1
          subst hr1
          subst hq
          go_wp2_with (first
            | (go_at_call 13; refine hr.mono ?_; clear hr; rintro e wC ⟨rfl, hbC⟩; have HBC := hide hbC; have HFC := hide (HFr.out.trans (hbC.mono HFr.out.size)); obtain ⟨z0, z1, z2, z3, z4⟩ := HCx.out wC HFC.out; clear hbC)
            | (go_at_call 13; refine (hrx _ HFC.out).mono ?_; clear hrx; rintro e wD ⟨rfl, hbD⟩; have HBD := hide hbD; clear hbD))
          go_ret
          exact ⟨rfl, bl_trans HDr.out (bl_trans HBC.out HBD.out)⟩
        · have hne : (r1 != 0) = true := by simpa using hr1
          clear hr1
          go_wp2_with (go_at_call 13; refine hr.mono ?_; clear hr; rintro e wC ⟨rfl, hbC⟩; have HBC := hide hbC; clear hbC)
          go_ret
          exact ⟨rfl, bl_trans HDr.out HBC.out⟩
  · rw [hg1] at HG1
    go_wp2_with (first
      | (go_at_call 11; refine (HA.out _ HB1.out).mono ?_; clear HA; rintro e w3 ⟨rfl, hb3⟩; have HB3 := hide hb3; obtain ⟨a0, a1, a2, a3, a4⟩ := HCe.out w3 HB3.out; clear hb3)
      | (go_at_call 12; refine (HG1.out _ (bl_trans HB1.out HB3.out)).mono ?_; clear HG1; rintro e w5 ⟨rfl, hb5⟩; have HB5 := hide (HB3.out.trans (hb5.mono HB3.out.size)); obtain ⟨s0, s1, s2, s3, s4⟩ := HCe.out w5 HB5.out; clear hb5 a0 a1 a2 a3 a4))
    go_ret
    exact ⟨rfl, bl_trans HB1.out HB5.out⟩
end Go.Proofs.Ytdccodnompalbaa
