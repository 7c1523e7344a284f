/- The laws of layer 3 walked: Same. No conditions beyond the bounds that each statement names. -/
import Derived.Test.YtdccodnompalbaaB6
import Derived.Test.YtdccodnompalbaaA
import Derived.Deep.RegionHeld3
namespace Go.Proofs.Ytdccodnompalbaa
open Go.RowKit Go.Shelf

theorem kp_alloc {w : World} {a : Addr} {v : Value} {o : Obj} (h : w.cell? a = some v) : (w.alloc o).cell? a = some v := (World.cell?_alloc_some w a o (by rw [h]; rfl)).trans h
theorem kp_drew {w : World} {a : Addr} {v : Value} (h : w.cell? a = some v) : w.drew.cell? a = some v := h
theorem copied_refl : ∀ T : NT, Copied T T := by
  intro T
  induction T using NT.ind with
  | _ T ih => exact (made_eq _ _ T T).2 ⟨rfl, rfl, rfl, rfl, rfl, ih⟩
theorem copied_symm {T U : NT} (h : Copied T U) : Copied U T := Made.both (f := fun _ n => n) (g := fun a => a) (fun _ _ => rfl) (fun _ => rfl) h (copied_refl T)

set_option maxRecDepth 20000 in
set_option maxHeartbeats 4000000 in
theorem lawSame_any (A B : NT) (w : World) (hLA : Lies w.heap.size w A) (hLB : Lies w.heap.size w B) (hSA : A.sized maxLen) (hSB : B.sized maxLen) (hm : ∀ w', Below w.heap.size w w' → MaxOk w') :
    Calls Try.prog 6 #[A.val, B.val] w fun e w' => e = .returned (.bool true) ∧ Below w.heap.size w w' := by
  obtain ⟨p, c, hs, _, _⟩ := hLA.eq
  obtain ⟨q, d, hsB, _, _⟩ := hLB.eq
  have HA := hide fun w' (hb : Below w.heap.size w w') => alive_any w' (hm w' hb)
  have HG1 := hide fun w' (hb : Below w.heap.size w w') => lawGreat_any A w' ((hLA.below hb).mono hb.size) hSA
  have HG2 := hide fun w' (hb : Below w.heap.size w w') => lawGreat_any B w' ((hLB.below hb).mono hb.size) hSB
  have HP := hide fun w' (hb : Below w.heap.size w w') => same_any A B w' ((hLA.below hb).mono hb.size) ((hLB.below hb).mono hb.size) hSA hSB
  have HQ := hide fun w' (hb : Below w.heap.size w w') => refSame_any A B w' ((hLA.below hb).mono hb.size) ((hLB.below hb).mono hb.size) hSA hSB
  have HC1 := hide fun w' (hb : Below w.heap.size w w') (hg : tooGreat A = false) => copy_any A w' ((hLA.below hb).mono hb.size) hSA (good_of hLA hSA hg).size
  have HC2 := hide fun w' (hb : Below w.heap.size w w') (hg : tooGreat B = false) => copy_any B w' ((hLB.below hb).mono hb.size) hSB (good_of hLB hSB hg).size
  have HK := hide fun (U : NT) (hU : Copied A U) w' (hl : Lies w'.heap.size w' U) (hb : Below w.heap.size w w') (hg : tooGreat A = false) =>
    (let G := good_of hLA hSA hg; alike_any U A w' hl ((hLA.below hb).mono hb.size) (hU.sized hSA) hSA (by rw [hU.size]; exact G.size) (by rw [hU.depth]; have := G.depth; omega) (copied_symm hU))
  have HV := hide fun (V : NT) (hV : Copied B V) w' (hl : Lies w'.heap.size w' V) (hb : Below w.heap.size w w') => same_any B V w' ((hLB.below hb).mono hb.size) hl hSB (hV.sized hSB)
  have hbx := box_two w A B
  have hB1 : Below w.heap.size w ((w.alloc (boxO A)).alloc (boxO B)) := two_alloc _ _ _
  clear hLA hLB hSA hSB hm
  generalize sameM A B = R at HP HQ
  simp only [NT.val, boxO, hs, hsB, Cells5] at HG1 HG2 HP HQ HC1 HC2 hbx hB1 ⊢
  have HK' : Hid (∀ (U : NT) pu cu, U.s = .slice pu U.len cu → Copied A U → ∀ w', Lies w'.heap.size w' U → Below w.heap.size w w' → tooGreat A = false → Calls Try.prog 19 #[.agg #[.int .i64 U.k, .string U.t, .int .i64 U.n, .slice pu U.len cu, .int .i64 U.a], .agg #[.int .i64 A.k, .string A.t, .int .i64 A.n, .slice p A.len c, .int .i64 A.a]] w' fun e w'' => e = .returned (.bool true) ∧ Below w'.heap.size w' w'') := hide fun U pu cu hsu hU w' hl hb hg => by
    have := HK.out U hU w' hl hb hg
    simp only [NT.val, hs, hsu] at this
    exact this
  have HV' : Hid (∀ (V : NT) pu cu, V.s = .slice pu V.len cu → Copied B V → ∀ w', Lies w'.heap.size w' V → Below w.heap.size w w' → Calls Try.prog 17 #[.agg #[.int .i64 B.k, .string B.t, .int .i64 B.n, .slice q B.len d, .int .i64 B.a], .agg #[.int .i64 V.k, .string V.t, .int .i64 V.n, .slice pu V.len cu, .int .i64 V.a]] w' fun e w'' => e = .returned (.bool true) ∧ Below w'.heap.size w' w'') := hide fun V pu cu hsv hV w' hl hb => by
    have := HV.out V hV w' hl hb
    rw [hV.same] at this
    simp only [NT.val, hsB, hsv] at this
    exact this
  clear HK HV hs hsB
  obtain ⟨W1, hW1⟩ : ∃ W1, (w.alloc (Obj.cells #[.int .i64 A.k, .string A.t, .int .i64 A.n, .slice p A.len c, .int .i64 A.a] 24)).alloc (Obj.cells #[.int .i64 B.k, .string B.t, .int .i64 B.n, .slice q B.len d, .int .i64 B.a] 24) = W1 := ⟨_, rfl⟩
  rw [hW1] at hbx hB1
  have HCe : Hid (∀ w', Below W1.heap.size W1 w' → (w'.cell? ⟨w.heap.size, 0, none⟩ = some (.int .i64 A.k) ∧ w'.cell? ⟨w.heap.size, 1, none⟩ = some (.string A.t) ∧ w'.cell? ⟨w.heap.size, 2, none⟩ = some (.int .i64 A.n) ∧ w'.cell? ⟨w.heap.size, 3, none⟩ = some (.slice p A.len c) ∧ w'.cell? ⟨w.heap.size, 4, none⟩ = some (.int .i64 A.a)) ∧ (w'.cell? ⟨w.heap.size + 1, 0, none⟩ = some (.int .i64 B.k) ∧ w'.cell? ⟨w.heap.size + 1, 1, none⟩ = some (.string B.t) ∧ w'.cell? ⟨w.heap.size + 1, 2, none⟩ = some (.int .i64 B.n) ∧ w'.cell? ⟨w.heap.size + 1, 3, none⟩ = some (.slice q B.len d) ∧ w'.cell? ⟨w.heap.size + 1, 4, none⟩ = some (.int .i64 B.a))) := hide fun w' hb => by
    have e : ∀ (a : Addr) (v : Value), W1.cell? a = some v → w'.cell? a = some v := fun a v hv => (hb.cell (p := a) (World.block_lt_of_cell? _ _ hv)).trans hv
    obtain ⟨⟨a0, a1, a2, a3, a4⟩, ⟨b0, b1, b2, b3, b4⟩⟩ := hbx
    exact ⟨⟨e _ _ a0, e _ _ a1, e _ _ a2, e _ _ a3, e _ _ a4⟩, ⟨e _ _ b0, e _ _ b1, e _ _ b2, e _ _ b3, e _ _ b4⟩⟩
  have HB1 := hide hB1
  clear hB1 hbx
  go_enter Try.func6, Try.ntmps6
  cases hg1 : tooGreat A
  · rw [hg1] at HG1
    have HC1' := hide fun w' hb => HC1.out w' hb hg1
    have HK'' := hide fun U pu cu h1 h2 w' h3 h4 => HK'.out U pu cu h1 h2 w' h3 h4 hg1
    clear HC1 HK'
    cases hg2 : tooGreat B
    · rw [hg2] at HG2
      have HC2' := hide fun w' hb => HC2.out w' hb hg2
      clear HC2
      go_wp2_with (first
        | (go_at_call 11; refine (HA.out _ HB1.out).mono ?_; clear HA; rintro e w3 ⟨rfl, hb3⟩; have HB3 := hide hb3; obtain ⟨⟨a0, a1, a2, a3, a4⟩, ⟨b0, b1, b2, b3, b4⟩⟩ := HCe.out w3 HB3.out; clear hb3)
        | (go_at_call 12; refine (HG1.out _ (bl_trans HB1.out HB3.out)).mono ?_; clear HG1; rintro e w5 ⟨rfl, hb5⟩; have HB5 := hide (HB3.out.trans (hb5.mono HB3.out.size)); obtain ⟨⟨s0, s1, s2, s3, s4⟩, ⟨t0, t1, t2, t3, t4⟩⟩ := HCe.out w5 HB5.out; clear hb5 a0 a1 a2 a3 a4 b0 b1 b2 b3 b4)
        | (go_at_call 12; refine (HG2.out _ (bl_trans HB1.out HB5.out)).mono ?_; clear HG2; rintro e w6 ⟨rfl, hb6⟩; have HB6 := hide (HB5.out.trans (hb6.mono HB5.out.size)); obtain ⟨⟨u0, u1, u2, u3, u4⟩, ⟨v0, v1, v2, v3, v4⟩⟩ := HCe.out w6 HB6.out; clear hb6 s0 s1 s2 s3 s4 t0 t1 t2 t3 t4))
      clear hW1
      have HBe := hide (show Below W1.heap.size W1 w6.drew from HB6.out.drew)
      have HBd := hide (show Below w.heap.size w w6.drew from (bl_trans HB1.out HB6.out).drew)
      go_region_held3 (fun w' => (w'.cell? ⟨w.heap.size, 0, none⟩ = some (.int .i64 A.k) ∧ w'.cell? ⟨w.heap.size, 1, none⟩ = some (.string A.t) ∧ w'.cell? ⟨w.heap.size, 2, none⟩ = some (.int .i64 A.n) ∧ w'.cell? ⟨w.heap.size, 3, none⟩ = some (.slice p A.len c) ∧ w'.cell? ⟨w.heap.size, 4, none⟩ = some (.int .i64 A.a)) ∧ (w'.cell? ⟨w.heap.size + 1, 0, none⟩ = some (.int .i64 B.k) ∧ w'.cell? ⟨w.heap.size + 1, 1, none⟩ = some (.string B.t) ∧ w'.cell? ⟨w.heap.size + 1, 2, none⟩ = some (.int .i64 B.n) ∧ w'.cell? ⟨w.heap.size + 1, 3, none⟩ = some (.slice q B.len d) ∧ w'.cell? ⟨w.heap.size + 1, 4, none⟩ = some (.int .i64 B.a)))
        (first | exact ⟨⟨by (repeat first | with_reducible assumption | (with_reducible refine kp_alloc ?_) | (with_reducible refine kp_drew ?_)), by (repeat first | with_reducible assumption | (with_reducible refine kp_alloc ?_) | (with_reducible refine kp_drew ?_)), by (repeat first | with_reducible assumption | (with_reducible refine kp_alloc ?_) | (with_reducible refine kp_drew ?_)), by (repeat first | with_reducible assumption | (with_reducible refine kp_alloc ?_) | (with_reducible refine kp_drew ?_)), by (repeat first | with_reducible assumption | (with_reducible refine kp_alloc ?_) | (with_reducible refine kp_drew ?_))⟩, ⟨by (repeat first | with_reducible assumption | (with_reducible refine kp_alloc ?_) | (with_reducible refine kp_drew ?_)), by (repeat first | with_reducible assumption | (with_reducible refine kp_alloc ?_) | (with_reducible refine kp_drew ?_)), by (repeat first | with_reducible assumption | (with_reducible refine kp_alloc ?_) | (with_reducible refine kp_drew ?_)), by (repeat first | with_reducible assumption | (with_reducible refine kp_alloc ?_) | (with_reducible refine kp_drew ?_)), by (repeat first | with_reducible assumption | (with_reducible refine kp_alloc ?_) | (with_reducible refine kp_drew ?_))⟩⟩ | trivial) (first
        | (go_at_call 17; refine HKV.out.mono ?_; rintro e wC ⟨rfl, hbC⟩; have HBC := hide (bl_trans HBB.out hbC); have HEC := hide (HEB.out.trans (hbC.mono HEB.out.size)); obtain ⟨⟨x0, x1, x2, x3, x4⟩, ⟨y0, y1, y2, y3, y4⟩⟩ := HCe.out wC HEC.out; clear hbC)
        | (go_at_call 17; refine (HP.out _ HBd.out).mono ?_; rintro e w7 ⟨rfl, hb7⟩; have HB7 := hide (bl_trans HBd.out hb7); have HE7 := hide (HBe.out.trans (hb7.mono HBe.out.size)); obtain ⟨⟨x0, x1, x2, x3, x4⟩, ⟨y0, y1, y2, y3, y4⟩⟩ := HCe.out w7 HE7.out; clear hb7)
        | (go_at_call 18; refine (HQ.out _ HB7.out).mono ?_; rintro e w8 ⟨rfl, hb8⟩; have HB8 := hide (bl_trans HB7.out hb8); have HE8 := hide (HE7.out.trans (hb8.mono HE7.out.size)); obtain ⟨⟨x0, x1, x2, x3, x4⟩, ⟨y0, y1, y2, y3, y4⟩⟩ := HCe.out w8 HE8.out; clear hb8)
        | (go_at_call 20; refine (HC1'.out _ HB8.out).mono ?_; rintro e w9 ⟨U, rfl, hU, hLU, hb9⟩; obtain ⟨pu, cu, hsu, _, _⟩ := liesP_eq.1 hLU; have HB9 := hide (bl_trans HB8.out hb9); have HE9 := hide (HE8.out.trans (hb9.mono HE8.out.size)); obtain ⟨⟨x0, x1, x2, x3, x4⟩, ⟨y0, y1, y2, y3, y4⟩⟩ := HCe.out w9 HE9.out; have HKU := hide (HK''.out U pu cu hsu hU w9 hLU.lies HB9.out); simp only [hsu]; clear hb9 hU hLU hsu)
        | (go_at_call 19; refine HKU.out.mono ?_; rintro e wA ⟨rfl, hbA⟩; have HBA := hide (bl_trans HB9.out hbA); have HEA := hide (HE9.out.trans (hbA.mono HE9.out.size)); obtain ⟨⟨x0, x1, x2, x3, x4⟩, ⟨y0, y1, y2, y3, y4⟩⟩ := HCe.out wA HEA.out; clear hbA)
        | (go_at_call 20; refine (HC2'.out _ HBA.out).mono ?_; rintro e wB ⟨V, rfl, hV, hLV, hbB⟩; obtain ⟨pv, cv, hsv, _, _⟩ := liesP_eq.1 hLV; have HBB := hide (bl_trans HBA.out hbB); have HEB := hide (HEA.out.trans (hbB.mono HEA.out.size)); obtain ⟨⟨x0, x1, x2, x3, x4⟩, ⟨y0, y1, y2, y3, y4⟩⟩ := HCe.out wB HEB.out; have HKV := hide (HV'.out V pv cv hsv hV wB hLV.lies HBB.out); simp only [hsv]; clear hbB hV hLV hsv))
      go_wp2
      go_ret
      exact ⟨rfl, HBC.out⟩
    · rw [hg2] at HG2
      go_wp2_with (first
        | (go_at_call 11; refine (HA.out _ HB1.out).mono ?_; clear HA; rintro e w3 ⟨rfl, hb3⟩; have HB3 := hide hb3; obtain ⟨⟨a0, a1, a2, a3, a4⟩, ⟨b0, b1, b2, b3, b4⟩⟩ := HCe.out w3 HB3.out; clear hb3)
        | (go_at_call 12; refine (HG1.out _ (bl_trans HB1.out HB3.out)).mono ?_; clear HG1; rintro e w5 ⟨rfl, hb5⟩; have HB5 := hide (HB3.out.trans (hb5.mono HB3.out.size)); obtain ⟨⟨s0, s1, s2, s3, s4⟩, ⟨t0, t1, t2, t3, t4⟩⟩ := HCe.out w5 HB5.out; clear hb5 a0 a1 a2 a3 a4 b0 b1 b2 b3 b4)
        | (go_at_call 12; refine (HG2.out _ (bl_trans HB1.out HB5.out)).mono ?_; clear HG2; rintro e w6 ⟨rfl, hb6⟩; have HB6 := hide (HB5.out.trans (hb6.mono HB5.out.size)); clear hb6))
      go_ret
      exact ⟨rfl, bl_trans HB1.out HB6.out⟩
  · rw [hg1] at HG1
    go_wp2_with (first
      | (go_at_call 11; refine (HA.out _ HB1.out).mono ?_; clear HA; rintro e w3 ⟨rfl, hb3⟩; have HB3 := hide hb3; obtain ⟨⟨a0, a1, a2, a3, a4⟩, ⟨b0, b1, b2, b3, b4⟩⟩ := HCe.out w3 HB3.out; clear hb3)
      | (go_at_call 12; refine (HG1.out _ (bl_trans HB1.out HB3.out)).mono ?_; clear HG1; rintro e w5 ⟨rfl, hb5⟩; have HB5 := hide (HB3.out.trans (hb5.mono HB3.out.size)); obtain ⟨⟨s0, s1, s2, s3, s4⟩, ⟨t0, t1, t2, t3, t4⟩⟩ := HCe.out w5 HB5.out; clear hb5 a0 a1 a2 a3 a4 b0 b1 b2 b3 b4))
    go_ret
    exact ⟨rfl, bl_trans HB1.out HB5.out⟩
end Go.Proofs.Ytdccodnompalbaa
