/- The laws of layer 3 walked: Stops. No conditions beyond the bounds that each statement names. -/
import Derived.Test.YtdccodnompalbaaH2
import Derived.Test.YtdccodnompalbaaF4
namespace Go.Proofs.Ytdccodnompalbaa
open Go.RowKit Go.Shelf

set_option maxRecDepth 20000 in
set_option maxHeartbeats 4000000 in
theorem lawStops_any (A : NT) (u : Int) (w : World) (hu : 0 ≤ u ∧ u ≤ 255) (hLA : Lies w.heap.size w A) (hSA : A.sized maxLen) (hm : ∀ w', Below w.heap.size w w' → MaxOk w') :
    Calls Try.prog 8 #[A.val, .int .u8 u] w fun e w' => e = .returned (.bool true) ∧ Below w.heap.size w w' := by
  obtain ⟨p, c, hs, _, _⟩ := hLA.eq
  have HA := hide fun w' (hb : Below w.heap.size w w') => alive_any w' (hm w' hb)
  have HG1 := hide fun w' (hb : Below w.heap.size w w') => lawGreat_any A w' ((hLA.below hb).mono hb.size) hSA
  have HSz := hide fun w' (hb : Below w.heap.size w w') (hg : tooGreat A = false) => refSize_any A w' ((hLA.below hb).mono hb.size) hSA (good_of hLA hSA hg).size
  have HAl := hide fun w' (hb : Below w.heap.size w w') (hg : tooGreat A = false) => all_any A w' ((hLA.below hb).mono hb.size) hSA (good_of hLA hSA hg).size
  have HSt := hide fun (U : NT) (hU : Copied A U) (B Bc Bk : Nat) (K : Int) (w9 : World) (hg : tooGreat A = false) => (let G := good_of hLA hSA hg; fun hB hL h0 hne hb hc hk h1 (h2 : K ≤ (A.size : Int)) => allStops_in 9 (by omega) U B Bc Bk K w w9 hB hL ⟨hU.sized G.ok.1, hU.short G.ok.2⟩ (by rw [hU.depth]; exact G.depth) (by rw [hU.size]; exact G.size) h0 hne hb hc hk h1 (by rw [hU.size]; exact h2))
  have HZ1 := hide fun (hg : tooGreat A = false) => (good_of hLA hSA hg).size
  have HZ2 := hide (NT.size_pos A)
  have hb0 := box_new w A
  have hB1 : Below w.heap.size w (w.alloc (boxO A)) := bl_alloc (Below.refl _ _) _
  clear hLA hSA hm
  simp only [NT.val, boxO, hs, Cells5] at HG1 HSz HAl HSt hb0 hB1 ⊢
  clear hs
  obtain ⟨W1, hW1⟩ : ∃ W1, w.alloc (Obj.cells #[.int .i64 A.k, .string A.t, .int .i64 A.n, .slice p A.len c, .int .i64 A.a] 24) = W1 := ⟨_, rfl⟩
  rw [hW1] at hb0 hB1
  have HCe : Hid (∀ w', Below W1.heap.size W1 w' → (w'.cell? ⟨w.heap.size, 0, none⟩ = some (.int .i64 A.k) ∧ w'.cell? ⟨w.heap.size, 1, none⟩ = some (.string A.t) ∧ w'.cell? ⟨w.heap.size, 2, none⟩ = some (.int .i64 A.n) ∧ w'.cell? ⟨w.heap.size, 3, none⟩ = some (.slice p A.len c) ∧ w'.cell? ⟨w.heap.size, 4, none⟩ = some (.int .i64 A.a))) := hide fun w' hb => by
    have e : ∀ (a : Addr) (v : Value), W1.cell? a = some v → w'.cell? a = some v := fun a v hv => (hb.cell (p := a) (World.block_lt_of_cell? _ _ hv)).trans hv
    obtain ⟨a0, a1, a2, a3, a4⟩ := hb0
    exact ⟨e _ _ a0, e _ _ a1, e _ _ a2, e _ _ a3, e _ _ a4⟩
  have HB1 := hide hB1
  clear hB1 hb0
  cases hg1 : tooGreat A
  · rw [hg1] at HG1
    have HSz' := hide fun w' hb => HSz.out w' hb hg1
    have HAl' := hide fun w' hb => HAl.out w' hb hg1
    have HSt' := hide fun U hU B Bc Bk K w9 => HSt.out U hU B Bc Bk K w9 hg1
    have hz1 := HZ1.out hg1
    have hz2 := HZ2.out
    clear HSz HAl HSt hg1 HZ1 HZ2
    generalize A.size = sz at *
    obtain ⟨K, hK⟩ : ∃ K, K = 1 + u.tmod (sz : Int) := ⟨_, rfl⟩
    have hmod : u.tmod (sz : Int) = u % (sz : Int) := Int.tmod_eq_emod_of_nonneg hu.1
    have hlt := Int.emod_lt_of_pos u (show (0 : Int) < (sz : Int) by omega)
    have hge := Int.emod_nonneg u (show (sz : Int) ≠ 0 by omega)
    have HK1 := hide (show 1 ≤ K by omega)
    have HK2 := hide (show K ≤ (sz : Int) by omega)
    have hnz : ¬ (sz : Int) = 0 := by omega
    have hww : wrap64 (1 + u % (sz : Int)) = K := by rw [hK, hmod, IntWalk.wrap64_in _ (by omega)]
    have hwu : wrap64 u = u := IntWalk.wrap64_in _ (by omega)
    clear hK hmod hlt hge hz1 hz2
    go_enter Try.func8, Try.ntmps8
    go_wp2_with (first
      | (go_at_call 11; refine (HA.out _ HB1.out).mono ?_; clear HA; rintro e w3 ⟨rfl, hb3⟩; have HB3 := hide hb3; obtain ⟨a0, a1, a2, a3, a4⟩ := HCe.out w3 HB3.out; clear hb3)
      | (go_at_call 12; refine (HG1.out _ (bl_trans HB1.out HB3.out)).mono ?_; clear HG1; rintro e w5 ⟨rfl, hb5⟩; have HB5 := hide (HB3.out.trans (hb5.mono HB3.out.size)); obtain ⟨s0, s1, s2, s3, s4⟩ := HCe.out w5 HB5.out; clear hb5 a0 a1 a2 a3 a4)
      | (go_at_call 26; refine (HSz'.out _ (bl_trans HB1.out HB5.out)).mono ?_; clear HSz'; rintro e w6 ⟨rfl, hb6⟩; have HB6 := hide (HB5.out.trans (hb6.mono HB5.out.size)); obtain ⟨w7, hw7⟩ : ∃ w7, w6.alloc (Obj.cells #[.int .i64 K] 3) = w7 := ⟨_, rfl⟩; obtain ⟨w8, hw8⟩ : ∃ w8, w7.alloc (Obj.cells #[.int .i64 0] 3) = w8 := ⟨_, rfl⟩; have hz7 : w7.heap.size = w6.heap.size + 1 := (by rw [← hw7]; simp); have hz8 : w8.heap.size = w6.heap.size + 2 := (by rw [← hw8]; simp [hz7]); have hb7 : Below w6.heap.size w6 w7 := (by rw [← hw7]; exact bl_alloc (Below.refl _ _) _); have hb8 : Below w7.heap.size w7 w8 := (by rw [← hw8]; exact bl_alloc (Below.refl _ _) _); have hk7 : OneC w7 w6.heap.size (.int .i64 K) := (by rw [← hw7]; exact OneC.new w6 _ 3); have hk8 := hk7.below hb8 (by omega); have hc8 : OneC w8 (w6.heap.size + 1) (.int .i64 0) := (by rw [← hz7, ← hw8]; exact OneC.new w7 _ 3); have HB8 := hide (HB6.out.trans ((bl_trans hb7 hb8).mono HB6.out.size)); obtain ⟨s0, s1, s2, s3, s4⟩ := HCe.out w8 HB8.out; have HK8 := hide hk8; have HC8 := hide hc8; have HLT1 := hide (show w6.heap.size + 1 < w8.heap.size by omega); have HLT2 := hide (show w6.heap.size < w8.heap.size by omega); have HCX := hide (fun (X : NT) (w' : World) (h : LiesP (fun b => w8.heap.size ≤ b) w' X) => (h.carry (P' := fun b => w6.heap.size + 1 < b) (fun x hx _ => by omega) (fun _ _ _ hv => hv))); have hzz := hz7; clear hb6 hb7 hb8 hk7 hk8 hc8 hz7 hz8; subst hw8)
      | (go_at_call 27; refine (HAl'.out _ (bl_trans HB1.out HB8.out)).mono ?_; clear HAl'; rintro e w9 ⟨U, B, rfl, hU, hLU, hBU, hBB, hb9⟩; have hst := HSt'.out U hU B (w6.heap.size + 1) w6.heap.size K w9 hBU (HCX.out U w9 hLU) (by have := (bl_trans HB1.out HB6.out).size; omega) (by omega) (bl_trans (bl_trans HB1.out HB8.out) hb9) (HC8.out.below hb9 HLT1.out) (HK8.out.below hb9 HLT2.out).1 HK1.out HK2.out; have hst' := callsIn_wide.1 hst; clear hst hU hLU hBU hBB hb9)
      | (go_at_call 39; refine hst'.mono ?_; clear hst'; rintro e wA ⟨⟨v, rfl⟩, hcA, hkA, hbA⟩; have HcA := hcA.1; have HbA := hide hbA; clear hcA hbA))
    go_ret
    exact ⟨rfl, HbA.out⟩
  · rw [hg1] at HG1
    go_enter Try.func8, Try.ntmps8
    go_wp2_with (first
      | (go_at_call 11; refine (HA.out _ HB1.out).mono ?_; clear HA; rintro e w3 ⟨rfl, hb3⟩; have HB3 := hide hb3; obtain ⟨a0, a1, a2, a3, a4⟩ := HCe.out w3 HB3.out; clear hb3)
      | (go_at_call 12; refine (HG1.out _ (bl_trans HB1.out HB3.out)).mono ?_; clear HG1; rintro e w5 ⟨rfl, hb5⟩; have HB5 := hide (HB3.out.trans (hb5.mono HB3.out.size)); obtain ⟨s0, s1, s2, s3, s4⟩ := HCe.out w5 HB5.out; clear hb5 a0 a1 a2 a3 a4))
    go_ret
    exact ⟨rfl, bl_trans HB1.out HB5.out⟩
end Go.Proofs.Ytdccodnompalbaa
