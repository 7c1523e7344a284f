/- The laws of layer 3 walked: Counts. No conditions beyond the bounds that each statement names. -/
import Derived.Test.YtdccodnompalbaaH6
import Derived.Test.YtdccodnompalbaaDp
namespace Go.Proofs.Ytdccodnompalbaa
open Go.RowKit Go.Shelf

theorem flatN_mem {α : Type} {f : Nat → List α} {x : α} : ∀ {n : Nat}, x ∈ flatN f n → ∃ i, i < n ∧ x ∈ f i
  | 0, h => absurd h (by simp [flatN])
  | n + 1, h => by
    simp only [flatN, List.mem_append] at h
    rcases h with h | h
    · obtain ⟨i, hi, hx⟩ := flatN_mem h
      exact ⟨i, by omega, hx⟩
    · exact ⟨n, by omega, h⟩
/-- What lies in a tree is no greater, and no deeper. -/
theorem pres_sub : ∀ (T : NT) (d r : Int) (x : Spot), x ∈ T.pres d r → x.1.size ≤ T.size ∧ x.1.depth ≤ T.depth ∧ (∀ b, T.sized b → x.1.sized b) := by
  intro T
  induction T using NT.ind with
  | _ T ih =>
    intro d r x hx
    rw [NT.pres_eq] at hx
    rcases List.mem_cons.1 hx with rfl | hx
    · exact ⟨Nat.le_refl _, Nat.le_refl _, fun _ h => h⟩
    · obtain ⟨i, hi, hx⟩ := flatN_mem hx
      obtain ⟨h1, h2, h3⟩ := ih i hi _ _ x hx
      have e1 : (T.kid i).size ≤ sumN (fun i => (T.kid i).size) T.len := sumN_le (f := fun i => (T.kid i).size) hi
      have e2 : (T.kid i).depth ≤ maxN (fun i => (T.kid i).depth) T.len := maxN_le (f := fun i => (T.kid i).depth) hi
      have s1 := NT.size_eq T
      have s2 := NT.depth_eq T
      exact ⟨by omega, by omega, fun b h => h3 b (((NT.sized_eq _ _).1 h).2.2 i hi)⟩
theorem counts_step (T : NT) (j : Nat) (hj : j < T.size) : ∃ X : NT, ((T.pre 1).map (·.1))[j]? = some X ∧ (∃ y, (T.pres 1 0)[j]? = some y ∧ y.1 = X) ∧ X.size ≤ T.size ∧ X.depth ≤ T.depth ∧ (∀ b w, Lies b w T → Lies b w X) ∧ (T.sized maxLen → X.sized maxLen) := by
  have h1 : j < (T.pres 1 0).length := by rw [NT.pres_len]; exact hj
  obtain ⟨y, hy⟩ : ∃ y, (T.pres 1 0)[j]? = some y := ⟨_, List.getElem?_eq_getElem h1⟩
  have hm := List.mem_of_getElem? hy
  obtain ⟨k1, k2, k3⟩ := pres_sub T 1 0 y hm
  have hp : (T.pre 1)[j]? = some (y.1, y.2.1) := by rw [← pres_pre T 1 0, List.getElem?_map, hy]; rfl
  refine ⟨y.1, by rw [List.getElem?_map, hp]; rfl, ⟨y, hy, rfl⟩, k1, k2, fun b w hL => NT.pre_lies T 1 b w hL _ (List.mem_of_getElem? hp), k3 maxLen⟩

set_option maxRecDepth 20000 in
set_option maxHeartbeats 4000000 in
theorem lawCounts_any (A : NT) (w : World) (hLA : Lies w.heap.size w A) (hSA : A.sized maxLen) (hm : ∀ w', Below w.heap.size w w' → MaxOk w') :
    Calls Try.prog 7 #[A.val] w fun e w' => e = .returned (.bool true) ∧ Below w.heap.size w w' := by
  obtain ⟨p, c, hs, _, _⟩ := hLA.eq
  have HA := hide fun w' (hb : Below w.heap.size w w') => alive_any w' (hm w' hb)
  have HG1 := hide fun w' (hb : Below w.heap.size w w') => lawGreat_any A w' ((hLA.below hb).mono hb.size) hSA
  have HLs := hide fun w' (hb : Below w.heap.size w w') (hg : tooGreat A = false) => (let G := good_of hLA hSA hg; list_pair A w' ((hLA.below hb).mono hb.size) hSA G.size (by have := G.depth; omega))
  have HAl := hide fun w' (hb : Below w.heap.size w w') (hg : tooGreat A = false) => (let G := good_of hLA hSA hg; all22_any A w' ((hLA.below hb).mono hb.size) G.ok G.depth G.size)
  have HSz := hide fun w' (hb : Below w.heap.size w w') (hg : tooGreat A = false) => size_any A w' (good_of ((hLA.below hb).mono hb.size) hSA hg)
  have HDp := hide fun w' (hb : Below w.heap.size w w') (hg : tooGreat A = false) => (let G := good_of hLA hSA hg; depth_any A w' ((hLA.below hb).mono hb.size) G.ok G.depth)
  have HDr := hide fun w' (hb : Below w.heap.size w w') (hg : tooGreat A = false) => refDepth_any A w' ((hLA.below hb).mono hb.size) hSA (good_of hLA hSA hg).size
  have HSt : Hid (∀ (V : Nat → NT) (w' : World) (j : Nat) (Y : NT), tooGreat A = false → Below w.heap.size w w' → j < A.size → (∀ i x, (A.pres 1 0)[i]? = some x → Copied x.1 (V i) ∧ Lies w'.heap.size w' (V i)) → Y = V j →
      ∃ (X : NT) (px : Option Addr) (cx : Nat) (py : Option Addr) (cy : Nat), ((A.pre 1).map (·.1))[j]? = some X ∧ X.s = .slice px X.len cx ∧ Y.s = .slice py Y.len cy ∧
        ∀ w'', Below w'.heap.size w' w'' → Calls Try.prog 19 #[.agg #[.int .i64 X.k, .string X.t, .int .i64 X.n, .slice px X.len cx, .int .i64 X.a], .agg #[.int .i64 Y.k, .string Y.t, .int .i64 Y.n, .slice py Y.len cy, .int .i64 Y.a]] w'' fun e w3 => e = .returned (.bool true) ∧ Below w''.heap.size w'' w3) := hide fun V w' j Y hg hb hj hV hY => by
    have G := good_of hLA hSA hg
    obtain ⟨X, h1, ⟨y, hy, rfl⟩, h2, h3, h4, h5⟩ := counts_step A j hj
    obtain ⟨hC, hLV⟩ := hV j y hy
    rw [← hY] at hC hLV
    have hLX := h4 _ _ ((hLA.below hb).mono hb.size)
    obtain ⟨px, cx, e1, _, _⟩ := hLX.eq
    obtain ⟨py, cy, e2, _, _⟩ := hLV.eq
    refine ⟨y.1, px, cx, py, cy, h1, e1, e2, fun w'' hb' => ?_⟩
    have := alike_any y.1 Y w'' ((hLX.below hb').mono hb'.size) ((hLV.below hb').mono hb'.size) (h5 hSA) (hC.sized (h5 hSA)) (by have := G.size; omega) (by have := G.depth; omega) hC
    simp only [NT.val, e1, e2] at this
    exact this
  have HZ1 := hide fun (hg : tooGreat A = false) => (good_of hLA hSA hg).size
  have hb0 := box_new w A
  have hB1 : Below w.heap.size w (w.alloc (boxO A)) := bl_alloc (Below.refl _ _) _
  clear hLA hSA hm
  obtain ⟨FA, hFA⟩ : ∃ FA, FA = flat5 ((A.pre 1).map (·.1)) := ⟨_, rfl⟩
  rw [← hFA] at HLs
  have HFA := hide hFA
  clear hFA
  simp only [NT.val, boxO, hs, Cells5] at HG1 HLs HAl HSz HDp HDr hb0 hB1 ⊢
  clear hs
  obtain ⟨W1, hW1⟩ : ∃ W1, w.alloc (Obj.cells #[.int .i64 A.k, .string A.t, .int .i64 A.n, .slice p A.len c, .int .i64 A.a] 24) = W1 := ⟨_, rfl⟩
  rw [hW1] at hb0 hB1
  have HCe : Hid (∀ w', Below W1.heap.size W1 w' → (w'.cell? ⟨w.heap.size, 0, none⟩ = some (.int .i64 A.k) ∧ w'.cell? ⟨w.heap.size, 1, none⟩ = some (.string A.t) ∧ w'.cell? ⟨w.heap.size, 2, none⟩ = some (.int .i64 A.n) ∧ w'.cell? ⟨w.heap.size, 3, none⟩ = some (.slice p A.len c) ∧ w'.cell? ⟨w.heap.size, 4, none⟩ = some (.int .i64 A.a))) := hide fun w' hb => by
    have e : ∀ (a : Addr) (v : Value), W1.cell? a = some v → w'.cell? a = some v := fun a v hv => (hb.cell (p := a) (World.block_lt_of_cell? _ _ hv)).trans hv
    obtain ⟨a0, a1, a2, a3, a4⟩ := hb0
    exact ⟨e _ _ a0, e _ _ a1, e _ _ a2, e _ _ a3, e _ _ a4⟩
  have HB1 := hide hB1
  clear hB1 hb0
  cases hg1 : tooGreat A
  · rw [hg1] at HG1
    have HLs' := hide fun w' hb => HLs.out w' hb hg1
    have HAl' := hide fun w' hb => HAl.out w' hb hg1
    have HSz' := hide fun w' hb => HSz.out w' hb hg1
    have HDp' := hide fun w' hb => HDp.out w' hb hg1
    have HDr' := hide fun w' hb => HDr.out w' hb hg1
    have HSt' := hide fun V w' j Y => HSt.out V w' j Y hg1
    have hz1 := HZ1.out hg1
    clear HLs HAl HSz HDp HDr HSt hg1 HZ1
    obtain ⟨sz, hsz⟩ : ∃ sz, sz = A.size := ⟨_, rfl⟩
    rw [← hsz] at HLs' HAl' HSz' HSt' hz1
    clear hsz
    generalize (A.depth : Int) = dp at *
    go_enter Try.func7, Try.ntmps7
    go_wp2_with (first
      | (go_at_call 11; refine (HA.out _ HB1.out).mono ?_; clear HA; rintro e w3 ⟨rfl, hb3⟩; have HB3 := hide hb3; obtain ⟨a0, a1, a2, a3, a4⟩ := HCe.out w3 HB3.out; clear hb3)
      | (go_at_call 12; refine (HG1.out _ (bl_trans HB1.out HB3.out)).mono ?_; clear HG1; rintro e w5 ⟨rfl, hb5⟩; have HB5 := hide (HB3.out.trans (hb5.mono HB3.out.size)); obtain ⟨s0, s1, s2, s3, s4⟩ := HCe.out w5 HB5.out; clear hb5 a0 a1 a2 a3 a4)
      | (go_at_call 21; refine (HLs'.out _ (bl_trans HB1.out HB5.out)).mono ?_; clear HLs'; rintro e w6 ⟨pv, cv, pu, cu, rfl, hR, hb6⟩; have HR6 := hide hR; have HB6 := hide (HB5.out.trans (hb6.mono HB5.out.size)); obtain ⟨s0, s1, s2, s3, s4⟩ := HCe.out w6 HB6.out; clear hR hb6)
      | (go_at_call 22; refine (HAl'.out _ (bl_trans HB1.out HB6.out)).mono ?_; clear HAl'; rintro e w7 ⟨V, pm, cm, rfl, hR, hV, hb7⟩; have HM7 := hide hR; have HV7 := hide hV; have HR7 := hide (row_below HR6.out hb7); have HB7 := hide (HB6.out.trans (hb7.mono HB6.out.size)); obtain ⟨s0, s1, s2, s3, s4⟩ := HCe.out w7 HB7.out; clear hR hV hb7))
    clear hW1
    have HBe := hide (show Below W1.heap.size W1 w7.drew from HB7.out.drew)
    have HBd := hide (show Below w.heap.size w w7.drew from (bl_trans HB1.out HB7.out).drew)
    have HBf := hide (show Below w7.heap.size w7 w7.drew from (Below.refl _ _).drew)
    go_region_held3 (fun w' => w'.cell? ⟨w.heap.size, 0, none⟩ = some (.int .i64 A.k) ∧ w'.cell? ⟨w.heap.size, 1, none⟩ = some (.string A.t) ∧ w'.cell? ⟨w.heap.size, 2, none⟩ = some (.int .i64 A.n) ∧ w'.cell? ⟨w.heap.size, 3, none⟩ = some (.slice p A.len c) ∧ w'.cell? ⟨w.heap.size, 4, none⟩ = some (.int .i64 A.a))
      (first | exact ⟨by (repeat first | with_reducible assumption | (with_reducible refine kp_alloc ?_) | (with_reducible refine kp_drew ?_)), by (repeat first | with_reducible assumption | (with_reducible refine kp_alloc ?_) | (with_reducible refine kp_drew ?_)), by (repeat first | with_reducible assumption | (with_reducible refine kp_alloc ?_) | (with_reducible refine kp_drew ?_)), by (repeat first | with_reducible assumption | (with_reducible refine kp_alloc ?_) | (with_reducible refine kp_drew ?_)), by (repeat first | with_reducible assumption | (with_reducible refine kp_alloc ?_) | (with_reducible refine kp_drew ?_))⟩ | trivial) (first
      | (go_at_call 23; refine (HSz'.out _ HBd.out).mono ?_; rintro e w8 ⟨rfl, hb8⟩; have HD8 := hide (bl_trans HBd.out hb8); have HE8 := hide (HBe.out.trans (hb8.mono HBe.out.size)); have HF8 := hide (HBf.out.trans (hb8.mono HBf.out.size)); obtain ⟨x0, x1, x2, x3, x4⟩ := HCe.out w8 HE8.out; clear hb8)
      | (go_at_call 24; refine (HDp'.out _ HD8.out).mono ?_; rintro e w9 ⟨rfl, hb9⟩; have HD9 := hide (bl_trans HD8.out hb9); have HE9 := hide (HE8.out.trans (hb9.mono HE8.out.size)); have HF9 := hide (HF8.out.trans (hb9.mono HF8.out.size)); obtain ⟨x0, x1, x2, x3, x4⟩ := HCe.out w9 HE9.out; clear hb9)
      | (go_at_call 25; refine (HDr'.out _ HD9.out).mono ?_; rintro e wA ⟨rfl, hbA⟩; have HDA := hide (bl_trans HD9.out hbA); have HEA := hide (HE9.out.trans (hbA.mono HE9.out.size)); have HFA' := hide (HF9.out.trans (hbA.mono HF9.out.size)); obtain ⟨x0, x1, x2, x3, x4⟩ := HCe.out wA HEA.out; clear hbA))
    go_wp2
    go_loopw [6] (fun i wr => ∃ j : Nat, j ≤ sz ∧ i = .int .i64 j ∧ Below wA.heap.size wA wr) (fun i _ => sz - (intOf i).toNat)
    case atStart => exact ⟨0, Nat.zero_le _, rfl, Below.refl _ _⟩
    case round =>
      obtain ⟨j, hj, rfl, hb⟩ := hrel
      have HBr := hide hb
      have HBw := hide (bl_trans HDA.out hb)
      have HB7r := hide (show Below w7.heap.size w7 wr from HFA'.out.trans (hb.mono HFA'.out.size))
      clear hb s0 s1 s2 s3 s4
      rcases Nat.lt_or_ge j sz with hlt | hge
      · have hi' : (j : Int) < (sz : Int) := by omega
        obtain ⟨Y, hY⟩ : ∃ Y, Y = V j := ⟨_, rfl⟩
        obtain ⟨X, px, cx, py, cy, hX, e1, e2, hc⟩ := HSt'.out V w7 j Y (bl_trans HB1.out HB7.out) hlt HV7.out hY
        obtain ⟨ga, rfl, hga, hca⟩ := row_at HR7.out (by omega)
        obtain ⟨gb, rfl, hgb, hcb⟩ := row_at HM7.out (by omega)
        obtain ⟨f0, f1, f2, f3, f4⟩ := flat5_at _ j X hX
        rw [← HFA.out] at f0 f1 f2 f3 f4
        obtain ⟨k0, k1, k2, k3, k4⟩ := flat5_at ((List.range sz).map V) j Y (by rw [List.getElem?_map, List.getElem?_range hlt, hY]; rfl)
        have ea : ∀ i u, FA[i]? = some u → wr.cell? ⟨ga, i, none⟩ = some u := fun i u h => (HB7r.out.cell (p := ⟨ga, i, none⟩) hga).trans (hca i u h)
        have eb : ∀ i u, (flatV V sz)[i]? = some u → wr.cell? ⟨gb, i, none⟩ = some u := fun i u h => (HB7r.out.cell (p := ⟨gb, i, none⟩) hgb).trans (hcb i u h)
        have d0 := ea _ _ f0
        have d1 := ea _ _ f1
        have d2 := ea _ _ f2
        have d3 := ea _ _ f3
        have d4 := ea _ _ f4
        have g0 := eb _ _ k0
        have g1 := eb _ _ k1
        have g2 := eb _ _ k2
        have g3 := eb _ _ k3
        have g4 := eb _ _ k4
        rw [e1] at d3
        rw [e2] at g3
        have hc' := hc wr.drew HB7r.out.drew
        have HBd2 := hide (show Below wr.heap.size wr wr.drew from (Below.refl _ _).drew)
        clear hca hcb f0 f1 f2 f3 f4 k0 k1 k2 k3 k4 ea eb hc hX hY e1 e2
        go_wp2
        go_still_tail 8, (by kernel_rfl)
        change wpList _ _ _ _ _ wr.drew
        generalize wr.drew = wd at *
        go_wp2_with (go_at_call 19; refine hc'.mono ?_; clear hc'; rintro e wB ⟨rfl, hbB⟩; have HBB := hide (bl_trans HBd2.out hbB); clear hbB)
        go_roundw
        case rel => exact ⟨j + 1, by omega, by go_num, HBr.out.trans (HBB.out.mono HBr.out.size)⟩
        case measure => simp [intOf]; omega
      · have he : j = sz := by omega
        subst he
        go_wp2
        go_ret
        exact ⟨rfl, HBw.out⟩
  · rw [hg1] at HG1
    go_enter Try.func7, Try.ntmps7
    go_wp2_with (first
      | (go_at_call 11; refine (HA.out _ HB1.out).mono ?_; clear HA; rintro e w3 ⟨rfl, hb3⟩; have HB3 := hide hb3; obtain ⟨a0, a1, a2, a3, a4⟩ := HCe.out w3 HB3.out; clear hb3)
      | (go_at_call 12; refine (HG1.out _ (bl_trans HB1.out HB3.out)).mono ?_; clear HG1; rintro e w5 ⟨rfl, hb5⟩; have HB5 := hide (HB3.out.trans (hb5.mono HB3.out.size)); obtain ⟨s0, s1, s2, s3, s4⟩ := HCe.out w5 HB5.out; clear hb5 a0 a1 a2 a3 a4))
    go_ret
    exact ⟨rfl, bl_trans HB1.out HB5.out⟩
end Go.Proofs.Ytdccodnompalbaa
