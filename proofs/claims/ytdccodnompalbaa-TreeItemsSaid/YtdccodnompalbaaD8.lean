/- 'borrowdaleref03.Shape': the first node that isn't right in its place, by the document's own answer. No conditions beyond the bounds that each statement names. -/
import Derived.Test.YtdccodnompalbaaEq3
import Derived.Deep.RegionHeld3
namespace Go.Proofs.Ytdccodnompalbaa
open Go.RowKit Go.Shelf

/-- A node's five cells may be written. -/
def Frz5 (w : World) (g : Nat) : Prop := w.frozen? ⟨g, 0, none⟩ = false ∧ w.frozen? ⟨g, 1, none⟩ = false ∧ w.frozen? ⟨g, 2, none⟩ = false ∧ w.frozen? ⟨g, 3, none⟩ = false ∧ w.frozen? ⟨g, 4, none⟩ = false
theorem frz_new (w : World) (T : NT) : Frz5 (w.alloc (boxO T)) w.heap.size := by
  have h := World.alloc_heap_new w (boxO T)
  refine ⟨?_, ?_, ?_, ?_, ?_⟩ <;> simp only [World.frozen?, h] <;> rfl
theorem Frz5.below {w w' : World} {g b : Nat} (h : Frz5 w g) (hb : Below b w w') (hg : g < b) : Frz5 w' g :=
  ⟨(hb.frozen (p := ⟨g, 0, none⟩) hg).trans h.1, (hb.frozen (p := ⟨g, 1, none⟩) hg).trans h.2.1, (hb.frozen (p := ⟨g, 2, none⟩) hg).trans h.2.2.1, (hb.frozen (p := ⟨g, 3, none⟩) hg).trans h.2.2.2.1, (hb.frozen (p := ⟨g, 4, none⟩) hg).trans h.2.2.2.2⟩
/-- Five stores into a node's block. -/
theorem five_set {W : World} {g : Nat} {T : NT} (h : Cells5 W g 0 T) (v0 v1 v2 v3 v4 : Value) :
    let W' := ((((W.setCell ⟨g, 0, none⟩ v0).setCell ⟨g, 1, none⟩ v1).setCell ⟨g, 2, none⟩ v2).setCell ⟨g, 3, none⟩ v3).setCell ⟨g, 4, none⟩ v4
    W'.cell? ⟨g, 0, none⟩ = some v0 ∧ W'.cell? ⟨g, 1, none⟩ = some v1 ∧ W'.cell? ⟨g, 2, none⟩ = some v2 ∧ W'.cell? ⟨g, 3, none⟩ = some v3 ∧ W'.cell? ⟨g, 4, none⟩ = some v4 := by
  intro W'
  obtain ⟨h0, h1, h2, h3, h4⟩ := h
  have o : ∀ (X : World) (a b : Nat) (v : Value), a ≠ b → (X.setCell ⟨g, a, none⟩ v).cell? ⟨g, b, none⟩ = X.cell? ⟨g, b, none⟩ := fun X a b v hab => World.cell?_setCell_other _ _ _ _ (by simp)
  have s : ∀ (X : World) (a : Nat) (v u : Value), X.cell? ⟨g, a, none⟩ = some u → (X.setCell ⟨g, a, none⟩ v).cell? ⟨g, a, none⟩ = some v := fun X a v u hu => World.cell?_setCell_same _ _ v hu
  refine ⟨?_, ?_, ?_, ?_, ?_⟩
  · show W'.cell? _ = _
    rw [o _ 4 0 _ (by omega), o _ 3 0 _ (by omega), o _ 2 0 _ (by omega), o _ 1 0 _ (by omega)]; exact s _ _ _ _ h0
  · rw [o _ 4 1 _ (by omega), o _ 3 1 _ (by omega), o _ 2 1 _ (by omega)]; exact s _ _ _ _ (by rw [o _ 0 1 _ (by omega)]; exact h1)
  · rw [o _ 4 2 _ (by omega), o _ 3 2 _ (by omega)]; exact s _ _ _ _ (by rw [o _ 1 2 _ (by omega), o _ 0 2 _ (by omega)]; exact h2)
  · rw [o _ 4 3 _ (by omega)]; exact s _ _ _ _ (by rw [o _ 2 3 _ (by omega), o _ 1 3 _ (by omega), o _ 0 3 _ (by omega)]; exact h3)
  · exact s _ _ _ _ (by rw [o _ 3 4 _ (by omega), o _ 2 4 _ (by omega), o _ 1 4 _ (by omega), o _ 0 4 _ (by omega)]; exact h4)
theorem five_below {b : Nat} {w W : World} (h : Below b w W) {g : Nat} (hg : b ≤ g) (v0 v1 v2 v3 v4 : Value) :
    Below b w (((((W.setCell ⟨g, 0, none⟩ v0).setCell ⟨g, 1, none⟩ v1).setCell ⟨g, 2, none⟩ v2).setCell ⟨g, 3, none⟩ v3).setCell ⟨g, 4, none⟩ v4) :=
  ((((h.setCell (p := ⟨g, 0, none⟩) hg v0).setCell (p := ⟨g, 1, none⟩) hg v1).setCell (p := ⟨g, 2, none⟩) hg v2).setCell (p := ⟨g, 3, none⟩) hg v3).setCell (p := ⟨g, 4, none⟩) hg v4

/-- A zero node's cells. -/
def Zero5 (w : World) (g : Nat) : Prop := w.cell? ⟨g, 0, none⟩ = some (.int .i64 0) ∧ w.cell? ⟨g, 1, none⟩ = some (.string ⟨#[]⟩) ∧ w.cell? ⟨g, 2, none⟩ = some (.int .i64 0) ∧ w.cell? ⟨g, 3, none⟩ = some (.slice none 0 0) ∧ w.cell? ⟨g, 4, none⟩ = some (.int .i64 0)
abbrev zeroO : Obj := .cells #[.int .i64 0, .string ⟨#[]⟩, .int .i64 0, .slice none 0 0, .int .i64 0] 24
theorem nul_val : NT.nul.val = .agg #[.int .i64 0, .string ⟨#[]⟩, .int .i64 0, .slice none 0 0, .int .i64 0] := rfl
theorem zero_new {W w7 : World} (h : Below (W.alloc zeroO).drew.heap.size (W.alloc zeroO).drew w7) :
    (w7.cell? ⟨W.heap.size, 0, none⟩ = some (.int .i64 0) ∧ w7.cell? ⟨W.heap.size, 1, none⟩ = some (.string ⟨#[]⟩) ∧ w7.cell? ⟨W.heap.size, 2, none⟩ = some (.int .i64 0) ∧ w7.cell? ⟨W.heap.size, 3, none⟩ = some (.slice none 0 0) ∧ w7.cell? ⟨W.heap.size, 4, none⟩ = some (.int .i64 0)) ∧ Frz5 w7 W.heap.size := by
  have hlt : W.heap.size < (W.alloc zeroO).drew.heap.size := by show W.heap.size < (W.alloc zeroO).heap.size; simp
  have h1 : Cells5 (W.alloc zeroO).drew W.heap.size 0 .nul := box_new W .nul
  have h2 : Frz5 (W.alloc zeroO).drew W.heap.size := frz_new W .nul
  exact ⟨h1.below h hlt, h2.below h hlt⟩
/-- What Shape answers. -/
def shapeV (o : Option NT) : Value := .tuple #[(o.getD .nul).val, .bool o.isSome]

theorem shape_lies : ∀ (T : NT) (place : Int) (b : Nat) (w : World), Lies b w T → ∀ x, shapeM T place = some x → Lies b w x := by
  intro T
  induction T using NT.ind with
  | _ T ih =>
    intro place b w hL x hx
    rw [shapeM_eq] at hx
    split at hx
    · obtain ⟨_, _, _, _, h3⟩ := hL.eq
      have : ∀ n, n ≤ T.len → firstN (fun i => shapeM (T.kid i) (wantAt T.k place T.len i)) n = some x → Lies b w x := by
        intro n
        induction n with
        | zero => intro _ h; cases h
        | succ n ihn =>
          intro hn h
          simp only [firstN] at h
          split at h
          · rename_i y hy
            exact ihn (by omega) (by rw [hy]; exact h)
          · obtain ⟨_, _, _, _, h4⟩ := h3 (by omega)
            exact ih n (by omega) _ b w (h4 n (by omega)).2 x h
      exact this T.len (Nat.le_refl _) hx
    · cases hx; exact hL
theorem firstN_some {f : Nat → Option NT} {j : Nat} {x : NT} (h0 : firstN f j = none) (h : f j = some x) : ∀ {n : Nat}, j < n → firstN f n = some x
  | 0, hn => by omega
  | n + 1, hn => by
    simp only [firstN]
    by_cases e : j = n
    · subst e; rw [h0]; exact h
    · rw [firstN_some h0 h (n := n) (by omega)]

theorem keep_alloc {w : World} {a : Addr} {v : Value} {o : Obj} (h : w.cell? a = some v) : (w.alloc o).cell? a = some v := (World.cell?_alloc_some w a o (by rw [h]; rfl)).trans h
theorem keep_drew {w : World} {a : Addr} {v : Value} (h : w.cell? a = some v) : w.drew.cell? a = some v := h
theorem keep_set {w : World} {p a : Addr} {u v : Value} (hne : p ≠ a) (h : w.cell? a = some v) : (w.setCell p u).cell? a = some v := (World.cell?_setCell_other _ _ _ _ hne).trans h
theorem ne_up {a b c : Nat} (h : b ≤ c) (h1 : a < b) : a ≠ c := by omega
theorem blk_ne {a b i j : Nat} (h : a ≠ b) : (⟨a, i, none⟩ : Addr) ≠ ⟨b, j, none⟩ := fun e => h (congrArg Addr.block e)

theorem alloc_pack {w W : World} (h : Below w.heap.size w W) (v0 v1 v2 v3 v4 : Value) :
    ∃ W', W.alloc (.cells #[v0, v1, v2, v3, v4] 24) = W' ∧ Below w.heap.size w W' ∧
      W'.cell? ⟨W.heap.size, 0, none⟩ = some v0 ∧ W'.cell? ⟨W.heap.size, 1, none⟩ = some v1 ∧ W'.cell? ⟨W.heap.size, 2, none⟩ = some v2 ∧ W'.cell? ⟨W.heap.size, 3, none⟩ = some v3 ∧ W'.cell? ⟨W.heap.size, 4, none⟩ = some v4 :=
  ⟨_, rfl, bl_alloc h _, by simp, by simp, by simp, by simp, by simp⟩
theorem five_pack {b : Nat} {w W : World} {g : Nat} (h : Below b w W) (hg : b ≤ g) (hz : Cells5 W g 0 .nul) (v0 v1 v2 v3 v4 : Value) :
    ∃ W', ((((W.setCell ⟨g, 0, none⟩ v0).setCell ⟨g, 1, none⟩ v1).setCell ⟨g, 2, none⟩ v2).setCell ⟨g, 3, none⟩ v3).setCell ⟨g, 4, none⟩ v4 = W' ∧ Below b w W' ∧
      W'.cell? ⟨g, 0, none⟩ = some v0 ∧ W'.cell? ⟨g, 1, none⟩ = some v1 ∧ W'.cell? ⟨g, 2, none⟩ = some v2 ∧ W'.cell? ⟨g, 3, none⟩ = some v3 ∧ W'.cell? ⟨g, 4, none⟩ = some v4 :=
  ⟨_, rfl, five_below h hg v0 v1 v2 v3 v4, five_set hz v0 v1 v2 v3 v4⟩

set_option maxRecDepth 20000 in
set_option maxHeartbeats 8000000 in
theorem refShape_any : ∀ (T : NT) (place : Int) (w : World), Lies w.heap.size w T → T.ok → T.size ≤ 1000000 → 0 ≤ place → place ≤ 100000 →
    Calls Try.prog 33 #[T.val, .int .i64 place] w fun e w' => e = .returned (shapeV (shapeM T place)) ∧ Below w.heap.size w w' := by
  intro T
  induction T using NT.ind with
  | _ T ih =>
    intro place w hL hS hz h0 h1
    have hsz := NT.size_eq T
    obtain ⟨p, c, hs, ⟨hlc, _⟩, hK⟩ := hL.eq
    have hlen : T.len ≤ 1000000 := by
      have : T.len ≤ sumN (fun i => (T.kid i).size) T.len := by
        have : ∀ n, n ≤ sumN (fun i => (T.kid i).size) n := by
          intro n
          induction n with
          | zero => exact Nat.zero_le _
          | succ n ihn => simp only [sumN]; have := NT.size_pos (T.kid n); omega
        exact this T.len
      omega
    have hts := ((NT.short_eq _ _).1 hS.2).1
    have HR := hide (shapeM_eq T place)
    have HSL := hide fun (i : Nat) (hi : i < T.len) (x : NT) (hx : shapeM (T.kid i) (wantAt T.k place T.len i) = some x) => shape_lies (T.kid i) _ w.heap.size w (let ⟨_, _, _, _, h⟩ := hK (by omega); (h i hi).2) x hx
    have HPl := fun i => wantAt_pl T.k place T.len i
    have HIH : Hid (∀ j, j < T.len → ∀ w', Below w.heap.size w w' → Calls Try.prog 33 #[(T.kid j).val, .int .i64 (wantAt T.k place T.len j)] w' fun e w'' => e = .returned (shapeV (shapeM (T.kid j) (wantAt T.k place T.len j))) ∧ Below w'.heap.size w' w'') := hide fun j hj w' hb => by
      obtain ⟨_, _, _, _, hC⟩ := hK (by omega)
      have h1' : (T.kid j).size ≤ sumN (fun i => (T.kid i).size) T.len := sumN_le (f := fun i => (T.kid i).size) hj
      exact ih j hj _ w' (((hC j hj).2.below hb).mono hb.size) (NT.ok_kid hS hj) (by omega) (HPl j).1 (by have := (HPl j).2.1; omega)
    have HO := hide fun w' (hb : Below w.heap.size w w') => refOne_any T place w' ((hL.below hb).mono hb.size) hlen (by omega) h0 h1
    have HKK := hide fun (hne : T.len ≠ 0) => (let ⟨g, off, a, b, h⟩ := hK hne; ⟨g, off, a, b, h⟩ : ∃ g off : Nat, p = some ⟨g, off, none⟩ ∧ g < w.heap.size ∧ ∀ i, i < T.len → Cells5 w g (off + i * 5) (T.kid i) ∧ Lies w.heap.size w (T.kid i))
    obtain ⟨W2, hW2⟩ : ∃ W2, (w.alloc (boxO T)).alloc zeroO = W2 := ⟨_, rfl⟩
    have hB2 : Below w.heap.size w W2 := by rw [← hW2]; exact two_alloc _ _ _
    have hs2 : W2.heap.size = w.heap.size + 2 := by rw [← hW2]; simp
    have b : Cells5 W2 w.heap.size 0 T := by rw [← hW2]; exact (box_new w T).below (b := (w.alloc (boxO T)).heap.size) (bl_alloc (Below.refl _ _) _) (by simp)
    have z : Cells5 W2 (w.heap.size + 1) 0 .nul := by rw [← hW2, show w.heap.size + 1 = (w.alloc (boxO T)).heap.size by simp]; exact box_new _ .nul
    have fz : Frz5 W2 (w.heap.size + 1) := by rw [← hW2, show w.heap.size + 1 = (w.alloc (boxO T)).heap.size by simp]; exact frz_new _ .nul
    have HC := hide fun w' (hb : Below W2.heap.size W2 w') => (⟨b.below hb (by omega), z.below hb (by omega), fz.below hb (by omega)⟩ : Cells5 w' w.heap.size 0 T ∧ Zero5 w' (w.heap.size + 1) ∧ Frz5 w' (w.heap.size + 1))
    have HB2 := hide hB2
    have HS2 := hide hs2
    have HW := hide fun w' => refWants_v T.k T.t T.n T.a p T.len c place w' hlen
    have HC' : Hid (∀ w', Below W2.heap.size W2 w' → (w'.cell? ⟨w.heap.size, 0, none⟩ = some (.int .i64 T.k) ∧ w'.cell? ⟨w.heap.size, 1, none⟩ = some (.string T.t) ∧ w'.cell? ⟨w.heap.size, 2, none⟩ = some (.int .i64 T.n) ∧ w'.cell? ⟨w.heap.size, 3, none⟩ = some (.slice p T.len c) ∧ w'.cell? ⟨w.heap.size, 4, none⟩ = some (.int .i64 T.a)) ∧ Zero5 w' (w.heap.size + 1) ∧ Frz5 w' (w.heap.size + 1)) := hide fun w' hb => by
      have := HC.out w' hb
      unfold Cells5 at this
      rw [hs] at this
      exact this
    clear HC
    generalize shapeM T place = R at *
    simp only [NT.val, boxO, hs] at hW2 ⊢
    simp only [NT.val, hs] at HO
    obtain ⟨q0, q1, q2, q3, q4⟩ := b
    rw [hs] at q3
    clear hL hS hK ih hsz hts z fz hB2 hs2
    cases hone : oneM T place
    · have e : R = some T := by rw [HR.out, hone]; rfl
      rw [hone] at HO
      have HE := hide e
      clear e HR HIH HSL HPl HKK HW hone
      go_enter Try.func33, Try.ntmps33
      go_wp2_with (go_at_call 43; refine (HO.out _ HB2.out).mono ?_; clear HO; rintro e w3 ⟨rfl, hb3⟩; have HB3 := hide hb3; obtain ⟨⟨r0, r1, r2, r3, r4⟩, ⟨z0, z1, z2, z3, z4⟩, f0, f1, f2, f3, f4⟩ := HC'.out w3 hb3; clear hb3)
      obtain ⟨g0, g1, g2, g3, g4⟩ := five_set (T := .nul) ⟨z0, z1, z2, z3, z4⟩ (.int .i64 T.k) (.string T.t) (.int .i64 T.n) (.slice p T.len c) (.int .i64 T.a)
      refine bodyPost_ret (v := .tuple #[.agg #[.int .i64 T.k, .string T.t, .int .i64 T.n, .slice p T.len c, .int .i64 T.a], .bool true]) (by simp [results, Try.results33, go_sem, g0, g1, g2, g3, g4]) rfl ?_
      refine ⟨?_, five_below (HB2.out.trans (HB3.out.mono HB2.out.size)) (by omega) _ _ _ _ _⟩
      rw [HE.out]
      simp only [shapeV, Option.getD_some, Option.isSome_some, NT.val, hs]
    · have HR2 := hide (show R = firstN (fun i => shapeM (T.kid i) (wantAt T.k place T.len i)) T.len by rw [HR.out, hone]; rfl)
      rw [hone] at HO
      clear HR hone
      obtain ⟨F, hF⟩ : ∃ F : Nat → Option NT, F = fun i => shapeM (T.kid i) (wantAt T.k place T.len i) := ⟨_, rfl⟩
      obtain ⟨WA, hWA⟩ : ∃ WA : Nat → Int, WA = fun i => wantAt T.k place T.len i := ⟨_, rfl⟩
      have HIH' : Hid (∀ j, j < T.len → ∀ w', Below w.heap.size w w' → Calls Try.prog 33 #[(T.kid j).val, .int .i64 (WA j)] w' fun e w'' => e = .returned (shapeV (F j)) ∧ Below w'.heap.size w' w'') := hide (by rw [hF, hWA]; exact HIH.out)
      have HSL' : Hid (∀ i, i < T.len → ∀ x, F i = some x → Lies w.heap.size w x) := hide (by rw [hF]; exact HSL.out)
      have HR3 : Hid (R = firstN F T.len) := hide (by rw [hF]; exact HR2.out)
      have HW' : Hid (∀ w', Calls Try.prog 44 #[.agg #[.int .i64 T.k, .string T.t, .int .i64 T.n, .slice p T.len c, .int .i64 T.a], .int .i64 place] w' fun e w'' => ∃ v, e = .returned (.tuple #[v, .bool (wantsOk T.k place T.len)]) ∧ w''.ownsRow w'.heap.size 3 1 v T.len ((List.range T.len).map fun i => .int .i64 (WA i)) ∧ Below w'.heap.size w' w'') := hide (by rw [hWA]; exact HW.out)
      clear HIH HSL HR2 HW hF hWA HPl
      go_enter Try.func33, Try.ntmps33
      go_wp2_with (first
        | (go_at_call 43; refine (HO.out _ HB2.out).mono ?_; clear HO; rintro e w3 ⟨rfl, hb3⟩; have HB3 := hide hb3; obtain ⟨⟨r0, r1, r2, r3, r4⟩, _⟩ := HC'.out w3 hb3; clear hb3)
        | (go_at_call 44; refine (HW'.out _).mono ?_; clear HW'; rintro e w5 ⟨v, rfl, hv, hb5⟩; have HB5 := hide (HB3.out.trans (hb5.mono HB3.out.size)); have HV := hide hv; obtain ⟨pv, cv, rfl, _, _⟩ := row_shape hv; clear hb5 hv))
      clear r0 r1 r2 r3 r4 q0 q1 q2 q3 q4 hW2
      have HBW5 := hide (HB2.out.trans (HB5.out.mono HB2.out.size))
      go_loopw [8] (fun i wr => ∃ j : Nat, j ≤ T.len ∧ i = .int .i64 j ∧ firstN F j = none ∧ Below w5.heap.size w5 wr) (fun i _ => T.len - (intOf i).toNat)
      case atStart => exact ⟨0, Nat.zero_le _, rfl, rfl, Below.refl _ _⟩
      case round =>
        obtain ⟨j, hj, rfl, hnone, hb⟩ := hrel
        have HNo := hide hnone
        have HB := hide hb
        have HBW := hide (bl_trans HBW5.out hb)
        have HB25 := hide (HB5.out.trans (hb.mono HB5.out.size))
        obtain ⟨⟨_, _, _, k3, _⟩, _⟩ := HC'.out wr HB25.out
        clear hnone hb
        rcases Nat.lt_or_ge j T.len with hlt | hge
        · have hi' : (j : Int) < (T.len : Int) := by omega
          obtain ⟨g, off, rfl, hg, hCC⟩ := HKK.out (by omega)
          obtain ⟨c0, c1, c2, c3, c4⟩ := ((hCC j hlt).1.below HBW.out hg).nat
          obtain ⟨p', c', hs', _, _⟩ := (hCC j hlt).2.eq
          rw [hs'] at c3
          obtain ⟨gv, rfl, hgv, hcv⟩ := own_at HV.out (by omega)
          have d0 := (HB.out.cell (p := ⟨gv, j, none⟩) hgv).trans (hcv j _ (by rw [List.getElem?_map, List.getElem?_range hlt]; rfl))
          have HCELL : Hid (∀ w', Below w5.heap.size w5 w' → w'.cell? ⟨w.heap.size, 3, none⟩ = some (.slice (some ⟨g, off, none⟩) T.len c) ∧ w'.cell? ⟨g, off + j * 5, none⟩ = some (.int .i64 (T.kid j).k) ∧ w'.cell? ⟨g, off + j * 5 + 1, none⟩ = some (.string (T.kid j).t) ∧ w'.cell? ⟨g, off + j * 5 + 2, none⟩ = some (.int .i64 (T.kid j).n) ∧ w'.cell? ⟨g, off + j * 5 + 3, none⟩ = some (.slice p' (T.kid j).len c') ∧ w'.cell? ⟨g, off + j * 5 + 4, none⟩ = some (.int .i64 (T.kid j).a) ∧ w'.cell? ⟨gv, j, none⟩ = some (.int .i64 (WA j))) := hide fun w' hb => by
            obtain ⟨e0, e1, e2, e3, e4⟩ := ((hCC j hlt).1.below (bl_trans HBW5.out hb) hg).nat
            rw [hs'] at e3
            exact ⟨(HC'.out w' (HB5.out.trans (hb.mono HB5.out.size))).1.2.2.2.1, e0, e1, e2, e3, e4, (hb.cell (p := ⟨gv, j, none⟩) hgv).trans (hcv j _ (by rw [List.getElem?_map, List.getElem?_range hlt]; rfl))⟩
          have hih := HIH'.out j hlt
          simp only [NT.val, hs'] at hih
          have HSL2 := hide (HSL'.out j hlt)
          have HFJ := hide (rfl : F j = F j)
          have HF1 : Hid (∀ x, F j = some x → R = some x) := hide fun x hx => by rw [HR3.out]; exact firstN_some HNo.out hx hlt
          have HF0 : Hid (F j = none → firstN F (j + 1) = none) := hide fun h => by simp only [firstN, HNo.out, h]
          have HBd := hide (show Below w5.heap.size w5 wr.drew from HB.out.drew)
          have HBz := hide (bl_trans HBW5.out (show Below w5.heap.size w5 (wr.alloc zeroO).drew from (bl_alloc HB.out zeroO).drew))
          have HBz5 := hide (show Below w5.heap.size w5 (wr.alloc zeroO).drew from (bl_alloc HB.out zeroO).drew)
          have HBdw := hide (bl_trans HBW5.out HBd.out)
          have HS3 := hide (show w.heap.size < wr.heap.size by have := HBW5.out.size; have := HB.out.size; have := HS2.out; have := HB2.out; have := HB25.out.size; omega)
          have HS4 := hide (show gv < wr.heap.size by have := HB.out.size; omega)
          have n1 : g ≠ wr.heap.size := by have := HS3.out; omega
          have n2 : gv ≠ wr.heap.size := by have := HB.out.size; omega
          have n3 : w.heap.size ≠ wr.heap.size := by have := HS3.out; omega
          clear hcv hCC hs' HFJ
          cases hFj : F j with
          | none =>
            rw [hFj] at hih
            have HF0' := hide (HF0.out hFj)
            clear HF0 HF1 HSL2 hFj
            simp only [shapeV, Option.getD_none, Option.isSome_none, nul_val] at hih
            go_wp2
            go_region_held3 (fun w' => w'.cell? ⟨w.heap.size, 3, none⟩ = some (.slice (some ⟨g, off, none⟩) T.len c) ∧ w'.cell? ⟨g, off + j * 5, none⟩ = some (.int .i64 (T.kid j).k) ∧ w'.cell? ⟨g, off + j * 5 + 1, none⟩ = some (.string (T.kid j).t) ∧ w'.cell? ⟨g, off + j * 5 + 2, none⟩ = some (.int .i64 (T.kid j).n) ∧ w'.cell? ⟨g, off + j * 5 + 3, none⟩ = some (.slice p' (T.kid j).len c') ∧ w'.cell? ⟨g, off + j * 5 + 4, none⟩ = some (.int .i64 (T.kid j).a) ∧ w'.cell? ⟨gv, j, none⟩ = some (.int .i64 (WA j)))
              (first | exact ⟨by (repeat first | with_reducible assumption | (with_reducible refine keep_alloc ?_) | (with_reducible refine keep_drew ?_) | (with_reducible refine keep_set (blk_ne (Ne.symm (by with_reducible assumption))) ?_)), by (repeat first | with_reducible assumption | (with_reducible refine keep_alloc ?_) | (with_reducible refine keep_drew ?_) | (with_reducible refine keep_set (blk_ne (Ne.symm (by with_reducible assumption))) ?_)), by (repeat first | with_reducible assumption | (with_reducible refine keep_alloc ?_) | (with_reducible refine keep_drew ?_) | (with_reducible refine keep_set (blk_ne (Ne.symm (by with_reducible assumption))) ?_)), by (repeat first | with_reducible assumption | (with_reducible refine keep_alloc ?_) | (with_reducible refine keep_drew ?_) | (with_reducible refine keep_set (blk_ne (Ne.symm (by with_reducible assumption))) ?_)), by (repeat first | with_reducible assumption | (with_reducible refine keep_alloc ?_) | (with_reducible refine keep_drew ?_) | (with_reducible refine keep_set (blk_ne (Ne.symm (by with_reducible assumption))) ?_)), by (repeat first | with_reducible assumption | (with_reducible refine keep_alloc ?_) | (with_reducible refine keep_drew ?_) | (with_reducible refine keep_set (blk_ne (Ne.symm (by with_reducible assumption))) ?_)), by (repeat first | with_reducible assumption | (with_reducible refine keep_alloc ?_) | (with_reducible refine keep_drew ?_) | (with_reducible refine keep_set (blk_ne (Ne.symm (by with_reducible assumption))) ?_))⟩ | trivial) (first
              | (go_at_call 33; (with_reducible refine (hih _ HBdw.out).mono ?_); rintro e w7 ⟨rfl, hb7⟩; have HB7 := hide (bl_trans HBd.out hb7 : Below w5.heap.size w5 w7); obtain ⟨e0, e1, e2, e3, e4, e5, e6⟩ := HCELL.out w7 HB7.out; have HS7 : Hid (wr.heap.size ≤ w7.heap.size) := hide hb7.size; have m1 : g ≠ w7.heap.size := ne_up HS7.out (Nat.lt_trans hg HS3.out); have m2 : gv ≠ w7.heap.size := ne_up HS7.out HS4.out; have m3 : w.heap.size ≠ w7.heap.size := ne_up HS7.out HS3.out; clear hb7)
              | (go_at_call 33; refine (hih _ HBz.out).mono ?_; rintro e w7 ⟨rfl, hb7⟩; have HB7 := hide (bl_trans HBz5.out hb7 : Below w5.heap.size w5 w7); obtain ⟨e0, e1, e2, e3, e4, e5, e6⟩ := HCELL.out w7 HB7.out; obtain ⟨⟨y0, y1, y2, y3, y4⟩, x0, x1, x2, x3, x4⟩ := zero_new (W := wr) hb7; clear hb7))
            · go_wp2
              go_roundw
              case rel => exact ⟨j + 1, by omega, by go_num, HF0'.out, bl_alloc HB7.out _⟩
              case measure => simp [intOf]; omega
            · go_wp2
              go_roundw
              case rel => exact ⟨j + 1, by omega, by go_num, HF0'.out, five_below HB7.out HB.out.size _ _ _ _ _⟩
              case measure => simp [intOf]; omega
          | some x =>
            rw [hFj] at hih
            have HF1' := hide (HF1.out x hFj)
            obtain ⟨px, cx, hxs, _, _⟩ := (HSL2.out x hFj).eq
            clear HF0 HF1 HSL2 hFj
            simp only [shapeV, Option.getD_some, Option.isSome_some, NT.val, hxs] at hih
            go_wp2
            go_region_held3 (fun w' => w'.cell? ⟨w.heap.size, 3, none⟩ = some (.slice (some ⟨g, off, none⟩) T.len c) ∧ w'.cell? ⟨g, off + j * 5, none⟩ = some (.int .i64 (T.kid j).k) ∧ w'.cell? ⟨g, off + j * 5 + 1, none⟩ = some (.string (T.kid j).t) ∧ w'.cell? ⟨g, off + j * 5 + 2, none⟩ = some (.int .i64 (T.kid j).n) ∧ w'.cell? ⟨g, off + j * 5 + 3, none⟩ = some (.slice p' (T.kid j).len c') ∧ w'.cell? ⟨g, off + j * 5 + 4, none⟩ = some (.int .i64 (T.kid j).a) ∧ w'.cell? ⟨gv, j, none⟩ = some (.int .i64 (WA j)))
              (first | exact ⟨by (repeat first | with_reducible assumption | (with_reducible refine keep_alloc ?_) | (with_reducible refine keep_drew ?_) | (with_reducible refine keep_set (blk_ne (Ne.symm (by with_reducible assumption))) ?_)), by (repeat first | with_reducible assumption | (with_reducible refine keep_alloc ?_) | (with_reducible refine keep_drew ?_) | (with_reducible refine keep_set (blk_ne (Ne.symm (by with_reducible assumption))) ?_)), by (repeat first | with_reducible assumption | (with_reducible refine keep_alloc ?_) | (with_reducible refine keep_drew ?_) | (with_reducible refine keep_set (blk_ne (Ne.symm (by with_reducible assumption))) ?_)), by (repeat first | with_reducible assumption | (with_reducible refine keep_alloc ?_) | (with_reducible refine keep_drew ?_) | (with_reducible refine keep_set (blk_ne (Ne.symm (by with_reducible assumption))) ?_)), by (repeat first | with_reducible assumption | (with_reducible refine keep_alloc ?_) | (with_reducible refine keep_drew ?_) | (with_reducible refine keep_set (blk_ne (Ne.symm (by with_reducible assumption))) ?_)), by (repeat first | with_reducible assumption | (with_reducible refine keep_alloc ?_) | (with_reducible refine keep_drew ?_) | (with_reducible refine keep_set (blk_ne (Ne.symm (by with_reducible assumption))) ?_)), by (repeat first | with_reducible assumption | (with_reducible refine keep_alloc ?_) | (with_reducible refine keep_drew ?_) | (with_reducible refine keep_set (blk_ne (Ne.symm (by with_reducible assumption))) ?_))⟩ | trivial) (first
              | (go_at_call 33; (with_reducible refine (hih _ HBdw.out).mono ?_); rintro e w7 ⟨rfl, hb7⟩; have HB7 := hide (bl_trans HBd.out hb7 : Below w5.heap.size w5 w7); obtain ⟨e0, e1, e2, e3, e4, e5, e6⟩ := HCELL.out w7 HB7.out; have HS7 : Hid (wr.heap.size ≤ w7.heap.size) := hide hb7.size; have m1 : g ≠ w7.heap.size := ne_up HS7.out (Nat.lt_trans hg HS3.out); have m2 : gv ≠ w7.heap.size := ne_up HS7.out HS4.out; have m3 : w.heap.size ≠ w7.heap.size := ne_up HS7.out HS3.out; clear hb7)
              | (go_at_call 33; refine (hih _ HBz.out).mono ?_; rintro e w7 ⟨rfl, hb7⟩; have HB7 := hide (bl_trans HBz5.out hb7 : Below w5.heap.size w5 w7); obtain ⟨e0, e1, e2, e3, e4, e5, e6⟩ := HCELL.out w7 HB7.out; obtain ⟨⟨y0, y1, y2, y3, y4⟩, x0, x1, x2, x3, x4⟩ := zero_new (W := wr) hb7; clear hb7))
            · rename_i hHeld
              clear hHeld hih
              obtain ⟨W', hW', HBS, v0, v1, v2, v3, v4⟩ := alloc_pack HB7.out (.int .i64 x.k) (.string x.t) (.int .i64 x.n) (.slice px x.len cx) (.int .i64 x.a)
              rw [hW']
              clear hW' e0 e1 e2 e3 e4 e5 e6
              obtain ⟨_, ⟨z0, z1, z2, z3, z4⟩, f0, f1, f2, f3, f4⟩ := HC'.out W' (HB5.out.trans (HBS.mono HB5.out.size))
              have HBS' := hide HBS
              clear HBS
              go_wp2
              obtain ⟨g0, g1, g2, g3, g4⟩ := five_set (T := .nul) ⟨z0, z1, z2, z3, z4⟩ (.int .i64 x.k) (.string x.t) (.int .i64 x.n) (.slice px x.len cx) (.int .i64 x.a)
              refine bodyPost_ret (v := .tuple #[.agg #[.int .i64 x.k, .string x.t, .int .i64 x.n, .slice px x.len cx, .int .i64 x.a], .bool true]) (by simp [results, Try.results33, go_sem, g0, g1, g2, g3, g4]) rfl ?_
              refine ⟨?_, five_below (bl_trans HBW5.out HBS'.out) (by omega) _ _ _ _ _⟩
              rw [HF1'.out]
              simp only [shapeV, Option.getD_some, Option.isSome_some, NT.val, hxs]
            · rename_i hHeld
              clear hHeld hih
              obtain ⟨W', hW', HBS, v0, v1, v2, v3, v4⟩ := five_pack (HB7.out) (HB.out.size) (show Cells5 w7 wr.heap.size 0 .nul from ⟨y0, y1, y2, y3, y4⟩) (.int .i64 x.k) (.string x.t) (.int .i64 x.n) (.slice px x.len cx) (.int .i64 x.a)
              rw [hW']
              clear hW' e0 e1 e2 e3 e4 e5 e6
              obtain ⟨_, ⟨z0, z1, z2, z3, z4⟩, f0, f1, f2, f3, f4⟩ := HC'.out W' (HB5.out.trans (HBS.mono HB5.out.size))
              have HBS' := hide HBS
              clear HBS
              go_wp2
              obtain ⟨g0, g1, g2, g3, g4⟩ := five_set (T := .nul) ⟨z0, z1, z2, z3, z4⟩ (.int .i64 x.k) (.string x.t) (.int .i64 x.n) (.slice px x.len cx) (.int .i64 x.a)
              refine bodyPost_ret (v := .tuple #[.agg #[.int .i64 x.k, .string x.t, .int .i64 x.n, .slice px x.len cx, .int .i64 x.a], .bool true]) (by simp [results, Try.results33, go_sem, g0, g1, g2, g3, g4]) rfl ?_
              refine ⟨?_, five_below (bl_trans HBW5.out HBS'.out) (by omega) _ _ _ _ _⟩
              rw [HF1'.out]
              simp only [shapeV, Option.getD_some, Option.isSome_some, NT.val, hxs]
        · have he : j = T.len := by omega
          have e : R = none := by rw [HR3.out, ← he, HNo.out]
          have hlt2 : ¬ (j : Int) < (T.len : Int) := by omega
          clear he
          subst e
          obtain ⟨_, ⟨z0, z1, z2, z3, z4⟩, f0, f1, f2, f3, f4⟩ := HC'.out wr HB25.out
          go_wp2
          refine bodyPost_ret (v := .tuple #[.agg #[.int .i64 0, .string ⟨#[]⟩, .int .i64 0, .slice none 0 0, .int .i64 0], .bool false]) (by simp [results, Try.results33, go_sem, z0, z1, z2, z3, z4]) rfl ?_
          exact ⟨rfl, five_below HBW.out (by omega) _ _ _ _ _⟩
end Go.Proofs.Ytdccodnompalbaa
