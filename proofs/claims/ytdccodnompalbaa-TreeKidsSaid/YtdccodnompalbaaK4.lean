/- Whether a node's kids are of the kinds that are asked, by the program. No conditions beyond the bounds that each statement names. -/
import Derived.Test.YtdccodnompalbaaK3
namespace Go.Proofs.Ytdccodnompalbaa
open Go.RowKit Go.Shelf

/-- The sort of kid i; how many kids stand ahead of the last one; whether all kids are of their sorts. -/
def behindM (m : List Int × Int × Int) (len : Nat) : Int := if m.2.2 = 0 then (len : Int) else (len : Int) - 1
def sortM (m : List Int × Int × Int) (len i : Nat) : Int := if h : i < m.1.length then m.1[i] else if (i : Int) = behindM m len then m.2.2 else m.2.1
def fitM (m : List Int × Int × Int) (len : Nat) (ks : Nat → Int) : Bool := if behindM m len < (m.1.length : Int) then false else allN (fun i => isOfM (ks i) (sortM m len i)) len
theorem allN_iff {f : Nat → Bool} : ∀ {n : Nat}, allN f n = true ↔ ∀ i, i < n → f i = true
  | 0 => by simp [allN]
  | n + 1 => by
    simp only [allN, Bool.and_eq_true, allN_iff (n := n)]
    constructor
    · rintro ⟨h1, h2⟩ i hi
      by_cases e : i = n
      · subst e; exact h2
      · exact h1 i (by omega)
    · intro h; exact ⟨fun i hi => h i (by omega), h n (by omega)⟩
theorem allN_false {f : Nat → Bool} {n i : Nat} (hi : i < n) (h : f i = false) : allN f n = false := by
  rw [Bool.eq_false_iff]; intro h'; rw [allN_iff] at h'; rw [h' i hi] at h; cases h
theorem bl_set {a b : World} (h : Below a.heap.size a b) (n off : Nat) (v : Value) (hn : a.heap.size ≤ n) : Below a.heap.size a (b.setCell ⟨n, off, none⟩ v) := h.setCell (p := ⟨n, off, none⟩) hn v

set_option maxRecDepth 20000 in
set_option maxHeartbeats 4000000 in
theorem fit_zero (f : List Int) (rest : Int) (v : Value) (b : Nat) (T : NT) (w : World) (hv : IntsAt b w v f) (hL : Lies w.heap.size w T) (hl : T.len ≤ maxLen) :
    Calls Try.prog 48 #[.agg #[v, .int .i64 rest, .int .i64 0], T.s] w fun e w' => e = .returned (.bool (fitM (f, rest, 0) T.len (fun i => (T.kid i).k))) ∧ Below w.heap.size w w' := by
  obtain ⟨p, c, hs, ⟨hlc, _⟩, hK⟩ := hL.eq
  obtain ⟨pv, cv, rfl, hfc, hV⟩ := hv
  obtain ⟨len, hlen⟩ : ∃ len, T.len = len := ⟨_, rfl⟩
  rw [hlen] at hs hlc hK hl ⊢
  rw [hs]
  have hl' : len ≤ 9223372036854775807 := hl
  have hBe : behindM (f, rest, 0) len = (len : Int) := by simp [behindM]
  have HR : Hid (fitM (f, rest, 0) len (fun i => (T.kid i).k) = if (len : Int) < (f.length : Int) then false else allN (fun i => isOfM (T.kid i).k (sortM (f, rest, 0) len i)) len) := hide (by rw [fitM, hBe])
  generalize fitM (f, rest, 0) len (fun i => (T.kid i).k) = R at *
  obtain ⟨⟨b0, b1, b2⟩, _⟩ := new_three (W := w) (e := 63) (a := .slice pv f.length cv) (b := .int .i64 rest) (c := .int .i64 0) (w2 := _) (Below.refl _ _)
  obtain ⟨W1, hW1⟩ : ∃ W1, w.alloc (Obj.cells #[.slice pv f.length cv, .int .i64 rest, .int .i64 0] 63) = W1 := ⟨_, rfl⟩
  have hB1 : Below w.heap.size w W1 := by rw [← hW1]; exact bl_alloc (Below.refl _ _) _
  have hsz : W1.heap.size = w.heap.size + 1 := by rw [← hW1]; simp
  rw [hW1] at b0 b1 b2
  have HS := hide hsz
  have Hb1 := hide hB1
  clear hsz hB1
  rcases Int.lt_or_le (len : Int) (f.length : Int) with hlt | hge
  · have e : R = false := by rw [HR.out, if_pos hlt]
    subst e
    go_enter Try.func48, Try.ntmps48
    go_wp2
    go_ret
    exact ⟨rfl, Hb1.out⟩
  · have HA : Hid (R = allN (fun i => isOfM (T.kid i).k (sortM (f, rest, 0) len i)) len) := hide (by rw [HR.out, if_neg (by omega)])
    obtain ⟨so, hso⟩ : ∃ so : Nat → Int, so = fun i => sortM (f, rest, 0) len i := ⟨_, rfl⟩
    have H0 : Hid (∀ i (h : i < f.length), so i = f[i]) := hide fun i h => by rw [hso]; simp [sortM, h]
    have H1 : Hid (∀ i : Nat, ¬ i < f.length → (i : Int) = (len : Int) → so i = 0) := hide fun i h h' => by rw [hso]; simp only [sortM, h, dif_neg, not_false_iff]; rw [if_pos (by rw [h', hBe])]
    have H2 : Hid (∀ i : Nat, ¬ i < f.length → ¬ (i : Int) = (len : Int) → so i = rest) := hide fun i h h' => by rw [hso]; simp only [sortM, h, dif_neg, not_false_iff]; rw [if_neg (by rw [hBe]; exact h')]
    have HA' : Hid (R = allN (fun i => isOfM (T.kid i).k (so i)) len) := hide (by rw [HA.out, hso])
    have hgn : decide (len < f.length) = false := by simp; omega
    have HK := hide hK
    have HV := hide hV
    clear hL hK hV HA HR hso hBe
    go_enter Try.func48, Try.ntmps48
    go_wp2
    go_loopw [23] (fun i wr => ∃ j : Nat, j ≤ len ∧ i = .int .i64 j ∧ (∀ i', i' < j → isOfM (T.kid i').k (so i') = true) ∧ Below W1.heap.size W1 wr) (fun i _ => len - (intOf i).toNat)
    case atStart => exact ⟨0, Nat.zero_le _, rfl, fun _ h => by omega, Below.refl _ _⟩
    case round =>
      obtain ⟨j, hj, rfl, hall, hb⟩ := hrel
      have HALL := hide hall
      have HB := hide hb
      have q0 := (hb.cell (p := ⟨w.heap.size, 0, none⟩) (by rw [HS.out]; simp)).trans b0
      have q1 := (hb.cell (p := ⟨w.heap.size, 1, none⟩) (by rw [HS.out]; simp)).trans b1
      have q2 := (hb.cell (p := ⟨w.heap.size, 2, none⟩) (by rw [HS.out]; simp)).trans b2
      clear hall hb b0 b1 b2 hW1
      rcases Nat.lt_or_ge j len with hlt | hge'
      · obtain ⟨g, off, rfl, hg, hC⟩ := HK.out (by omega)
        obtain ⟨p', c', hs', _, _⟩ := (hC j hlt).2.eq
        obtain ⟨c0, c1, c2, c3, c4⟩ := ((hC j hlt).1.below (Hb1.out.trans (HB.out.mono Hb1.out.size)) hg).nat
        rw [hs'] at c3
        have hi' : (j : Int) < (len : Int) := by omega
        have ho := fun w => isOf_any (T.kid j).k (so j) w
        obtain ⟨k, hk⟩ : ∃ k, (T.kid j).k = k := ⟨_, rfl⟩
        obtain ⟨bb, hbb⟩ : ∃ bb, isOfM k (so j) = bb := ⟨_, rfl⟩
        have HN : Hid (bb = false → false = R) := hide fun h => by rw [HA'.out]; exact (allN_false hlt (by simp only [hk, hbb, h])).symm
        have HY : Hid (bb = true → ∀ i', i' < j + 1 → isOfM (T.kid i').k (so i') = true) := hide fun h i' hi => by
          by_cases e : i' = j
          · subst e; rw [hk, hbb, h]
          · exact HALL.out i' (by omega)
        rw [hk, hbb] at ho
        rw [hk] at c0
        obtain ⟨W5, hW5⟩ : ∃ W5, wr.alloc (Obj.cells #[.int .i64 k, .string (T.kid j).t, .int .i64 (T.kid j).n, .slice p' (T.kid j).len c', .int .i64 (T.kid j).a] 24) = W5 := ⟨_, rfl⟩
        have v0 := (box_new wr (T.kid j)).1
        simp only [boxO, hk, hs'] at v0
        rw [hW5] at v0
        have hb5 : Below wr.heap.size wr W5 := by rw [← hW5]; exact bl_alloc (Below.refl _ _) _
        have HBW : Hid (Below W1.heap.size W1 W5) := hide (HB.out.trans (hb5.mono HB.out.size))
        have q0' := (hb5.cell (p := ⟨w.heap.size, 0, none⟩) (World.block_lt_of_cell? _ _ q0)).trans q0
        have q1' := (hb5.cell (p := ⟨w.heap.size, 1, none⟩) (World.block_lt_of_cell? _ _ q1)).trans q1
        have q2' := (hb5.cell (p := ⟨w.heap.size, 2, none⟩) (World.block_lt_of_cell? _ _ q2)).trans q2
        by_cases hjf : j < f.length
        · obtain ⟨gf, of, rfl, _, hgf, hcf⟩ := HV.out (by intro h; rw [h] at hjf; simp at hjf)
          have d0 := (hcf j _ (List.getElem?_eq_getElem hjf))
          have d1 := ((Hb1.out.trans (HBW.out.mono Hb1.out.size)).cell (p := ⟨gf, of + j, none⟩) hgf).trans d0
          rw [← H0.out j hjf] at d1
          have hjf' : (j : Int) < (f.length : Int) := by omega
          generalize so j = x at ho d1
          clear d0 hcf hk hbb hC HV HK H0 H1 H2 HA' HALL hs' hb5
          cases bb
          · have HN' := hide (HN.out rfl)
            clear HN HY
            go_wp2_with (go_at_call 61; refine (ho _).mono ?_; clear ho; rintro e w2 ⟨rfl, rfl⟩)
            go_ret
            exact ⟨ret_bool (HN'.out), Hb1.out.trans (HBW.out.mono Hb1.out.size)⟩
          · have HY' := hide (HY.out rfl)
            clear HN HY
            go_wp2_with (go_at_call 61; refine (ho _).mono ?_; clear ho; rintro e w2 ⟨rfl, rfl⟩)
            go_roundw
            case rel => exact ⟨j + 1, by omega, by go_num, HY'.out, HBW.out⟩
            case measure => simp [intOf]; omega
        · have hjf' : ¬ (j : Int) < (f.length : Int) := by omega
          have hjB : ¬ (j : Int) = (len : Int) := by omega
          · rw [H2.out j hjf hjB] at ho
            clear hk hbb hC HV HK H0 H1 H2 HA' HALL hs' hb5
            cases bb
            · have HN' := hide (HN.out rfl)
              clear HN HY
              go_wp2_with (go_at_call 61; refine (ho _).mono ?_; clear ho; rintro e w2 ⟨rfl, rfl⟩)
              go_ret
              exact ⟨ret_bool (HN'.out), Hb1.out.trans (HBW.out.mono Hb1.out.size)⟩
            · have HY' := hide (HY.out rfl)
              clear HN HY
              go_wp2_with (go_at_call 61; refine (ho _).mono ?_; clear ho; rintro e w2 ⟨rfl, rfl⟩)
              go_roundw
              case rel => exact ⟨j + 1, by omega, by go_num, HY'.out, HBW.out⟩
              case measure => simp [intOf]; omega
      · have he : j = len := by omega
        subst he
        have e : R = true := by rw [HA'.out, allN_iff]; exact HALL.out
        subst e
        go_wp2
        go_ret
        exact ⟨rfl, Hb1.out.trans (HB.out.mono Hb1.out.size)⟩

set_option maxRecDepth 20000 in
set_option maxHeartbeats 4000000 in
theorem fit_last (f : List Int) (rest last : Int) (h0 : last ≠ 0) (v : Value) (b : Nat) (T : NT) (w : World) (hv : IntsAt b w v f) (hf : f.length ≤ 100) (hL : Lies w.heap.size w T) (hl : T.len ≤ maxLen) :
    Calls Try.prog 48 #[.agg #[v, .int .i64 rest, .int .i64 last], T.s] w fun e w' => e = .returned (.bool (fitM (f, rest, last) T.len (fun i => (T.kid i).k))) ∧ Below w.heap.size w w' := by
  obtain ⟨p, c, hs, ⟨hlc, _⟩, hK⟩ := hL.eq
  obtain ⟨pv, cv, rfl, hfc, hV⟩ := hv
  obtain ⟨len, hlen⟩ : ∃ len, T.len = len := ⟨_, rfl⟩
  rw [hlen] at hs hlc hK hl ⊢
  rw [hs]
  have hl' : len ≤ 9223372036854775807 := hl
  have hBe : behindM (f, rest, last) len = ((len : Int) - 1) := by simp [behindM, h0]
  have HR : Hid (fitM (f, rest, last) len (fun i => (T.kid i).k) = if ((len : Int) - 1) < (f.length : Int) then false else allN (fun i => isOfM (T.kid i).k (sortM (f, rest, last) len i)) len) := hide (by rw [fitM, hBe])
  generalize fitM (f, rest, last) len (fun i => (T.kid i).k) = R at *
  obtain ⟨⟨b0, b1, b2⟩, _⟩ := new_three (W := w) (e := 63) (a := .slice pv f.length cv) (b := .int .i64 rest) (c := .int .i64 last) (w2 := _) (Below.refl _ _)
  obtain ⟨W1, hW1⟩ : ∃ W1, w.alloc (Obj.cells #[.slice pv f.length cv, .int .i64 rest, .int .i64 last] 63) = W1 := ⟨_, rfl⟩
  have hB1 : Below w.heap.size w W1 := by rw [← hW1]; exact bl_alloc (Below.refl _ _) _
  have hsz : W1.heap.size = w.heap.size + 1 := by rw [← hW1]; simp
  rw [hW1] at b0 b1 b2
  have HS := hide hsz
  have Hb1 := hide hB1
  clear hsz hB1
  have hw : wrap64 ((len : Int) - 1) = (len : Int) - 1 := IntWalk.wrap64_in _ (by omega)
  rcases Int.lt_or_le ((len : Int) - 1) (f.length : Int) with hlt | hge
  · have e : R = false := by rw [HR.out, if_pos hlt]
    subst e
    go_enter Try.func48, Try.ntmps48
    go_wp2
    go_ret
    exact ⟨rfl, Hb1.out⟩
  · have HA : Hid (R = allN (fun i => isOfM (T.kid i).k (sortM (f, rest, last) len i)) len) := hide (by rw [HR.out, if_neg (by omega)])
    obtain ⟨so, hso⟩ : ∃ so : Nat → Int, so = fun i => sortM (f, rest, last) len i := ⟨_, rfl⟩
    have H0 : Hid (∀ i (h : i < f.length), so i = f[i]) := hide fun i h => by rw [hso]; simp [sortM, h]
    have H1 : Hid (∀ i : Nat, ¬ i < f.length → (i : Int) = ((len : Int) - 1) → so i = last) := hide fun i h h' => by rw [hso]; simp only [sortM, h, dif_neg, not_false_iff]; rw [if_pos (by rw [h', hBe])]
    have H2 : Hid (∀ i : Nat, ¬ i < f.length → ¬ (i : Int) = ((len : Int) - 1) → so i = rest) := hide fun i h h' => by rw [hso]; simp only [sortM, h, dif_neg, not_false_iff]; rw [if_neg (by rw [hBe]; exact h')]
    have HA' : Hid (R = allN (fun i => isOfM (T.kid i).k (so i)) len) := hide (by rw [HA.out, hso])
    have hgn : decide ((len : Int) - 1 < (f.length : Int)) = false := by simp; omega
    have HK := hide hK
    have HV := hide hV
    have hl0 : (last != 0) = true := by simpa using h0
    clear hL hK hV HA HR hso hBe h0
    go_enter Try.func48, Try.ntmps48
    go_wp2
    go_loopw [23] (fun i wr => ∃ j : Nat, j ≤ len ∧ i = .int .i64 j ∧ (∀ i', i' < j → isOfM (T.kid i').k (so i') = true) ∧ Below W1.heap.size W1 wr) (fun i _ => len - (intOf i).toNat)
    case atStart => exact ⟨0, Nat.zero_le _, rfl, fun _ h => by omega, Below.refl _ _⟩
    case round =>
      obtain ⟨j, hj, rfl, hall, hb⟩ := hrel
      have HALL := hide hall
      have HB := hide hb
      have q0 := (hb.cell (p := ⟨w.heap.size, 0, none⟩) (by rw [HS.out]; simp)).trans b0
      have q1 := (hb.cell (p := ⟨w.heap.size, 1, none⟩) (by rw [HS.out]; simp)).trans b1
      have q2 := (hb.cell (p := ⟨w.heap.size, 2, none⟩) (by rw [HS.out]; simp)).trans b2
      clear hall hb b0 b1 b2 hW1
      rcases Nat.lt_or_ge j len with hlt | hge'
      · obtain ⟨g, off, rfl, hg, hC⟩ := HK.out (by omega)
        obtain ⟨p', c', hs', _, _⟩ := (hC j hlt).2.eq
        obtain ⟨c0, c1, c2, c3, c4⟩ := ((hC j hlt).1.below (Hb1.out.trans (HB.out.mono Hb1.out.size)) hg).nat
        rw [hs'] at c3
        have hi' : (j : Int) < (len : Int) := by omega
        have ho := fun w => isOf_any (T.kid j).k (so j) w
        obtain ⟨k, hk⟩ : ∃ k, (T.kid j).k = k := ⟨_, rfl⟩
        obtain ⟨bb, hbb⟩ : ∃ bb, isOfM k (so j) = bb := ⟨_, rfl⟩
        have HN : Hid (bb = false → false = R) := hide fun h => by rw [HA'.out]; exact (allN_false hlt (by simp only [hk, hbb, h])).symm
        have HY : Hid (bb = true → ∀ i', i' < j + 1 → isOfM (T.kid i').k (so i') = true) := hide fun h i' hi => by
          by_cases e : i' = j
          · subst e; rw [hk, hbb, h]
          · exact HALL.out i' (by omega)
        rw [hk, hbb] at ho
        rw [hk] at c0
        obtain ⟨W5, hW5⟩ : ∃ W5, wr.alloc (Obj.cells #[.int .i64 k, .string (T.kid j).t, .int .i64 (T.kid j).n, .slice p' (T.kid j).len c', .int .i64 (T.kid j).a] 24) = W5 := ⟨_, rfl⟩
        have v0 := (box_new wr (T.kid j)).1
        simp only [boxO, hk, hs'] at v0
        rw [hW5] at v0
        have hb5 : Below wr.heap.size wr W5 := by rw [← hW5]; exact bl_alloc (Below.refl _ _) _
        have HBW : Hid (Below W1.heap.size W1 W5) := hide (HB.out.trans (hb5.mono HB.out.size))
        have q0' := (hb5.cell (p := ⟨w.heap.size, 0, none⟩) (World.block_lt_of_cell? _ _ q0)).trans q0
        have q1' := (hb5.cell (p := ⟨w.heap.size, 1, none⟩) (World.block_lt_of_cell? _ _ q1)).trans q1
        have q2' := (hb5.cell (p := ⟨w.heap.size, 2, none⟩) (World.block_lt_of_cell? _ _ q2)).trans q2
        by_cases hjf : j < f.length
        · obtain ⟨gf, of, rfl, _, hgf, hcf⟩ := HV.out (by intro h; rw [h] at hjf; simp at hjf)
          have d0 := (hcf j _ (List.getElem?_eq_getElem hjf))
          have d1 := ((Hb1.out.trans (HBW.out.mono Hb1.out.size)).cell (p := ⟨gf, of + j, none⟩) hgf).trans d0
          rw [← H0.out j hjf] at d1
          have hjf' : (j : Int) < (f.length : Int) := by omega
          generalize so j = x at ho d1
          clear d0 hcf hk hbb hC HV HK H0 H1 H2 HA' HALL hs' hb5
          cases bb
          · have HN' := hide (HN.out rfl)
            clear HN HY
            go_wp2_with (go_at_call 61; refine (ho _).mono ?_; clear ho; rintro e w2 ⟨rfl, rfl⟩)
            go_ret
            exact ⟨ret_bool (HN'.out), Hb1.out.trans (HBW.out.mono Hb1.out.size)⟩
          · have HY' := hide (HY.out rfl)
            clear HN HY
            go_wp2_with (go_at_call 61; refine (ho _).mono ?_; clear ho; rintro e w2 ⟨rfl, rfl⟩)
            go_roundw
            case rel => exact ⟨j + 1, by omega, by go_num, HY'.out, HBW.out⟩
            case measure => simp [intOf]; omega
        · have hjf' : ¬ (j : Int) < (f.length : Int) := by omega
          by_cases hjB : (j : Int) = ((len : Int) - 1)
          · rw [H1.out j hjf hjB] at ho
            have hjb : ((j : Int) == (len : Int) - 1) = true := by simp [hjB]
            clear hjB
            clear hk hbb hC HV HK H0 H1 H2 HA' HALL hs' hb5
            cases bb
            · have HN' := hide (HN.out rfl)
              clear HN HY
              go_wp2_with (go_at_call 61; refine (ho _).mono ?_; clear ho; rintro e w2 ⟨rfl, rfl⟩)
              go_ret
              exact ⟨ret_bool (HN'.out), Hb1.out.trans (HBW.out.mono Hb1.out.size)⟩
            · have HY' := hide (HY.out rfl)
              clear HN HY
              go_wp2_with (go_at_call 61; refine (ho _).mono ?_; clear ho; rintro e w2 ⟨rfl, rfl⟩)
              go_roundw
              case rel => exact ⟨j + 1, by omega, by go_num, HY'.out, HBW.out⟩
              case measure => simp [intOf]; omega
          · rw [H2.out j hjf hjB] at ho
            clear hk hbb hC HV HK H0 H1 H2 HA' HALL hs' hb5
            cases bb
            · have HN' := hide (HN.out rfl)
              clear HN HY
              go_wp2_with (go_at_call 61; refine (ho _).mono ?_; clear ho; rintro e w2 ⟨rfl, rfl⟩)
              go_ret
              exact ⟨ret_bool (HN'.out), Hb1.out.trans (HBW.out.mono Hb1.out.size)⟩
            · have HY' := hide (HY.out rfl)
              clear HN HY
              go_wp2_with (go_at_call 61; refine (ho _).mono ?_; clear ho; rintro e w2 ⟨rfl, rfl⟩)
              go_roundw
              case rel => exact ⟨j + 1, by omega, by go_num, HY'.out, HBW.out⟩
              case measure => simp [intOf]; omega
      · have he : j = len := by omega
        subst he
        have e : R = true := by rw [HA'.out, allN_iff]; exact HALL.out
        subst e
        go_wp2
        go_ret
        exact ⟨rfl, Hb1.out.trans (HB.out.mono Hb1.out.size)⟩

theorem fit_any (f : List Int) (rest last : Int) (v : Value) (b : Nat) (T : NT) (w : World) (hv : IntsAt b w v f) (hf : f.length ≤ 100) (hL : Lies w.heap.size w T) (hl : T.len ≤ maxLen) :
    Calls Try.prog 48 #[.agg #[v, .int .i64 rest, .int .i64 last], T.s] w fun e w' => e = .returned (.bool (fitM (f, rest, last) T.len (fun i => (T.kid i).k))) ∧ Below w.heap.size w w' := by
  by_cases h0 : last = 0
  · subst h0; exact fit_zero f rest v b T w hv hL hl
  · exact fit_last f rest last h0 v b T w hv hf hL hl
end Go.Proofs.Ytdccodnompalbaa
