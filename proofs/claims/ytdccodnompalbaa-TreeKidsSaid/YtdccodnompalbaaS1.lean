/- 'tree.Same' and 'borrowdaleref03.Same': whether two trees are alike, by the program and by the document's own answer. No conditions beyond the bounds that each statement names. -/
import Derived.Test.YtdccodnompalbaaN1
import Derived.Test.YtdccodnompalbaaWr
import Derived.StillTailTactics
namespace Go.Proofs.Ytdccodnompalbaa
open Go.RowKit

theorem box_two (w : World) (T U : NT) : Cells5 ((w.alloc (boxO T)).alloc (boxO U)) w.heap.size 0 T ∧ Cells5 ((w.alloc (boxO T)).alloc (boxO U)) (w.heap.size + 1) 0 U := by
  have hs : (w.alloc (boxO T)).heap.size = w.heap.size + 1 := by simp
  refine ⟨(box_new w T).below (b := (w.alloc (boxO T)).heap.size) (bl_alloc (Below.refl _ _) _) (by simp), ?_⟩
  rw [← hs]
  exact box_new _ U

set_option maxRecDepth 20000 in
set_option maxHeartbeats 4000000 in
theorem same_any : ∀ (T U : NT) (w : World), Lies w.heap.size w T → Lies w.heap.size w U → T.sized maxLen → U.sized maxLen →
    Calls Try.prog 17 #[T.val, U.val] w fun e w' => e = .returned (.bool (sameM T U)) ∧ Below w.heap.size w w' := by
  intro T
  induction T using NT.ind with
  | _ T ih =>
    intro U w hL hLU hS hSU
    obtain ⟨p, c, hs, ⟨hlc, _⟩, hK⟩ := hL.eq
    obtain ⟨q, d, hsU, ⟨hld, _⟩, hKU⟩ := hLU.eq
    obtain ⟨ht, hl, hS'⟩ := (NT.sized_eq _ _).1 hS
    obtain ⟨htU, hlU, hSU'⟩ := (NT.sized_eq _ _).1 hSU
    have HR := hide (sameM_eq T U)
    obtain ⟨F, hF⟩ : ∃ F : Nat → Bool, F = fun i => sameM (T.kid i) (U.kid i) := ⟨_, rfl⟩
    rw [← hF] at HR
    have HIH : Hid (∀ i, i < T.len → i < U.len → ∀ w', Below w.heap.size w w' → Calls Try.prog 17 #[(T.kid i).val, (U.kid i).val] w' fun e w'' => e = .returned (.bool (F i)) ∧ Below w'.heap.size w' w'') := hide fun i hi hiU w' hb => by
      obtain ⟨_, _, _, _, hC⟩ := hK (by omega)
      obtain ⟨_, _, _, _, hD⟩ := hKU (by omega)
      rw [hF]
      exact ih i hi (U.kid i) w' (((hC i hi).2.below hb).mono hb.size) (((hD i hiU).2.below hb).mono hb.size) (hS' i hi) (hSU' i hiU)
    have HC : Hid (T.len ≠ 0 → ∃ g off, p = some ⟨g, off, none⟩ ∧ g < w.heap.size ∧ ∀ i, i < T.len → Cells5 w g (off + i * 5) (T.kid i) ∧ ∃ p' c', (T.kid i).s = .slice p' (T.kid i).len c') := hide fun hne => by
      obtain ⟨g, off, h1, h2, h3⟩ := hK hne
      exact ⟨g, off, h1, h2, fun i hi => ⟨(h3 i hi).1, let ⟨p', c', e, _⟩ := (h3 i hi).2.eq; ⟨p', c', e⟩⟩⟩
    have HD : Hid (U.len ≠ 0 → ∃ g off, q = some ⟨g, off, none⟩ ∧ g < w.heap.size ∧ ∀ i, i < U.len → Cells5 w g (off + i * 5) (U.kid i) ∧ ∃ p' c', (U.kid i).s = .slice p' (U.kid i).len c') := hide fun hne => by
      obtain ⟨g, off, h1, h2, h3⟩ := hKU hne
      exact ⟨g, off, h1, h2, fun i hi => ⟨(h3 i hi).1, let ⟨p', c', e, _⟩ := (h3 i hi).2.eq; ⟨p', c', e⟩⟩⟩
    have hl' : T.len ≤ 9223372036854775807 := hl
    have hlU' : U.len ≤ 9223372036854775807 := hlU
    have hBx := box_two w T U
    have hB1 : Below w.heap.size w ((w.alloc (boxO T)).alloc (boxO U)) := two_alloc _ _ _
    clear hL hLU hS hSU hK hKU hS' hSU' ih hF ht htU hl hlU
    simp only [NT.val, boxO, Cells5] at hBx hB1 ⊢
    rw [hs, hsU] at hBx hB1 ⊢
    clear hs hsU
    generalize sameM T U = R at *
    generalize T.k = k at *
    generalize U.k = k' at *
    generalize T.t = t at *
    generalize U.t = t' at *
    generalize T.n = n at *
    generalize U.n = n' at *
    generalize T.a = a at *
    generalize U.a = a' at *
    generalize T.len = len at *
    generalize U.len = len' at *
    generalize T.kid = kid at *
    generalize U.kid = kid' at *
    obtain ⟨W1, hW1⟩ : ∃ W1, (w.alloc (Obj.cells #[.int .i64 k, .string t, .int .i64 n, .slice p len c, .int .i64 a] 24)).alloc (Obj.cells #[.int .i64 k', .string t', .int .i64 n', .slice q len' d, .int .i64 a'] 24) = W1 := ⟨_, rfl⟩
    rw [hW1] at hBx hB1
    obtain ⟨⟨b0, b1, b2, b3, b4⟩, ⟨d0, d1, d2, d3, d4⟩⟩ := hBx
    have HB1 := hide hB1
    clear hB1
    by_cases hk : k = k'
    case neg =>
      have hk' : (k != k') = true := by simpa using hk
      have e : R = false := by rw [HR.out]; simp [hk]
      clear hk HR HIH HC HD
      subst e
      go_enter Try.func17, Try.ntmps17
      go_wp2
      go_ret
      exact ⟨rfl, HB1.out⟩
    subst hk
    by_cases ht : t.toList = t'.toList
    case neg =>
      have ht' : (t.toList == t'.toList) = false := by simpa using ht
      have e : R = false := by rw [HR.out, ht']; simp
      clear ht HR HIH HC HD
      subst e
      go_enter Try.func17, Try.ntmps17
      go_wp2
      go_ret
      exact ⟨rfl, HB1.out⟩
    have ht' : (t.toList == t'.toList) = true := by simpa using ht
    clear ht
    by_cases hn : n = n'
    case neg =>
      have hn' : (n != n') = true := by simpa using hn
      have e : R = false := by rw [HR.out]; simp [hn]
      clear hn HR HIH HC HD
      subst e
      go_enter Try.func17, Try.ntmps17
      go_wp2
      go_ret
      exact ⟨rfl, HB1.out⟩
    subst hn
    by_cases hlen : len = len'
    case neg =>
      have hl2 : ((len : Int) != (len' : Int)) = true := by simp; omega
      have e : R = false := by rw [HR.out]; simp [hlen]
      clear hlen HR HIH HC HD
      subst e
      go_enter Try.func17, Try.ntmps17
      go_wp2
      go_ret
      exact ⟨rfl, HB1.out⟩
    subst hlen
    have HRl : Hid (R = allN F len) := hide (by rw [HR.out, ht']; simp)
    clear HR
    go_enter Try.func17, Try.ntmps17
    go_wp2
    clear hW1 b0 b1 b2 b4 d0 d1 d2 d4 ht'
    go_loopw [38] (fun i wr => ∃ j : Nat, j ≤ len ∧ i = .int .i64 j ∧ allN F j = true ∧ Below W1.heap.size W1 wr) (fun i _ => len - (intOf i).toNat)
    case atStart => exact ⟨0, Nat.zero_le _, rfl, rfl, Below.refl _ _⟩
    case round =>
      obtain ⟨j, hj, rfl, hall, hB⟩ := hrel
      have q3 := (hB.cell (p := ⟨w.heap.size, 3, none⟩) (World.block_lt_of_cell? _ _ b3)).trans b3
      have r3 := (hB.cell (p := ⟨w.heap.size + 1, 3, none⟩) (World.block_lt_of_cell? _ _ d3)).trans d3
      have HB := hide hB
      have HBW := hide (bl_trans HB1.out hB)
      have HA := hide hall
      clear hB hall b3 d3
      rcases Nat.lt_or_ge j len with hlt | hge
      · have hi' : (j : Int) < (len : Int) := by omega
        obtain ⟨g, off, rfl, hg, hCC⟩ := HC.out (by omega)
        obtain ⟨g', off', rfl, hg', hDD⟩ := HD.out (by omega)
        obtain ⟨c0, c1, c2, c3, c4⟩ := ((hCC j hlt).1.below HBW.out hg).nat
        obtain ⟨e0, e1, e2, e3, e4⟩ := ((hDD j hlt).1.below HBW.out hg').nat
        obtain ⟨p1, c1', hs1⟩ := (hCC j hlt).2
        obtain ⟨p2, c2', hs2⟩ := (hDD j hlt).2
        rw [hs1] at c3
        rw [hs2] at e3
        have HX : Hid (allN F (j + 1) = F j) := hide (by simp only [allN, HA.out, Bool.true_and])
        have hc := fun W (hb : Below wr.heap.size wr W) => HIH.out j hlt hlt W (bl_trans HBW.out hb)
        simp only [NT.val, hs1, hs2] at hc
        obtain ⟨W5, hW5⟩ : ∃ W5, wr.alloc (Obj.cells #[.int .i64 (kid j).k, .string (kid j).t, .int .i64 (kid j).n, .slice p1 (kid j).len c1', .int .i64 (kid j).a] 24) = W5 := ⟨_, rfl⟩
        have hB5 := box_new wr (kid j)
        simp only [boxO, hs1] at hB5
        rw [hW5] at hB5
        obtain ⟨v0, v1, v2, v3, v4⟩ := hB5
        rw [hs1] at v3
        have hb5 : Below wr.heap.size wr W5 := by rw [← hW5]; exact bl_alloc (Below.refl _ _) _
        have u0 := (hb5.cell (p := ⟨g', off' + j * 5, none⟩) (World.block_lt_of_cell? _ _ e0)).trans e0
        have u1 := (hb5.cell (p := ⟨g', off' + j * 5 + 1, none⟩) (World.block_lt_of_cell? _ _ e1)).trans e1
        have u2 := (hb5.cell (p := ⟨g', off' + j * 5 + 2, none⟩) (World.block_lt_of_cell? _ _ e2)).trans e2
        have u3 := (hb5.cell (p := ⟨g', off' + j * 5 + 3, none⟩) (World.block_lt_of_cell? _ _ e3)).trans e3
        have u4 := (hb5.cell (p := ⟨g', off' + j * 5 + 4, none⟩) (World.block_lt_of_cell? _ _ e4)).trans e4
        have s3 := (hb5.cell (p := ⟨w.heap.size + 1, 3, none⟩) (World.block_lt_of_cell? _ _ r3)).trans r3
        have HB5 := hide hb5
        clear hCC hDD hs1 hs2 hb5 e0 e1 e2 e3 e4
        go_wp2
        go_still_tail 6, (by kernel_rfl)
        change wpList _ _ _ _ _ W5.drew
        have HBd := hide (show Below wr.heap.size wr W5.drew from HB5.out.drew)
        generalize W5.drew = wd at *
        cases hFj : F j
        · have e : R = false := by
            rw [HRl.out, Bool.eq_false_iff]
            exact fun h => by have := allN_get h hlt; rw [hFj] at this; cases this
          rw [hFj] at hc
          subst e
          go_wp2_with (go_at_call 17; refine (hc _ HBd.out).mono ?_; clear hc; rintro e w7 ⟨rfl, hb7⟩; have HB7 := hide (bl_trans HBd.out hb7); clear hb7)
          go_ret
          exact ⟨rfl, bl_trans HBW.out HB7.out⟩
        · rw [hFj] at hc HX
          go_wp2_with (go_at_call 17; refine (hc _ HBd.out).mono ?_; clear hc; rintro e w7 ⟨rfl, hb7⟩; have HB7 := hide (bl_trans HBd.out hb7); clear hb7)
          go_roundw
          case rel => exact ⟨j + 1, by omega, by go_num, HX.out, HB.out.trans (HB7.out.mono HB.out.size)⟩
          case measure => simp [intOf]; omega
      · have he : j = len := by omega
        subst he
        have e : R = true := by rw [HRl.out]; exact HA.out
        subst e
        go_wp2
        go_ret
        exact ⟨rfl, HBW.out⟩

set_option maxRecDepth 20000 in
set_option maxHeartbeats 4000000 in
theorem refSame_any : ∀ (T U : NT) (w : World), Lies w.heap.size w T → Lies w.heap.size w U → T.sized maxLen → U.sized maxLen →
    Calls Try.prog 18 #[T.val, U.val] w fun e w' => e = .returned (.bool (sameM T U)) ∧ Below w.heap.size w w' := by
  intro T
  induction T using NT.ind with
  | _ T ih =>
    intro U w hL hLU hS hSU
    obtain ⟨p, c, hs, ⟨hlc, _⟩, hK⟩ := hL.eq
    obtain ⟨q, d, hsU, ⟨hld, _⟩, hKU⟩ := hLU.eq
    obtain ⟨ht, hl, hS'⟩ := (NT.sized_eq _ _).1 hS
    obtain ⟨htU, hlU, hSU'⟩ := (NT.sized_eq _ _).1 hSU
    have HR := hide (sameM_eq T U)
    obtain ⟨F, hF⟩ : ∃ F : Nat → Bool, F = fun i => sameM (T.kid i) (U.kid i) := ⟨_, rfl⟩
    rw [← hF] at HR
    have HIH : Hid (∀ i, i < T.len → i < U.len → ∀ w', Below w.heap.size w w' → Calls Try.prog 18 #[(T.kid i).val, (U.kid i).val] w' fun e w'' => e = .returned (.bool (F i)) ∧ Below w'.heap.size w' w'') := hide fun i hi hiU w' hb => by
      obtain ⟨_, _, _, _, hC⟩ := hK (by omega)
      obtain ⟨_, _, _, _, hD⟩ := hKU (by omega)
      rw [hF]
      exact ih i hi (U.kid i) w' (((hC i hi).2.below hb).mono hb.size) (((hD i hiU).2.below hb).mono hb.size) (hS' i hi) (hSU' i hiU)
    have HC : Hid (T.len ≠ 0 → ∃ g off, p = some ⟨g, off, none⟩ ∧ g < w.heap.size ∧ ∀ i, i < T.len → Cells5 w g (off + i * 5) (T.kid i) ∧ ∃ p' c', (T.kid i).s = .slice p' (T.kid i).len c') := hide fun hne => by
      obtain ⟨g, off, h1, h2, h3⟩ := hK hne
      exact ⟨g, off, h1, h2, fun i hi => ⟨(h3 i hi).1, let ⟨p', c', e, _⟩ := (h3 i hi).2.eq; ⟨p', c', e⟩⟩⟩
    have HD : Hid (U.len ≠ 0 → ∃ g off, q = some ⟨g, off, none⟩ ∧ g < w.heap.size ∧ ∀ i, i < U.len → Cells5 w g (off + i * 5) (U.kid i) ∧ ∃ p' c', (U.kid i).s = .slice p' (U.kid i).len c') := hide fun hne => by
      obtain ⟨g, off, h1, h2, h3⟩ := hKU hne
      exact ⟨g, off, h1, h2, fun i hi => ⟨(h3 i hi).1, let ⟨p', c', e, _⟩ := (h3 i hi).2.eq; ⟨p', c', e⟩⟩⟩
    have hl' : T.len ≤ 9223372036854775807 := hl
    have hlU' : U.len ≤ 9223372036854775807 := hlU
    have hBx := box_two w T U
    have hB1 : Below w.heap.size w ((w.alloc (boxO T)).alloc (boxO U)) := two_alloc _ _ _
    clear hL hLU hS hSU hK hKU hS' hSU' ih hF ht htU hl hlU
    simp only [NT.val, boxO, Cells5] at hBx hB1 ⊢
    rw [hs, hsU] at hBx hB1 ⊢
    clear hs hsU
    generalize sameM T U = R at *
    generalize T.k = k at *
    generalize U.k = k' at *
    generalize T.t = t at *
    generalize U.t = t' at *
    generalize T.n = n at *
    generalize U.n = n' at *
    generalize T.a = a at *
    generalize U.a = a' at *
    generalize T.len = len at *
    generalize U.len = len' at *
    generalize T.kid = kid at *
    generalize U.kid = kid' at *
    obtain ⟨W1, hW1⟩ : ∃ W1, (w.alloc (Obj.cells #[.int .i64 k, .string t, .int .i64 n, .slice p len c, .int .i64 a] 24)).alloc (Obj.cells #[.int .i64 k', .string t', .int .i64 n', .slice q len' d, .int .i64 a'] 24) = W1 := ⟨_, rfl⟩
    rw [hW1] at hBx hB1
    obtain ⟨⟨b0, b1, b2, b3, b4⟩, ⟨d0, d1, d2, d3, d4⟩⟩ := hBx
    have HB1 := hide hB1
    clear hB1
    by_cases hk : k = k'
    case neg =>
      have hk' : (k != k') = true := by simpa using hk
      have e : R = false := by rw [HR.out]; simp [hk]
      clear hk HR HIH HC HD
      subst e
      go_enter Try.func18, Try.ntmps18
      go_wp2
      go_ret
      exact ⟨rfl, HB1.out⟩
    subst hk
    by_cases ht : t.toList = t'.toList
    case neg =>
      have ht' : (t.toList == t'.toList) = false := by simpa using ht
      have e : R = false := by rw [HR.out, ht']; simp
      clear ht HR HIH HC HD
      subst e
      go_enter Try.func18, Try.ntmps18
      go_wp2
      go_ret
      exact ⟨rfl, HB1.out⟩
    have ht' : (t.toList == t'.toList) = true := by simpa using ht
    clear ht
    by_cases hn : n = n'
    case neg =>
      have hn' : (n != n') = true := by simpa using hn
      have e : R = false := by rw [HR.out]; simp [hn]
      clear hn HR HIH HC HD
      subst e
      go_enter Try.func18, Try.ntmps18
      go_wp2
      go_ret
      exact ⟨rfl, HB1.out⟩
    subst hn
    by_cases hlen : len = len'
    case neg =>
      have hl2 : ((len : Int) != (len' : Int)) = true := by simp; omega
      have e : R = false := by rw [HR.out]; simp [hlen]
      clear hlen HR HIH HC HD
      subst e
      go_enter Try.func18, Try.ntmps18
      go_wp2
      go_ret
      exact ⟨rfl, HB1.out⟩
    subst hlen
    have HRl : Hid (R = allN F len) := hide (by rw [HR.out, ht']; simp)
    clear HR
    go_enter Try.func18, Try.ntmps18
    go_wp2
    clear hW1 b0 b1 b2 b4 d0 d1 d2 d4 ht'
    go_loopw [5] (fun i wr => ∃ j : Nat, j ≤ len ∧ i = .int .i64 j ∧ allN F j = true ∧ Below W1.heap.size W1 wr) (fun i _ => len - (intOf i).toNat)
    case atStart => exact ⟨0, Nat.zero_le _, rfl, rfl, Below.refl _ _⟩
    case round =>
      obtain ⟨j, hj, rfl, hall, hB⟩ := hrel
      have q3 := (hB.cell (p := ⟨w.heap.size, 3, none⟩) (World.block_lt_of_cell? _ _ b3)).trans b3
      have r3 := (hB.cell (p := ⟨w.heap.size + 1, 3, none⟩) (World.block_lt_of_cell? _ _ d3)).trans d3
      have HB := hide hB
      have HBW := hide (bl_trans HB1.out hB)
      have HA := hide hall
      clear hB hall b3 d3
      rcases Nat.lt_or_ge j len with hlt | hge
      · have hi' : (j : Int) < (len : Int) := by omega
        obtain ⟨g, off, rfl, hg, hCC⟩ := HC.out (by omega)
        obtain ⟨g', off', rfl, hg', hDD⟩ := HD.out (by omega)
        obtain ⟨c0, c1, c2, c3, c4⟩ := ((hCC j hlt).1.below HBW.out hg).nat
        obtain ⟨e0, e1, e2, e3, e4⟩ := ((hDD j hlt).1.below HBW.out hg').nat
        obtain ⟨p1, c1', hs1⟩ := (hCC j hlt).2
        obtain ⟨p2, c2', hs2⟩ := (hDD j hlt).2
        rw [hs1] at c3
        rw [hs2] at e3
        have HX : Hid (allN F (j + 1) = F j) := hide (by simp only [allN, HA.out, Bool.true_and])
        have hc := fun W (hb : Below wr.heap.size wr W) => HIH.out j hlt hlt W (bl_trans HBW.out hb)
        simp only [NT.val, hs1, hs2] at hc
        clear hCC hDD hs1 hs2
        go_wp2
        go_still_tail 10, (by kernel_rfl)
        change wpList _ _ _ _ _ wr.drew
        have HBd := hide (show Below wr.heap.size wr wr.drew from (Below.refl _ _).drew)
        generalize wr.drew = wd at *
        cases hFj : F j
        · have e : R = false := by
            rw [HRl.out, Bool.eq_false_iff]
            exact fun h => by have := allN_get h hlt; rw [hFj] at this; cases this
          rw [hFj] at hc
          subst e
          go_wp2_with (go_at_call 18; refine (hc _ HBd.out).mono ?_; clear hc; rintro e w7 ⟨rfl, hb7⟩; have HB7 := hide (bl_trans HBd.out hb7); clear hb7)
          go_ret
          exact ⟨rfl, bl_trans HBW.out HB7.out⟩
        · rw [hFj] at hc HX
          go_wp2_with (go_at_call 18; refine (hc _ HBd.out).mono ?_; clear hc; rintro e w7 ⟨rfl, hb7⟩; have HB7 := hide (bl_trans HBd.out hb7); clear hb7)
          go_roundw
          case rel => exact ⟨j + 1, by omega, by go_num, HX.out, HB.out.trans (HB7.out.mono HB.out.size)⟩
          case measure => simp [intOf]; omega
      · have he : j = len := by omega
        subst he
        have e : R = true := by rw [HRl.out]; exact HA.out
        subst e
        go_wp2
        go_ret
        exact ⟨rfl, HBW.out⟩
end Go.Proofs.Ytdccodnompalbaa
