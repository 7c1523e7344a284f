/- 'tree.Copy' and 'tree.Bare'; 'borrowdaleref03.Size' and '.Depth'. No conditions beyond the bounds that each statement names. -/
import Derived.Test.YtdccodnompalbaaB4
namespace Go.Proofs.Ytdccodnompalbaa
open Go.RowKit

set_option maxRecDepth 20000 in
set_option maxHeartbeats 1000000 in
theorem copy_any (T : NT) (w : World) (hL : Lies w.heap.size w T) (hS : T.sized maxLen) (hz : T.size ≤ 1000000) :
    Calls Try.prog 20 #[T.val] w fun e w' => ∃ U, e = .returned U.val ∧ Copied T U ∧ LiesP (fun b => w.heap.size ≤ b) w' U ∧ Below w.heap.size w w' := by
  obtain ⟨p, c, hs, _, _⟩ := hL.eq
  have hst := st_first w T
  have hR := fun w' (hb : Below w.heap.size w w') => rebuiltC_any T w' ((hL.below hb).mono hb.size) hS hz
  have hbe : boxO T = Obj.cells #[.int .i64 T.k, .string T.t, .int .i64 T.n, .slice p T.len c, .int .i64 T.a] 24 := by rw [← hs]
  rw [hbe] at hst
  have HSt : Hid (St w ((w.alloc (Obj.cells #[.int .i64 T.k, .string T.t, .int .i64 T.n, .slice p T.len c, .int .i64 T.a] 24)).alloc (Obj.cells #[.int .i64 0, .string ⟨#[]⟩, .int .i64 0, .slice none 0 0, .int .i64 0] 24)) T) := hide hst
  simp only [NT.val, hs] at hR ⊢
  clear hL hS hz hbe hst
  obtain ⟨W1, hW1⟩ : ∃ W1, (w.alloc (Obj.cells #[.int .i64 T.k, .string T.t, .int .i64 T.n, .slice p T.len c, .int .i64 T.a] 24)).alloc (Obj.cells #[.int .i64 0, .string ⟨#[]⟩, .int .i64 0, .slice none 0 0, .int .i64 0] 24) = W1 := ⟨_, rfl⟩
  rw [hW1] at HSt
  have hc := hR W1 HSt.out.below
  obtain ⟨b0, b1, b2, b3, b4⟩ := HSt.out.box
  rw [hs] at b3
  clear hR hs
  go_enter Try.func20, Try.ntmps20
  go_wp2_with (go_at_call 35; refine hc.mono ?_; clear hc; rintro e w7 ⟨U, rfl, hU, hLU, hb7⟩; obtain ⟨pu, cu, hsu, _, _⟩ := liesP_eq.1 hLU; have st7 := HSt.out.new hb7 HSt.out.size; obtain ⟨z0, z1, z2, z3, z4⟩ := st7.zero; obtain ⟨g0, g1, g2, g3, g4⟩ := st7.frz; simp only [NT.k, NT.t, NT.n, NT.s, NT.a] at z0 z1 z2 z3 z4; simp only [hsu]; have HU := hide hU; have HLU := hide hLU; have HSU := hide hsu; have HS7 := hide st7; clear hU hLU hb7 hsu st7)
  obtain ⟨hBl, s0, s1, s2, s3, s4⟩ := HS7.out.last U
  rw [HSU.out] at s0 s1 s2 s3 s4 hBl
  simp only [Nat.zero_add] at s0 s1 s2 s3 s4
  refine bodyPost_ret (v := nodeV U.k U.t U.n pu U.len cu U.a) ?_ rfl ⟨U, by rw [HSU.out], HU.out, ?_, hBl⟩
  · simp [results, Try.results20, go_sem, s0, s1, s2, s3, s4]
  · have h2 := HSt.out.size
    exact (LiesP.set (P := fun b => w.heap.size + 2 ≤ b) (g := w.heap.size + 1) (o := 0) (fun x hx => by omega) (HLU.out.carry (fun x hx _ => by omega) (fun _ _ _ hv => hv))).carry (fun x hx _ => by omega) (fun _ _ _ hv => hv)

set_option maxRecDepth 20000 in
set_option maxHeartbeats 1000000 in
theorem bare_any (T : NT) (w : World) (hL : Lies w.heap.size w T) (hS : T.sized maxLen) (hz : T.size ≤ 1000000) :
    Calls Try.prog 29 #[T.val] w fun e w' => ∃ U, e = .returned U.val ∧ Bared T U ∧ LiesP (fun b => w.heap.size ≤ b) w' U ∧ Below w.heap.size w w' := by
  obtain ⟨p, c, hs, _, _⟩ := hL.eq
  have hst := st_first w T
  have hR := fun w' (hb : Below w.heap.size w w') => rebuiltB_any T w' ((hL.below hb).mono hb.size) hS hz
  have hbe : boxO T = Obj.cells #[.int .i64 T.k, .string T.t, .int .i64 T.n, .slice p T.len c, .int .i64 T.a] 24 := by rw [← hs]
  rw [hbe] at hst
  have HSt : Hid (St w ((w.alloc (Obj.cells #[.int .i64 T.k, .string T.t, .int .i64 T.n, .slice p T.len c, .int .i64 T.a] 24)).alloc (Obj.cells #[.int .i64 0, .string ⟨#[]⟩, .int .i64 0, .slice none 0 0, .int .i64 0] 24)) T) := hide hst
  simp only [NT.val, hs] at hR ⊢
  clear hL hS hz hbe hst
  obtain ⟨W1, hW1⟩ : ∃ W1, (w.alloc (Obj.cells #[.int .i64 T.k, .string T.t, .int .i64 T.n, .slice p T.len c, .int .i64 T.a] 24)).alloc (Obj.cells #[.int .i64 0, .string ⟨#[]⟩, .int .i64 0, .slice none 0 0, .int .i64 0] 24) = W1 := ⟨_, rfl⟩
  rw [hW1] at HSt
  have hc := hR W1 HSt.out.below
  obtain ⟨b0, b1, b2, b3, b4⟩ := HSt.out.box
  rw [hs] at b3
  clear hR hs
  go_enter Try.func29, Try.ntmps29
  go_wp2_with (go_at_call 35; refine hc.mono ?_; clear hc; rintro e w7 ⟨U, rfl, hU, hLU, hb7⟩; obtain ⟨pu, cu, hsu, _, _⟩ := liesP_eq.1 hLU; have st7 := HSt.out.new hb7 HSt.out.size; obtain ⟨z0, z1, z2, z3, z4⟩ := st7.zero; obtain ⟨g0, g1, g2, g3, g4⟩ := st7.frz; simp only [NT.k, NT.t, NT.n, NT.s, NT.a] at z0 z1 z2 z3 z4; simp only [hsu]; have HU := hide hU; have HLU := hide hLU; have HSU := hide hsu; have HS7 := hide st7; clear hU hLU hb7 hsu st7)
  obtain ⟨hBl, s0, s1, s2, s3, s4⟩ := HS7.out.last U
  rw [HSU.out] at s0 s1 s2 s3 s4 hBl
  simp only [Nat.zero_add] at s0 s1 s2 s3 s4
  refine bodyPost_ret (v := nodeV U.k U.t U.n pu U.len cu U.a) ?_ rfl ⟨U, by rw [HSU.out], HU.out, ?_, hBl⟩
  · simp [results, Try.results29, go_sem, s0, s1, s2, s3, s4]
  · have h2 := HSt.out.size
    exact (LiesP.set (P := fun b => w.heap.size + 2 ≤ b) (g := w.heap.size + 1) (o := 0) (fun x hx => by omega) (HLU.out.carry (fun x hx _ => by omega) (fun _ _ _ hv => hv))).carry (fun x hx _ => by omega) (fun _ _ _ hv => hv)

theorem depth_le_size : ∀ T : NT, T.depth ≤ T.size := by
  intro T
  induction T using NT.ind with
  | _ T ih =>
    rw [NT.depth_eq, NT.size_eq]
    have : maxN (fun i => (T.kid i).depth) T.len ≤ sumN (fun i => (T.kid i).size) T.len := by
      have h : ∀ n, n ≤ T.len → maxN (fun i => (T.kid i).depth) n ≤ sumN (fun i => (T.kid i).size) n := by
        intro n
        induction n with
        | zero => intro _; exact Nat.le_refl _
        | succ n ihn => intro hn; have := ihn (by omega); have := ih n (by omega); simp only [maxN, sumN]; omega
      exact h T.len (Nat.le_refl _)
    omega

set_option maxRecDepth 20000 in
set_option maxHeartbeats 1000000 in
theorem refSize_any : ∀ (T : NT) (w : World), Lies w.heap.size w T → T.sized maxLen → T.size ≤ 1000000 →
    Calls Try.prog 26 #[T.val] w fun e w' => e = .returned (.int .i64 (NT.size T : Nat)) ∧ Below w.heap.size w w' := by
  intro T
  induction T using NT.ind with
  | _ T ih =>
    intro w hL hS hz
    obtain ⟨p, c, hs, ⟨hlc, _⟩, hK⟩ := hL.eq
    obtain ⟨_, hl, hS'⟩ := (NT.sized_eq _ _).1 hS
    have hl' : T.len ≤ 9223372036854775807 := hl
    have hsz := NT.size_eq T
    obtain ⟨F, hF⟩ : ∃ F : Nat → Nat, F = fun i => NT.size (T.kid i) := ⟨_, rfl⟩
    have HR := hide (NT.size_eq T)
    rw [← hF] at HR
    have HIH : Hid (∀ i, i < T.len → ∀ w', Below w.heap.size w w' → Calls Try.prog 26 #[(T.kid i).val] w' fun e w'' => e = .returned (.int .i64 (F i : Nat)) ∧ Below w'.heap.size w' w'') := hide fun i hi w' hb => by
      obtain ⟨_, _, _, _, hC⟩ := hK (by omega)
      rw [hF]
      exact ih i hi w' (((hC i hi).2.below hb).mono hb.size) (hS' i hi) (by
        have h1 : (T.kid i).size ≤ sumN (fun i => (T.kid i).size) T.len := sumN_le (f := fun i => (T.kid i).size) hi
        omega)
    have HFb : Hid (∀ i, i ≤ T.len → sumN F i ≤ 1000000) := hide fun i hi => by
      have h1 : ∀ n, sumN (fun i => (T.kid i).size) i ≤ sumN (fun i => (T.kid i).size) (i + n) := by
        intro n
        induction n with
        | zero => exact Nat.le_refl _
        | succ n ihn => rw [← Nat.add_assoc]; simp only [sumN]; omega
      have h2 := h1 (T.len - i)
      rw [show i + (T.len - i) = T.len by omega] at h2
      rw [hF]
      omega
    have HC : Hid (T.len ≠ 0 → ∃ g off, p = some ⟨g, off, none⟩ ∧ g < w.heap.size ∧ ∀ i, i < T.len → Cells5 w g (off + i * 5) (T.kid i) ∧ ∃ p' c', (T.kid i).s = .slice p' (T.kid i).len c') := hide fun hne => by
      obtain ⟨g, off, h1, h2, h3⟩ := hK hne
      exact ⟨g, off, h1, h2, fun i hi => ⟨(h3 i hi).1, let ⟨p', c', e, _⟩ := (h3 i hi).2.eq; ⟨p', c', e⟩⟩⟩
    have hB1 : Below w.heap.size w (w.alloc (boxO T)) := bl_alloc (Below.refl _ _) _
    obtain ⟨_, _, _, b3, _⟩ := box_new w T
    clear hL hS hz hK hS' ih hl hsz hF
    simp only [NT.val, boxO, hs] at b3 hB1 ⊢
    clear hs
    generalize NT.size T = R at *
    generalize T.k = k at *
    generalize T.t = t at *
    generalize T.n = n at *
    generalize T.a = a at *
    generalize T.len = len at *
    generalize T.kid = kid at *
    obtain ⟨W1, hW1⟩ : ∃ W1, w.alloc (Obj.cells #[.int .i64 k, .string t, .int .i64 n, .slice p len c, .int .i64 a] 24) = W1 := ⟨_, rfl⟩
    rw [hW1] at b3 hB1
    have HB1 := hide hB1
    clear hB1
    go_enter Try.func26, Try.ntmps26
    go_wp2
    clear hW1
    go_loopw [3, 4] (fun d i wr => ∃ j : Nat, j ≤ len ∧ i = .int .i64 j ∧ d = .int .i64 ((1 + sumN F j : Nat) : Int) ∧ Below W1.heap.size W1 wr) (fun _ i _ => len - (intOf i).toNat)
    case atStart => exact ⟨0, Nat.zero_le _, rfl, by simp [sumN], Below.refl _ _⟩
    case round =>
      obtain ⟨j, hj, rfl, rfl, hB⟩ := hrel
      have q3 := (hB.cell (p := ⟨w.heap.size, 3, none⟩) (World.block_lt_of_cell? _ _ b3)).trans b3
      have HB := hide hB
      have HBW := hide (bl_trans HB1.out hB)
      clear hB b3
      obtain ⟨G, hG⟩ : ∃ G, sumN F j = G := ⟨_, rfl⟩
      have hGb := HFb.out j hj
      rw [hG] at hGb ⊢
      have HG := hide hG
      clear hG
      rcases Nat.lt_or_ge j len with hlt | hge
      · have hi' : (j : Int) < (len : Int) := by omega
        obtain ⟨g, off, rfl, hg, hCC⟩ := HC.out (by omega)
        obtain ⟨c0, c1, c2, c3, c4⟩ := ((hCC j hlt).1.below HBW.out hg).nat
        obtain ⟨p1, c1', hs1⟩ := (hCC j hlt).2
        rw [hs1] at c3
        have hc := HIH.out j hlt wr HBW.out
        simp only [NT.val, hs1] at hc
        have hGn := HFb.out (j + 1) (by omega)
        have HN := hide (show sumN F (j + 1) = G + F j from by simp only [sumN, HG.out])
        rw [HN.out] at hGn
        clear hCC hs1
        go_wp2_with (go_at_call 26; refine hc.mono ?_; clear hc; rintro e w7 ⟨rfl, hb7⟩; have HB7 := hide hb7; clear hb7)
        go_roundw
        case rel => exact ⟨j + 1, by omega, by go_num, by rw [HN.out]; first | (go_num; done) | (congr 1; omega), HB.out.trans (HB7.out.mono HB.out.size)⟩
        case measure => simp [intOf]; omega
      · have he : j = len := by omega
        subst he
        go_wp2
        go_ret
        exact ⟨ret_int (by rw [HR.out, HG.out] <;> omega), HBW.out⟩

set_option maxRecDepth 20000 in
set_option maxHeartbeats 1000000 in
theorem refDepth_any : ∀ (T : NT) (w : World), Lies w.heap.size w T → T.sized maxLen → T.size ≤ 1000000 →
    Calls Try.prog 25 #[T.val] w fun e w' => e = .returned (.int .i64 (NT.depth T : Nat)) ∧ Below w.heap.size w w' := by
  intro T
  induction T using NT.ind with
  | _ T ih =>
    intro w hL hS hz
    obtain ⟨p, c, hs, ⟨hlc, _⟩, hK⟩ := hL.eq
    obtain ⟨_, hl, hS'⟩ := (NT.sized_eq _ _).1 hS
    have hl' : T.len ≤ 9223372036854775807 := hl
    have hsz := NT.size_eq T
    obtain ⟨F, hF⟩ : ∃ F : Nat → Nat, F = fun i => NT.depth (T.kid i) := ⟨_, rfl⟩
    have HR := hide (NT.depth_eq T)
    rw [← hF] at HR
    have HIH : Hid (∀ i, i < T.len → ∀ w', Below w.heap.size w w' → Calls Try.prog 25 #[(T.kid i).val] w' fun e w'' => e = .returned (.int .i64 (F i : Nat)) ∧ Below w'.heap.size w' w'') := hide fun i hi w' hb => by
      obtain ⟨_, _, _, _, hC⟩ := hK (by omega)
      rw [hF]
      exact ih i hi w' (((hC i hi).2.below hb).mono hb.size) (hS' i hi) (by
        have h1 : (T.kid i).size ≤ sumN (fun i => (T.kid i).size) T.len := sumN_le (f := fun i => (T.kid i).size) hi
        omega)
    have HFb : Hid (∀ i, i ≤ T.len → maxN F i ≤ 1000000) := hide fun i hi => by
      rw [hF]
      refine maxN_bound fun m hm => ?_
      have h1 : (T.kid m).size ≤ sumN (fun i => (T.kid i).size) T.len := sumN_le (f := fun i => (T.kid i).size) (by omega)
      have := depth_le_size (T.kid m)
      omega
    have HC : Hid (T.len ≠ 0 → ∃ g off, p = some ⟨g, off, none⟩ ∧ g < w.heap.size ∧ ∀ i, i < T.len → Cells5 w g (off + i * 5) (T.kid i) ∧ ∃ p' c', (T.kid i).s = .slice p' (T.kid i).len c') := hide fun hne => by
      obtain ⟨g, off, h1, h2, h3⟩ := hK hne
      exact ⟨g, off, h1, h2, fun i hi => ⟨(h3 i hi).1, let ⟨p', c', e, _⟩ := (h3 i hi).2.eq; ⟨p', c', e⟩⟩⟩
    have hB1 : Below w.heap.size w (w.alloc (boxO T)) := bl_alloc (Below.refl _ _) _
    obtain ⟨_, _, _, b3, _⟩ := box_new w T
    clear hL hS hz hK hS' ih hl hsz hF
    simp only [NT.val, boxO, hs] at b3 hB1 ⊢
    clear hs
    generalize NT.depth T = R at *
    generalize T.k = k at *
    generalize T.t = t at *
    generalize T.n = n at *
    generalize T.a = a at *
    generalize T.len = len at *
    generalize T.kid = kid at *
    obtain ⟨W1, hW1⟩ : ∃ W1, w.alloc (Obj.cells #[.int .i64 k, .string t, .int .i64 n, .slice p len c, .int .i64 a] 24) = W1 := ⟨_, rfl⟩
    rw [hW1] at b3 hB1
    have HB1 := hide hB1
    clear hB1
    go_enter Try.func25, Try.ntmps25
    go_wp2
    clear hW1
    go_loopw [3, 4] (fun d i wr => ∃ j : Nat, j ≤ len ∧ i = .int .i64 j ∧ d = .int .i64 (( maxN F j : Nat) : Int) ∧ Below W1.heap.size W1 wr) (fun _ i _ => len - (intOf i).toNat)
    case atStart => exact ⟨0, Nat.zero_le _, rfl, by simp [maxN], Below.refl _ _⟩
    case round =>
      obtain ⟨j, hj, rfl, rfl, hB⟩ := hrel
      have q3 := (hB.cell (p := ⟨w.heap.size, 3, none⟩) (World.block_lt_of_cell? _ _ b3)).trans b3
      have HB := hide hB
      have HBW := hide (bl_trans HB1.out hB)
      clear hB b3
      obtain ⟨G, hG⟩ : ∃ G, maxN F j = G := ⟨_, rfl⟩
      have hGb := HFb.out j hj
      rw [hG] at hGb ⊢
      have HG := hide hG
      clear hG
      rcases Nat.lt_or_ge j len with hlt | hge
      · have hi' : (j : Int) < (len : Int) := by omega
        obtain ⟨g, off, rfl, hg, hCC⟩ := HC.out (by omega)
        obtain ⟨c0, c1, c2, c3, c4⟩ := ((hCC j hlt).1.below HBW.out hg).nat
        obtain ⟨p1, c1', hs1⟩ := (hCC j hlt).2
        rw [hs1] at c3
        have hc := HIH.out j hlt wr HBW.out
        simp only [NT.val, hs1] at hc
        have hGn := HFb.out (j + 1) (by omega)
        have HN := hide (show maxN F (j + 1) = max G (F j) from by simp only [maxN, HG.out])
        rw [HN.out] at hGn
        clear hCC hs1
        go_wp2_with (go_at_call 25; refine hc.mono ?_; clear hc; rintro e w7 ⟨rfl, hb7⟩; have HB7 := hide hb7; clear hb7)
        go_roundw
        case rel => exact ⟨j + 1, by omega, by go_num, by rw [HN.out]; first | (go_num; done) | (congr 1; omega), HB.out.trans (HB7.out.mono HB.out.size)⟩
        case measure => simp [intOf]; omega
      · have he : j = len := by omega
        subst he
        go_wp2
        go_ret
        exact ⟨ret_int (by rw [HR.out, HG.out] <;> omega), HBW.out⟩
end Go.Proofs.Ytdccodnompalbaa
