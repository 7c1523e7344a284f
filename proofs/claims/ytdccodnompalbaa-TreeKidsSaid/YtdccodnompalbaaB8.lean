/- 'borrowdaleref03.Bare', walked. No conditions beyond the bounds that each statement names. -/
import Derived.Test.YtdccodnompalbaaB7
import Derived.Deep.RegionLaw
namespace Go.Proofs.Ytdccodnompalbaa
open Go.RowKit

theorem kq_alloc {w : World} {a : Addr} {v : Value} {o : Obj} (h : w.cell? a = some v) : (w.alloc o).cell? a = some v := (World.cell?_alloc_some w a o (by rw [h]; rfl)).trans h
theorem kq_drew {w : World} {a : Addr} {v : Value} (h : w.cell? a = some v) : w.drew.cell? a = some v := h
theorem kq_set {w : World} {b o b' o' : Nat} {u v : Value} (hb : b' < b) (h : w.cell? ⟨b', o', none⟩ = some v) : (w.setCell ⟨b, o, none⟩ u).cell? ⟨b', o', none⟩ = some v :=
  (World.cell?_setCell_other _ _ _ _ (fun e => by cases e; omega)).trans h
theorem gb_set (W : World) (b o : Nat) (v : Value) : W.grownBy (W.setCell ⟨b, o, none⟩ v) (some b) :=
  ⟨rfl, rfl, rfl, by simp, fun k _ hk => Below.heap_setCell W ⟨b, o, none⟩ v k (by intro e; exact hk (by rw [e]))⟩
theorem row_cap {w : World} {b : Nat} {e : TypeId} {size n c : Nat} {p : Option Addr} {xs : List Value} (h : w.ownsRow b e size (.slice p n c) n xs) : n ≤ c ∧ (p = none → c = 0) := by
  rcases h.2 with ⟨e1, h0⟩ | ⟨g, cap, cur, e', _, _, hn, _⟩
  · cases e1; exact ⟨Nat.le_refl _, fun _ => rfl⟩
  · cases e'; exact ⟨hn, fun h => by cases h⟩

set_option maxRecDepth 20000 in
set_option maxHeartbeats 8000000 in
theorem refBare_any : ∀ (T : NT) (w : World), Lies w.heap.size w T → T.sized maxLen → T.size ≤ 1000000 →
    Calls Try.prog 30 #[T.val] w fun e w' => ∃ U, e = .returned U.val ∧ Bared T U ∧ LiesP (fun b => w.heap.size ≤ b) w' U ∧ Below w.heap.size w w' := by
  intro T
  induction T using NT.ind with
  | _ T ih =>
    intro w hL hS hz
    obtain ⟨p, c, hs, ⟨hlc, _⟩, hK⟩ := hL.eq
    obtain ⟨_, hl, hS'⟩ := (NT.sized_eq _ _).1 hS
    have hl' : T.len ≤ 9223372036854775807 := hl
    have hl6 : T.len ≤ 1000000 := Nat.le_trans (len_le_size T) hz
    have HIH : Hid (∀ i, i < T.len → ∀ w', Below w.heap.size w w' → Calls Try.prog 30 #[(T.kid i).val] w' fun e w'' => ∃ U, e = .returned U.val ∧ Bared (T.kid i) U ∧ LiesP (fun b => w'.heap.size ≤ b) w'' U ∧ Below w'.heap.size w' w'') := hide fun i hi w' hb => by
      obtain ⟨_, _, _, _, hC⟩ := hK (by omega)
      exact ih i hi w' (((hC i hi).2.below hb).mono hb.size) (hS' i hi) (by
        have h1 : (T.kid i).size ≤ sumN (fun i => (T.kid i).size) T.len := sumN_le (f := fun i => (T.kid i).size) hi
        have := NT.size_eq T
        omega)
    have HC : Hid (T.len ≠ 0 → ∃ g off, p = some ⟨g, off, none⟩ ∧ g < w.heap.size ∧ ∀ i, i < T.len → Cells5 w g (off + i * 5) (T.kid i) ∧ ∃ p' c', (T.kid i).s = .slice p' (T.kid i).len c') := hide fun hne => by
      obtain ⟨g, off, h1, h2, h3⟩ := hK hne
      exact ⟨g, off, h1, h2, fun i hi => ⟨(h3 i hi).1, let ⟨p', c', e, _⟩ := (h3 i hi).2.eq; ⟨p', c', e⟩⟩⟩
    have HM : Hid (∀ U : NT, (U.k = T.k ∧ U.t = T.t ∧ U.n = bareN T.k T.n ∧ U.a = 0 ∧ U.len = T.len ∧ ∀ i, i < T.len → Bared (T.kid i) (U.kid i)) → Bared T U) := hide fun U => (made_eq bareN (fun _ => 0) T U).2
    obtain ⟨X, hX⟩ : ∃ X : NT, X = .mk T.k T.t T.n (.slice p T.len c) 0 (fun _ => .nul) T.a := ⟨_, rfl⟩
    have hfst := br_first w X
    have HX := hide hX
    have hbe : boxO X = Obj.cells #[.int .i64 T.k, .string T.t, .int .i64 T.n, .slice p T.len c, .int .i64 T.a] 24 := by rw [hX]; rfl
    rw [hbe] at hfst
    rw [show X.k = T.k by rw [hX]; rfl, show X.t = T.t by rw [hX]; rfl, show X.n = T.n by rw [hX]; rfl] at hfst
    have hf2 : Br w (((w.alloc (Obj.cells #[.int .i64 T.k, .string T.t, .int .i64 T.n, .slice p T.len c, .int .i64 T.a] 24)).alloc (Obj.cells #[.int .i64 0, .string ⟨#[]⟩, .int .i64 0, .slice none 0 0, .int .i64 0] 24)).alloc (Obj.cells #[.int .i64 T.k, .string T.t, .int .i64 T.n, .slice none 0 0, .int .i64 0] 24)) X T.n (.slice none 0 0) := hfst
    clear hL hS hz hK hS' ih hl hbe hfst hX
    simp only [NT.val, hs]
    clear hs
    generalize T.k = k at *
    generalize T.t = t at *
    generalize T.n = n at *
    generalize T.a = a at *
    generalize T.len = len at *
    generalize T.kid = kid at *
    have HBox : Hid (∀ W N S, Br w W X N S → (W.cell? ⟨w.heap.size, 0, none⟩ = some (.int .i64 k) ∧ W.cell? ⟨w.heap.size, 1, none⟩ = some (.string t) ∧ W.cell? ⟨w.heap.size, 2, none⟩ = some (.int .i64 n) ∧ W.cell? ⟨w.heap.size, 3, none⟩ = some (.slice p len c) ∧ W.cell? ⟨w.heap.size, 4, none⟩ = some (.int .i64 a)) ∧
        (W.cell? ⟨w.heap.size + 2, 0, none⟩ = some (.int .i64 k) ∧ W.cell? ⟨w.heap.size + 2, 1, none⟩ = some (.string t) ∧ W.cell? ⟨w.heap.size + 2, 2, none⟩ = some (.int .i64 N) ∧ W.cell? ⟨w.heap.size + 2, 3, none⟩ = some S ∧ W.cell? ⟨w.heap.size + 2, 4, none⟩ = some (.int .i64 0))) := hide fun W N S h => by
      have h1 := h.box
      have h2 := h.out
      rw [HX.out] at h1 h2
      exact ⟨h1, h2⟩
    obtain ⟨W1, hW1⟩ : ∃ W1, (w.alloc (Obj.cells #[.int .i64 k, .string t, .int .i64 n, .slice p len c, .int .i64 a] 24)).alloc (Obj.cells #[.int .i64 0, .string ⟨#[]⟩, .int .i64 0, .slice none 0 0, .int .i64 0] 24) = W1 := ⟨_, rfl⟩
    have h1b : Cells5 W1 w.heap.size 0 (.mk k t n (.slice p len c) 0 (fun _ => .nul) a) := by
      rw [← hW1]; exact (box_zero w (.mk k t n (.slice p len c) 0 (fun _ => .nul) a)).1
    have hz1 : W1.heap.size = w.heap.size + 2 := by rw [← hW1]; simp
    obtain ⟨b0, b1, b2, b3, b4⟩ := h1b
    simp only [NT.k, NT.t, NT.n, NT.s, NT.a, Nat.zero_add] at b0 b1 b2 b3 b4
    rw [hW1] at hf2
    have HF2 := hide hf2
    clear hf2
    go_enter Try.func30, Try.ntmps30
    go_upto_if 14 with fail
    clear b0 b1 b2 b3 b4
    generalize W1.alloc (Obj.cells #[.int .i64 k, .string t, .int .i64 n, .slice none 0 0, .int .i64 0] 24) = W2 at *
    clear hW1
    go_cut [] from 12 to 15 (fun wc => Br w wc X (if k = 6 then 0 else n) (.slice none 0 0))
    case first =>
      obtain ⟨⟨c0, c1, c2, c3, c4⟩, ⟨o0, o1, o2, o3, o4⟩⟩ := HBox.out _ _ _ HF2.out
      obtain ⟨f0, f1, f2, f3, f4⟩ := HF2.out.fro
      by_cases h6 : k = 6
      · subst h6
        have hn := HF2.out.num 0
        have HN := hide hn
        clear hn
        go_wp2
        go_meet
        case rel =>
        simp only [if_true]
        exact HN.out
      · go_wp2
        go_meet
        case rel =>
        rw [if_neg h6]
        exact HF2.out
    case rest =>
    have HF3 := hide hcut
    clear hcut HF2
    go_upto_region 4 with fail
    go_cut [28] from 16 to 28 (fun v wx => v = .bool (decide ((k = 30 ∨ k = 71) ∧ 0 ≤ n)) ∧ wx = wc)
    case first =>
      obtain ⟨⟨c0, c1, c2, c3, c4⟩, _⟩ := HBox.out _ _ _ HF3.out
      by_cases h30 : k = 30
      · subst h30
        have HV := hide (show decide (((30 : Int) = 30 ∨ (30 : Int) = 71) ∧ 0 ≤ n) = decide ((0 : Int) ≤ n) by simp)
        generalize decide (((30 : Int) = 30 ∨ (30 : Int) = 71) ∧ 0 ≤ n) = R at *
        cases hb : decide ((0 : Int) ≤ n)
        · go_wp2
          go_meet
          case rel => exact ⟨by rw [HV.out, hb], rfl⟩
        · go_wp2
          go_meet
          case rel => exact ⟨by rw [HV.out, hb], rfl⟩
      by_cases h71 : k = 71
      · subst h71
        have HV := hide (show decide (((71 : Int) = 30 ∨ (71 : Int) = 71) ∧ 0 ≤ n) = decide ((0 : Int) ≤ n) by simp)
        generalize decide (((71 : Int) = 30 ∨ (71 : Int) = 71) ∧ 0 ≤ n) = R at *
        clear h30
        cases hb : decide ((0 : Int) ≤ n)
        · go_wp2
          go_meet
          case rel => exact ⟨by rw [HV.out, hb], rfl⟩
        · go_wp2
          go_meet
          case rel => exact ⟨by rw [HV.out, hb], rfl⟩
      · have HV := hide (show decide ((k = 30 ∨ k = 71) ∧ 0 ≤ n) = false by simp [h30, h71])
        have e30 : (k == 30) = false := by simpa using h30
        have e71 : (k == 71) = false := by simpa using h71
        generalize decide ((k = 30 ∨ k = 71) ∧ 0 ≤ n) = R at *
        go_wp2
        go_meet
        case rel => exact ⟨by rw [HV.out], rfl⟩
    case rest =>
    obtain ⟨rfl, rfl⟩ := hcut
    go_upto_if 28 with fail
    go_cut [] from 28 to 32 (fun wd => Br w wd X (bareN k n) (.slice none 0 0))
    case first =>
      obtain ⟨⟨c0, c1, c2, c3, c4⟩, ⟨o0, o1, o2, o3, o4⟩⟩ := HBox.out _ _ _ HF3.out
      obtain ⟨f0, f1, f2, f3, f4⟩ := HF3.out.fro
      by_cases hb : (k = 30 ∨ k = 71) ∧ 0 ≤ n
      · have hd : decide ((k = 30 ∨ k = 71) ∧ 0 ≤ n) = true := decide_eq_true hb
        have hk6 : ¬ k = 6 := by omega
        have ht : n.tmod 2 = n % 2 := Int.tmod_eq_emod_of_nonneg hb.2
        have HN := hide (show Br w (wc.setCell ⟨w.heap.size + 2, 2, none⟩ (.int .i64 (n.tmod 2))) X (bareN k n) (.slice none 0 0) from by
          have := HF3.out.num (n.tmod 2)
          have e : bareN k n = n.tmod 2 := by unfold bareN; rw [if_neg hk6, if_pos hb, ht]
          rw [e]; exact this)
        rw [hd]
        clear hb ht hd hk6
        go_wp2
        go_meet
        case rel => exact HN.out
      · have hd : decide ((k = 30 ∨ k = 71) ∧ 0 ≤ n) = false := decide_eq_false hb
        have HN := hide (show Br w wc X (bareN k n) (.slice none 0 0) from by
          have := HF3.out
          have e : bareN k n = if k = 6 then 0 else n := by
            unfold bareN
            by_cases h6 : k = 6
            · rw [if_pos h6, if_pos h6]
            · rw [if_neg h6, if_neg h6, if_neg hb]
          rw [e]; exact this)
        rw [hd]
        clear hb hd
        go_wp2
        go_meet
        case rel => exact HN.out
    case rest =>
    have HF4 := hide hcut
    clear hcut HF3
    generalize bareN k n = M at *
    go_wp2
    go_loopw [4] (fun i wr => ∃ (j : Nat) (V : Nat → NT) (p' : Option Addr) (c' : Nat), j ≤ len ∧ i = .int .i64 j ∧ Br w wr X M (.slice p' j c') ∧ wr.ownsRow (w.heap.size + 3) 24 5 (.slice p' j c') j (flatV V j) ∧ ∀ i, i < j → Bared (kid i) (V i) ∧ LiesP (fun x => w.heap.size + 3 ≤ x ∧ some x ≠ (Value.slice p' j c').ownBlock) wr (V i)) (fun i _ => len - (intOf i).toNat)
    case atStart => exact ⟨0, fun _ => .nul, none, 0, Nat.zero_le _, rfl, HF4.out, World.ownsRow_nil _ _ _ _, fun i hi => by omega⟩
    case round =>
      obtain ⟨j, V, p', c', hj, rfl, hBr, hrow, hV⟩ := hrel
      have HBr := hide hBr
      have HRow := hide hrow
      have HV := hide hV
      obtain ⟨⟨b0, b1, b2, b3, b4⟩, ⟨o0, o1, o2, o3, o4⟩⟩ := HBox.out _ _ _ hBr
      clear hBr hrow hV
      rcases Nat.lt_or_ge j len with hlt | hge
      · have hi' : (j : Int) < (len : Int) := by omega
        obtain ⟨g, off, rfl, hg, hCC⟩ := HC.out (by omega)
        obtain ⟨e0, e1, e2, e3, e4⟩ := ((hCC j hlt).1.below HBr.out.below hg).nat
        obtain ⟨p1, c1', hs1⟩ := (hCC j hlt).2
        rw [hs1] at e3
        obtain ⟨i4, hi4, hz4, hs4, hb4⟩ := info_parts info24
        have hc := HIH.out j hlt wr.drew HBr.out.below.drew
        simp only [NT.val, hs1] at hc
        have HCc : Hid (∀ w', Below wr.heap.size wr w' → (w'.cell? ⟨w.heap.size, 3, none⟩ = some (.slice (some ⟨g, off, none⟩) len c) ∧ w'.cell? ⟨g, off + j * 5, none⟩ = some (.int .i64 (kid j).k) ∧ w'.cell? ⟨g, off + j * 5 + 1, none⟩ = some (.string (kid j).t) ∧ w'.cell? ⟨g, off + j * 5 + 2, none⟩ = some (.int .i64 (kid j).n) ∧ w'.cell? ⟨g, off + j * 5 + 3, none⟩ = some (.slice p1 (kid j).len c1') ∧ w'.cell? ⟨g, off + j * 5 + 4, none⟩ = some (.int .i64 (kid j).a)) ∧ w'.cell? ⟨w.heap.size + 2, 3, none⟩ = some (.slice p' j c')) := hide fun w' hb => by
          have e : ∀ (a : Addr) (v : Value), wr.cell? a = some v → w'.cell? a = some v := fun a v hv => (hb.cell (p := a) (World.block_lt_of_cell? _ _ hv)).trans hv
          exact ⟨⟨e _ _ b3, e _ _ e0, e _ _ e1, e _ _ e2, e _ _ e3, e _ _ e4⟩, e _ _ o3⟩
        clear hCC hs1 b0 b1 b2 b4 o0 o1 o2 o4
        go_wp2
        go_region_law (first
          | (go_simp; go_at_call 30; refine hc.mono ?_; rintro e w7 ⟨U, rfl, hU, hLU, hb7⟩; obtain ⟨pu, cu, hsu, _, _⟩ := liesP_eq.1 hLU; simp only [hsu]; have hb7' : Below wr.heap.size wr w7 := bl_trans (Below.refl wr.heap.size wr).drew hb7; obtain ⟨w8, hw8⟩ : ∃ w8, w7.alloc (Obj.cells #[.int .i64 U.k, .string U.t, .int .i64 U.n, .slice pu U.len cu, .int .i64 U.a] 24) = w8 := ⟨_, rfl⟩; have hb8 : Below w7.heap.size w7 w8 := (by rw [← hw8]; exact bl_alloc (Below.refl _ _) _); have HZ8 := hide (show w8.heap.size = w7.heap.size + 1 by rw [← hw8]; simp); have hn8 : w8.heap[w7.heap.size]? = some (Obj.cells #[.int .i64 U.k, .string U.t, .int .i64 U.n, .slice pu U.len cu, .int .i64 U.a] 24) := (by rw [← hw8]; exact World.alloc_heap_new _ _); have HN8 := hide (World.news_of_block hn8); obtain ⟨⟨x0, x1, x2, x3, x4, x5⟩, x6⟩ := HCc.out w7 hb7'; obtain ⟨⟨y0, y1, y2, y3, y4, y5⟩, y6⟩ := HCc.out w8 (bl_trans hb7' hb8); have HR8 := hide (row_below HRow.out (bl_trans hb7' hb8)); have HB8 := hide (HBr.out.new (bl_trans hb7' hb8) HBr.out.size); have HB7 := hide hb7'; have HU := hide hU; have HLU := hide hLU; have HSU := hide hsu; have HBB := hide hb8; clear hb7 hb7' hb8 hn8 hU hLU hsu)
          | (refine step_append_lies _ (by rfl) _ _ 22 (by rfl) (w.heap.size + 3) 24 i4 (.agg #[.int .i64 0, .string ByteArray.empty, .int .i64 0, .slice none 0 0, .int .i64 0]) 5 64 Try.underlying22 hi4 hz4 hs4 hb4 rfl (by decide) (.slice p' j c') j (flatV V j) (by rfl) HR8.out ⟨w7.heap.size, 0, none⟩ 1 1 [.int .i64 U.k, .string U.t, .int .i64 U.n, .slice pu U.len cu, .int .i64 U.a] (by rfl) (by rfl) HN8.out (fun u hu => by simp at hu; rcases hu with rfl | rfl | rfl | rfl | rfl <;> rfl) (by omega) (by unfold maxLen; omega) (by omega) (by have := HB8.out.size; omega) w8.heap.size rfl ?_; intro g' cap w9 hown9 hgrow hat hlt9; have hge9 : ∀ k, (Value.slice p' j c').ownBlock = some k → w.heap.size + 3 ≤ k := (fun k hk => (HR8.out.lt k hk).1); have HB9 := hide (HB8.out.grown hgrow hge9); obtain ⟨z0, z1, z2, z3, z4⟩ := HB9.out.out; obtain ⟨f0, f1, f2, f3, f4⟩ := HB9.out.fro; have hfar : ∀ (a : Addr) (v : Value), a.block < w.heap.size + 3 → w8.cell? a = some v → w9.cell? a = some v := (fun a v ha hv => (hgrow.cell_far a (World.block_lt_of_cell? _ _ hv) (fun e => by have := hge9 _ e.symm; omega)).trans hv); have t0 := hfar ⟨w.heap.size, 3, none⟩ _ (by show w.heap.size < w.heap.size + 3; omega) y0; have t1 := hfar ⟨g, off + j * 5, none⟩ _ (by show g < w.heap.size + 3; omega) y1; have t2 := hfar ⟨g, off + j * 5 + 1, none⟩ _ (by show g < w.heap.size + 3; omega) y2; have t3 := hfar ⟨g, off + j * 5 + 2, none⟩ _ (by show g < w.heap.size + 3; omega) y3; have t4 := hfar ⟨g, off + j * 5 + 3, none⟩ _ (by show g < w.heap.size + 3; omega) y4; have t5 := hfar ⟨g, off + j * 5 + 4, none⟩ _ (by show g < w.heap.size + 3; omega) y5; have HO9 := hide hown9; have HG9 := hide hgrow; have HAT := hide hat; have HLT := hide hlt9; clear hown9 hgrow hat hlt9 hfar hge9 z0 z1 z2 z4))
        all_goals
          go_wp2
          go_roundw
          case rel =>
            have hlo : ∀ x, (Value.slice p' j c').ownBlock = some x → w.heap.size + 3 ≤ x ∧ x < wr.heap.size := HRow.out.lt
            have hg9 := (HO9.out.lt g' rfl).1
            have hw78 := HZ8.out
            have hw7 := HB7.out.size
            have hat : ∀ x, (x < wr.heap.size → some x ≠ (Value.slice p' j c').ownBlock) → x < w7.heap.size → x ≠ g' := fun x hx hx7 he => by
              rcases HAT.out with h | h
              · exact hx (hlo _ (he ▸ h)).2 (he ▸ h.symm)
              · omega
            have hset : ∀ (a : Addr) (v : Value), w.heap.size + 3 ≤ a.block → w9.cell? a = some v → (w9.setCell ⟨w.heap.size + 2, 3, none⟩ (.slice (some ⟨g', 0, none⟩) (j + 1) cap)).cell? a = some v := fun a v ha hv => (World.cell?_setCell_other _ _ _ _ (fun e => by rw [← e] at ha; simp at ha)).trans hv
            refine ⟨j + 1, fun i => if i = j then U else V i, some ⟨g', 0, none⟩, cap, by omega, by go_num, HB9.out.sli _, ?_, fun i hi => ?_⟩
            · have h9 := HO9.out.kept (gb_set w9 (w.heap.size + 2) 3 (.slice (some ⟨g', 0, none⟩) (j + 1) cap)) (.inr (by simp [Value.ownBlock]; omega))
              have e : flatV (fun i => if i = j then U else V i) (j + 1) = flatV V j ++ [.int .i64 U.k, .string U.t, .int .i64 U.n, .slice pu U.len cu, .int .i64 U.a] := by
                rw [flatV_succ, flatV_congr (U := V) (fun i hi => if_neg (by omega))]
                simp only [if_true, HSU.out]
              rw [e]
              exact h9
            · by_cases e : i = j
              · subst e
                simp only [if_true]
                refine ⟨HU.out, HLU.out.carry (fun x hx hx7 => ?_) (fun a v ha hv => ?_)⟩
                · have hx' : wr.heap.size ≤ x := hx
                  exact ⟨by have := HBr.out.size; omega, fun h => hat x (fun h1 => by omega) hx7 (by simpa [Value.ownBlock] using h)⟩
                · have ha' : wr.heap.size ≤ a.block := ha
                  have h7 := World.block_lt_of_cell? _ _ hv
                  have h8 := (HBB.out.cell (p := a) h7).trans hv
                  refine hset a v (by have := HBr.out.size; omega) ((HG9.out.cell_far a (World.block_lt_of_cell? _ _ h8) (fun h => ?_)).trans h8)
                  have := (hlo _ h.symm).2
                  omega
              · simp only [if_neg e]
                obtain ⟨hv1, hv2⟩ := HV.out i (by omega)
                refine ⟨hv1, hv2.carry (fun x hx hxr => ⟨hx.1, fun h => hat x (fun _ => hx.2) (by omega) (by simpa [Value.ownBlock] using h)⟩) (fun a v ha hv => ?_)⟩
                have h8 := ((bl_trans HB7.out HBB.out).cell (p := a) (World.block_lt_of_cell? _ _ hv)).trans hv
                exact hset a v ha.1 ((HG9.out.cell_far a (World.block_lt_of_cell? _ _ h8) ha.2).trans h8)
          case measure => simp [intOf]; omega
      · have he : j = len := by omega
        subst he
        obtain ⟨z0, z1, z2, z3, z4⟩ := HBr.out.zero
        obtain ⟨g0, g1, g2, g3, g4⟩ := HBr.out.frz
        have hcap := row_cap HRow.out
        obtain ⟨hBl, s0, s1, s2, s3, s4⟩ := HBr.out.last (.mk k t M (.slice p' j c') j V 0)
        simp only [NT.k, NT.t, NT.n, NT.s, NT.a, Nat.zero_add] at z0 z1 z2 z3 z4 s0 s1 s2 s3 s4 hBl
        have HE := hide (show Bared T (NT.mk k t M (.slice p' j c') j V 0) from HM.out _ ⟨rfl, rfl, rfl, rfl, rfl, fun i hi => (HV.out i hi).1⟩)
        have HT := hide (row_tree HRow.out (Nat.le_refl _) (fun i hi => (HV.out i hi).2.carry (P' := fun x => w.heap.size + 3 ≤ x) (fun x hx _ => hx.1) (fun _ _ _ hv => hv)) hcap k t M 0)
        have HBl := hide hBl
        clear hcap hBl
        go_wp2
        refine bodyPost_ret (v := nodeV k t M p' j c' 0) ?_ rfl ⟨_, rfl, HE.out, ?_, HBl.out⟩
        · simp [results, Try.results30, go_sem, s0, s1, s2, s3, s4]
        · exact (LiesP.set (P := fun x => w.heap.size + 3 ≤ x) (g := w.heap.size + 1) (o := 0) (fun x hx => by omega) HT.out).carry (fun x hx _ => by omega) (fun _ _ _ hv => hv)
end Go.Proofs.Ytdccodnompalbaa
