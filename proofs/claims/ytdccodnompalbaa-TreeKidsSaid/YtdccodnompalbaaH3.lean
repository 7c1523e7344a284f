/- What the law's round does with a node: it is put behind the others. No conditions beyond the bounds that each statement names. -/
import Derived.Test.YtdccodnompalbaaH2
import Derived.Test.YtdccodnompalbaaB8
namespace Go.Proofs.Ytdccodnompalbaa
open Go.RowKit

/-- Every block that was there is as it was, but for one and the row. -/
structure Put (Bl : Nat) (row : Option Nat) (W W' : World) : Prop where
  os : W'.os = W.os
  tape : W'.tape = W.tape
  output : W'.output = W.output
  size : W.heap.size ≤ W'.heap.size
  block : ∀ k, k < W.heap.size → k ≠ Bl → some k ≠ row → W'.heap[k]? = W.heap[k]?
theorem Put.cell {Bl : Nat} {row : Option Nat} {W W' : World} (h : Put Bl row W W') {p : Addr} {v : Value} (h1 : p.block ≠ Bl) (h2 : some p.block ≠ row) (hv : W.cell? p = some v) : W'.cell? p = some v :=
  (World.cell?_of_block (h.block _ (World.block_lt_of_cell? _ _ hv) h1 h2)).trans hv
theorem Put.below {Bl : Nat} {row : Option Nat} {W W' : World} (h : Put Bl row W W') {b : Nat} (hb : b ≤ W.heap.size) (h1 : b ≤ Bl) (h2 : ∀ k, row = some k → b ≤ k) : Below b W W' :=
  ⟨h.os, h.tape, h.output, h.size, fun k hk => h.block k (by omega) (by omega) (fun e => by have := h2 k e.symm; omega)⟩
theorem Put.first {Bl : Nat} {row : Option Nat} {A B C : World} (h : Below A.heap.size A B) (k : Put Bl row B C) : Put Bl row A C :=
  ⟨k.os.trans h.os, k.tape.trans h.tape, k.output.trans h.output, Nat.le_trans h.size k.size, fun i hi h1 h2 => (k.block i (Nat.lt_of_lt_of_le hi h.size) h1 h2).trans (h.block i hi)⟩

theorem setCell_comm {w : World} {p q : Addr} {u v : Value} (h : p.block ≠ q.block) : (w.setCell p u).setCell q v = (w.setCell q v).setCell p u := by
  unfold World.setCell
  simp only [World.mk.injEq, and_true]
  apply Array.ext_getElem?
  intro i
  simp only [Array.getElem?_modify]
  by_cases h1 : q.block = i
  · have h2 : ¬ p.block = i := fun e => h (e.trans h1.symm)
    simp [h1, h2]
  · simp [h1]
theorem set5_comm {w : World} {p : Addr} {u : Value} {g o : Nat} {v0 v1 v2 v3 v4 : Value} (h : p.block ≠ g) : set5 (w.setCell p u) g o v0 v1 v2 v3 v4 = (set5 w g o v0 v1 v2 v3 v4).setCell p u := by
  simp only [set5]
  rw [setCell_comm (p := p) (q := ⟨g, o, none⟩) h, setCell_comm (p := p) (q := ⟨g, o + 1, none⟩) h, setCell_comm (p := p) (q := ⟨g, o + 2, none⟩) h, setCell_comm (p := p) (q := ⟨g, o + 3, none⟩) h, setCell_comm (p := p) (q := ⟨g, o + 4, none⟩) h]
theorem set_behind (L : List Value) (R : List Value) (c : Nat) (v : Value) : (L ++ R).set (L.length + c) v = L ++ R.set c v := by
  rw [List.set_append_right _ _ (by omega)]
  congr 2
  omega
theorem put_step {w9 : World} {b g n cap : Nat} {L : List Value} (hL : L.length = n * 5) (h : w9.ownsRow b 24 5 (.slice (some ⟨g, 0, none⟩) (n + 1) cap) (n + 1) (L ++ [.int .i64 0, .string ⟨#[]⟩, .int .i64 0, .slice none 0 0, .int .i64 0])) :
    (w9.cell? ⟨g, n * 5, none⟩ = some (.int .i64 0) ∧ w9.cell? ⟨g, n * 5 + 1, none⟩ = some (.string ⟨#[]⟩) ∧ w9.cell? ⟨g, n * 5 + 2, none⟩ = some (.int .i64 0) ∧ w9.cell? ⟨g, n * 5 + 3, none⟩ = some (.slice none 0 0) ∧ w9.cell? ⟨g, n * 5 + 4, none⟩ = some (.int .i64 0)) ∧ (∀ o, w9.frozen? ⟨g, o, none⟩ = false) ∧
    ∀ v0 v1 v2 v3 v4, (set5 w9 g (n * 5) v0 v1 v2 v3 v4).ownsRow b 24 5 (.slice (some ⟨g, 0, none⟩) (n + 1) cap) (n + 1) (L ++ [v0, v1, v2, v3, v4]) ∧ w9.grownBy (set5 w9 g (n * 5) v0 v1 v2 v3 v4) (some g) := by
  have hc : ∀ c v, c < 5 → ([.int .i64 0, .string ⟨#[]⟩, .int .i64 0, .slice none 0 0, .int .i64 0] : List Value)[c]? = some v → w9.cell? ⟨g, n * 5 + c, none⟩ = some v := fun c v hc hv => by
    rw [h.cellAt (n * 5 + c) (by omega), List.getElem?_append_right (by omega), hL, show n * 5 + c - n * 5 = c by omega, hv]
  refine ⟨⟨hc 0 _ (by omega) rfl, hc 1 _ (by omega) rfl, hc 2 _ (by omega) rfl, hc 3 _ (by omega) rfl, hc 4 _ (by omega) rfl⟩, h.frozenAt, fun v0 v1 v2 v3 v4 => ?_⟩
  obtain ⟨a1, b1⟩ := h.stored (n * 5) v0
  obtain ⟨a2, b2⟩ := a1.stored (n * 5 + 1) v1
  obtain ⟨a3, b3⟩ := a2.stored (n * 5 + 2) v2
  obtain ⟨a4, b4⟩ := a3.stored (n * 5 + 3) v3
  obtain ⟨a5, b5⟩ := a4.stored (n * 5 + 4) v4
  refine ⟨?_, (((b1.trans b2).trans b3).trans b4).trans b5⟩
  have e0 := set_behind L [.int .i64 0, .string ⟨#[]⟩, .int .i64 0, .slice none 0 0, .int .i64 0] 0 v0
  rw [hL, Nat.add_zero] at e0
  rw [e0] at a5
  have e : ∀ R c v, (L ++ R).set (n * 5 + c) v = L ++ R.set c v := fun R c v => by rw [← hL]; exact set_behind L R c v
  rw [e, e, e, e] at a5
  exact a5

set_option maxRecDepth 20000 in
set_option maxHeartbeats 4000000 in
theorem put_any (k : Int) (t : ByteArray) (m : Int) (p' : Option Addr) (len c' : Nat) (a : Int) (Bl Bm b : Nat) (p : Option Addr) (n c : Nat) (V : Nat → NT) (M : Int) (W : World)
    (hl : OneC W Bl (.slice p n c)) (hrow : W.ownsRow b 24 5 (.slice p n c) n (flatV V n)) (hM : W.cell? ⟨Bm, 0, none⟩ = some (.int .i64 M)) (hn : n ≤ 1000000) (hBl : Bl < b) (hBm : Bm < b) (hne : Bm ≠ Bl) (hb : b ≤ W.heap.size) :
    Calls Try.prog 37 #[nodeV k t m p' len c' a, .pointer (some ⟨Bl, 0, none⟩), .pointer (some ⟨Bm, 0, none⟩)] W fun e w' =>
      e = .returned (.bool (decide (((n + 1 : Nat) : Int) ≤ M))) ∧ ∃ g cap, OneC w' Bl (.slice (some ⟨g, 0, none⟩) (n + 1) cap) ∧
        w'.ownsRow b 24 5 (.slice (some ⟨g, 0, none⟩) (n + 1) cap) (n + 1) (flatV V n ++ [.int .i64 k, .string t, .int .i64 m, .slice p' len c', .int .i64 a]) ∧
        ((Value.slice p n c).ownBlock = some g ∨ W.heap.size ≤ g) ∧ Put Bl (Value.slice p n c).ownBlock W w' := by
  obtain ⟨W1, hW1⟩ : ∃ W1, W.alloc (Obj.cells #[.int .i64 k, .string t, .int .i64 m, .slice p' len c', .int .i64 a] 24) = W1 := ⟨_, rfl⟩
  have hb1 : Below W.heap.size W W1 := by rw [← hW1]; exact bl_alloc (Below.refl _ _) _
  have hz1 : W1.heap.size = W.heap.size + 1 := by rw [← hW1]; simp
  have hx1 : Cells5 W1 W.heap.size 0 (.mk k t m (.slice p' len c') 0 (fun _ => .nul) a) := by rw [← hW1]; exact box_new W (.mk k t m (.slice p' len c') 0 (fun _ => .nul) a)
  have hl1 := hl.below hb1 (World.block_lt_of_cell? _ _ hl.1)
  have hM1 := (hb1.cell (p := ⟨Bm, 0, none⟩) (World.block_lt_of_cell? _ _ hM)).trans hM
  have hr1 := row_below hrow hb1
  obtain ⟨w8, hw8⟩ : ∃ w8, W1.drew.alloc (Obj.cells #[.int .i64 0, .string ⟨#[]⟩, .int .i64 0, .slice none 0 0, .int .i64 0] 24) = w8 := ⟨_, rfl⟩
  have hb8 : Below W1.heap.size W1 w8 := by rw [← hw8]; exact bl_alloc (Below.refl W1.heap.size W1).drew _
  have hz8 : w8.heap.size = W.heap.size + 2 := by rw [← hw8]; show (W1.drew.alloc _).heap.size = _; rw [World.size_alloc]; show W1.heap.size + 1 = _; omega
  have hn8 : w8.heap[W1.heap.size]? = some (Obj.cells #[.int .i64 0, .string ⟨#[]⟩, .int .i64 0, .slice none 0 0, .int .i64 0] 24) := by rw [← hw8]; exact World.alloc_heap_new W1.drew _
  have HN8 := hide (World.news_of_block hn8)
  rw [hz1] at HN8
  have hl8 := hl1.below hb8 (World.block_lt_of_cell? _ _ hl1.1)
  have hM8 := (hb8.cell (p := ⟨Bm, 0, none⟩) (World.block_lt_of_cell? _ _ hM1)).trans hM1
  have hr8 := row_below hr1 hb8
  have hx8 := hx1.below hb8 (World.block_lt_of_cell? _ _ hx1.1)
  have hlo := hrow.lt
  have hcap := row_cap hrow
  obtain ⟨i4, hi4, hz4, hs4, hb4⟩ := info_parts info24
  have HR8 := hide hr8
  have HB18 := hide (bl_trans hb1 hb8)
  have HM8 := hide hM8
  have HL8 := hide hl8
  have HX8 := hide hx8
  have HLO := hide hlo
  have HBB := hide hb
  have HNE := hide hne
  obtain ⟨x0, x1, x2, x3, x4⟩ := hx1
  obtain ⟨y0, y1, y2, y3, y4⟩ := hx8
  obtain ⟨l0, l1⟩ := hl1
  obtain ⟨q0, q1⟩ := hl8
  simp only [NT.k, NT.t, NT.n, NT.s, NT.a, Nat.zero_add] at x0 x1 x2 x3 x4 y0 y1 y2 y3 y4
  have hidx : (n : Int) < (n : Int) + 1 := by omega
  clear hb1 hb8 hr1 hr8 hn8 hrow hl hM hlo hb hM1 hM8 hne
  go_enter Try.func37, Try.ntmps37
  go_wp2
  go_region_law (refine step_append_lies _ (by rfl) _ _ 22 (by rfl) b 24 i4 (.agg #[.int .i64 0, .string ByteArray.empty, .int .i64 0, .slice none 0 0, .int .i64 0]) 5 64 Try.underlying22 hi4 hz4 hs4 hb4 rfl (by decide) (.slice p n c) n (flatV V n) (by rfl) HR8.out ⟨W.heap.size + 1, 0, none⟩ 1 1 [.int .i64 0, .string ⟨#[]⟩, .int .i64 0, .slice none 0 0, .int .i64 0] (by rfl) (by rfl) HN8.out (fun u hu => by simp at hu; rcases hu with rfl | rfl | rfl | rfl | rfl <;> rfl) (by omega) (by unfold maxLen; omega) (by omega) (by have := HBB.out; omega) w8.heap.size rfl ?_; intro g cap w9 hown9 hgrow hat hlt9; have hgb := (hown9.lt g rfl).1; have hlo9 : ∀ k, (Value.slice p n c).ownBlock = some k → b ≤ k := (fun k hk => (HLO.out k hk).1); have hfar : ∀ (q : Addr) (v : Value), some q.block ≠ (Value.slice p n c).ownBlock → w8.cell? q = some v → w9.cell? q = some v := (fun q v hq hv => (hgrow.cell_far q (World.block_lt_of_cell? _ _ hv) hq).trans hv); have hxne : some W.heap.size ≠ (Value.slice p n c).ownBlock := (fun e => by have := (HLO.out _ e.symm).2; omega); have t0 := hfar ⟨W.heap.size, 0, none⟩ _ hxne y0; have t1 := hfar ⟨W.heap.size, 1, none⟩ _ hxne y1; have t2 := hfar ⟨W.heap.size, 2, none⟩ _ hxne y2; have t3 := hfar ⟨W.heap.size, 3, none⟩ _ hxne y3; have t4 := hfar ⟨W.heap.size, 4, none⟩ _ hxne y4; have hlne : some Bl ≠ (Value.slice p n c).ownBlock := (fun e => by have := hlo9 _ e.symm; omega); have hmne : some Bm ≠ (Value.slice p n c).ownBlock := (fun e => by have := hlo9 _ e.symm; omega); have hL9 := hfar ⟨Bl, 0, none⟩ _ hlne HL8.out.1; have hF9 := (hgrow.frozen_far ⟨Bl, 0, none⟩ (World.block_lt_of_cell? _ _ HL8.out.1) hlne).trans HL8.out.2; have hM9 := hfar ⟨Bm, 0, none⟩ _ hmne HM8.out; obtain ⟨⟨d0, d1, d2, d3, d4⟩, hfr, hset⟩ := put_step (flatV_len V n) hown9; obtain ⟨hown10, hg10⟩ := hset (.int .i64 k) (.string t) (.int .i64 m) (.slice p' len c') (.int .i64 a); have f0 := hfr (n * 5); have f1 := hfr (n * 5 + 1); have f2 := hfr (n * 5 + 2); have f3 := hfr (n * 5 + 3); have f4 := hfr (n * 5 + 4); obtain ⟨w10, hw10⟩ : ∃ w10, ((((w9.setCell ⟨g, n * 5, none⟩ (.int .i64 k)).setCell ⟨g, n * 5 + 1, none⟩ (.string t)).setCell ⟨g, n * 5 + 2, none⟩ (.int .i64 m)).setCell ⟨g, n * 5 + 3, none⟩ (.slice p' len c')).setCell ⟨g, n * 5 + 4, none⟩ (.int .i64 a) = w10 := ⟨_, rfl⟩; simp only [set5, hw10] at hown10 hg10; have hL10 := (hg10.cell_far ⟨Bl, 0, none⟩ (World.block_lt_of_cell? _ _ hL9) (by simp; omega)).trans hL9; have hF10 := (hg10.frozen_far ⟨Bl, 0, none⟩ (World.block_lt_of_cell? _ _ hL9) (by simp; omega)).trans hF9; have hM10 := (hg10.cell_far ⟨Bm, 0, none⟩ (World.block_lt_of_cell? _ _ hM9) (by simp; omega)).trans hM9; obtain ⟨w11, hw11⟩ : ∃ w11, w10.setCell ⟨Bl, 0, none⟩ (.slice (some ⟨g, 0, none⟩) (n + 1) cap) = w11 := ⟨_, rfl⟩; have hO11 : OneC w11 Bl (.slice (some ⟨g, 0, none⟩) (n + 1) cap) := (by rw [← hw11]; exact OneC.set ⟨hL10, hF10⟩ _); have hM11 : w11.cell? ⟨Bm, 0, none⟩ = some (.int .i64 M) := (by rw [← hw11]; exact (World.cell?_setCell_other _ _ _ _ (fun e => HNE.out (by cases e; rfl))).trans hM10); have hown11 := hown10.kept (gb_set w10 Bl 0 (.slice (some ⟨g, 0, none⟩) (n + 1) cap)) (.inr (by simp [Value.ownBlock]; omega)); rw [hw11] at hown11; have hg11 := gb_set w10 Bl 0 (.slice (some ⟨g, 0, none⟩) (n + 1) cap); rw [hw11] at hg11; have h8s := HB18.out.size; have HPUT := hide (show Put Bl (Value.slice p n c).ownBlock W w11 from Put.first HB18.out ⟨hg11.os.trans (hg10.os.trans hgrow.os), hg11.tape.trans (hg10.tape.trans hgrow.tape), hg11.output.trans (hg10.output.trans hgrow.output), Nat.le_trans hgrow.size (Nat.le_trans hg10.size hg11.size), fun i hi h1 h2 => (hg11.block i (by have := hgrow.size; have := hg10.size; omega) (by simpa using h1)).trans ((hg10.block i (by have := hgrow.size; omega) (fun e => by cases e; rcases hat with h | h <;> first | exact h2 h.symm | omega)).trans (hgrow.block i hi h2))⟩); have HAT := hide (show (Value.slice p n c).ownBlock = some g ∨ W.heap.size ≤ g from hat.imp id (fun h => by omega)); have HO := hide hO11; have HR11 := hide hown11; obtain ⟨v0, _⟩ := hO11; have hgl : Bl ≠ g := (by omega); obtain ⟨w12, hw12⟩ : ∃ w12, w9.setCell ⟨Bl, 0, none⟩ (.slice (some ⟨g, 0, none⟩) (n + 1) cap) = w12 := ⟨_, rfl⟩; have hcm : ((((w12.setCell ⟨g, n * 5, none⟩ (.int .i64 k)).setCell ⟨g, n * 5 + 1, none⟩ (.string t)).setCell ⟨g, n * 5 + 2, none⟩ (.int .i64 m)).setCell ⟨g, n * 5 + 3, none⟩ (.slice p' len c')).setCell ⟨g, n * 5 + 4, none⟩ (.int .i64 a) = w11 := (by rw [← hw12, ← hw11, ← hw10]; exact set5_comm (p := ⟨Bl, 0, none⟩) hgl); have h12 : ∀ (q : Addr) (v : Value), q.block = g → w9.cell? q = some v → w12.cell? q = some v := (fun q v hq hv => by rw [← hw12]; exact (World.cell?_setCell_other _ _ _ _ (fun e => by rw [← e] at hq; exact hgl hq)).trans hv); have d0' := h12 _ _ rfl d0; have d1' := h12 _ _ rfl d1; have d2' := h12 _ _ rfl d2; have d3' := h12 _ _ rfl d3; have d4' := h12 _ _ rfl d4; have h13 : ∀ q, w9.frozen? q = false → w12.frozen? q = false := (fun q hq => by rw [← hw12, World.frozen?_setCell]; exact hq); have f0' := h13 _ f0; have f1' := h13 _ f1; have f2' := h13 _ f2; have f3' := h13 _ f3; have f4' := h13 _ f4; clear h12 h13 hgl; clear hown9 hgrow hat hlt9 hgb hlo9 hfar hxne hlne hmne hfr hset hown10 hg10 hown11 hg11 h8s)
  all_goals
    go_wp2
    go_ret
    exact ⟨ret_bool (by congr 1), g, cap, HO.out, HR11.out, HAT.out, HPUT.out⟩
end Go.Proofs.Ytdccodnompalbaa
