/- The two regions of the law Kids that draw their order: a program of a right one's items, without one, and with one twice. No conditions beyond those that each statement names. -/
import Derived.Test.YtdccodnompalbaaRo
namespace Go.Proofs.Ytdccodnompalbaa
open Go.RowKit

/-- A node in a box of its own, apart from a row. -/
structure Own5 (b : Nat) (w : World) (g : Nat) (row : Option Nat) (T : NT) : Prop where
  base : b ≤ g
  apart : some g ≠ row
  thaw : ∀ o, w.frozen? ⟨g, o, none⟩ = false
  cells : Cells5 w g 0 T
theorem Own5.lt {b g : Nat} {w : World} {row : Option Nat} {T : NT} (h : Own5 b w g row T) : g < w.heap.size := World.block_lt_of_cell? _ _ h.cells.1
theorem Own5.alloc {b g : Nat} {w : World} {row : Option Nat} {T : NT} (h : Own5 b w g row T) (o : Obj) {row' : Option Nat} (hr : row' = row ∨ row' = some w.heap.size) : Own5 b (w.alloc o) g row' T := by
  have hb : Below w.heap.size w (w.alloc o) := bl_alloc (Below.refl _ _) _
  refine ⟨h.base, ?_, fun k => (hb.frozen (p := ⟨g, k, none⟩) h.lt).trans (h.thaw k), h.cells.below hb h.lt⟩
  rcases hr with rfl | rfl
  · exact h.apart
  · intro e; cases e; exact absurd h.lt (Nat.lt_irrefl _)
theorem Own5.grown {b g : Nat} {w w' : World} {row row' : Option Nat} {T : NT} (h : Own5 b w g row T) (hg : w.grownBy w' row) (hr : row' = row ∨ row' = some w.heap.size) : Own5 b w' g row' T := by
  refine ⟨h.base, ?_, fun k => (hg.frozen_far ⟨g, k, none⟩ h.lt h.apart).trans (h.thaw k), h.cells.of fun p v hp hv => hg.cell hv (by rw [hp]; exact h.apart)⟩
  rcases hr with rfl | rfl
  · exact h.apart
  · intro e; cases e; exact absurd h.lt (Nat.lt_irrefl _)
theorem Own5.new {b : Nat} {w : World} {row : Option Nat} (hb : b ≤ w.heap.size) (hr : ∀ k, row = some k → k < w.heap.size) (T : NT) :
    Own5 b (w.alloc (.cells #[.int .i64 T.k, .string T.t, .int .i64 T.n, T.s, .int .i64 T.a] 24)) w.heap.size row T := by
  refine ⟨hb, fun e => absurd (hr _ e.symm) (Nat.lt_irrefl _), fun o => by simp, ?_⟩
  exact ⟨by simp, by simp, by simp, by simp, by simp⟩
theorem grownBy_set (w : World) (a : Addr) (v : Value) : w.grownBy (w.setCell a v) (some a.block) :=
  ⟨rfl, rfl, rfl, by simp, fun k _ hne => Below.heap_setCell _ _ _ _ (fun e => hne (by rw [e]))⟩
/-- The five cells of a box, anew. -/
theorem Own5.stored {b g : Nat} {w : World} {row : Option Nat} {T : NT} (h : Own5 b w g row T) (X : NT) :
    Own5 b (set5 w g 0 (.int .i64 X.k) (.string X.t) (.int .i64 X.n) X.s (.int .i64 X.a)) g row X ∧ w.grownBy (set5 w g 0 (.int .i64 X.k) (.string X.t) (.int .i64 X.n) X.s (.int .i64 X.a)) (some g) := by
  have e : ∀ p, (set5 w g 0 (.int .i64 X.k) (.string X.t) (.int .i64 X.n) X.s (.int .i64 X.a)).frozen? p = w.frozen? p := fun p => set5_frozen
  have hc : Cells5 (set5 w g 0 (.int .i64 X.k) (.string X.t) (.int .i64 X.n) X.s (.int .i64 X.a)) g 0 X := set5_cells h.cells _ _ _ _ _
  exact ⟨⟨h.base, h.apart, fun o => (e ⟨g, o, none⟩).trans (h.thaw o), hc⟩, ((((grownBy_set w ⟨g, 0, none⟩ _).trans (grownBy_set _ ⟨g, 0 + 1, none⟩ _)).trans (grownBy_set _ ⟨g, 0 + 2, none⟩ _)).trans (grownBy_set _ ⟨g, 0 + 3, none⟩ _)).trans (grownBy_set _ ⟨g, 0 + 4, none⟩ _)⟩

/-- The row that is there by now, by what was done. -/
def rowF (i0 i1 i2 s0 s1 s2 : Nat) (l : Nat → Bool) (f : Nat → Value) : Value := if l i2 = true then f s2 else if l i1 = true then f s1 else if l i0 = true then f s0 else .slice none 0 0
theorem fl {b : Bool} (h : b = true → False) : b = false := by cases b with | false => rfl | true => exact (h rfl).elim
theorem no {b : Bool} {p : Prop} (h : b = false) (e : b = true) : p := by rw [h] at e; cases e
abbrev zeroN : NT := .mk 0 ⟨#[]⟩ 0 (.slice none 0 0) 0 (fun _ => .nul) 0
theorem eval_of {a : Act} {k : Nat} {v : Value} (h : a.tmps[k]?.getD undef = v) : a.eval (.tmp k) = v := by rw [← h, Act.eval, Array.getD_eq_getD_getElem?]
theorem flatV_news {W : World} {g off n : Nat} {V : Nat → NT} (h : ∀ i, i < n → Cells5 W g (off + i * 5) (V i)) : ∀ j u, (flatV V n)[j]? = some u → W.cell? ((⟨g, off, none⟩ : Addr).add j) = some u := by
  intro j u hu
  have := stretch (W := W) (kid := V) h 0 n (by omega) j u (by simpa using hu)
  rw [Addr.add_lit]
  simpa using this

structure More (w7 : World) (bx g off n c ii : Nat) (V : Nat → NT) (l : Nat → Bool) (f : Nat → Value) (w : World) : Prop where
  below : Below w7.heap.size w7 w
  o3 : l 3 = true → l 0 = true
  o10 : l 10 = true → l 3 = true
  o11 : l 11 = true → l 10 = true
  o13 : l 13 = true → l 10 = true
  o13' : l 13 = true → l 12 = true
  v81 : l 1 = true → f 81 = .pointer (some ⟨bx, 3, none⟩)
  v82 : l 2 = true → f 82 = .slice (some ⟨g, off, none⟩) n c
  v84 : l 4 = true → f 84 = .pointer (some ⟨bx, 3, none⟩)
  v85 : l 5 = true → f 85 = .slice (some ⟨g, off, none⟩) n c
  v86 : l 6 = true → f 86 = .int .i64 (ii : Int)
  v87 : l 7 = true → f 87 = .pointer (some ⟨g, off + ii * 5, none⟩)
  v88 : l 8 = true → f 88 = .agg #[.int .i64 (V ii).k, .string (V ii).t, .int .i64 (V ii).n, (V ii).s, .int .i64 (V ii).a]
  v91 : l 11 = true → f 91 = .agg #[.int .i64 1, .string ⟨#[]⟩, .int .i64 0, f 90, .int .i64 0]
  row0 : l 3 = false → l 0 = true → w.ownsRow w7.heap.size 24 5 (f 80) 0 []
  row1 : l 10 = false → l 3 = true → w.ownsRow w7.heap.size 24 5 (f 83) n (flatV V n)
  row2 : l 10 = true → w.ownsRow w7.heap.size 24 5 (f 90) (n + 1) (flatV (moreK V n ii) (n + 1))
  v89 : l 9 = true → l 10 = false → ∃ g2, f 89 = .slice (some ⟨g2, 0, none⟩) 1 1 ∧ Own5 w7.heap.size w g2 (rowF 0 3 10 80 83 90 l f).ownBlock (V ii)
  v10 : l 12 = true → ∃ gN, f 10 = .pointer (some ⟨gN, 0, none⟩) ∧ Own5 w7.heap.size w gN (rowF 0 3 10 80 83 90 l f).ownBlock (if l 13 = true then .mk 1 ⟨#[]⟩ 0 (f 90) (n + 1) (moreK V n ii) 0 else zeroN)
theorem More.lt {w7 : World} {bx g off n c ii : Nat} {V : Nat → NT} {l : Nat → Bool} {f : Nat → Value} {w : World} (h : More w7 bx g off n c ii V l f w) : ∀ k, (rowF 0 3 10 80 83 90 l f).ownBlock = some k → k < w.heap.size := by
  intro k hk
  unfold rowF at hk
  cases h10 : l 10 with
  | true => rw [h10, if_pos rfl] at hk; exact ((h.row2 h10).lt k hk).2
  | false =>
    cases h3 : l 3 with
    | true => rw [h10, h3, if_neg (by simp), if_pos rfl] at hk; exact ((h.row1 h10 h3).lt k hk).2
    | false =>
      cases h0 : l 0 with
      | true => rw [h10, h3, h0, if_neg (by simp), if_neg (by simp), if_pos rfl] at hk; exact ((h.row0 h3 h0).lt k hk).2
      | false => rw [h10, h3, h0] at hk; simp [Value.ownBlock] at hk

theorem flatV_more (V : Nat → NT) (n ii : Nat) : flatV (moreK V n ii) (n + 1) = flatV V n ++ flatV (fun _ => V ii) 1 := by
  have h1 : flatV (moreK V n ii) n = flatV V n := by
    unfold flatV
    congr 1
    refine List.map_congr_left fun i hi => ?_
    simp [moreK, List.mem_range.1 hi]
  have h2 : moreK V n ii n = V ii := by simp [moreK]
  rw [flatV_succ, h1, h2]
  rfl

set_option maxRecDepth 20000 in
set_option maxHeartbeats 4000000 in
theorem region17_any {ops : Array Oper} (hops : ops = (#[{ dst := some 80, op := Go.Op.buildSlice 22 0 #[], type := 22, pos := "law.go:158", after := #[], guard := none }, { dst := some 81, op := Go.Op.fieldAddr 24 (Go.Operand.tmp 2) 3, type := 0, pos := "law.go:158", after := #[], guard := none }, { dst := some 82, op := Go.Op.load 22 (Go.Operand.tmp 81), type := 22, pos := "law.go:158", after := #[{ on := 1, ground := Go.Ground.data }], guard := none }, { dst := some 83, op := Go.Op.call { callee := Go.Callee.builtin Go.Builtin.append, args := #[Go.Operand.tmp 80, Go.Operand.tmp 82], argTypes := #[22, 22] }, type := 22, pos := "law.go:158", after := #[{ on := 0, ground := Go.Ground.data }, { on := 2, ground := Go.Ground.data }], guard := none }, { dst := some 84, op := Go.Op.fieldAddr 24 (Go.Operand.tmp 2) 3, type := 0, pos := "law.go:158", after := #[], guard := none }, { dst := some 85, op := Go.Op.load 22 (Go.Operand.tmp 84), type := 22, pos := "law.go:158", after := #[{ on := 4, ground := Go.Ground.data }], guard := none }, { dst := some 86, op := Go.Op.move (Go.Operand.tmp 8), type := 3, pos := "law.go:158", after := #[], guard := none }, { dst := some 87, op := Go.Op.indexAddr 22 (Go.Operand.tmp 85) (Go.Operand.tmp 86), type := 0, pos := "law.go:158", after := #[{ on := 5, ground := Go.Ground.data }, { on := 6, ground := Go.Ground.data }], guard := none }, { dst := some 88, op := Go.Op.load 24 (Go.Operand.tmp 87), type := 24, pos := "law.go:158", after := #[{ on := 7, ground := Go.Ground.data }], guard := none }, { dst := some 89, op := Go.Op.buildSlice 22 1 #[(0, Go.Operand.tmp 88)], type := 22, pos := "law.go:158", after := #[{ on := 8, ground := Go.Ground.data }], guard := none }, { dst := some 90, op := Go.Op.call { callee := Go.Callee.builtin Go.Builtin.append, args := #[Go.Operand.tmp 83, Go.Operand.tmp 89], argTypes := #[22, 22] }, type := 22, pos := "law.go:158", after := #[{ on := 3, ground := Go.Ground.data }, { on := 9, ground := Go.Ground.data }, { on := 3, ground := Go.Ground.chain }], guard := none }, { dst := some 91, op := Go.Op.build 24 #[(0, Go.Operand.const (Go.Value.int Go.IntKind.i64 1)), (3, Go.Operand.tmp 90)], type := 24, pos := "law.go:158", after := #[{ on := 10, ground := Go.Ground.data }], guard := none }, { dst := some 10, op := Go.Op.alloc 24, type := 0, pos := "law.go:158", after := #[], guard := none }, { dst := none, op := Go.Op.store 24 (Go.Operand.tmp 10) (Go.Operand.tmp 91), type := 0, pos := "law.go:158", after := #[{ on := 12, ground := Go.Ground.data }, { on := 11, ground := Go.Ground.data }, { on := 10, ground := Go.Ground.chain }, { on := 0, ground := Go.Ground.phase }, { on := 1, ground := Go.Ground.phase }, { on := 2, ground := Go.Ground.phase }, { on := 3, ground := Go.Ground.phase }, { on := 4, ground := Go.Ground.phase }, { on := 5, ground := Go.Ground.phase }, { on := 6, ground := Go.Ground.phase }, { on := 7, ground := Go.Ground.phase }, { on := 8, ground := Go.Ground.phase }, { on := 9, ground := Go.Ground.phase }, { on := 10, ground := Go.Ground.phase }, { on := 11, ground := Go.Ground.phase }, { on := 12, ground := Go.Ground.phase }], guard := none }])) {Q : Exit → Act → World → Prop} {T : Array Value} {D : List Deferred} (w7 : World) (bx g off n c ii : Nat) (V : Nat → NT) (hks : (([10, 80, 81, 82, 83, 84, 85, 86, 87, 88, 89, 90, 91] : List Nat).all fun k => decide (k < T.size)) = true)
    (hT2 : T.getD 2 undef = .pointer (some ⟨bx, 0, none⟩)) (hT8 : T.getD 8 undef = .int .i64 (ii : Int)) (hbx : w7.cell? ⟨bx, 3, none⟩ = some (.slice (some ⟨g, off, none⟩) n c))
    (hg : g < w7.heap.size) (hC : ∀ i, i < n → Cells5 w7 g (off + i * 5) (V i)) (hL : ∀ i, i < n → Lies w7.heap.size w7 (V i)) (hii : ii < n) (hn : n ≤ 1000000)
    (hend : ∀ (f : Nat → Value) (w' : World) (gN : Nat), f 10 = .pointer (some ⟨gN, 0, none⟩) → w7.heap.size ≤ gN → ProgIn w7 w7.heap.size gN (n + 1) (moreK V n ii) w' → Q .normal ⟨over T [10, 80, 81, 82, 83, 84, 85, 86, 87, 88, 89, 90, 91] f, D⟩ w') :
    (Code.region 17 ops true).wp Try.prog Q ⟨T, D⟩ w7 := by
  subst hops
  obtain ⟨i4, hi4, hz4, hs4, hb4⟩ := info_parts info24
  refine wp_region_over [10, 80, 81, 82, 83, 84, 85, 86, 87, 88, 89, 90, 91] (More w7 bx g off n c ii V) (by kernel_rfl) (by kernel_rfl) (by kernel_rfl) hks ?_ ?_ ?_
  · constructor <;> first | exact (Below.refl _ _).drew | (intro h; cases h; done) | (intro _ h; cases h; done)
  · intro l f w i o ho hl hdep h a ha
    have hi : i < 14 := (Array.getElem?_eq_some_iff.1 ho).1
    have A : ∀ k, k ∈ ([10, 80, 81, 82, 83, 84, 85, 86, 87, 88, 89, 90, 91] : List Nat) → a.tmps[k]?.getD undef = f k := fun k hk => (ha k).trans (if_pos hk)
    have e2 : a.tmps[2]?.getD undef = .pointer (some ⟨bx, 0, none⟩) := (ha 2).trans hT2
    have e8 : a.tmps[8]?.getD undef = .int .i64 (ii : Int) := (ha 8).trans hT8
    have hbx' : w.cell? ⟨bx, 3, none⟩ = some (.slice (some ⟨g, off, none⟩) n c) := (h.below.cell (p := ⟨bx, 3, none⟩) (World.block_lt_of_cell? _ _ hbx)).trans hbx
    have hsz := h.below.size
    have hC' : ∀ i, i < n → Cells5 w g (off + i * 5) (V i) := fun i hi => (hC i hi).below h.below hg
    have HA := hide A
    clear ha A
    obtain rfl | rfl | rfl | rfl | rfl | rfl | rfl | rfl | rfl | rfl | rfl | rfl | rfl | rfl : i = 0 ∨ i = 1 ∨ i = 2 ∨ i = 3 ∨ i = 4 ∨ i = 5 ∨ i = 6 ∨ i = 7 ∨ i = 8 ∨ i = 9 ∨ i = 10 ∨ i = 11 ∨ i = 12 ∨ i = 13 := by omega
    all_goals (simp only [List.getElem?_toArray, List.getElem?_cons_zero, List.getElem?_cons_succ, Option.some.injEq] at ho; subst ho)
    · -- an empty literal
      have h3 : l 3 = false := fl fun e => no hl (h.o3 e)
      have h10 : l 10 = false := fl fun e => no h3 (h.o10 e)
      refine wp_val (v := .slice (some ⟨w.heap.size, 0, none⟩) 0 0) (w' := w.alloc (.cells #[] 24)) (by go_simp) ⟨_, rfl, ?_⟩
      have hR : rowF 0 3 10 80 83 90 (upd l 0 true) (putF f (some 80) (.slice (some ⟨w.heap.size, 0, none⟩) 0 0)) = .slice (some ⟨w.heap.size, 0, none⟩) 0 0 := by simp [rowF, putF, upd, h3, h10]
      refine ⟨h.below.alloc hsz _, fun _ => rfl, h.o10, h.o11, h.o13, h.o13', h.v81, h.v82, h.v84, h.v85, h.v86, h.v87, h.v88, h.v91, fun _ _ => lit0 w hsz, fun _ e => no h3 e, fun e => no h10 e, fun e9 e10 => ?_, fun e12 => ?_⟩
      · obtain ⟨g2, q, O⟩ := h.v89 e9 e10
        rw [hR]
        exact ⟨g2, q, O.alloc _ (.inr rfl)⟩
      · obtain ⟨gN, q, O⟩ := h.v10 e12
        rw [hR]
        exact ⟨gN, q, O.alloc _ (.inr rfl)⟩
    · refine wp_val (v := .pointer (some ⟨bx, 3, none⟩)) (w' := w) (by go_simp) ⟨_, rfl, ?_⟩
      exact ⟨h.below, h.o3, h.o10, h.o11, h.o13, h.o13', fun _ => rfl, h.v82, h.v84, h.v85, h.v86, h.v87, h.v88, h.v91, h.row0, h.row1, h.row2, h.v89, h.v10⟩
    · have e81 := (HA.out 81 (by decide)).trans (h.v81 (hdep ⟨1, .data⟩ (by simp) rfl))
      refine wp_val (v := .slice (some ⟨g, off, none⟩) n c) (w' := w) (by go_simp) ⟨_, rfl, ?_⟩
      exact ⟨h.below, h.o3, h.o10, h.o11, h.o13, h.o13', h.v81, fun _ => rfl, h.v84, h.v85, h.v86, h.v87, h.v88, h.v91, h.row0, h.row1, h.row2, h.v89, h.v10⟩
    · -- all items
      have d0 : l 0 = true := hdep ⟨0, .data⟩ (by simp) rfl
      have h10 : l 10 = false := fl fun e => no hl (h.o10 e)
      have hrow := h.row0 hl d0
      refine wp_append_at (.tmp 80) (.tmp 82) 22 rfl w7.heap.size 24 i4 _ 5 64 Try.underlying22 hi4 hz4 hs4 hb4 rfl (by decide) (f 80) 0 [] (eval_of (HA.out 80 (by decide))) hrow ⟨g, off, none⟩ n c (flatV V n) (eval_of ((HA.out 82 (by decide)).trans (h.v82 (hdep ⟨2, .data⟩ (by simp) rfl)))) (flatV_len _ _) (flatV_news hC') (flatV_one V n hL) (Nat.le_trans (by omega) (show 1000000 ≤ maxLen by decide)) (by omega) hsz ?_
      intro v' w' hown hgrow hblk
      have hR0 : rowF 0 3 10 80 83 90 l f = f 80 := by simp [rowF, hl, d0, h10]
      have hR : rowF 0 3 10 80 83 90 (upd l 3 true) (putF f (some 83) v') = v' := by simp [rowF, putF, upd, h10]
      refine ⟨v', rfl, h.below.grown hgrow hsz (fun k e => (hrow.lt k e).1), fun _ => d0, fun e => no h10 e, h.o11, h.o13, h.o13', h.v81, h.v82, h.v84, h.v85, h.v86, h.v87, h.v88, h.v91, fun e => absurd e (by simp [upd]), fun _ _ => ?_, fun e => no h10 e, fun e9 e10 => ?_, fun e12 => ?_⟩
      · have := hown
        rw [Nat.zero_add, List.nil_append] at this
        exact this
      · obtain ⟨g2, q, O⟩ := h.v89 e9 e10
        rw [hR0] at O
        rw [hR]
        exact ⟨g2, q, O.grown hgrow hblk⟩
      · obtain ⟨gN, q, O⟩ := h.v10 e12
        rw [hR0] at O
        rw [hR]
        exact ⟨gN, q, O.grown hgrow hblk⟩
    · refine wp_val (v := .pointer (some ⟨bx, 3, none⟩)) (w' := w) (by go_simp) ⟨_, rfl, ?_⟩
      exact ⟨h.below, h.o3, h.o10, h.o11, h.o13, h.o13', h.v81, h.v82, fun _ => rfl, h.v85, h.v86, h.v87, h.v88, h.v91, h.row0, h.row1, h.row2, h.v89, h.v10⟩
    · have e84 := (HA.out 84 (by decide)).trans (h.v84 (hdep ⟨4, .data⟩ (by simp) rfl))
      refine wp_val (v := .slice (some ⟨g, off, none⟩) n c) (w' := w) (by go_simp) ⟨_, rfl, ?_⟩
      exact ⟨h.below, h.o3, h.o10, h.o11, h.o13, h.o13', h.v81, h.v82, h.v84, fun _ => rfl, h.v86, h.v87, h.v88, h.v91, h.row0, h.row1, h.row2, h.v89, h.v10⟩
    · refine wp_val (v := .int .i64 (ii : Int)) (w' := w) (by go_simp) ⟨_, rfl, ?_⟩
      exact ⟨h.below, h.o3, h.o10, h.o11, h.o13, h.o13', h.v81, h.v82, h.v84, h.v85, fun _ => rfl, h.v87, h.v88, h.v91, h.row0, h.row1, h.row2, h.v89, h.v10⟩
    · have e85 := (HA.out 85 (by decide)).trans (h.v85 (hdep ⟨5, .data⟩ (by simp) rfl))
      have e86 := (HA.out 86 (by decide)).trans (h.v86 (hdep ⟨6, .data⟩ (by simp) rfl))
      have hii' : (ii : Int) < (n : Int) := by omega
      refine wp_val (v := .pointer (some ⟨g, off + ii * 5, none⟩)) (w' := w) (by go_simp) ⟨_, rfl, ?_⟩
      exact ⟨h.below, h.o3, h.o10, h.o11, h.o13, h.o13', h.v81, h.v82, h.v84, h.v85, h.v86, fun _ => rfl, h.v88, h.v91, h.row0, h.row1, h.row2, h.v89, h.v10⟩
    · have e87 := (HA.out 87 (by decide)).trans (h.v87 (hdep ⟨7, .data⟩ (by simp) rfl))
      obtain ⟨c0, c1, c2, c3, c4⟩ := hC' ii hii
      refine wp_val (v := .agg #[.int .i64 (V ii).k, .string (V ii).t, .int .i64 (V ii).n, (V ii).s, .int .i64 (V ii).a]) (w' := w) (by go_simp) ⟨_, rfl, ?_⟩
      exact ⟨h.below, h.o3, h.o10, h.o11, h.o13, h.o13', h.v81, h.v82, h.v84, h.v85, h.v86, h.v87, fun _ => rfl, h.v91, h.row0, h.row1, h.row2, h.v89, h.v10⟩
    · -- one item more
      have e88 := (HA.out 88 (by decide)).trans (h.v88 (hdep ⟨8, .data⟩ (by simp) rfl))
      obtain ⟨pk, ck, hk, _⟩ := (hL ii hii).eq
      have hlt := h.lt
      rw [hk] at e88
      refine wp_val (v := .slice (some ⟨w.heap.size, 0, none⟩) 1 1) (w' := w.alloc (.cells #[.int .i64 (V ii).k, .string (V ii).t, .int .i64 (V ii).n, .slice pk (V ii).len ck, .int .i64 (V ii).a] 24)) (by go_simp) ⟨_, rfl, ?_⟩
      rw [← hk]
      have hR : rowF 0 3 10 80 83 90 (upd l 9 true) (putF f (some 89) (.slice (some ⟨w.heap.size, 0, none⟩) 1 1)) = rowF 0 3 10 80 83 90 l f := by simp [rowF, putF, upd]
      refine ⟨h.below.alloc hsz _, h.o3, h.o10, h.o11, h.o13, h.o13', h.v81, h.v82, h.v84, h.v85, h.v86, h.v87, h.v88, h.v91, fun e3 e0 => (h.row0 e3 e0).alloc _, fun e10 e3 => (h.row1 e10 e3).alloc _, fun e10 => (h.row2 e10).alloc _, fun _ _ => ?_, fun e12 => ?_⟩
      · rw [hR]
        exact ⟨w.heap.size, rfl, Own5.new hsz hlt (V ii)⟩
      · obtain ⟨gN, q, O⟩ := h.v10 e12
        rw [hR]
        exact ⟨gN, q, O.alloc _ (.inl rfl)⟩
    · -- .. behind all
      have d3 : l 3 = true := hdep ⟨3, .data⟩ (by simp) rfl
      have d9 : l 9 = true := hdep ⟨9, .data⟩ (by simp) rfl
      have h13 : l 13 = false := fl fun e => no hl (h.o13 e)
      have hrow := h.row1 hl d3
      obtain ⟨g2, q2, O2⟩ := h.v89 d9 hl
      refine wp_append_at (.tmp 83) (.tmp 89) 22 rfl w7.heap.size 24 i4 _ 5 64 Try.underlying22 hi4 hz4 hs4 hb4 rfl (by decide) (f 83) n (flatV V n) (eval_of (HA.out 83 (by decide))) hrow ⟨g2, 0, none⟩ 1 1 (flatV (fun _ => V ii) 1) (eval_of ((HA.out 89 (by decide)).trans q2)) (flatV_len _ _)
        (flatV_news fun i hi => by obtain rfl : i = 0 := by omega
                                   exact O2.cells) (flatV_one (fun _ => V ii) 1 fun _ _ => hL ii hii) (Nat.le_trans (show n + 1 ≤ 1000001 by omega) (show 1000001 ≤ maxLen by decide)) (by omega) hsz ?_
      intro v' w' hown hgrow hblk
      have hR0 : rowF 0 3 10 80 83 90 l f = f 83 := by simp [rowF, hl, d3]
      have hR : rowF 0 3 10 80 83 90 (upd l 10 true) (putF f (some 90) v') = v' := by simp [rowF, putF, upd]
      rw [← flatV_more] at hown
      refine ⟨v', rfl, h.below.grown hgrow hsz (fun k e => (hrow.lt k e).1), h.o3, fun _ => d3, fun _ => rfl, fun _ => rfl, h.o13', h.v81, h.v82, h.v84, h.v85, h.v86, h.v87, h.v88, fun e => ?_, fun e => no e d3, fun e => absurd e (by simp [upd]), fun _ => hown, fun _ e => absurd e (by simp [upd]), fun e12 => ?_⟩
      · have h11 : l 11 = true := e
        exact no (fl fun _ => no hl (h.o11 h11)) h11
      · obtain ⟨gN, q, O⟩ := h.v10 e12
        rw [hR0, if_neg (by rw [h13]; simp)] at O
        rw [hR, show upd l 10 true 13 = false from h13]
        exact ⟨gN, q, O.grown hgrow hblk⟩
    · have d10 : l 10 = true := hdep ⟨10, .data⟩ (by simp) rfl
      have e90 := HA.out 90 (by decide)
      obtain ⟨p9, c9, q9, _⟩ := row_shape (h.row2 d10)
      rw [q9] at e90
      refine wp_val (v := .agg #[.int .i64 1, .string ⟨#[]⟩, .int .i64 0, f 90, .int .i64 0]) (w' := w) (by rw [q9]; go_simp) ⟨_, rfl, ?_⟩
      exact ⟨h.below, h.o3, h.o10, fun _ => d10, h.o13, h.o13', h.v81, h.v82, h.v84, h.v85, h.v86, h.v87, h.v88, fun _ => rfl, h.row0, h.row1, h.row2, h.v89, h.v10⟩
    · -- the box
      have h13 : l 13 = false := fl fun e => no hl (h.o13' e)
      have hlt := h.lt
      refine wp_val (v := .pointer (some ⟨w.heap.size, 0, none⟩)) (w' := w.alloc (.cells #[.int .i64 0, .string ⟨#[]⟩, .int .i64 0, .slice none 0 0, .int .i64 0] 24)) (by go_simp) ⟨_, rfl, ?_⟩
      have hR : rowF 0 3 10 80 83 90 (upd l 12 true) (putF f (some 10) (.pointer (some ⟨w.heap.size, 0, none⟩))) = rowF 0 3 10 80 83 90 l f := by simp [rowF, putF, upd]
      refine ⟨h.below.alloc hsz _, h.o3, h.o10, h.o11, h.o13, fun _ => rfl, h.v81, h.v82, h.v84, h.v85, h.v86, h.v87, h.v88, h.v91, fun e3 e0 => (h.row0 e3 e0).alloc _, fun e10 e3 => (h.row1 e10 e3).alloc _, fun e10 => (h.row2 e10).alloc _, fun e9 e10 => ?_, fun _ => ?_⟩
      · obtain ⟨g2, q, O⟩ := h.v89 e9 e10
        rw [hR]
        exact ⟨g2, q, O.alloc _ (.inl rfl)⟩
      · rw [hR, show upd l 12 true 13 = false from h13]
        exact ⟨w.heap.size, rfl, Own5.new hsz hlt zeroN⟩
    · -- the program into it
      have d10 : l 10 = true := hdep ⟨10, .chain⟩ (by simp) rfl
      have d11 : l 11 = true := hdep ⟨11, .data⟩ (by simp) rfl
      have d12 : l 12 = true := hdep ⟨12, .data⟩ (by simp) rfl
      obtain ⟨gN, q, O⟩ := h.v10 d12
      have hR0 : rowF 0 3 10 80 83 90 l f = f 90 := by simp [rowF, d10]
      rw [hR0, if_neg (by rw [hl]; simp)] at O
      have e10 := (HA.out 10 (by decide)).trans q
      have e91 := (HA.out 91 (by decide)).trans (h.v91 d11)
      obtain ⟨O', G'⟩ := O.stored (.mk 1 ⟨#[]⟩ 0 (f 90) (n + 1) (moreK V n ii) 0)
      obtain ⟨p9, c9, q9, _⟩ := row_shape (h.row2 d10)
      obtain ⟨z0, z1, z2, z3, z4⟩ := O.cells
      have t0 := O.thaw 0
      have t1 := O.thaw 1
      have t2 := O.thaw 2
      have t3 := O.thaw 3
      have t4 := O.thaw 4
      simp only [NT.k, NT.t, NT.n, NT.s, NT.a, q9] at O' G'
      rw [q9] at e91
      refine wp_skip (w' := set5 w gN 0 (.int .i64 1) (.string ⟨#[]⟩) (.int .i64 0) (.slice p9 (n + 1) c9) (.int .i64 0)) (by simp only [NT.k, NT.t, NT.n, NT.s, NT.a] at z0 z1 z2 z3 z4; go_simp) ⟨_, rfl, ?_⟩
      have hap : (f 90).ownBlock = none ∨ (f 90).ownBlock ≠ some gN := .inr fun e => O.apart e.symm
      refine ⟨h.below.grown G' hsz (fun k e => by cases e; exact O.base), h.o3, h.o10, h.o11, fun _ => d10, fun _ => d12, h.v81, h.v82, h.v84, h.v85, h.v86, h.v87, h.v88, h.v91, fun e => no (fl fun _ => no e (h.o10 d10)) (h.o10 d10), fun e => no e d10, fun _ => (h.row2 d10).kept G' hap, fun _ e => no e d10, fun _ => ⟨gN, q, ?_⟩⟩
      show Own5 _ _ gN (rowF 0 3 10 80 83 90 l f).ownBlock (.mk 1 ⟨#[]⟩ 0 (f 90) (n + 1) (moreK V n ii) 0)
      rw [hR0, q9]
      exact O'
  · intro l f w hall h
    have d10 : l 10 = true := hall 10 (by simp)
    obtain ⟨gN, q, O⟩ := h.v10 (hall 12 (by simp))
    rw [if_pos (hall 13 (by simp))] at O
    obtain ⟨p9, c9, q9, _⟩ := row_shape (h.row2 d10)
    have hrow := h.row2 d10
    rw [q9] at O hrow
    exact hend f w gN q O.base ⟨h.below, p9, c9, O.cells, hrow⟩

structure Less (w7 : World) (bx g off n c ii : Nat) (V : Nat → NT) (l : Nat → Bool) (f : Nat → Value) (w : World) : Prop where
  below : Below w7.heap.size w7 w
  o5 : l 5 = true → l 0 = true
  o11 : l 11 = true → l 5 = true
  o12 : l 12 = true → l 11 = true
  o14 : l 14 = true → l 11 = true
  o14' : l 14 = true → l 13 = true
  v68 : l 1 = true → f 68 = .pointer (some ⟨bx, 3, none⟩)
  v69 : l 2 = true → f 69 = .slice (some ⟨g, off, none⟩) n c
  v70 : l 3 = true → f 70 = .int .i64 (ii : Int)
  v71 : l 4 = true → f 71 = .slice (some ⟨g, off, none⟩) ii c
  v73 : l 6 = true → f 73 = .pointer (some ⟨bx, 3, none⟩)
  v74 : l 7 = true → f 74 = .slice (some ⟨g, off, none⟩) n c
  v75 : l 8 = true → f 75 = .int .i64 (ii : Int)
  v76 : l 9 = true → f 76 = .int .i64 ((ii + 1 : Nat) : Int)
  v77 : l 10 = true → ∃ o, f 77 = .slice (some ⟨g, o, none⟩) (n - (ii + 1)) (c - (ii + 1)) ∧ (ii + 1 < n → o = off + (ii + 1) * 5)
  v79 : l 12 = true → f 79 = .agg #[.int .i64 1, .string ⟨#[]⟩, .int .i64 0, f 78, .int .i64 0]
  row0 : l 5 = false → l 0 = true → w.ownsRow w7.heap.size 24 5 (f 67) 0 []
  row1 : l 11 = false → l 5 = true → w.ownsRow w7.heap.size 24 5 (f 72) ii (flatV V ii)
  row2 : l 11 = true → w.ownsRow w7.heap.size 24 5 (f 78) (n - 1) (flatV (lessK V ii) (n - 1))
  v9 : l 13 = true → ∃ gN, f 9 = .pointer (some ⟨gN, 0, none⟩) ∧ Own5 w7.heap.size w gN (rowF 0 5 11 67 72 78 l f).ownBlock (if l 14 = true then .mk 1 ⟨#[]⟩ 0 (f 78) (n - 1) (lessK V ii) 0 else zeroN)
theorem Less.lt {w7 : World} {bx g off n c ii : Nat} {V : Nat → NT} {l : Nat → Bool} {f : Nat → Value} {w : World} (h : Less w7 bx g off n c ii V l f w) : ∀ k, (rowF 0 5 11 67 72 78 l f).ownBlock = some k → k < w.heap.size := by
  intro k hk
  unfold rowF at hk
  cases h11 : l 11 with
  | true => rw [h11, if_pos rfl] at hk; exact ((h.row2 h11).lt k hk).2
  | false =>
    cases h5 : l 5 with
    | true => rw [h11, h5, if_neg (by simp), if_pos rfl] at hk; exact ((h.row1 h11 h5).lt k hk).2
    | false =>
      cases h0 : l 0 with
      | true => rw [h11, h5, h0, if_neg (by simp), if_neg (by simp), if_pos rfl] at hk; exact ((h.row0 h5 h0).lt k hk).2
      | false => rw [h11, h5, h0] at hk; simp [Value.ownBlock] at hk

theorem flatV_cong2 (U V : Nat → NT) {n : Nat} (h : ∀ i, i < n → U i = V i) : flatV U n = flatV V n := by
  unfold flatV
  congr 1
  exact List.map_congr_left fun i hi => h i (List.mem_range.1 hi)
theorem flatV_less (V : Nat → NT) (n ii : Nat) (h : ii < n) : flatV (lessK V ii) (n - 1) = flatV V ii ++ flatV (fun j => V (ii + 1 + j)) (n - (ii + 1)) := by
  have e := flatV_add (lessK V ii) ii (n - (ii + 1))
  rw [show ii + (n - (ii + 1)) = n - 1 by omega] at e
  rw [e, flatV_cong2 (lessK V ii) V (fun i hi => by simp [lessK, hi]), flatV_cong2 (fun i => lessK V ii (ii + i)) (fun j => V (ii + 1 + j)) (fun i _ => by simp only [lessK]; rw [if_neg (by omega), show ii + i + 1 = ii + 1 + i by omega])]

set_option maxRecDepth 20000 in
set_option maxHeartbeats 4000000 in
theorem region16_any {ops : Array Oper} (hops : ops = (#[{ dst := some 67, op := Go.Op.buildSlice 22 0 #[], type := 22, pos := "law.go:157", after := #[], guard := none }, { dst := some 68, op := Go.Op.fieldAddr 24 (Go.Operand.tmp 2) 3, type := 0, pos := "law.go:157", after := #[], guard := none }, { dst := some 69, op := Go.Op.load 22 (Go.Operand.tmp 68), type := 22, pos := "law.go:157", after := #[{ on := 1, ground := Go.Ground.data }], guard := none }, { dst := some 70, op := Go.Op.move (Go.Operand.tmp 8), type := 3, pos := "law.go:157", after := #[], guard := none }, { dst := some 71, op := Go.Op.slice 22 (Go.Operand.tmp 69) none (some (Go.Operand.tmp 70)) none, type := 22, pos := "law.go:157", after := #[{ on := 2, ground := Go.Ground.data }, { on := 3, ground := Go.Ground.data }], guard := none }, { dst := some 72, op := Go.Op.call { callee := Go.Callee.builtin Go.Builtin.append, args := #[Go.Operand.tmp 67, Go.Operand.tmp 71], argTypes := #[22, 22] }, type := 22, pos := "law.go:157", after := #[{ on := 0, ground := Go.Ground.data }, { on := 4, ground := Go.Ground.data }], guard := none }, { dst := some 73, op := Go.Op.fieldAddr 24 (Go.Operand.tmp 2) 3, type := 0, pos := "law.go:157", after := #[], guard := none }, { dst := some 74, op := Go.Op.load 22 (Go.Operand.tmp 73), type := 22, pos := "law.go:157", after := #[{ on := 6, ground := Go.Ground.data }], guard := none }, { dst := some 75, op := Go.Op.move (Go.Operand.tmp 8), type := 3, pos := "law.go:157", after := #[], guard := none }, { dst := some 76, op := Go.Op.binOp Go.BinOp.add 3 (Go.Operand.tmp 75) (Go.Operand.const (Go.Value.int Go.IntKind.i64 1)) 3, type := 3, pos := "law.go:157", after := #[{ on := 8, ground := Go.Ground.data }], guard := none }, { dst := some 77, op := Go.Op.slice 22 (Go.Operand.tmp 74) (some (Go.Operand.tmp 76)) none none, type := 22, pos := "law.go:157", after := #[{ on := 7, ground := Go.Ground.data }, { on := 9, ground := Go.Ground.data }], guard := none }, { dst := some 78, op := Go.Op.call { callee := Go.Callee.builtin Go.Builtin.append, args := #[Go.Operand.tmp 72, Go.Operand.tmp 77], argTypes := #[22, 22] }, type := 22, pos := "law.go:157", after := #[{ on := 5, ground := Go.Ground.data }, { on := 10, ground := Go.Ground.data }, { on := 5, ground := Go.Ground.chain }], guard := none }, { dst := some 79, op := Go.Op.build 24 #[(0, Go.Operand.const (Go.Value.int Go.IntKind.i64 1)), (3, Go.Operand.tmp 78)], type := 24, pos := "law.go:157", after := #[{ on := 11, ground := Go.Ground.data }], guard := none }, { dst := some 9, op := Go.Op.alloc 24, type := 0, pos := "law.go:157", after := #[], guard := none }, { dst := none, op := Go.Op.store 24 (Go.Operand.tmp 9) (Go.Operand.tmp 79), type := 0, pos := "law.go:157", after := #[{ on := 13, ground := Go.Ground.data }, { on := 12, ground := Go.Ground.data }, { on := 11, ground := Go.Ground.chain }, { on := 0, ground := Go.Ground.phase }, { on := 1, ground := Go.Ground.phase }, { on := 2, ground := Go.Ground.phase }, { on := 3, ground := Go.Ground.phase }, { on := 4, ground := Go.Ground.phase }, { on := 5, ground := Go.Ground.phase }, { on := 6, ground := Go.Ground.phase }, { on := 7, ground := Go.Ground.phase }, { on := 8, ground := Go.Ground.phase }, { on := 9, ground := Go.Ground.phase }, { on := 10, ground := Go.Ground.phase }, { on := 11, ground := Go.Ground.phase }, { on := 12, ground := Go.Ground.phase }, { on := 13, ground := Go.Ground.phase }], guard := none }])) {Q : Exit → Act → World → Prop} {T : Array Value} {D : List Deferred} (w7 : World) (bx g off n c ii : Nat) (V : Nat → NT) (hks : (([9, 67, 68, 69, 70, 71, 72, 73, 74, 75, 76, 77, 78, 79] : List Nat).all fun k => decide (k < T.size)) = true)
    (hT2 : T.getD 2 undef = .pointer (some ⟨bx, 0, none⟩)) (hT8 : T.getD 8 undef = .int .i64 (ii : Int)) (hbx : w7.cell? ⟨bx, 3, none⟩ = some (.slice (some ⟨g, off, none⟩) n c))
    (hg : g < w7.heap.size) (hC : ∀ i, i < n → Cells5 w7 g (off + i * 5) (V i)) (hL : ∀ i, i < n → Lies w7.heap.size w7 (V i)) (hii : ii < n) (hn : n ≤ 1000000) (hnc : n ≤ c)
    (hend : ∀ (f : Nat → Value) (w' : World) (gN : Nat), f 9 = .pointer (some ⟨gN, 0, none⟩) → w7.heap.size ≤ gN → ProgIn w7 w7.heap.size gN (n - 1) (lessK V ii) w' → Q .normal ⟨over T [9, 67, 68, 69, 70, 71, 72, 73, 74, 75, 76, 77, 78, 79] f, D⟩ w') :
    (Code.region 16 ops true).wp Try.prog Q ⟨T, D⟩ w7 := by
  subst hops
  obtain ⟨i4, hi4, hz4, hs4, hb4⟩ := info_parts info24
  refine wp_region_over [9, 67, 68, 69, 70, 71, 72, 73, 74, 75, 76, 77, 78, 79] (Less w7 bx g off n c ii V) (by kernel_rfl) (by kernel_rfl) (by kernel_rfl) hks ?_ ?_ ?_
  · constructor <;> first | exact (Below.refl _ _).drew | (intro h; cases h; done) | (intro _ h; cases h; done)
  · intro l f w i o ho hl hdep h a ha
    have hi : i < 15 := (Array.getElem?_eq_some_iff.1 ho).1
    have A : ∀ k, k ∈ ([9, 67, 68, 69, 70, 71, 72, 73, 74, 75, 76, 77, 78, 79] : List Nat) → a.tmps[k]?.getD undef = f k := fun k hk => (ha k).trans (if_pos hk)
    have e2 : a.tmps[2]?.getD undef = .pointer (some ⟨bx, 0, none⟩) := (ha 2).trans hT2
    have e8 : a.tmps[8]?.getD undef = .int .i64 (ii : Int) := (ha 8).trans hT8
    have hbx' : w.cell? ⟨bx, 3, none⟩ = some (.slice (some ⟨g, off, none⟩) n c) := (h.below.cell (p := ⟨bx, 3, none⟩) (World.block_lt_of_cell? _ _ hbx)).trans hbx
    have hsz := h.below.size
    have hC' : ∀ i, i < n → Cells5 w g (off + i * 5) (V i) := fun i hi => (hC i hi).below h.below hg
    have HA := hide A
    clear ha A
    obtain rfl | rfl | rfl | rfl | rfl | rfl | rfl | rfl | rfl | rfl | rfl | rfl | rfl | rfl | rfl : i = 0 ∨ i = 1 ∨ i = 2 ∨ i = 3 ∨ i = 4 ∨ i = 5 ∨ i = 6 ∨ i = 7 ∨ i = 8 ∨ i = 9 ∨ i = 10 ∨ i = 11 ∨ i = 12 ∨ i = 13 ∨ i = 14 := by omega
    all_goals (simp only [List.getElem?_toArray, List.getElem?_cons_zero, List.getElem?_cons_succ, Option.some.injEq] at ho; subst ho)
    · -- an empty literal
      have h5 : l 5 = false := fl fun e => no hl (h.o5 e)
      have h11 : l 11 = false := fl fun e => no h5 (h.o11 e)
      refine wp_val (v := .slice (some ⟨w.heap.size, 0, none⟩) 0 0) (w' := w.alloc (.cells #[] 24)) (by go_simp) ⟨_, rfl, ?_⟩
      have hR : rowF 0 5 11 67 72 78 (upd l 0 true) (putF f (some 67) (.slice (some ⟨w.heap.size, 0, none⟩) 0 0)) = .slice (some ⟨w.heap.size, 0, none⟩) 0 0 := by simp [rowF, putF, upd, h5, h11]
      refine ⟨h.below.alloc hsz _, fun _ => rfl, h.o11, h.o12, h.o14, h.o14', h.v68, h.v69, h.v70, h.v71, h.v73, h.v74, h.v75, h.v76, h.v77, h.v79, fun _ _ => lit0 w hsz, fun _ e => no h5 e, fun e => no h11 e, fun e12 => ?_⟩
      obtain ⟨gN, q, O⟩ := h.v9 e12
      rw [hR]
      exact ⟨gN, q, O.alloc _ (.inr rfl)⟩
    · refine wp_val (v := .pointer (some ⟨bx, 3, none⟩)) (w' := w) (by go_simp) ⟨_, rfl, ?_⟩
      exact ⟨h.below, h.o5, h.o11, h.o12, h.o14, h.o14', fun _ => rfl, h.v69, h.v70, h.v71, h.v73, h.v74, h.v75, h.v76, h.v77, h.v79, h.row0, h.row1, h.row2, h.v9⟩
    · have e68 := (HA.out 68 (by decide)).trans (h.v68 (hdep ⟨1, .data⟩ (by simp) rfl))
      refine wp_val (v := .slice (some ⟨g, off, none⟩) n c) (w' := w) (by go_simp) ⟨_, rfl, ?_⟩
      exact ⟨h.below, h.o5, h.o11, h.o12, h.o14, h.o14', h.v68, fun _ => rfl, h.v70, h.v71, h.v73, h.v74, h.v75, h.v76, h.v77, h.v79, h.row0, h.row1, h.row2, h.v9⟩
    · refine wp_val (v := .int .i64 (ii : Int)) (w' := w) (by go_simp) ⟨_, rfl, ?_⟩
      exact ⟨h.below, h.o5, h.o11, h.o12, h.o14, h.o14', h.v68, h.v69, fun _ => rfl, h.v71, h.v73, h.v74, h.v75, h.v76, h.v77, h.v79, h.row0, h.row1, h.row2, h.v9⟩
    · -- the items ahead
      have e69 := (HA.out 69 (by decide)).trans (h.v69 (hdep ⟨2, .data⟩ (by simp) rfl))
      have e70 := (HA.out 70 (by decide)).trans (h.v70 (hdep ⟨3, .data⟩ (by simp) rfl))
      have k1 : (0 : Int) ≤ (ii : Int) := by omega
      have k2 : (ii : Int) ≤ (c : Int) := by omega
      refine wp_val (v := .slice (some ⟨g, off, none⟩) ii c) (w' := w) (by go_simp) ⟨_, rfl, ?_⟩
      exact ⟨h.below, h.o5, h.o11, h.o12, h.o14, h.o14', h.v68, h.v69, h.v70, fun _ => rfl, h.v73, h.v74, h.v75, h.v76, h.v77, h.v79, h.row0, h.row1, h.row2, h.v9⟩
    · -- .. put into a row
      have d0 : l 0 = true := hdep ⟨0, .data⟩ (by simp) rfl
      have h11 : l 11 = false := fl fun e => no hl (h.o11 e)
      have hrow := h.row0 hl d0
      refine wp_append_at (.tmp 67) (.tmp 71) 22 rfl w7.heap.size 24 i4 _ 5 64 Try.underlying22 hi4 hz4 hs4 hb4 rfl (by decide) (f 67) 0 [] (eval_of (HA.out 67 (by decide))) hrow ⟨g, off, none⟩ ii c (flatV V ii) (eval_of ((HA.out 71 (by decide)).trans (h.v71 (hdep ⟨4, .data⟩ (by simp) rfl)))) (flatV_len _ _) (flatV_news fun i hi => hC' i (by omega)) (flatV_one V ii fun i hi => hL i (by omega)) (Nat.le_trans (by omega) (show 1000000 ≤ maxLen by decide)) (by omega) hsz ?_
      intro v' w' hown hgrow hblk
      have hR0 : rowF 0 5 11 67 72 78 l f = f 67 := by simp [rowF, hl, d0, h11]
      have hR : rowF 0 5 11 67 72 78 (upd l 5 true) (putF f (some 72) v') = v' := by simp [rowF, putF, upd, h11]
      refine ⟨v', rfl, h.below.grown hgrow hsz (fun k e => (hrow.lt k e).1), fun _ => d0, fun e => no h11 e, h.o12, h.o14, h.o14', h.v68, h.v69, h.v70, h.v71, h.v73, h.v74, h.v75, h.v76, h.v77, h.v79, fun e => absurd e (by simp [upd]), fun _ _ => ?_, fun e => no h11 e, fun e12 => ?_⟩
      · have := hown
        rw [Nat.zero_add, List.nil_append] at this
        exact this
      · obtain ⟨gN, q, O⟩ := h.v9 e12
        rw [hR0] at O
        rw [hR]
        exact ⟨gN, q, O.grown hgrow hblk⟩
    · refine wp_val (v := .pointer (some ⟨bx, 3, none⟩)) (w' := w) (by go_simp) ⟨_, rfl, ?_⟩
      exact ⟨h.below, h.o5, h.o11, h.o12, h.o14, h.o14', h.v68, h.v69, h.v70, h.v71, fun _ => rfl, h.v74, h.v75, h.v76, h.v77, h.v79, h.row0, h.row1, h.row2, h.v9⟩
    · have e73 := (HA.out 73 (by decide)).trans (h.v73 (hdep ⟨6, .data⟩ (by simp) rfl))
      refine wp_val (v := .slice (some ⟨g, off, none⟩) n c) (w' := w) (by go_simp) ⟨_, rfl, ?_⟩
      exact ⟨h.below, h.o5, h.o11, h.o12, h.o14, h.o14', h.v68, h.v69, h.v70, h.v71, h.v73, fun _ => rfl, h.v75, h.v76, h.v77, h.v79, h.row0, h.row1, h.row2, h.v9⟩
    · refine wp_val (v := .int .i64 (ii : Int)) (w' := w) (by go_simp) ⟨_, rfl, ?_⟩
      exact ⟨h.below, h.o5, h.o11, h.o12, h.o14, h.o14', h.v68, h.v69, h.v70, h.v71, h.v73, h.v74, fun _ => rfl, h.v76, h.v77, h.v79, h.row0, h.row1, h.row2, h.v9⟩
    · have e75 := (HA.out 75 (by decide)).trans (h.v75 (hdep ⟨8, .data⟩ (by simp) rfl))
      have k1 : (ii : Int) ≤ 1000000 := by omega
      have k2 : (0 : Int) ≤ (ii : Int) := by omega
      have kw : IntKind.i64.wrap ((ii : Int) + 1) = (ii : Int) + 1 := IntWalk.i64_in _ (by omega)
      refine wp_val (v := .int .i64 ((ii + 1 : Nat) : Int)) (w' := w) (by go_simp) ⟨_, rfl, ?_⟩
      exact ⟨h.below, h.o5, h.o11, h.o12, h.o14, h.o14', h.v68, h.v69, h.v70, h.v71, h.v73, h.v74, h.v75, fun _ => rfl, h.v77, h.v79, h.row0, h.row1, h.row2, h.v9⟩
    · -- the items behind
      have e74 := (HA.out 74 (by decide)).trans (h.v74 (hdep ⟨7, .data⟩ (by simp) rfl))
      have e76 := (HA.out 76 (by decide)).trans (h.v76 (hdep ⟨9, .data⟩ (by simp) rfl))
      obtain ⟨jj, hjj⟩ : ∃ jj, jj = ii + 1 := ⟨_, rfl⟩
      rw [← hjj] at e76
      have k1 : (0 : Int) ≤ (jj : Int) := by omega
      have k2 : (jj : Int) ≤ (n : Int) := by omega
      have k3 : (n : Int) ≤ (c : Int) := by omega
      have HJ := hide hjj
      have HC := hide hC'
      clear hjj hC'
      by_cases hcj : c = jj
      · subst hcj
        refine wp_val (v := .slice (some ⟨g, off, none⟩) (n - c) (c - c)) (w' := w) (by go_simp) ⟨_, rfl, ?_⟩
        have hz : n = c := by omega
        exact ⟨h.below, h.o5, h.o11, h.o12, h.o14, h.o14', h.v68, h.v69, h.v70, h.v71, h.v73, h.v74, h.v75, h.v76, fun _ => ⟨off, by rw [← HJ.out]; rfl, fun e => by have := HJ.out; omega⟩, h.v79, h.row0, h.row1, h.row2, h.v9⟩
      · refine wp_val (v := .slice (some ⟨g, off + jj * 5, none⟩) (n - jj) (c - jj)) (w' := w) (by go_simp) ⟨_, rfl, ?_⟩
        rw [HJ.out]
        exact ⟨h.below, h.o5, h.o11, h.o12, h.o14, h.o14', h.v68, h.v69, h.v70, h.v71, h.v73, h.v74, h.v75, h.v76, fun _ => ⟨_, rfl, fun _ => rfl⟩, h.v79, h.row0, h.row1, h.row2, h.v9⟩
    · -- .. behind those
      have d5 : l 5 = true := hdep ⟨5, .data⟩ (by simp) rfl
      have h12 : l 12 = false := fl fun e => no hl (h.o12 e)
      have h14 : l 14 = false := fl fun e => no hl (h.o14 e)
      have hrow := h.row1 hl d5
      obtain ⟨o, q, ho⟩ := h.v77 (hdep ⟨10, .data⟩ (by simp) rfl)
      refine wp_append_at (.tmp 72) (.tmp 77) 22 rfl w7.heap.size 24 i4 _ 5 64 Try.underlying22 hi4 hz4 hs4 hb4 rfl (by decide) (f 72) ii (flatV V ii) (eval_of (HA.out 72 (by decide))) hrow ⟨g, o, none⟩ (n - (ii + 1)) (c - (ii + 1)) (flatV (fun j => V (ii + 1 + j)) (n - (ii + 1))) (eval_of ((HA.out 77 (by decide)).trans q)) (flatV_len _ _)
        (flatV_news fun i hi => by rw [ho (by omega), Nat.add_assoc, ← Nat.add_mul]
                                   exact hC' (ii + 1 + i) (by omega)) (flatV_one _ _ fun i hi => hL (ii + 1 + i) (by omega)) (Nat.le_trans (by omega) (show 1000000 ≤ maxLen by decide)) (by omega) hsz ?_
      intro v' w' hown hgrow hblk
      have hR0 : rowF 0 5 11 67 72 78 l f = f 72 := by simp [rowF, hl, d5]
      have hR : rowF 0 5 11 67 72 78 (upd l 11 true) (putF f (some 78) v') = v' := by simp [rowF, putF, upd]
      rw [← flatV_less V n ii hii, show ii + (n - (ii + 1)) = n - 1 by omega] at hown
      refine ⟨v', rfl, h.below.grown hgrow hsz (fun k e => (hrow.lt k e).1), h.o5, fun _ => d5, fun _ => rfl, fun _ => rfl, h.o14', h.v68, h.v69, h.v70, h.v71, h.v73, h.v74, h.v75, h.v76, h.v77, fun e => no h12 e, fun e => no e d5, fun e => absurd e (by simp [upd]), fun _ => hown, fun e12 => ?_⟩
      obtain ⟨gN, q, O⟩ := h.v9 e12
      rw [hR0, if_neg (by rw [h14]; simp)] at O
      rw [hR, show upd l 11 true 14 = false from h14]
      exact ⟨gN, q, O.grown hgrow hblk⟩
    · have d11 : l 11 = true := hdep ⟨11, .data⟩ (by simp) rfl
      have e78 := HA.out 78 (by decide)
      obtain ⟨p9, c9, q9, _⟩ := row_shape (h.row2 d11)
      rw [q9] at e78
      refine wp_val (v := .agg #[.int .i64 1, .string ⟨#[]⟩, .int .i64 0, f 78, .int .i64 0]) (w' := w) (by rw [q9]; go_simp) ⟨_, rfl, ?_⟩
      exact ⟨h.below, h.o5, h.o11, fun _ => d11, h.o14, h.o14', h.v68, h.v69, h.v70, h.v71, h.v73, h.v74, h.v75, h.v76, h.v77, fun _ => rfl, h.row0, h.row1, h.row2, h.v9⟩
    · -- the box
      have h14 : l 14 = false := fl fun e => no hl (h.o14' e)
      have hlt := h.lt
      refine wp_val (v := .pointer (some ⟨w.heap.size, 0, none⟩)) (w' := w.alloc (.cells #[.int .i64 0, .string ⟨#[]⟩, .int .i64 0, .slice none 0 0, .int .i64 0] 24)) (by go_simp) ⟨_, rfl, ?_⟩
      have hR : rowF 0 5 11 67 72 78 (upd l 13 true) (putF f (some 9) (.pointer (some ⟨w.heap.size, 0, none⟩))) = rowF 0 5 11 67 72 78 l f := by simp [rowF, putF, upd]
      refine ⟨h.below.alloc hsz _, h.o5, h.o11, h.o12, h.o14, fun _ => rfl, h.v68, h.v69, h.v70, h.v71, h.v73, h.v74, h.v75, h.v76, h.v77, h.v79, fun e3 e0 => (h.row0 e3 e0).alloc _, fun e10 e3 => (h.row1 e10 e3).alloc _, fun e10 => (h.row2 e10).alloc _, fun _ => ?_⟩
      rw [hR, show upd l 13 true 14 = false from h14]
      exact ⟨w.heap.size, rfl, Own5.new hsz hlt zeroN⟩
    · -- the program into it
      have d11 : l 11 = true := hdep ⟨11, .chain⟩ (by simp) rfl
      have d5 : l 5 = true := h.o11 d11
      have d12 : l 12 = true := hdep ⟨12, .data⟩ (by simp) rfl
      have d13 : l 13 = true := hdep ⟨13, .data⟩ (by simp) rfl
      obtain ⟨gN, q, O⟩ := h.v9 d13
      have hR0 : rowF 0 5 11 67 72 78 l f = f 78 := by simp [rowF, d11]
      rw [hR0, if_neg (by rw [hl]; simp)] at O
      have e9 := (HA.out 9 (by decide)).trans q
      have e79 := (HA.out 79 (by decide)).trans (h.v79 d12)
      obtain ⟨O', G'⟩ := O.stored (.mk 1 ⟨#[]⟩ 0 (f 78) (n - 1) (lessK V ii) 0)
      obtain ⟨p9, c9, q9, _⟩ := row_shape (h.row2 d11)
      obtain ⟨z0, z1, z2, z3, z4⟩ := O.cells
      have t0 := O.thaw 0
      have t1 := O.thaw 1
      have t2 := O.thaw 2
      have t3 := O.thaw 3
      have t4 := O.thaw 4
      simp only [NT.k, NT.t, NT.n, NT.s, NT.a, q9] at O' G'
      rw [q9] at e79
      refine wp_skip (w' := set5 w gN 0 (.int .i64 1) (.string ⟨#[]⟩) (.int .i64 0) (.slice p9 (n - 1) c9) (.int .i64 0)) (by simp only [NT.k, NT.t, NT.n, NT.s, NT.a] at z0 z1 z2 z3 z4; go_simp) ⟨_, rfl, ?_⟩
      have hap : (f 78).ownBlock = none ∨ (f 78).ownBlock ≠ some gN := .inr fun e => O.apart e.symm
      refine ⟨h.below.grown G' hsz (fun k e => by cases e; exact O.base), h.o5, h.o11, h.o12, fun _ => d11, fun _ => d13, h.v68, h.v69, h.v70, h.v71, h.v73, h.v74, h.v75, h.v76, h.v77, h.v79, fun e => no e d5, fun e => no e d11, fun _ => (h.row2 d11).kept G' hap, fun _ => ⟨gN, q, ?_⟩⟩
      show Own5 _ _ gN (rowF 0 5 11 67 72 78 l f).ownBlock (.mk 1 ⟨#[]⟩ 0 (f 78) (n - 1) (lessK V ii) 0)
      rw [hR0, q9]
      exact O'
  · intro l f w hall h
    have d11 : l 11 = true := hall 11 (by simp)
    obtain ⟨gN, q, O⟩ := h.v9 (hall 13 (by simp))
    rw [if_pos (hall 14 (by simp))] at O
    obtain ⟨p9, c9, q9, _⟩ := row_shape (h.row2 d11)
    have hrow := h.row2 d11
    rw [q9] at O hrow
    exact hend f w gN q O.base ⟨h.below, p9, c9, O.cells, hrow⟩
end Go.Proofs.Ytdccodnompalbaa
