/- 'tree.wrong': the first error of a tree, by the program. No conditions beyond the bounds that each statement names. -/
import Derived.Test.YtdccodnompalbaaMy
import Derived.Test.YtdccodnompalbaaSz
namespace Go.Proofs.Ytdccodnompalbaa
open Go.RowKit Go.Shelf
attribute [local go_sem] Oper.semAt_some wide_fn
attribute [local simp] wide_fn

def wrongM (T : NT) (asked : Bool) : Int × Int :=
  match (T.pres 1 0).find? (fun x => decide (60 < x.2.1)) with
  | some x => (31, x.1.a)
  | none => match (T.pres 1 0)[20000]? with
    | some x => (32, x.1.a)
    | none => if asked = false then (30, T.a) else match (T.pres 1 0).find? (fun x => !mayM x.1 x.2.2) with
      | some x => (30, x.1.a)
      | none => (0, 0)

/-- What the function holds between two rounds: its node's box, its result's two cells, the marks of the loops that are over. -/
structure Own32 (w : World) (T : NT) (f1 f2 : Int) (Ds : List Nat) (W : World) : Prop where
  below : Below w.heap.size w W
  box : Cells5 W w.heap.size 0 T
  r0 : W.cell? ⟨w.heap.size + 1, 0, none⟩ = some (.int .i64 f1)
  r1 : W.cell? ⟨w.heap.size + 1, 1, none⟩ = some (.int .i64 f2)
  z0 : W.frozen? ⟨w.heap.size + 1, 0, none⟩ = false
  z1 : W.frozen? ⟨w.heap.size + 1, 1, none⟩ = false
  ds : ∀ D ∈ Ds, W.heap[D]? = some (.deferred (some [])) ∧ w.heap.size + 2 ≤ D

theorem Own32.step {w W W' : World} {T : NT} {f1 f2 : Int} {Ds : List Nat} (h : Own32 w T f1 f2 Ds W) (hb : Below w.heap.size w W')
    (hk : ∀ k o, W.heap[k]? = some o → (o.isCells = false ∨ k = w.heap.size ∨ k = w.heap.size + 1) → W'.heap[k]? = some o) : Own32 w T f1 f2 Ds W' := by
  have hc : ∀ (p : Addr) (v : Value), (p.block = w.heap.size ∨ p.block = w.heap.size + 1) → W.cell? p = some v → W'.cell? p = some v ∧ W'.frozen? p = W.frozen? p := fun p v hp hv => by
    obtain ⟨o, ho, hcs⟩ := isCells_of_cell hv
    have e : W'.heap[p.block]? = W.heap[p.block]? := by rw [hk _ o ho (.inr hp), ho]
    exact ⟨(World.cell?_of_block e).trans hv, World.frozen?_of_block e⟩
  exact ⟨hb, h.box.of fun p v hp hv => (hc p v (.inl hp) hv).1, (hc _ _ (.inr rfl) h.r0).1, (hc _ _ (.inr rfl) h.r1).1, (hc _ _ (.inr rfl) h.r0).2.trans h.z0, (hc _ _ (.inr rfl) h.r1).2.trans h.z1,
    fun D hD => ⟨hk D _ (h.ds D hD).1 (.inl rfl), (h.ds D hD).2⟩⟩
theorem Own32.step' {w W W' : World} {T : NT} {f1 f2 : Int} {D : Nat} {Ds : List Nat} (h : Own32 w T f1 f2 (D :: Ds) W) (hb : Below w.heap.size w W')
    (hk : ∀ k o, W.heap[k]? = some o → (k ∈ Ds ∨ k = w.heap.size ∨ k = w.heap.size + 1) → W'.heap[k]? = some o) : Own32 w T f1 f2 Ds W' := by
  have hc : ∀ (p : Addr) (v : Value), (p.block = w.heap.size ∨ p.block = w.heap.size + 1) → W.cell? p = some v → W'.cell? p = some v ∧ W'.frozen? p = W.frozen? p := fun p v hp hv => by
    obtain ⟨o, ho, hcs⟩ := isCells_of_cell hv
    have e : W'.heap[p.block]? = W.heap[p.block]? := by rw [hk _ o ho (.inr hp), ho]
    exact ⟨(World.cell?_of_block e).trans hv, World.frozen?_of_block e⟩
  exact ⟨hb, h.box.of fun p v hp hv => (hc p v (.inl hp) hv).1, (hc _ _ (.inr rfl) h.r0).1, (hc _ _ (.inr rfl) h.r1).1, (hc _ _ (.inr rfl) h.r0).2.trans h.z0, (hc _ _ (.inr rfl) h.r1).2.trans h.z1,
    fun D' hD => ⟨hk D' _ (h.ds D' (by simp [hD])).1 (.inl hD), (h.ds D' (by simp [hD])).2⟩⟩
theorem Own32.new {w W W' : World} {T : NT} {f1 f2 : Int} {Ds : List Nat} (h : Own32 w T f1 f2 Ds W) (hb : Below W.heap.size W W') : Own32 w T f1 f2 Ds W' :=
  h.step (h.below.trans (hb.mono h.below.size)) fun k _ hk _ => (hb.block k (Array.getElem?_eq_some_iff.1 hk).1).trans hk
theorem Own32.set {w W : World} {T : NT} {f1 f2 : Int} {Ds : List Nat} (h : Own32 w T f1 f2 Ds W) (B : Nat) (hB : w.heap.size + 2 ≤ B) (v : Value) : Own32 w T f1 f2 Ds (W.setCell ⟨B, 0, none⟩ v) :=
  h.step (h.below.setCell (p := ⟨B, 0, none⟩) (by show w.heap.size ≤ B; omega) v) fun k o hk hc => by
    rcases hc with hc | hc
    · exact (KeepsOthers.setCell W _ v).same k o hk hc
    · exact (Below.heap_setCell W ⟨B, 0, none⟩ v k (by show k ≠ B; omega)).trans hk
theorem Own32.own {β : Type} {w : World} {T : NT} {f1 f2 : Int} {Ds : List Nat} {B : Nat} (hB : w.heap.size + 2 ≤ B) (hD : ∀ D ∈ Ds, D < B) : OwnFrom B (fun (_ : β) W => Own32 w T f1 f2 Ds W) := fun _ W W' row hs hg hr => by
  refine ⟨hs.below.grown hg hs.below.size (fun k e => by have := (hr k e).1; omega), hs.box.of fun p v _ hv => cell_kept hv hg (fun r e => (hr r e).2), cell_kept hs.r0 hg (fun r e => (hr r e).2), cell_kept hs.r1 hg (fun r e => (hr r e).2),
    (frozen_kept hs.r0 hg (fun r e => (hr r e).2)).trans hs.z0, (frozen_kept hs.r1 hg (fun r e => (hr r e).2)).trans hs.z1, fun D hDm => ⟨?_, (hs.ds D hDm).2⟩⟩
  have h1 := (hs.ds D hDm).1
  exact (hg.block D (Array.getElem?_eq_some_iff.1 h1).1 (fun e => by have := (hr D e.symm).1; have := hD D hDm; omega)).trans h1
/-- The result is stored. -/
theorem Own32.put {w W : World} {T : NT} {f1 f2 : Int} {Ds : List Nat} (h : Own32 w T f1 f2 Ds W) (g1 g2 : Int) :
    Own32 w T g1 g2 Ds ((W.setCell ⟨w.heap.size + 1, 0, none⟩ (.int .i64 g1)).setCell ⟨w.heap.size + 1, 1, none⟩ (.int .i64 g2)) := by
  have e1 : (W.setCell ⟨w.heap.size + 1, 0, none⟩ (.int .i64 g1)).cell? ⟨w.heap.size + 1, 1, none⟩ = some (.int .i64 f2) := by rw [World.cell?_setCell_other _ _ _ _ (by simp)]; exact h.r1
  refine ⟨(h.below.setCell (p := ⟨w.heap.size + 1, 0, none⟩) (by show w.heap.size ≤ w.heap.size + 1; omega) _).setCell (p := ⟨w.heap.size + 1, 1, none⟩) (by show w.heap.size ≤ w.heap.size + 1; omega) _, ?_, ?_, World.cell?_setCell_same _ _ _ e1, ?_, ?_, ?_⟩
  · refine h.box.of fun p v hp hv => ?_
    rw [World.cell?_setCell_other _ _ _ _ (by intro h; rw [← h] at hp; simp at hp), World.cell?_setCell_other _ _ _ _ (by intro h; rw [← h] at hp; simp at hp)]
    exact hv
  · rw [World.cell?_setCell_other _ _ _ _ (by simp)]; exact World.cell?_setCell_same _ _ _ h.r0
  · rw [World.frozen?_setCell, World.frozen?_setCell]; exact h.z0
  · rw [World.frozen?_setCell, World.frozen?_setCell]; exact h.z1
  · exact fun D hD => ⟨(KeepsOthers.setCell _ _ _).same D _ ((KeepsOthers.setCell _ _ _).same D _ (h.ds D hD).1 rfl) rfl, (h.ds D hD).2⟩

theorem keepsOthers_new {W W' : World} (h : Below W.heap.size W W') : KeepsOthers W W' := ⟨h.size, fun k _ hk _ => (h.block k (Array.getElem?_eq_some_iff.1 hk).1).trans hk⟩
theorem keepC_put {n₀ D : Nat} (W : World) (B : Nat) (u v : Value) (h : n₀ ≤ B ∧ B < D) : KeepC n₀ D W ((W.setCell ⟨B, 0, none⟩ u).setCell ⟨B, 1, none⟩ v) :=
  ⟨by simp, fun b o hb h1 _ => (Below.heap_setCell _ ⟨B, 1, none⟩ v b (by show b ≠ B; omega)).trans ((Below.heap_setCell W ⟨B, 0, none⟩ u b (by show b ≠ B; omega)).trans h1)⟩

/-- A loop's node and spot in their boxes. -/
def Vars {b : Nat} {W0 : World} (D : Nat) (x : Al b W0) (B1 B2 : Nat) (W : World) : Prop :=
  D ≤ B1 ∧ D ≤ B2 ∧ Cells5 W B1 0 x.1.1 ∧ W.cell? ⟨B2, 0, none⟩ = some (.int .i64 x.1.2.1) ∧ W.cell? ⟨B2, 1, none⟩ = some (.int .i64 x.1.2.2)
theorem Vars.own {β : Type} {b : Nat} {W0 : World} {D B1 B2 B : Nat} {x : Al b W0} : OwnFrom B (fun (_ : β) W => Vars D x B1 B2 W) := fun _ _ _ _ hs hg hr =>
  ⟨hs.1, hs.2.1, hs.2.2.1.of fun _ _ _ hv => cell_kept hv hg (fun r e => (hr r e).2), cell_kept hs.2.2.2.1 hg (fun r e => (hr r e).2), cell_kept hs.2.2.2.2 hg (fun r e => (hr r e).2)⟩

theorem ownFrom_size {β : Type} (B N : Nat) : OwnFrom B (fun (_ : β) W => N ≤ W.heap.size) := fun _ _ _ _ hs hg _ => Nat.le_trans hs hg.size
theorem two_alloc (W : World) (o o' : Obj) : Below W.heap.size W ((W.alloc o).alloc o') := bl_alloc (bl_alloc (Below.refl _ _) _) _

/-- The first world's facts. -/
theorem own32_first (w : World) (T : NT) : Own32 w T 0 0 [] (((w.alloc (boxO T)).alloc (.cells #[.int .i64 0, .int .i64 0] 29)).alloc (boxO T)) ∧
    Cells5 (((w.alloc (boxO T)).alloc (.cells #[.int .i64 0, .int .i64 0] 29)).alloc (boxO T)) (w.heap.size + 1 + 1) 0 T ∧
    (((w.alloc (boxO T)).alloc (.cells #[.int .i64 0, .int .i64 0] 29)).alloc (boxO T)).heap.size = w.heap.size + 3 := by
  obtain ⟨W1, hW1⟩ : ∃ W1, w.alloc (boxO T) = W1 := ⟨_, rfl⟩
  obtain ⟨W2, hW2⟩ : ∃ W2, W1.alloc (.cells #[.int .i64 0, .int .i64 0] 29) = W2 := ⟨_, rfl⟩
  have s1 : W1.heap.size = w.heap.size + 1 := by rw [← hW1]; simp
  have s2 : W2.heap.size = w.heap.size + 2 := by rw [← hW2]; simp [s1]
  have hn := World.alloc_heap_new W1 (.cells #[.int .i64 0, .int .i64 0] 29)
  have b1 : Cells5 W1 w.heap.size 0 T := by rw [← hW1]; exact box_new w T
  have B1 : Below w.heap.size w W1 := by rw [← hW1]; exact bl_alloc (Below.refl _ _) _
  have B2 : Below W1.heap.size W1 W2 := by rw [← hW2]; exact bl_alloc (Below.refl _ _) _
  rw [hW1, hW2]
  rw [hW2, s1] at hn
  have B3 : Below W2.heap.size W2 (W2.alloc (boxO T)) := bl_alloc (Below.refl _ _) _
  have o2 : Own32 w T 0 0 [] W2 := by
    refine ⟨B1.trans (B2.mono B1.size), b1.below B2 (by omega), ?_, ?_, ?_, ?_, fun D hD => by cases hD⟩ <;> simp only [World.cell?, World.frozen?, hn] <;> rfl
  exact ⟨o2.new B3, by rw [show w.heap.size + 1 + 1 = W2.heap.size by omega]; exact box_new W2 T, by simp [s2]⟩

/-- A loop's variables, newly laid. -/
theorem vars_new {b : Nat} {W0 : World} (D : Nat) (x : Al b W0) (W : World) (hD : D ≤ W.heap.size) :
    Vars D x W.heap.size (W.heap.size + 1) ((W.alloc (boxO x.1.1)).alloc (.cells #[.int .i64 x.1.2.1, .int .i64 x.1.2.2] 55)) := by
  obtain ⟨h1, h2, h3⟩ := two_new W x.1.1 x.1.2.1 x.1.2.2
  exact ⟨hD, by omega, h1, h2, h3⟩

/-- The function's end: the marks are taken up, the result is read. -/
theorem own32_leaves {n : Nat} {w : World} {T : NT} {f1 f2 : Int} (tmps : Array Value) (ht : tmps[4]?.getD undef = .pointer (some ⟨w.heap.size + 1, 0, none⟩)) :
    ∀ (Ds : List Nat) (W : World), Own32 w T f1 f2 Ds W → Ds.Nodup →
      LeavesInM Fence.wide n Try.prog Try.f32 tmps (fun e w' => e = .returned (.agg #[.int .i64 f1, .int .i64 f2]) ∧ Below w.heap.size w w') (Ds.map fun D => { target := .collected D, args := #[] }) .returning W
  | [], W, h, _ => by
    refine ⟨.agg #[.int .i64 f1, .int .i64 f2], ?_, rfl, h.below⟩
    have e0 := h.r0
    have e1 := h.r1
    simp [results, Try.results32, go_sem, ht, e0, e1]
  | D :: Ds, W, h, hn => by
    have hD := h.ds D (by simp)
    refine ⟨by simp, .inl ⟨D, _, rfl, run_takeDeferred hD.1, ?_⟩⟩
    refine own32_leaves tmps ht Ds _ (h.step' ?_ ?_) (List.nodup_cons.1 hn).2
    · exact h.below.grown (grownBy_putObj' W D _) h.below.size (fun k e => by cases e; omega)
    · intro k o hk hc
      refine ((grownBy_putObj' W D (.deferred none)).block k (Array.getElem?_eq_some_iff.1 hk).1 (fun e => ?_)).trans hk
      cases e
      rcases hc with hc | hc
      · exact (List.nodup_cons.1 hn).1 hc
      · omega

/-- Between two rounds of the first loop; where a round of it has left. -/
def I1 (w W3 : World) (T : NT) (pre : List (Al w.heap.size W3)) (W : World) : Prop := (Own32 w T 0 0 [] W ∧ ∀ y ∈ pre, y.1.2.1 ≤ 60) ∧ W3.heap.size ≤ W.heap.size
def X1 (w W3 : World) (T : NT) (c : Code) (pre : List (Al w.heap.size W3)) (W : World) : Prop := c = .ret ∧ ∃ init y, pre = init ++ [y] ∧ (∀ z ∈ init, z.1.2.1 ≤ 60) ∧ 60 < y.1.2.1 ∧ Own32 w T 31 y.1.1.a [] W

/-- The second loop: the count. -/
def I2 (w W6 : World) (T : NT) (D1 C : Nat) (pre : List (Al w.heap.size W6)) (W : World) : Prop := (Own32 w T 0 0 [D1] W ∧ OneC W C (.int .i64 (pre.length : Int)) ∧ pre.length ≤ 20000) ∧ W6.heap.size ≤ W.heap.size
def X2 (w W6 : World) (T : NT) (D1 : Nat) (c : Code) (pre : List (Al w.heap.size W6)) (W : World) : Prop := c = .ret ∧ ∃ init y, pre = init ++ [y] ∧ init.length = 20000 ∧ Own32 w T 32 y.1.1.a [D1] W
/-- The third loop: whether all are right. -/
def I3 (w W7 : World) (T : NT) (Ds : List Nat) (pre : List (Al w.heap.size W7)) (W : World) : Prop := (Own32 w T 0 0 Ds W ∧ ∀ y ∈ pre, mayM y.1.1 y.1.2.2 = true) ∧ W7.heap.size ≤ W.heap.size
def X3 (w W7 : World) (T : NT) (Ds : List Nat) (c : Code) (pre : List (Al w.heap.size W7)) (W : World) : Prop := c = .ret ∧ ∃ init y, pre = init ++ [y] ∧ (∀ z ∈ init, mayM z.1.1 z.1.2.2 = true) ∧ mayM y.1.1 y.1.2.2 = false ∧ Own32 w T 30 y.1.1.a Ds W
theorem cells5_own {β : Type} {B g : Nat} {T : NT} : OwnFrom B (fun (_ : β) W => Cells5 W g 0 T) := fun _ _ _ _ hs hg hr => hs.of fun _ _ _ hv => cell_kept hv hg (fun r e => (hr r e).2)
theorem Own32.mark {w W : World} {T : NT} {f1 f2 : Int} {Ds : List Nat} (h : Own32 w T f1 f2 Ds W) {D : Nat} (hK : W.heap[D]? = some (.deferred (some []))) (hD : w.heap.size + 2 ≤ D) : Own32 w T f1 f2 (D :: Ds) W :=
  ⟨h.below, h.box, h.r0, h.r1, h.z0, h.z1, fun D' hD' => by
    rcases List.mem_cons.1 hD' with e | e
    · subst e; exact ⟨hK, hD⟩
    · exact h.ds D' e⟩

set_option maxHeartbeats 4000000 in
theorem wrong_in (n : Nat) (hn : 3 ≤ n) (T : NT) (asked : Bool) (w : World) (hL : Lies w.heap.size w T) (hS : T.ok) (hd : T.depth ≤ 900) (hm : MaxOk w) :
    CallsIn Fence.wide n Try.prog 32 #[T.val, .bool asked] w fun e w' => e = .returned (.agg #[.int .i64 (wrongM T asked).1, .int .i64 (wrongM T asked).2]) ∧ Below w.heap.size w w' := by
  have h1 : 1 ≤ n := by omega
  obtain ⟨R, hR⟩ : ∃ R, wrongM T asked = R := ⟨_, rfl⟩
  rw [hR]
  have HR := hide hR
  clear hR
  obtain ⟨p, c, hs, _, _⟩ := hL.eq
  obtain ⟨o3, b3, s3⟩ := own32_first w T
  obtain ⟨W3, hW3⟩ : ∃ W3, ((w.alloc (boxO T)).alloc (.cells #[.int .i64 0, .int .i64 0] 29)).alloc (boxO T) = W3 := ⟨_, rfl⟩
  rw [hW3] at o3 b3 s3
  have hst := spots_stops (n - 1) w.heap.size (w.heap.size + 1 + 1) T W3 (by omega) (by omega) b3 (hL.below o3.below) hS hd
  have HSp := fun w2 => spots_in (n - 1) T w2
  simp only [NT.val, hs, boxO] at HSp hW3 ⊢
  refine callsIn_of_wp_marks Try.func32 rfl trivial ?_
  simp only [Try.ntmps32, List.size_toArray, List.length_cons, List.length_nil, Nat.reduceAdd, Nat.reduceSub, Array.replicate_succ, Array.replicate_zero, List.push_toArray, List.append_toArray, List.nil_append, List.cons_append]
  have HL := hide hL
  have HS := hide hS
  have HM := hide hm
  have HW3 := hide hW3
  have HO3 := hide o3
  have HSp' := hide HSp
  have HS3 := hide s3
  clear hL hS hm hW3 o3 b3
  gi_wp2_with ((try refine ⟨fun h => (by cases h), ?_⟩); refine (HSp _).mono ?_; clear HSp; rintro e w' ⟨rfl, rfl⟩)
  rw [HW3.out]
  refine wpIn_rangeFunc_ownH rfl h1 (gf := 45) (lb := #[.pointer (some ⟨w.heap.size + 1 + 1, 0, none⟩)]) rfl trivial (enters_of Try.func45 (by kernel_rfl) rfl)
    hst keepC_t keepC_b (Below.refl _ _) (fun _ => rfl)
    (I1 w W3 T) (X1 w W3 T)
    (((Own32.own (by omega) (fun _ h => by cases h)).and (ownFrom_pure _ _)).and (ownFrom_size _ _)) ?hIx ⟨⟨HO3.out, fun _ h => by cases h⟩, Nat.le_refl _⟩
    (fun (x : Al w.heap.size W3) a' W => ∃ B1 B2 v1 v2, Vars W3.heap.size x B1 B2 W ∧ a' = { tmps := #[.agg #[.int .i64 T.k, .string T.t, .int .i64 T.n, .slice p T.len c, .int .i64 T.a], .bool asked, .pointer (some ⟨w.heap.size, 0, none⟩), undef, .pointer (some ⟨w.heap.size + 1, 0, none⟩), .pointer (some ⟨B1, 0, none⟩), .pointer (some ⟨B2, 0, none⟩), undef, undef, undef, undef, .agg #[.int .i64 T.k, .string T.t, .int .i64 T.n, .slice p T.len c, .int .i64 T.a], .func (.func 45) #[] #[.pointer (some ⟨w.heap.size + 1 + 1, 0, none⟩)], v1, v2, undef, undef, undef, undef, undef, undef, undef, undef, undef, undef, undef, undef, undef, undef, undef, undef, undef, undef, undef, undef, undef, undef, undef, undef, undef, undef, undef, undef, undef, undef, undef, undef, undef, undef, undef], defers := [] }) ?hAx ?assign ?body ?done ?stop
  case hIx =>
    rintro c s W W' row ⟨hc, init, y, e, h2, h3, h4⟩ hg hr
    exact ⟨hc, init, y, e, h2, h3, Own32.own (β := Unit) (by omega) (fun _ h => by cases h) () W W' row h4 hg hr⟩
  case hAx =>
    rintro x a' s W W' row ⟨B1, B2, v1, v2, hv, e⟩ hg hr
    exact ⟨B1, B2, v1, v2, Vars.own (β := Unit) () W W' row hv hg hr, e⟩
  case assign =>
    intro l pre x W K hI hK
    obtain ⟨p', c', hs', _, _⟩ := x.2.1.eq
    have HK := hide hK
    have HI := hide hI
    clear hK hI
    rw [zip2]
    simp only [NT.val, hs', spotV]
    gi_wp2
    have hv := vars_new W3.heap.size x W HI.out.2
    simp only [boxO, hs'] at hv
    exact HK.out _ _ (((KeepsOthers.alloc _ _).trans (KeepsOthers.alloc _ _)).from _) (KeepC.of_below (two_alloc _ _ _)) ⟨⟨HI.out.1.1.new (two_alloc _ _ _), HI.out.1.2⟩, Nat.le_trans HI.out.2 (two_alloc _ _ _).size⟩ ⟨_, _, _, _, hv, rfl⟩
  case body =>
    rintro l pre x a' W hl ⟨r, hr⟩ ⟨⟨ho, hpre⟩, hsz⟩ ⟨B1, B2, v1, v2, ⟨hB1, hB2, ⟨x0, x1, x2, x3, x4⟩, y0, y1⟩, rfl⟩ hlen
    have HO := hide ho
    have HP := hide hpre
    have HZ := hide hsz
    obtain ⟨q0, q1, z0, z1⟩ := (⟨ho.r0, ho.r1, ho.z0, ho.z1⟩ : _ ∧ _ ∧ _ ∧ _)
    clear ho hpre hsz hr hl hlen hst x1 x2 x3 y1 hB1 hB2
    rcases Int.lt_or_le 60 x.1.2.1 with h60 | h60
    · clear s3
      gi_wp2
      refine ⟨((KeepsOthers.setCell _ _ _).trans (KeepsOthers.setCell _ _ _)).from _, rfl, pre, x, rfl, HP.out, h60, HO.out.put _ _⟩
    · clear s3
      gi_wp2
      exact ⟨KeepsFrom.refl _ _, KeepC.refl _ _ _, ⟨HO.out, fun y hy => by
        rcases List.mem_append.1 hy with h | h
        · exact HP.out y h
        · rw [List.mem_singleton] at h; rw [h]; exact h60⟩, HZ.out⟩
  case stop =>
    rintro D c' pre W hle ⟨hpre, _⟩ ⟨rfl, init, y, rfl, h2, h3, ho⟩ hK
    have hfin : wrongM T asked = (31, y.1.1.a) := by
      have : (T.pres 1 0).find? (fun x => decide (60 < x.2.1)) = some y.1 := by
        obtain ⟨rest, hr⟩ := hpre
        have h0 : (init.map (·.1)).find? (fun x : Spot => decide (60 < x.2.1)) = none := List.find?_eq_none.2 fun z hz => by
          obtain ⟨z', hz', rfl⟩ := List.mem_map.1 hz
          have := h2 z' hz'
          simp; omega
        rw [← hr, List.map_append, List.append_assoc, List.find?_append, h0]
        simp [h3]
      simp only [wrongM, this]
    have HO := hide (show Own32 w T 31 y.1.1.a [D] W from ⟨ho.below, ho.box, ho.r0, ho.r1, ho.z0, ho.z1, fun D' hD => by
      rw [List.mem_singleton] at hD; subst hD; exact ⟨hK, by omega⟩⟩)
    obtain rfl : R = (31, y.1.1.a) := HR.out.symm.trans hfin
    clear hfin hst ho hK hpre h2 h3 HSp' s3 hle
    gi_wp2
    exact own32_leaves _ rfl [D] W HO.out (by simp)
  case done =>
    rintro D1 ys W hle hys ⟨⟨ho, hall⟩, hsz⟩ hK
    have hnone : (T.pres 1 0).find? (fun x => decide (60 < x.2.1)) = none := by
      rw [← hys]
      exact List.find?_eq_none.2 fun z hz => by
        obtain ⟨z', hz', rfl⟩ := List.mem_map.1 hz
        have := hall z' hz'
        simp; omega
    have HN := hide hnone
    have hO : Own32 w T 0 0 [D1] W := ⟨ho.below, ho.box, ho.r0, ho.r1, ho.z0, ho.z1, fun D' hD => by
      rw [List.mem_singleton] at hD; subst hD; exact ⟨hK, by omega⟩⟩
    have hD1 : D1 < W.heap.size := (Array.getElem?_eq_some_iff.1 hK).1
    obtain ⟨W4, hW4⟩ : ∃ W4, W.alloc (Obj.cells #[.int .i64 0] 3) = W4 := ⟨_, rfl⟩
    obtain ⟨W6, hW6⟩ : ∃ W6, W4.alloc (boxO T) = W6 := ⟨_, rfl⟩
    have hb4 : Below W.heap.size W W4 := by rw [← hW4]; exact bl_alloc (Below.refl _ _) _
    have hb6 : Below W4.heap.size W4 W6 := by rw [← hW6]; exact bl_alloc (Below.refl _ _) _
    have hs4 : W4.heap.size = W.heap.size + 1 := by rw [← hW4]; simp
    have hs6 : W6.heap.size = W.heap.size + 2 := by rw [← hW6]; simp [hs4]
    have hO4 := hO.new hb4
    have hO6 := hO4.new hb6
    have hC6 : OneC W6 W.heap.size (.int .i64 0) := (by rw [← hW4]; exact OneC.new W _ 3 : OneC W4 W.heap.size (.int .i64 0)).below hb6 (by omega)
    have hB6 : Cells5 W6 (W.heap.size + 1) 0 T := by rw [← hW6, ← hs4]; exact box_new W4 T
    have hst2 := spots_stops (n - 1) w.heap.size (W.heap.size + 1) T W6 (by have := hO6.below.size; omega) (by omega) hB6 (HL.out.below hO6.below) HS.out hd
    obtain ⟨q0, q1, q2, q3, q4⟩ := hO4.box
    rw [hs] at q3
    simp only [boxO, hs] at hW6
    subst hW4
    have HW6 := hide hW6
    have HO6 := hide hO6
    have HC6 := hide hC6
    have HSZ := hide hs6
    have HSP := HSp'.out
    clear hst ho hall hys hK hO hO4 hO6 hC6 hB6 hb4 hb6 hs4 hW6 hs6 hnone s3
    gi_wp2_with ((try refine ⟨fun h => (by cases h), ?_⟩); refine (HSP _).mono ?_; clear HSP; rintro e w' ⟨rfl, rfl⟩)
    rw [HW6.out]
    have hsz6 : W6.heap.size = W.heap.size + 2 := HSZ.out
    have hwW : w.heap.size + 3 ≤ W.heap.size := by rw [← HS3.out]; exact hsz
    have hw6 : w.heap.size + 2 ≤ W6.heap.size := by omega
    refine wpIn_rangeFunc_ownH rfl h1 (gf := 45) (lb := #[.pointer (some ⟨W.heap.size + 1, 0, none⟩)]) rfl trivial (enters_of Try.func45 (by kernel_rfl) rfl)
      hst2 keepC_t keepC_b (Below.refl _ _) (fun _ => rfl) (I2 w W6 T D1 W.heap.size) (X2 w W6 T D1)
      (((Own32.own hw6 (fun D' h => by rw [List.mem_singleton] at h; omega)).and ((oneC_own _ _ _).and (ownFrom_pure _ _))).and (ownFrom_size _ _)) ?hIx2 ⟨⟨HO6.out, by simpa using HC6.out, Nat.zero_le _⟩, Nat.le_refl _⟩
      (fun (x : Al w.heap.size W6) a' U => ∃ B1 v1 v2, Cells5 U B1 0 x.1.1 ∧ a' = { tmps := #[.agg #[.int .i64 T.k, .string T.t, .int .i64 T.n, .slice p T.len c, .int .i64 T.a], .bool asked, .pointer (some ⟨w.heap.size, 0, none⟩), undef, .pointer (some ⟨w.heap.size + 1, 0, none⟩), undef, undef, .pointer (some ⟨W.heap.size, 0, none⟩), .pointer (some ⟨B1, 0, none⟩), undef, undef, .agg #[.int .i64 T.k, .string T.t, .int .i64 T.n, .slice p T.len c, .int .i64 T.a], .func (.func 45) #[] #[.pointer (some ⟨w.heap.size + 1 + 1, 0, none⟩)], undef, undef, undef, undef, undef, undef, undef, undef, .agg #[.int .i64 T.k, .string T.t, .int .i64 T.n, .slice p T.len c, .int .i64 T.a], .func (.func 45) #[] #[.pointer (some ⟨W.heap.size + 1, 0, none⟩)], v1, v2, undef, undef, undef, undef, undef, undef, undef, undef, undef, undef, undef, undef, undef, undef, undef, undef, undef, undef, undef, undef, undef, undef, undef, undef, undef], defers := [] }) ?hAx2 ?assign2 ?body2 ?done2 ?stop2
    case hIx2 =>
      rintro c s U U' row ⟨hc, init, y, e, h2, h4⟩ hg hr
      exact ⟨hc, init, y, e, h2, Own32.own (β := Unit) hw6 (fun D' h => by rw [List.mem_singleton] at h; omega) () U U' row h4 hg hr⟩
    case hAx2 =>
      rintro x a' s U U' row ⟨B1, v1, v2, hv, e⟩ hg hr
      exact ⟨B1, v1, v2, cells5_own (β := Unit) () U U' row hv hg hr, e⟩
    case assign2 =>
      intro l pre x U K hI hK
      obtain ⟨p', c', hs', _, _⟩ := x.2.1.eq
      have HK := hide hK
      have HI := hide hI
      clear hK hI hst2 hsz6
      rw [zip2]
      simp only [NT.val, hs', spotV]
      gi_wp2
      have hv := box_new U x.1.1
      simp only [boxO, hs'] at hv
      have hbl : ∀ o, Below U.heap.size U (U.alloc o) := fun o => bl_alloc (Below.refl _ _) o
      exact HK.out _ _ ((KeepsOthers.alloc _ _).from _) (KeepC.of_below (hbl _)) ⟨⟨HI.out.1.1.new (hbl _), HI.out.1.2.1.below (hbl _) (World.block_lt_of_cell? _ _ HI.out.1.2.1.1), HI.out.1.2.2⟩, Nat.le_trans HI.out.2 (hbl _).size⟩ ⟨_, _, _, hv, rfl⟩
    case body2 =>
      rintro l pre x a' U hl ⟨r, hr⟩ ⟨⟨ho, hc, hpre⟩, hsz'⟩ ⟨B1, v1, v2, ⟨x0, x1, x2, x3, x4⟩, rfl⟩ hlen
      have HO := hide ho
      have HC := hide hc
      have HZ := hide hsz'
      have HWW := hide hwW
      have HS6 := hide hsz6
      obtain ⟨q0, q1, z0, z1⟩ := (⟨ho.r0, ho.r1, ho.z0, ho.z1⟩ : _ ∧ _ ∧ _ ∧ _)
      obtain ⟨k0, k1⟩ := hc
      have hw : wrap64 ((pre.length : Int) + 1) = (pre.length : Int) + 1 := IntWalk.wrap64_in _ (by omega)
      clear ho hsz' hr hl hlen hst2 x0 x1 x2 x3 hwW hsz6 hw6 hsz hle
      by_cases h20 : pre.length = 20000
      · have hbq : ((pre.length : Int) == 20000) = true := by simp [h20]
        have H20 := hide h20
        clear h20 hpre
        gi_wp2
        refine ⟨((KeepsOthers.setCell _ _ _).trans (KeepsOthers.setCell _ _ _)).from _, rfl, pre, x, rfl, H20.out, HO.out.put _ _⟩
      · have hbq : ((pre.length : Int) == 20000) = false := by simp; omega
        have H20 := hide (show pre.length + 1 ≤ 20000 by omega)
        clear h20 hpre
        gi_wp2
        refine ⟨(KeepsOthers.setCell _ _ _).from _, keepC_set _ _ _ ⟨by have := HWW.out; omega, by have := HS6.out; omega⟩, ⟨HO.out.set _ (by have := HWW.out; omega) _, ?_, by simpa using H20.out⟩, by simpa using HZ.out⟩
        have := HC.out.set (.int .i64 ((pre.length : Int) + 1))
        simpa using this
    case stop2 =>
      rintro D c' pre U hle2 ⟨hpre, _⟩ ⟨rfl, init, y, rfl, h2, ho⟩ hK
      have hfin : wrongM T asked = (32, y.1.1.a) := by
        have : (T.pres 1 0)[20000]? = some y.1 := by
          obtain ⟨rest, hr⟩ := hpre
          rw [← hr, List.map_append, List.append_assoc, List.getElem?_append_right (by simp [h2])]
          simp [h2]
        simp only [wrongM, HN.out, this]
      have HO := hide (ho.mark hK (by omega))
      have hne : D ≠ D1 := by omega
      obtain rfl : R = (32, y.1.1.a) := HR.out.symm.trans hfin
      clear hfin hst2 ho hK hpre h2 HSp' hle2 hw6 hwW hsz6 hle hsz
      gi_wp2
      exact own32_leaves _ rfl [D, D1] U HO.out (by simp [hne])
    case done2 =>
      rintro D2 ys U hle2 hys ⟨⟨ho, hc, hlen⟩, hsz'⟩ hK
      have hnth : (T.pres 1 0)[20000]? = none := by
        rw [← hys, List.getElem?_eq_none_iff, List.length_map]
        exact hlen
      have HN2 := hide hnth
      have hO := ho.mark hK (by omega)
      have hne : D2 ≠ D1 := by omega
      have hD2 : D2 < U.heap.size := (Array.getElem?_eq_some_iff.1 hK).1
      cases asked
      · have hfin : wrongM T false = (30, T.a) := by simp only [wrongM, HN.out, HN2.out, if_true]
        obtain ⟨⟨q0, q1, q2, q3, q4⟩, r0, r1, z0, z1⟩ := (⟨hO.box, hO.r0, hO.r1, hO.z0, hO.z1⟩ : _ ∧ _ ∧ _ ∧ _ ∧ _)
        obtain rfl : R = (30, T.a) := HR.out.symm.trans hfin
        have HO := hide (hO.put 30 T.a)
        clear hfin hst2 ho hO hK hys hnth hc hlen hsz' HSp' hle2 hw6 hwW hsz6 hle hsz q0 q1 q2 q3 hD2
        gi_wp2
        exact own32_leaves _ rfl [D2, D1] _ HO.out (by simp [hne])
      · obtain ⟨W7, hW7⟩ : ∃ W7, U.alloc (boxO T) = W7 := ⟨_, rfl⟩
        have hb7 : Below U.heap.size U W7 := by rw [← hW7]; exact bl_alloc (Below.refl _ _) _
        have hs7 : W7.heap.size = U.heap.size + 1 := by rw [← hW7]; simp
        have hO7 := hO.new hb7
        have hB7 : Cells5 W7 U.heap.size 0 T := by rw [← hW7]; exact box_new U T
        have hst3 := spots_stops (n - 1) w.heap.size U.heap.size T W7 (by have := hO7.below.size; omega) (by omega) hB7 (HL.out.below hO7.below) HS.out hd
        obtain ⟨q0, q1, q2, q3, q4⟩ := hO.box
        rw [hs] at q3
        simp only [boxO, hs] at hW7
        have HW7 := hide hW7
        have HO7 := hide hO7
        have HSZ7 := hide hs7
        have HSP := HSp'.out
        have HLE2 := hide hle2
        have hUU := Nat.le_trans (show w.heap.size + 3 ≤ W6.heap.size by omega) hsz'
        have HNE := hide hne
        clear hst2 ho hys hK hO hO7 hB7 hb7 hW7 hs7 hnth hc hlen hle2 hne
        gi_wp2_with ((try refine ⟨fun h => (by cases h), ?_⟩); refine (HSP _).mono ?_; clear HSP; rintro e w' ⟨rfl, rfl⟩)
        rw [HW7.out]
        have hsz7 : W7.heap.size = U.heap.size + 1 := HSZ7.out
        have hw7 : w.heap.size + 2 ≤ W7.heap.size := by omega
        have hDs : ∀ D' ∈ [D2, D1], D' < W7.heap.size := fun D' h => by
          rcases List.mem_cons.1 h with e | h
          · omega
          · rw [List.mem_singleton] at h; omega
        refine wpIn_rangeFunc_ownH rfl h1 (gf := 45) (lb := #[.pointer (some ⟨U.heap.size, 0, none⟩)]) rfl trivial (enters_of Try.func45 (by kernel_rfl) rfl)
          hst3 keepC_t keepC_b (Below.refl _ _) (fun _ => rfl) (I3 w W7 T [D2, D1]) (X3 w W7 T [D2, D1])
          (((Own32.own hw7 hDs).and (ownFrom_pure _ _)).and (ownFrom_size _ _)) ?hIx3 ⟨⟨HO7.out, fun _ h => by cases h⟩, Nat.le_refl _⟩
          (fun (x : Al w.heap.size W7) a' X => ∃ B1 B2 v1 v2, Vars W7.heap.size x B1 B2 X ∧ a' = { tmps := #[.agg #[.int .i64 T.k, .string T.t, .int .i64 T.n, .slice p T.len c, .int .i64 T.a], .bool true, .pointer (some ⟨w.heap.size, 0, none⟩), undef, .pointer (some ⟨w.heap.size + 1, 0, none⟩), undef, undef, .pointer (some ⟨W.heap.size, 0, none⟩), undef, .pointer (some ⟨B1, 0, none⟩), .pointer (some ⟨B2, 0, none⟩), .agg #[.int .i64 T.k, .string T.t, .int .i64 T.n, .slice p T.len c, .int .i64 T.a], .func (.func 45) #[] #[.pointer (some ⟨w.heap.size + 1 + 1, 0, none⟩)], undef, undef, undef, undef, undef, undef, undef, undef, .agg #[.int .i64 T.k, .string T.t, .int .i64 T.n, .slice p T.len c, .int .i64 T.a], .func (.func 45) #[] #[.pointer (some ⟨W.heap.size + 1, 0, none⟩)], undef, undef, undef, undef, undef, undef, undef, undef, undef, .bool true, .bool false, undef, undef, undef, .agg #[.int .i64 T.k, .string T.t, .int .i64 T.n, .slice p T.len c, .int .i64 T.a], .func (.func 45) #[] #[.pointer (some ⟨U.heap.size, 0, none⟩)], v1, v2, undef, undef, undef, undef, undef, undef, undef, undef, undef], defers := [] }) ?hAx3 ?assign3 ?body3 ?done3 ?stop3
        case hIx3 =>
          rintro c s X X' row ⟨hc, init, y, e, h2, h3, h4⟩ hg hr
          exact ⟨hc, init, y, e, h2, h3, Own32.own (β := Unit) hw7 hDs () X X' row h4 hg hr⟩
        case hAx3 =>
          rintro x a' s X X' row ⟨B1, B2, v1, v2, hv, e⟩ hg hr
          exact ⟨B1, B2, v1, v2, Vars.own (β := Unit) () X X' row hv hg hr, e⟩
        case assign3 =>
          intro l pre x X K hI hK
          obtain ⟨p', c', hs', _, _⟩ := x.2.1.eq
          have HK := hide hK
          have HI := hide hI
          have hv := vars_new W7.heap.size x X HI.out.2
          have HV := hide hv
          clear hK hI hst3 hsz7 hv
          rw [zip2]
          simp only [NT.val, hs', spotV]
          gi_wp2
          have hv := HV.out
          simp only [boxO, hs'] at hv
          exact HK.out _ _ (((KeepsOthers.alloc _ _).trans (KeepsOthers.alloc _ _)).from _) (KeepC.of_below (two_alloc _ _ _)) ⟨⟨HI.out.1.1.new (two_alloc _ _ _), HI.out.1.2⟩, Nat.le_trans HI.out.2 (two_alloc _ _ _).size⟩ ⟨_, _, _, _, hv, rfl⟩
        case body3 =>
          rintro l pre x a' X hl ⟨r, hr⟩ ⟨⟨ho, hpre⟩, hsz'⟩ ⟨B1, B2, v1, v2, ⟨hB1, hB2, ⟨x0, x1, x2, x3, x4⟩, y0, y1⟩, rfl⟩ hlen
          obtain ⟨p', c', hs', _, _⟩ := x.2.1.eq
          have hml := ((NT.sized_eq _ _).1 x.2.2.1).2.1
          have hts := ((NT.short_eq _ _).1 x.2.2.2).1
          have hLx : Lies X.heap.size X x.1.1 := (x.2.1.carry (Nat.le_refl _) (fun q v hq hv => by
            rw [ho.below.cell (p := q) hq, ← HO7.out.below.cell (p := q) hq]; exact hv)).mono ho.below.size
          have hmay := may_any x.1.1 x.1.2.2 X hLx hml (by omega) (HM.out.below (ho.below.mono (by
            exact Nat.le_refl _)))
          simp only [NT.val, hs'] at hmay
          rw [hs'] at x3
          have HO := hide ho
          have HP := hide hpre
          have HZ := hide hsz'
          clear ho hpre hsz' hr hl hlen hst3 hsz7 hw7 hDs hUU hw6 hwW hsz6 hle hsz hs' hml hts hLx
          obtain ⟨m, hm⟩ : ∃ m, mayM x.1.1 x.1.2.2 = m := ⟨_, rfl⟩
          rw [hm] at hmay
          have Hm := hide hm
          clear hm
          cases m
          · gi_wp2_with ((try refine ⟨fun h => (by cases h), ?_⟩); refine (CallsIn.inRound l (callsIn_wide.2 hmay)).mono ?_; clear hmay; rintro e w2 ⟨rfl, hb2⟩; have HO2 := hide (HO.out.new hb2); have HB2 := hide hb2; have x4' := (hb2.cell (p := ⟨B1, 4, none⟩) (World.block_lt_of_cell? _ _ x4)).trans x4; obtain ⟨r0, r1, z0, z1⟩ := (⟨HO2.out.r0, HO2.out.r1, HO2.out.z0, HO2.out.z1⟩ : _ ∧ _ ∧ _ ∧ _))
            refine ⟨((keepsOthers_new HB2.out).trans ((KeepsOthers.setCell _ _ _).trans (KeepsOthers.setCell _ _ _))).from _, rfl, pre, x, rfl, HP.out, Hm.out, HO2.out.put _ _⟩
          · gi_wp2_with ((try refine ⟨fun h => (by cases h), ?_⟩); refine (CallsIn.inRound l (callsIn_wide.2 hmay)).mono ?_; clear hmay; rintro e w2 ⟨rfl, hb2⟩; have HO2 := hide (HO.out.new hb2); have HB2 := hide hb2)
            exact ⟨(keepsOthers_new HB2.out).from _, KeepC.of_below HB2.out, ⟨HO2.out, fun y hy => by
              rcases List.mem_append.1 hy with h | h
              · exact HP.out y h
              · rw [List.mem_singleton] at h; rw [h]; exact Hm.out⟩, Nat.le_trans HZ.out HB2.out.size⟩
        case stop3 =>
          rintro D3 c' pre X hle3 ⟨hpre, _⟩ ⟨rfl, init, y, rfl, h2, h3, ho⟩ hK
          have hfin : wrongM T true = (30, y.1.1.a) := by
            have : (T.pres 1 0).find? (fun x => !mayM x.1 x.2.2) = some y.1 := by
              obtain ⟨rest, hr⟩ := hpre
              have h0 : (init.map (·.1)).find? (fun x : Spot => !mayM x.1 x.2.2) = none := List.find?_eq_none.2 fun z hz => by
                obtain ⟨z', hz', rfl⟩ := List.mem_map.1 hz
                simp [h2 z' hz']
              rw [← hr, List.map_append, List.append_assoc, List.find?_append, h0]
              simp [h3]
            simp only [wrongM, HN.out, HN2.out, this]
            rfl
          have HO := hide (ho.mark hK (by omega))
          have hn2 : D3 ≠ D2 := fun e => by have := hDs D3 (by simp [e]); omega
          have hn1 : D3 ≠ D1 := fun e => by have := hDs D3 (by simp [e]); omega
          obtain rfl : R = (30, y.1.1.a) := HR.out.symm.trans hfin
          clear hfin hst3 ho hK hpre h2 h3 HSp' hle3 hw6 hwW hsz6 hle hsz hsz' hDs hUU hw7 hsz7 hD2
          gi_wp2
          exact own32_leaves _ rfl [D3, D2, D1] X HO.out (by simp [hn2, hn1, HNE.out])
        case done3 =>
          rintro D3 ys X hle3 hys ⟨⟨ho, hall⟩, _⟩ hK
          have hfin : wrongM T true = (0, 0) := by
            have : (T.pres 1 0).find? (fun x => !mayM x.1 x.2.2) = none := by
              rw [← hys]
              exact List.find?_eq_none.2 fun z hz => by
                obtain ⟨z', hz', rfl⟩ := List.mem_map.1 hz
                simp [hall z' hz']
            simp only [wrongM, HN.out, HN2.out, this]
            rfl
          have hO := ho.mark hK (by omega)
          have hn2 : D3 ≠ D2 := fun e => by have := hDs D3 (by simp [e]); omega
          have hn1 : D3 ≠ D1 := fun e => by have := hDs D3 (by simp [e]); omega
          obtain rfl : R = (0, 0) := HR.out.symm.trans hfin
          obtain ⟨r0, r1, z0, z1⟩ := (⟨hO.r0, hO.r1, hO.z0, hO.z1⟩ : _ ∧ _ ∧ _ ∧ _)
          have HO := hide (hO.put 0 0)
          clear hfin hst3 ho hO hK hys hall HSp' hle3 hw6 hwW hsz6 hle hsz hsz' hDs hUU hw7 hsz7 hD2
          gi_wp2
          exact own32_leaves _ rfl [D3, D2, D1] _ HO.out (by simp [hn2, hn1, HNE.out])
end Go.Proofs.Ytdccodnompalbaa
