/- 'tree.Size' and 'tree.Depth': how many nodes a tree has, and how deep it is, by the program. No conditions beyond the bounds that each statement names. -/
import Derived.Test.YtdccodnompalbaaSp
namespace Go.Proofs.Ytdccodnompalbaa
open Go.RowKit Go.Shelf
attribute [local go_sem] Oper.semAt_some wide_fn
attribute [local simp] wide_fn

/-- One cell: what it holds, and that it may be written. -/
def OneC (W : World) (B : Nat) (v : Value) : Prop := W.cell? ⟨B, 0, none⟩ = some v ∧ W.frozen? ⟨B, 0, none⟩ = false
theorem OneC.new (W : World) (v : Value) (t : TypeId) : OneC (W.alloc (.cells #[v] t)) W.heap.size v := by
  have h := World.alloc_heap_new W (.cells #[v] t)
  constructor <;> simp only [World.cell?, World.frozen?, h] <;> rfl
theorem OneC.below {b B : Nat} {W W' : World} {v : Value} (h : OneC W B v) (hb : Below b W W') (hB : B < b) : OneC W' B v := ⟨(hb.cell (p := ⟨B, 0, none⟩) hB).trans h.1, (hb.frozen (p := ⟨B, 0, none⟩) hB).trans h.2⟩
theorem OneC.set {W : World} {B : Nat} {v : Value} (h : OneC W B v) (u : Value) : OneC (W.setCell ⟨B, 0, none⟩ u) B u :=
  ⟨World.cell?_setCell_same' _ _ _ (by rw [h.1]; rfl), by rw [World.frozen?_setCell]; exact h.2⟩
theorem oneC_own {β : Type} (D B : Nat) (f : β → Value) : OwnFrom D (fun (s : β) W => OneC W B (f s)) := fun _ _ _ _ hs hg hr =>
  ⟨cell_kept hs.1 hg (fun r e => (hr r e).2), (frozen_kept hs.1 hg (fun r e => (hr r e).2)).trans hs.2⟩
theorem keepC_set {n₀ D : Nat} (W : World) (B : Nat) (v : Value) (h : n₀ ≤ B ∧ B < D) : KeepC n₀ D W (W.setCell ⟨B, 0, none⟩ v) :=
  ⟨by simp, fun b o hb h1 _ => (Below.heap_setCell W ⟨B, 0, none⟩ v b (by show b ≠ B; omega)).trans h1⟩

/-- The two loop variables' slots. -/
theorem zip2 {b : Nat} {W0 : World} (p q : Tmp) (x : Al b W0) (A : Array Value) :
    (#[p, q].zip (encS x)).foldl (fun t (y : Tmp × Value) => t.setIfInBounds y.1 y.2) A = (A.setIfInBounds p x.1.1.val).setIfInBounds q (spotV x.1.2.1 x.1.2.2) := by
  simp [encS]

set_option maxHeartbeats 2000000 in
theorem size_in (n : Nat) (hn : 3 ≤ n) (T : NT) (w : World) (hL : Lies w.heap.size w T) (hS : T.ok) (hd : T.depth ≤ 900) (hz : T.size ≤ 1000000) :
    CallsIn Fence.wide n Try.prog 23 #[T.val] w fun e w' => e = .returned (.int .i64 (T.size : Int)) ∧ Below w.heap.size w w' := by
  have h1 : 1 ≤ n := by omega
  obtain ⟨p, c, hs, _, _⟩ := hL.eq
  obtain ⟨w1, hw1⟩ : ∃ w1, w.alloc (boxO T) = w1 := ⟨_, rfl⟩
  obtain ⟨w2, hw2⟩ : ∃ w2, w1.alloc (.cells #[.int .i64 0] 3) = w2 := ⟨_, rfl⟩
  obtain ⟨w3, hw3⟩ : ∃ w3, w2.alloc (boxO T) = w3 := ⟨_, rfl⟩
  have s1 : w1.heap.size = w.heap.size + 1 := by rw [← hw1]; simp
  have s2 : w2.heap.size = w.heap.size + 2 := by rw [← hw2]; simp [s1]
  have s3 : w3.heap.size = w.heap.size + 3 := by rw [← hw3]; simp [s2]
  have B1 : Below w.heap.size w w1 := by rw [← hw1]; exact bl_alloc (Below.refl _ _) _
  have B2 : Below w.heap.size w w2 := by rw [← hw2]; exact bl_alloc B1 _
  have B12 : Below w1.heap.size w1 w2 := by rw [← hw2]; exact bl_alloc (Below.refl _ _) _
  have B23 : Below w2.heap.size w2 w3 := by rw [← hw3]; exact bl_alloc (Below.refl _ _) _
  have B3 : Below w.heap.size w w3 := bl_trans B2 B23
  have b1 : Cells5 w2 w.heap.size 0 T := (by rw [← hw1]; exact box_new w T : Cells5 w1 w.heap.size 0 T).below B12 (by omega)
  have hb : Cells5 w3 w2.heap.size 0 T := by rw [← hw3]; exact box_new w2 T
  have hc0 : OneC w3 w1.heap.size (.int .i64 0) := (by rw [← hw2]; exact OneC.new w1 _ 3 : OneC w2 w1.heap.size (.int .i64 0)).below B23 (by omega)
  have hst := spots_stops (n - 1) w.heap.size (w.heap.size + 1 + 1) T w3 (by omega) (by omega) (by rw [show w.heap.size + 1 + 1 = w2.heap.size by omega]; exact hb) (hL.below B3) hS hd
  have HSp := fun w2 => spots_in (n - 1) T w2
  simp only [NT.val, hs, boxO] at HSp hw1 hw3 ⊢
  subst hw1
  subst hw2
  refine callsIn_of_wp_marks Try.func23 rfl trivial ?_
  simp only [Try.ntmps23, List.size_toArray, List.length_cons, List.length_nil, Nat.reduceAdd, Nat.reduceSub, Array.replicate_succ, Array.replicate_zero, List.push_toArray, List.append_toArray, List.nil_append, List.cons_append]
  have Hst := hide hst
  have Hw3 := hide hw3
  have Hc0 := hide hc0
  have HB3 := hide B3
  have Hs3 := hide s3
  clear hst hb hc0 b1 B23 B12 B2 B1 B3 s1 s2 s3 hw3
  gi_wp2_with ((try refine ⟨fun h => (by cases h), ?_⟩); refine (HSp _).mono ?_; clear HSp; rintro e w' ⟨rfl, rfl⟩)
  rw [Hw3.out]
  have hD : w3.heap.size = w.heap.size + 3 := Hs3.out
  refine wpIn_rangeFunc_ownF rfl h1 (gf := 45) (lb := #[.pointer (some ⟨w.heap.size + 1 + 1, 0, none⟩)]) rfl trivial (enters_of Try.func45 (by kernel_rfl) rfl)
    Hst.out keepC_t keepC_b (Below.refl _ _) (fun _ => rfl)
    (fun pre W => OneC W (w.heap.size + 1) (.int .i64 (pre.length : Int)) ∧ Below w.heap.size w W) (fun _ _ _ => False)
    ((oneC_own _ _ _).and (ownFrom_below (Nat.le_refl _) (by omega))) (fun _ _ _ _ _ hs _ _ => hs) ⟨by simpa using Hc0.out, HB3.out⟩
    (fun (x : Al w.heap.size w3) => { tmps := #[.agg #[.int .i64 T.k, .string T.t, .int .i64 T.n, .slice p T.len c, .int .i64 T.a], .pointer (some ⟨w.heap.size, 0, none⟩), .int .i64 0, .pointer (some ⟨w.heap.size + 1, 0, none⟩), .agg #[.int .i64 T.k, .string T.t, .int .i64 T.n, .slice p T.len c, .int .i64 T.a], .func (.func 45) #[] #[.pointer (some ⟨w.heap.size + 1 + 1, 0, none⟩)], x.1.1.val, spotV x.1.2.1 x.1.2.2, undef, undef, undef], defers := [] }) ?assign ?body ?done ?stop
  case assign =>
    intro l x W K hK
    gi_wp2
    rw [zip2]
    exact hK
  case body =>
    rintro l pre x W ⟨⟨hc, hf⟩, hb⟩ hlen
    have hw : wrap64 ((pre.length : Int) + 1) = (pre.length : Int) + 1 := IntWalk.wrap64_in _ (by omega)
    have HD := hide hD
    have HB := hide hb
    have HH := hide (show OneC W (w.heap.size + 1) (.int .i64 (pre.length : Int)) from ⟨hc, hf⟩)
    clear hb hD hlen
    gi_wp2
    refine ⟨KeepsOthers.setCell _ _ _, keepC_set _ _ _ ⟨by omega, by have := HD.out; omega⟩, ?_, HB.out.setCell (by show w.heap.size ≤ w.heap.size + 1; omega) _⟩
    have := HH.out.set (.int .i64 ((pre.length : Int) + 1))
    simpa using this
  case done =>
    rintro D ys W hle hys ⟨⟨hc, hf⟩, hb⟩ hK
    have hl : (ys.length : Int) = (T.size : Int) := by
      have := congrArg List.length hys
      rw [List.length_map, NT.pres_len] at this
      omega
    rw [hl] at hc
    have HB := hide (hb.trans (belowK_b (w := w3) (n₀ := w.heap.size) (by omega) W D (.deferred (some [])) (.deferred none) hle hK rfl rfl))
    have HK := hide hK
    clear hys hl hb hle hD hK
    gi_wp2
    refine ⟨by simp, .inl ⟨_, _, rfl, run_takeDeferred HK.out, ?_⟩⟩
    exact ⟨_, results_tmp rfl _ _ _, rfl, HB.out⟩
  case stop =>
    rintro D c pre W _ _ h _
    exact h.elim
end Go.Proofs.Ytdccodnompalbaa
