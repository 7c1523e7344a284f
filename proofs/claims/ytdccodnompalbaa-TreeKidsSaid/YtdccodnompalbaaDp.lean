/- 'tree.Depth': how deep a tree is, by the program. No conditions beyond the bounds that each statement names. -/
import Derived.Test.YtdccodnompalbaaWr
namespace Go.Proofs.Ytdccodnompalbaa
open Go.RowKit Go.Shelf
attribute [local go_sem] Oper.semAt_some wide_fn
attribute [local simp] wide_fn

/-- The greatest depth told so far. -/
def maxS (l : List Spot) : Int := l.foldl (fun m x => max m x.2.1) 0
theorem maxS_add (l : List Spot) (x : Spot) : maxS (l ++ [x]) = max (maxS l) x.2.1 := by simp [maxS, List.foldl_append]
theorem fold_pres : ∀ (T : NT) (d r m : Int), (T.pres d r).foldl (fun m x => max m x.2.1) m = max m (d + T.depth - 1) := by
  intro T
  induction T using NT.ind with
  | _ T ih =>
    intro d r m
    rw [NT.pres_eq, NT.depth_eq, List.foldl_cons]
    have : ∀ n, n ≤ T.len → ∀ m0 : Int, d ≤ m0 → (flatN (fun i => (T.kid i).pres (d + 1) (roleM T.k r i)) n).foldl (fun m x => max m x.2.1) m0 = max m0 (d + maxN (fun i => (T.kid i).depth) n) := by
      intro n
      induction n with
      | zero => intro _ m0 h0; simp [flatN, maxN]; omega
      | succ n ihn =>
        intro hn m0 h0
        simp only [flatN, List.foldl_append, maxN]
        rw [ihn (by omega) m0 h0, ih n (by omega)]
        omega
    show (flatN _ T.len).foldl _ (max m d) = _
    rw [this T.len (Nat.le_refl _) (max m d) (by omega)]
    omega
theorem maxS_pres (T : NT) (r : Int) : maxS (T.pres 1 r) = T.depth := by
  unfold maxS
  rw [fold_pres]
  omega

set_option maxRecDepth 20000 in
set_option maxHeartbeats 2000000 in
theorem depth_in (n : Nat) (hn : 3 ≤ n) (T : NT) (w : World) (hL : Lies w.heap.size w T) (hS : T.ok) (hd : T.depth ≤ 900) :
    CallsIn Fence.wide n Try.prog 24 #[T.val] w fun e w' => e = .returned (.int .i64 (T.depth : Int)) ∧ Below w.heap.size w w' := by
  have h1 : 1 ≤ n := by omega
  obtain ⟨p, c, hs, _, _⟩ := hL.eq
  obtain ⟨w1, hw1⟩ : ∃ w1, w.alloc (boxO T) = w1 := ⟨_, rfl⟩
  obtain ⟨w2, hw2⟩ : ∃ w2, w1.alloc (.cells #[.int .i64 0] 3) = w2 := ⟨_, rfl⟩
  obtain ⟨w3, hw3⟩ : ∃ w3, w2.alloc (boxO T) = w3 := ⟨_, rfl⟩
  have s1 : w1.heap.size = w.heap.size + 1 := by rw [← hw1]; simp
  have s2 : w2.heap.size = w.heap.size + 2 := by rw [← hw2]; simp [s1]
  have s3 : w3.heap.size = w.heap.size + 3 := by rw [← hw3]; simp [s2]
  have B1 : Below w.heap.size w w1 := by rw [← hw1]; exact bl_alloc (Below.refl _ _) _
  have B2 : Below w.heap.size w w2 := by rw [← hw2]; exact bl_alloc B1 _
  have B12 : Below w1.heap.size w1 w2 := by rw [← hw2]; exact bl_alloc (Below.refl _ _) _
  have B23 : Below w2.heap.size w2 w3 := by rw [← hw3]; exact bl_alloc (Below.refl _ _) _
  have B3 : Below w.heap.size w w3 := bl_trans B2 B23
  have b1 : Cells5 w2 w.heap.size 0 T := (by rw [← hw1]; exact box_new w T : Cells5 w1 w.heap.size 0 T).below B12 (by omega)
  have hb : Cells5 w3 w2.heap.size 0 T := by rw [← hw3]; exact box_new w2 T
  have hc0 : OneC w3 w1.heap.size (.int .i64 0) := (by rw [← hw2]; exact OneC.new w1 _ 3 : OneC w2 w1.heap.size (.int .i64 0)).below B23 (by omega)
  have hst := spots_stops (n - 1) w.heap.size (w.heap.size + 1 + 1) T w3 (by omega) (by omega) (by rw [show w.heap.size + 1 + 1 = w2.heap.size by omega]; exact hb) (hL.below B3) hS hd
  have HSp := fun w2 => spots_in (n - 1) T w2
  simp only [NT.val, hs, boxO] at HSp hw1 hw3 ⊢
  subst hw1
  subst hw2
  refine callsIn_of_wp_marks Try.func24 rfl trivial ?_
  simp only [Try.ntmps24, List.size_toArray, List.length_cons, List.length_nil, Nat.reduceAdd, Nat.reduceSub, Array.replicate_succ, Array.replicate_zero, List.push_toArray, List.append_toArray, List.nil_append, List.cons_append]
  have Hw3 := hide hw3
  have Hc0 := hide hc0
  have HB3 := hide B3
  have Hs3 := hide s3
  clear hb hc0 b1 B23 B12 B2 B1 B3 s1 s2 s3 hw3
  have Hst := hide hst
  clear hst
  gi_wp2_with ((try refine ⟨fun h => (by cases h), ?_⟩); refine (HSp _).mono ?_; clear HSp; rintro e w' ⟨rfl, rfl⟩)
  rw [Hw3.out]
  have hD : w3.heap.size = w.heap.size + 3 := Hs3.out
  refine wpIn_rangeFunc_ownH rfl h1 (gf := 45) (lb := #[.pointer (some ⟨w.heap.size + 1 + 1, 0, none⟩)]) rfl trivial (enters_of Try.func45 (by kernel_rfl) rfl)
    Hst.out keepC_t keepC_b (Below.refl _ _) (fun _ => rfl)
    (fun pre W => (OneC W (w.heap.size + 1) (.int .i64 (maxS (pre.map (·.1)))) ∧ Below w.heap.size w W) ∧ w3.heap.size ≤ W.heap.size) (fun _ _ _ => False)
    (((oneC_own _ _ _).and (ownFrom_below (Nat.le_refl _) (by omega))).and (ownFrom_size _ _)) (fun _ _ _ _ _ hs _ _ => hs) ⟨⟨by simpa [maxS] using Hc0.out, HB3.out⟩, Nat.le_refl _⟩
    (fun (x : Al w.heap.size w3) a' W => ∃ B1, W.cell? ⟨B1, 0, none⟩ = some (.int .i64 x.1.2.1) ∧ a' = { tmps := #[.agg #[.int .i64 T.k, .string T.t, .int .i64 T.n, .slice p T.len c, .int .i64 T.a], .pointer (some ⟨w.heap.size, 0, none⟩), .int .i64 0, .pointer (some ⟨w.heap.size + 1, 0, none⟩), undef, .pointer (some ⟨B1, 0, none⟩), .agg #[.int .i64 T.k, .string T.t, .int .i64 T.n, .slice p T.len c, .int .i64 T.a], .func (.func 45) #[] #[.pointer (some ⟨w.heap.size + 1 + 1, 0, none⟩)], x.1.1.val, spotV x.1.2.1 x.1.2.2, undef, undef, undef, undef, undef], defers := [] }) ?hAx ?assign ?body ?done ?stop
  case hAx =>
    rintro x a' s W W' row ⟨B1, hv, e⟩ hg hr
    exact ⟨B1, cell_kept hv hg (fun r e => (hr r e).2), e⟩
  case assign =>
    intro l pre x W K hI hK
    have HK := hide hK
    have HI := hide hI
    clear hK hI
    obtain ⟨p', c', hs', _, _⟩ := x.2.1.eq
    rw [zip2]
    simp only [NT.val, hs', spotV]
    gi_wp2
    have hbl : ∀ o, Below W.heap.size W (W.alloc o) := fun o => bl_alloc (Below.refl _ _) o
    have hv : (W.alloc (Obj.cells #[.int .i64 x.1.2.1, .int .i64 x.1.2.2] 55)).cell? ⟨W.heap.size, 0, none⟩ = some (.int .i64 x.1.2.1) := by rw [cell_of_row _ W.heap.size _ _ 55 (0, 0) (World.alloc_heap_new W _)]; rfl
    refine HK.out _ _ ((KeepsOthers.alloc _ _).from _) (KeepC.of_below (hbl _)) ⟨⟨HI.out.1.1.below (hbl _) (World.block_lt_of_cell? _ _ HI.out.1.1.1), HI.out.1.2.trans ((hbl _).mono HI.out.1.2.size)⟩, Nat.le_trans HI.out.2 (hbl _).size⟩ ⟨_, hv, ?_⟩
    simp only [NT.val, hs', spotV]
  case body =>
    rintro l pre x a' W hl ⟨r, hr⟩ ⟨⟨⟨hc, hf⟩, hb⟩, hsz⟩ ⟨B1, hv, rfl⟩ hlen
    have HD := hide hD
    have HB := hide hb
    have HZ := hide hsz
    have HMx := hide (maxS_add (pre.map (·.1)) x.1)
    have HH := hide (show OneC W (w.heap.size + 1) (.int .i64 (maxS (pre.map (·.1)))) from ⟨hc, hf⟩)
    generalize maxS (pre.map (·.1)) = M at *
    clear hb hD hlen hsz hr hl
    gi_wp2
    refine ⟨(KeepsOthers.setCell _ _ _).from _, keepC_set _ _ _ ⟨by omega, by have := HD.out; omega⟩, ⟨?_, HB.out.setCell (by show w.heap.size ≤ w.heap.size + 1; omega) _⟩, by simpa using HZ.out⟩
    have := HH.out.set (.int .i64 (max M x.1.2.1))
    rw [List.map_append, List.map_singleton, HMx.out]
    exact this
  case done =>
    rintro D ys W hle hys ⟨⟨⟨hc, hf⟩, hb⟩, hsz⟩ hK
    have hl : maxS (ys.map (·.1)) = (T.depth : Int) := by rw [hys, maxS_pres]
    rw [hl] at hc
    have HB := hide (hb.trans (belowK_b (w := w3) (n₀ := w.heap.size) (by omega) W D (.deferred (some [])) (.deferred none) hle hK rfl rfl))
    have HK := hide hK
    clear hys hl hb hle hD hK hsz
    gi_wp2
    refine ⟨by simp, .inl ⟨_, _, rfl, run_takeDeferred HK.out, ?_⟩⟩
    exact ⟨_, results_tmp rfl _ _ _, rfl, HB.out⟩
  case stop =>
    rintro D c pre W _ _ h _
    exact h.elim
theorem depth_any (T : NT) (w : World) (hL : Lies w.heap.size w T) (hS : T.ok) (hd : T.depth ≤ 900) :
    Calls Try.prog 24 #[T.val] w fun e w' => e = .returned (.int .i64 (T.depth : Int)) ∧ Below w.heap.size w w' :=
  (callsIn_wide (n := 9)).1 (depth_in 9 (by omega) T w hL hS hd)
end Go.Proofs.Ytdccodnompalbaa
