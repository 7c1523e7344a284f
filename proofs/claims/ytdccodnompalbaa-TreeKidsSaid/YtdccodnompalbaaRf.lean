/- 'tree.Right', 'tree.Fits', and what the law asks first of all: its examples. No conditions beyond the bounds that each statement names. -/
import Derived.Test.YtdccodnompalbaaWr
import Derived.KernelRfl
namespace Go.Proofs.Ytdccodnompalbaa
open Go.RowKit Go.Shelf
attribute [local go_sem] Oper.semAt_some wide_fn
attribute [local simp] wide_fn

/-- A tree that lies there, and isn't too great. -/
structure Good (w : World) (T : NT) : Prop where
  lies : Lies w.heap.size w T
  ok : T.ok
  depth : T.depth ≤ 900
  size : T.size ≤ 1000000
theorem Good.below {w w' : World} {T : NT} (h : Good w T) (hb : Below w.heap.size w w') : Good w' T := ⟨(h.lies.below hb).mono hb.size, h.ok, h.depth, h.size⟩
theorem wrong_any (T : NT) (asked : Bool) (w : World) (h : Good w T) (hm : MaxOk w) :
    Calls Try.prog 32 #[T.val, .bool asked] w fun e w' => e = .returned (.agg #[.int .i64 (wrongM T asked).1, .int .i64 (wrongM T asked).2]) ∧ Below w.heap.size w w' :=
  (callsIn_wide (n := 9)).1 (wrong_in 9 (by omega) T asked w h.lies h.ok h.depth hm)
theorem size_any (T : NT) (w : World) (h : Good w T) : Calls Try.prog 23 #[T.val] w fun e w' => e = .returned (.int .i64 (T.size : Int)) ∧ Below w.heap.size w w' :=
  (callsIn_wide (n := 9)).1 (size_in 9 (by omega) T w h.lies h.ok h.depth h.size)

theorem new_two {W w2 : World} {e : TypeId} {a b : Value} (h : Below (W.alloc (Obj.cells #[a, b] e)).heap.size (W.alloc (Obj.cells #[a, b] e)) w2) :
    w2.cell? ⟨W.heap.size, 0, none⟩ = some a ∧ w2.cell? ⟨W.heap.size, 1, none⟩ = some b ∧ w2.frozen? ⟨W.heap.size, 0, none⟩ = false ∧ w2.frozen? ⟨W.heap.size, 1, none⟩ = false := by
  have hlt : W.heap.size < (W.alloc (Obj.cells #[a, b] e)).heap.size := by simp
  have hn := World.alloc_heap_new W (Obj.cells #[a, b] e)
  refine ⟨(h.cell (p := ⟨W.heap.size, 0, none⟩) hlt).trans ?_, (h.cell (p := ⟨W.heap.size, 1, none⟩) hlt).trans ?_, (h.frozen (p := ⟨W.heap.size, 0, none⟩) hlt).trans ?_, (h.frozen (p := ⟨W.heap.size, 1, none⟩) hlt).trans ?_⟩ <;>
    simp only [World.cell?, World.frozen?, hn] <;> rfl
theorem two_setN {W : World} {b : Nat} {x0 x1 : Value} (u v : Value) (h0 : W.cell? ⟨b, 0, none⟩ = some x0) (h1 : W.cell? ⟨b, 1, none⟩ = some x1) :
    ((W.setCell ⟨b, 0, none⟩ u).setCell ⟨b, 1, none⟩ v).cell? ⟨b, 0, none⟩ = some u ∧ ((W.setCell ⟨b, 0, none⟩ u).setCell ⟨b, 1, none⟩ v).cell? ⟨b, 1, none⟩ = some v := by
  have e1 : (W.setCell ⟨b, 0, none⟩ u).cell? ⟨b, 0, none⟩ = some u := World.cell?_setCell_same W _ u h0
  have e2 : (W.setCell ⟨b, 0, none⟩ u).cell? ⟨b, 1, none⟩ = some x1 := by rw [World.cell?_setCell_other _ _ _ _ (by simp)]; exact h1
  exact ⟨by rw [World.cell?_setCell_other _ _ _ _ (by simp)]; exact e1, World.cell?_setCell_same _ _ v e2⟩

def rightM (T : NT) : Int × Int := wrongM T (T.k == 1)
def fitsM (T : NT) (c : Int) : Bool := (wrongM T (isOneM T.k c)).1 == 0

theorem right_any (T : NT) (w : World) (h : Good w T) (hm : MaxOk w) :
    Calls Try.prog 13 #[T.val] w fun e w' => e = .returned (.agg #[.int .i64 (rightM T).1, .int .i64 (rightM T).2]) ∧ Below w.heap.size w w' := by
  obtain ⟨p, c, hs, _, _⟩ := h.lies.eq
  have hB : ∀ o o', Below w.heap.size w ((w.alloc o).alloc o') := fun o o' => two_alloc w o o'
  have HW := hide fun w' (hb : Below w.heap.size w w') => wrong_any T (T.k == 1) w' (h.below hb) (hm.below hb)
  have HR := hide (show rightM T = wrongM T (T.k == 1) from rfl)
  generalize rightM T = R at *
  simp only [NT.val, hs] at HW ⊢
  clear h hm
  go_enter Try.func13, Try.ntmps13
  go_wp2_with (go_at_call 32; refine (HW.out _ (hB _ _)).mono ?_; rintro e w2 ⟨rfl, hb2⟩; have HB2 := hide hb2; obtain ⟨c0, c1, f0, f1⟩ := new_two hb2; clear hb2; rw [World.size_alloc] at c0 c1 f0 f1)
  obtain ⟨g0, g1⟩ := two_setN (.int .i64 (wrongM T (T.k == 1)).fst) (.int .i64 (wrongM T (T.k == 1)).snd) c0 c1
  refine bodyPost_ret (v := .agg #[.int .i64 (wrongM T (T.k == 1)).fst, .int .i64 (wrongM T (T.k == 1)).snd]) (by simp [results, Try.results13, go_sem, g0, g1]) rfl ?_
  exact ⟨by rw [HR.out], (((hB _ _).trans (HB2.out.mono (hB _ _).size)).setCell (p := ⟨w.heap.size + 1, 0, none⟩) (by show w.heap.size ≤ w.heap.size + 1; omega) _).setCell (p := ⟨w.heap.size + 1, 1, none⟩) (by show w.heap.size ≤ w.heap.size + 1; omega) _⟩

theorem field29 (a b : Int) (w : World) : (Instr.field 29 (.agg #[.int .i64 a, .int .i64 b]) 0).run Try.prog w = .ok (.int .i64 a) w := by kernel_rfl

theorem fits_in (n : Nat) (T : NT) (c : Int) (w : World) (h : Good w T) (hm : MaxOk w) :
    CallsIn Fence.wide n Try.prog 15 #[T.val, .int .i64 c] w fun e w' => e = .returned (.bool (fitsM T c)) ∧ Below w.heap.size w w' := by
  obtain ⟨p, q, hs, _, _⟩ := h.lies.eq
  have hB : ∀ m, Below w.heap.size w ((w.alloc (boxO T)).drewN m) := fun m => bl_drewN (bl_alloc (Below.refl _ _) _) m
  have HW := hide fun w' (hb : Below w.heap.size w w') => wrong_any T (isOneM T.k c) w' (h.below hb) (hm.below hb)
  have HR := hide (show fitsM T c = ((wrongM T (isOneM T.k c)).1 == 0) from rfl)
  have ho : ∀ w, Calls Try.prog 34 #[.int .i64 T.k, .int .i64 c] w fun e w' => e = .returned (.bool (isOneM T.k c)) ∧ w' = w := fun w => (isOne_any T.k c w).mono fun _ _ h => ⟨h.1, h.2.symm⟩
  generalize fitsM T c = R at *
  have hfd := field29
  simp only [boxO, hs] at hB
  simp only [NT.val, hs] at HW ⊢
  clear h hm
  refine callsIn_of_wp Try.func15 rfl trivial ?_
  simp only [Try.ntmps15, List.size_toArray, List.length_cons, List.length_nil, Nat.reduceAdd, Nat.reduceSub, Array.replicate_succ, Array.replicate_zero, List.push_toArray, List.append_toArray, List.nil_append, List.cons_append]
  gi_wp2
  refine wpIn_region_quiet_tail 5 rfl (by kernel_rfl) (by kernel_rfl) ?_
  simp only [List.take_succ_cons, List.take_zero, List.drop_succ_cons, List.drop_zero]
  iterate 4 (gi_big_quiet_step (fail))
  gi_big_quiet_step (((try refine ⟨fun h => (by cases h), ?_⟩); exact CallsIn.quiet_of_same (callsIn_wide.2 (ho _))))
  refine wpQuietIn_nil ?_
  rintro _ ⟨nq, rfl⟩
  gi_wp2_with ((try refine ⟨fun h => (by cases h), ?_⟩); refine (callsIn_wide.2 (HW.out _ (hB _))).mono ?_; rintro e w2 ⟨rfl, hb2⟩; have HB2 := hide hb2; clear hb2)
  go_ret
  exact ⟨ret_bool (by rw [HR.out]), (hB _).trans (HB2.out.mono (hB nq).size)⟩
theorem fits_any (T : NT) (c : Int) (w : World) (h : Good w T) (hm : MaxOk w) :
    Calls Try.prog 15 #[T.val, .int .i64 c] w fun e w' => e = .returned (.bool (fitsM T c)) ∧ Below w.heap.size w w' := (callsIn_wide (n := 9)).1 (fits_in 9 T c w h hm)

/-- Is a node more than is gone through? -/
def tooGreat (T : NT) : Bool := decide (T.great 100 3000 < 0)
theorem lawGreat_any (T : NT) (w : World) (hL : Lies w.heap.size w T) (hS : T.sized maxLen) : Calls Try.prog 12 #[T.val] w fun e w' => e = .returned (.bool (tooGreat T)) ∧ Below w.heap.size w w' := by
  obtain ⟨p, c, hs, _, _⟩ := hL.eq
  have hB : ∀ o, Below w.heap.size w (w.alloc o) := fun o => bl_alloc (Below.refl _ _) o
  have HG := hide fun w' (hb : Below w.heap.size w w') => great_any T 100 3000 w' ((hL.below hb).mono hb.size) hS (by omega) (by omega) (by omega) (by omega)
  have HR := hide (show tooGreat T = decide (T.great 100 3000 < 0) from rfl)
  generalize tooGreat T = R at *
  simp only [NT.val, hs] at HG ⊢
  clear hL hS
  go_enter Try.func12, Try.ntmps12
  go_wp2_with (go_at_call 31; refine (HG.out _ (hB _)).mono ?_; rintro e w2 ⟨rfl, hb2⟩; have HB2 := hide hb2; clear hb2)
  go_ret
  exact ⟨ret_bool (by rw [HR.out]), (hB _).trans (HB2.out.mono (hB _).size)⟩
theorem good_of {w : World} {T : NT} (hL : Lies w.heap.size w T) (hS : T.sized maxLen) (h : tooGreat T = false) : Good w T := by
  have h0 : 0 ≤ T.great 100 3000 := by simpa [tooGreat] using h
  obtain ⟨h1, h2, h3⟩ := NT.great_spec T 100 3000 h0
  refine ⟨hL, ⟨hS, ?_⟩, by omega, by omega⟩
  have : T.short 150000 := h3 150000 (by omega)
  have up : ∀ (T : NT), T.short 150000 → T.short 4000000000 := by
    intro T
    induction T with
    | nul => exact fun _ => trivial
    | mk k t n s len kid a ih => exact fun h => ⟨Nat.le_trans h.1 (by omega), fun i hi => ih i (h.2 i hi)⟩
  exact up T this
end Go.Proofs.Ytdccodnompalbaa
