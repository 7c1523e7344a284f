/- 'tree.spots' and 'tree.Size': the iterator's contract; how many nodes a tree has, by the program. No conditions beyond the bounds that each statement names. -/
import Derived.Test.YtdccodnompalbaaWk
import Derived.RangeFuncFrom
namespace Go.Proofs.Ytdccodnompalbaa
open Go.RowKit Go.Shelf
attribute [local go_sem] Oper.semAt_some wide_fn
attribute [local simp] wide_fn

/-- 'spots(n)': n in a box; the function value captures it. -/
theorem spots_in (n : Nat) (T : NT) (w : World) : CallsIn Fence.wide n Try.prog 38 #[T.val] w fun e w' => e = .returned (.func (.func 45) #[] #[.pointer (some ⟨w.heap.size, 0, none⟩)]) ∧ w' = w.alloc (boxO T) := by
  simp only [NT.val, boxO]
  refine callsIn_of_wp Try.func38 rfl trivial ?_
  simp only [Try.ntmps38, List.size_toArray, List.length_cons, List.length_nil, Nat.reduceAdd, Nat.reduceSub, Array.replicate_succ, Array.replicate_zero, List.push_toArray, List.append_toArray, List.nil_append, List.cons_append]
  gi_wp2
  go_ret
  exact ⟨rfl, rfl⟩

/-- The function value that 'spots' hands back. -/
theorem spots1_in (n l n₀ D B : Nat) (W0 : World) (T : NT) (J Jx : List (Al n₀ W0) → World → Prop)
    (hY : ∀ m pre x W, J pre W → pre.length < T.size → YieldAt Fence.wide m Try.prog l (encS x) W fun e W' =>
      (e = .returned (.bool true) ∧ J (pre ++ [x]) W' ∧ KeepC n₀ D W W') ∨ (e = .returned (.bool false) ∧ Jx (pre ++ [x]) W'))
    (hJ : ∀ pre W W', J pre W → W.grownBy W' none → J pre W') (W : World) (hL0 : Lies n₀ W0 T) (hL : Lies n₀ W T) (hS : T.ok) (hd : T.depth ≤ 900) (hnD : n₀ ≤ D) (hD : D ≤ W.heap.size)
    (hb : Cells5 W B 0 T) (h0 : J [] W) :
    CallsIn Fence.wide n Try.prog 45 #[.func (.yield l) #[] #[], .pointer (some ⟨B, 0, none⟩)] W fun e W' => (∃ v, e = .returned v) ∧
      ((∃ ys : List (Al n₀ W0), ys.map (·.1) = T.pres 1 0 ∧ J ys W') ∨ (∃ ys : List (Al n₀ W0), (ys.map (·.1) <+: T.pres 1 0 ∧ ys ≠ []) ∧ Jx ys W')) := by
  obtain ⟨p, c, hs, _, _⟩ := hL.eq
  obtain ⟨b0, b1, b2, b3, b4⟩ := hb
  have HW := walk_in l n₀ D T.size W0 J Jx hY hJ T (n - 1) 1 0 [] W hL0 hL hS (by omega) (by omega) hnD hD h0 (by simp)
  rw [hs] at b3
  simp only [NT.val, spotV, hs] at HW
  clear hL0 hL hY hJ hS hs hd hD h0
  refine callsIn_of_wp Try.func45 rfl trivial ?_
  simp only [Try.ntmps45, List.size_toArray, List.length_cons, List.length_nil, Nat.reduceAdd, Nat.reduceSub, Array.replicate_succ, Array.replicate_zero, List.push_toArray, List.append_toArray, List.nil_append, List.cons_append]
  gi_wp2_with (refine ⟨fun h => (by cases h), ?_⟩; refine HW.mono ?_; clear HW; rintro e w2 (⟨rfl, ys, hy, hj, _⟩ | ⟨rfl, ys, hy, hy0, hx⟩))
  · go_end0
    exact ⟨⟨_, rfl⟩, .inl ⟨ys, hy, by simpa using hj⟩⟩
  · go_end0
    exact ⟨⟨_, rfl⟩, .inr ⟨ys, ⟨hy, hy0⟩, by simpa using hx⟩⟩

theorem anyYield {m : Nat} (m' : Nat) {P : Program} {l : Nat} {args : Array Value} {W : World} {R : Ending → World → Prop} (h : YieldAt Fence.wide m P l args W R) : YieldAt Fence.wide m' P l args W R := by
  obtain ⟨fn, tmps, assign, body, hy, hR⟩ := h
  exact ⟨fn, tmps, assign, body, hy, hR.1, fun c cs _ => hR.2 c cs (room_wide _)⟩

/-- **'spots(n)' stops**: all nodes in order, or a part of them. -/
theorem spots_stops (n n₀ B : Nat) (T : NT) (w : World) (hn : n₀ ≤ w.heap.size) (hB : B < w.heap.size) (hb : Cells5 w B 0 T) (hL : Lies n₀ w T) (hS : T.ok) (hd : T.depth ≤ 900) :
    SeqStopsK Fence.wide n Try.prog 45 #[.pointer (some ⟨B, 0, none⟩)] (encS (b := n₀) (W0 := w)) (KeepC n₀ w.heap.size) (fun ys => ys.map (·.1) = T.pres 1 0) (fun ys => ys.map (·.1) <+: T.pres 1 0 ∧ ys ≠ []) T.size w := fun l J Jx W hW hJ _ hY h0 =>
  spots1_in n l n₀ w.heap.size B w T J Jx (fun m pre x W1 h1 h2 => anyYield m (hY pre x W1 h1 h2)) (fun pre A A' h hg => hJ pre A A' none h hg (fun _ e => by cases e)) W hL (hL.below (hW.mono hn)) hS hd hn hW.size (hb.below hW hB) h0
end Go.Proofs.Ytdccodnompalbaa
