/- From a law's walk to its row: slices of trees that came in. No conditions beyond those that each statement names. -/
import Derived.Test.YtdccodnompalbaaV
namespace Go.Proofs.Ytdccodnompalbaa
open Go.ChangeShapes Go.WideShapes Go.ChangeAt Go.RowKit Go.Deep

theorem open_nodes {H : Type} {enc : TypeId × Value → H} {W : World} {base : Nat} {v : Value} {d : DataW H} {ps : List MemPlace} (hval : Value.okWide Try.prog W .any base 22 v)
    (h : DataW.Trod enc Try.prog W 0 (fun _ => true) true 22 v d ps) : ∃ (p : Option Addr) (len c : Nat) (kid : Nat → NT), v = .slice p len c ∧ Lies W.heap.size W (.mk 1 ⟨#[]⟩ 0 (.slice p len c) len kid 0) ∧ (NT.mk 1 ⟨#[]⟩ 0 (.slice p len c) len kid 0).sized maxLen := by
  obtain ⟨a1, l1, c1, rfl⟩ := okWide_slice Try.underlying22 hval
  obtain ⟨fuel, hf⟩ := h
  rcases DataW.trod_slice Try.underlying22 hf with ⟨hc, _⟩ | ⟨ad, len, cap, elems, rest, m, rfl, hc, _, _, hlc, hcm, hel, hx, _⟩
  · simp [Value.cells] at hc
    obtain ⟨rfl, rfl, rfl⟩ := hc
    exact ⟨none, 0, 0, fun _ => .nul, rfl, ⟨none, 0, rfl, ⟨Nat.le_refl _, fun _ => rfl⟩, fun h => absurd rfl h⟩, Nat.zero_le _, Nat.zero_le _, fun i hi => absurd hi (Nat.not_lt_zero _)⟩
  · simp [Value.cells] at hc
    obtain ⟨rfl, rfl, rfl⟩ := hc
    have each : ∀ i, i < l1 → ∃ T : NT, W.cell? (ad.add (i * 5)) = some (.int .i64 T.k) ∧ W.cell? (ad.add (i * 5 + 1)) = some (.string T.t) ∧ W.cell? (ad.add (i * 5 + 2)) = some (.int .i64 T.n) ∧ W.cell? (ad.add (i * 5 + 3)) = some T.s ∧ W.cell? (ad.add (i * 5 + 4)) = some (.int .i64 T.a) ∧ Lies W.heap.size W T ∧ T.sized maxLen := by
      intro i hi
      have key := hx i hi
      rw [List.getElem?_eq_getElem (by omega)] at key
      obtain ⟨cs', g1, g2⟩ := Option.bind_eq_some_iff.1 key
      rw [show Try.prog.cellsOf 24 = 5 by kernel_rfl] at g1
      obtain ⟨_, hlen, hcell⟩ := World.cells?_some g1
      obtain ⟨T, rfl, hT, hS⟩ := trod_node m cs' _ hlen g2
      have c0 := hcell 0 (by omega)
      have c1 := hcell 1 (by omega)
      have c2 := hcell 2 (by omega)
      have c3 := hcell 3 (by omega)
      have c4 := hcell 4 (by omega)
      rw [add_add] at c0 c1 c2 c3 c4
      exact ⟨T, by simpa using c0, by simpa using c1, by simpa using c2, by simpa using c3, by simpa using c4, hT, hS⟩
    obtain ⟨Tf, hT⟩ := choose_lt each
    refine ⟨some ad, l1, c1, Tf, rfl, ⟨some ad, c1, rfl, ⟨hlc, fun h => (by cases h)⟩, fun hne => ?_⟩, Nat.zero_le _, by omega, fun i hi => (hT i hi).2.2.2.2.2.2⟩
    have h0 : 0 < l1 := Nat.pos_of_ne_zero hne
    obtain ⟨ab, ao, spot⟩ := ad
    have hsp : spot = none := by simpa [Addr.add] using World.cell?_spot (hT 0 h0).1
    subst hsp
    refine ⟨ab, ao, rfl, World.block_lt_of_cell? _ _ (hT 0 h0).1, fun i hi => ⟨?_, (hT i hi).2.2.2.2.2.1⟩⟩
    have q := hT i hi
    simp only [Addr.add_lit] at q
    exact ⟨q.1, q.2.1, q.2.2.1, q.2.2.2.1, q.2.2.2.2.1⟩

/-- A slice of nodes that came in reads as it did. -/
theorem nodes_stay {H : Type} {enc : TypeId × Value → H} {W W' : World} {v : Value} {d : DataW H} {ps : List MemPlace} {sp : Nat → Bool}
    (h : DataW.Trod enc Try.prog W 0 (fun _ => true) true 22 v d ps) (hb : Below W.heap.size W W') (hlt : ∀ x ∈ ps, x.block < W.heap.size) (hsp : ∀ x ∈ ps, sp x.block = true) :
    DataW.Trod enc Try.prog W' 0 sp true 22 v d ps :=
  WideElems.Trod_stays (by kernel_rfl) (by kernel_rfl) (of_decide_eq_true (by kernel_rfl)) h (fun x hx => hb.same (hlt x hx)) hsp
end Go.Proofs.Ytdccodnompalbaa
