/- A slice of tokens that came in: how long it and its texts may be. No conditions beyond those that each statement names. -/
import Derived.Test.YtjiencifdpopdaaV
import Derived.SizedLaws
namespace Go.Proofs.Ytjiencifdpopdaa
open Go.ChangeShapes Go.WideShapes Go.ChangeAt Go.RowKit Go.Deep

theorem weightsAll_mem {H : Type} {P : Program} {e : TypeId} : ∀ (l : List (DataW H)) (d : DataW H) (n : Nat), d ∈ l → n ∈ d.weights P e → n ∈ DataW.weightsAll P e l
  | x :: r, d, n, hd, hn => by
    rw [DataW.weightsAll]
    rcases List.mem_cons.1 hd with rfl | hd
    · exact List.mem_append_left _ hn
    · exact List.mem_append_right _ (weightsAll_mem r d n hd hn)

theorem fields32_sized {H : Type} {enc : TypeId × Value → H} {W : World} {spare : Nat → Bool} {fuel : Nat} {cs : List Value} {x : DataW H × List MemPlace} (hl : cs.length = 3)
    (h : DataW.trod enc Try.prog W 0 spare true fuel 32 cs = some x) : ∃ q : RT, cs = [.int .i64 q.1, .string q.2.1, .int .i64 q.2.2] ∧ q.2.1.size ∈ x.1.weights Try.prog 32 := by
  obtain ⟨xs, n, _, hx, _, hxl, hf⟩ := DataW.trod_struct Try.underlying32 h
  match cs, hl with
  | [a, b, c], _ =>
    match xs, hxl with
    | [x0, x1, x2], _ =>
      have f0 : DataW.trod enc Try.prog W 0 spare true n 3 ((List.drop 0 [a, b, c]).take (Try.prog.cellsOf 3)) = some x0 := hf 0 _ rfl
      have f1 : DataW.trod enc Try.prog W 0 spare true n 9 ((List.drop 1 [a, b, c]).take (Try.prog.cellsOf 9)) = some x1 := hf 1 _ rfl
      have f2 : DataW.trod enc Try.prog W 0 spare true n 3 ((List.drop 2 [a, b, c]).take (Try.prog.cellsOf 3)) = some x2 := hf 2 _ rfl
      rw [show Try.prog.cellsOf 3 = 1 by kernel_rfl] at f0 f2
      rw [show Try.prog.cellsOf 9 = 1 by kernel_rfl] at f1
      obtain ⟨k1, e1, g1, _⟩ := DataW.trod_int Try.underlying3 f0
      obtain ⟨k2, e2, g2, _⟩ := DataW.trod_string Try.underlying9 f1
      obtain ⟨k3, e3, g3, _⟩ := DataW.trod_int Try.underlying3 f2
      simp at e1 e2 e3
      refine ⟨(k1, k2, k3), by rw [e1, e2, e3], ?_⟩
      rw [hx, g1, g2, g3]
      simp [DataW.weights, DataW.weightsEach, Try.underlying32]

theorem open_toks_sized {H : Type} {enc : TypeId × Value → H} {W : World} {base : Nat} {v : Value} {d : DataW H} {ps : List MemPlace} (hval : Value.okWide Try.prog W .any base 23 v)
    (h : DataW.Trod enc Try.prog W 0 (fun _ => true) true 23 v d ps) (hz : ∀ n ∈ d.weights Try.prog 23, n ≤ reachBytes) : ∃ la, Toks W v la ∧ la.length ≤ reachBytes ∧ ∀ x ∈ la, x.2.1.size ≤ reachBytes := by
  obtain ⟨a1, len, cap, rfl⟩ := okWide_slice Try.underlying23 hval
  obtain ⟨fuel, hf⟩ := h
  rcases open_slice Try.underlying23 hf with ⟨hcs, _⟩ | ⟨a, len', cap', m, n, D, Pl, hcs, _, hl, hm, hmm, hd, hx⟩
  · simp [Value.cells] at hcs
    obtain ⟨rfl, rfl, rfl⟩ := hcs
    exact ⟨[], Toks.nil _, Nat.zero_le _, fun x hx => absurd hx List.not_mem_nil⟩
  · simp [Value.cells] at hcs
    obtain ⟨rfl, rfl, rfl⟩ := hcs
    simp only [if_true] at hmm
    simp only [Prod.mk.injEq] at hd
    obtain ⟨rfl, _⟩ := hd
    have each : ∀ i, i < len → ∃ q : RT, W.cell? (a.add (i * 3)) = some (.int .i64 q.1) ∧ W.cell? (a.add (i * 3 + 1)) = some (.string q.2.1) ∧ W.cell? (a.add (i * 3 + 2)) = some (.int .i64 q.2.2) ∧ q.2.1.size ≤ reachBytes := by
      intro i hi
      obtain ⟨cs', h1, h2⟩ := hx i (by omega)
      rw [show Try.prog.cellsOf 32 = 3 by kernel_rfl] at h1
      obtain ⟨_, hlen, hcell⟩ := World.cells?_some h1
      obtain ⟨q, rfl, hqs⟩ := fields32_sized hlen h2
      have g0 := hcell 0 (by omega)
      have g1 := hcell 1 (by omega)
      have g2 := hcell 2 (by omega)
      rw [add_add] at g0 g1 g2
      refine ⟨q, by simpa using g0, by simpa using g1, by simpa using g2, hz _ ?_⟩
      rw [DataW.weights, Try.underlying23]
      exact List.mem_cons_of_mem _ (List.mem_append_left _ (weightsAll_mem _ _ _ (List.mem_map.2 ⟨i, List.mem_range.2 hi, rfl⟩) hqs))
    obtain ⟨q, hq⟩ := choose_lt each
    have hlen : len ≤ reachBytes := by
      have := hz ((len + (cap - len)) * Try.prog.bytesOf 32) (by
        rw [DataW.weights, Try.underlying23]
        simp [hmm])
      rw [show Try.prog.bytesOf 32 = 32 by kernel_rfl] at this
      omega
    refine ⟨(List.range len).map q, ⟨some a, cap, by simp, ⟨by simpa using hl, fun h => by cases h⟩, fun hne => ?_⟩, by simpa using hlen, fun x hx => ?_⟩
    · have h0 : 0 < len := by
        rcases Nat.eq_zero_or_pos len with h | h
        · subst h; exact absurd rfl hne
        · exact h
      obtain ⟨ab, ao, spot⟩ := a
      have hsp : spot = none := by simpa [Addr.add] using World.cell?_spot (hq 0 h0).1
      subst hsp
      refine ⟨ab, ao, rfl, World.block_lt_of_cell? _ _ (hq 0 h0).1, fun j x hj => ?_⟩
      rw [List.getElem?_map] at hj
      obtain ⟨i, hi, rfl⟩ := Option.map_eq_some_iff.1 hj
      have hij : j < len := by
        have := (List.getElem?_eq_some_iff.1 hi).1; simpa using this
      have : i = j := by
        have := (List.getElem?_eq_some_iff.1 hi).2; simpa using this.symm
      subst this
      have := hq i hij
      simp only [Addr.add_lit] at this
      exact ⟨this.1, this.2.1, this.2.2.1⟩
    · obtain ⟨i, hi, rfl⟩ := List.mem_map.1 hx
      exact (hq i (List.mem_range.1 hi)).2.2.2
end Go.Proofs.Ytjiencifdpopdaa
