/- The library's Builder, as far as Join calls it: its own check, a byte, a text. No conditions beyond those that each statement names. -/
import Derived.Test.YtjiencifdpopdaaG
import Derived.Lib.Builder
import Derived.Lib.AppendStr
import Derived.Laws.Externs
namespace Go.Proofs.Ytjiencifdpopdaa
open Go.RowKit

theorem info49 : (Try.prog.info? 49).map (·.size) = some 2 := by kernel_rfl
theorem info5 : (Try.prog.info? 5).map (fun i => (i.zero, i.size, i.bytes)) = some (some (.int .u8 0), 1, 1) := by kernel_rfl

/-- The Builder of a call's own at block b, behind its first use or not, that holds the bytes l. -/
abbrev Bld (B b : Nat) (l : List UInt8) (w : World) : Prop := Lib.IsBuilder 49 5 B b (Lib.byteCells l) w

set_option maxHeartbeats 2000000 in
theorem check_used (b : Nat) (w : World) (h0 : w.cell? ⟨b, 0, none⟩ = some (.pointer (some ⟨b, 0, none⟩))) :
    Calls Try.prog 45 #[.pointer (some ⟨b, 0, none⟩)] w fun e w' => e = .returned (.tuple #[]) ∧ w' = w := by
  obtain ⟨j, hj, hj2⟩ := Option.map_eq_some_iff.1 info49
  have hsame := Lib.run_neq_ptr_same (P := Try.prog) w ⟨b, 0, none⟩ Try.underlying46 hj
  go_enter Try.func45, Try.ntmps45
  go_wp2
  go_end0
  exact ⟨rfl, rfl⟩

set_option maxHeartbeats 2000000 in
theorem check_fresh (b : Nat) (w : World) (h0 : w.cell? ⟨b, 0, none⟩ = some (.pointer none)) (hsh : w.shape? b = some (49, 2)) (hfz : w.frozen? ⟨b, 0, none⟩ = false) :
    Calls Try.prog 45 #[.pointer (some ⟨b, 0, none⟩)] w fun e w' => e = .returned (.tuple #[]) ∧ w' = w.setCell ⟨b, 0, none⟩ (.pointer (some ⟨b, 0, none⟩)) := by
  obtain ⟨j, hj, hj2⟩ := Option.map_eq_some_iff.1 info49
  have ht := Lib.run_to_unsafe (P := Try.prog) w (src := 46) (dst := 61) (t := 49) (e := 49) (cells := 2) ⟨b, 0, none⟩ Try.underlying46 Try.underlying61 hj (by rw [hj2]; decide) hsh (Nat.zero_lt_succ 1)
  have hf := Lib.run_from_unsafe (P := Try.prog) w (src := 61) (dst := 46) (u := 49) (e := 49) (cells := 2) ⟨b, 0, none⟩ Try.underlying61 Try.underlying46 hj hsh (by show liesAt Try.prog Try.prog.depth 49 (2 / Try.prog.cellsOf 49) 0 49 1 = true; kernel_rfl)
  go_enter Try.func45, Try.ntmps45
  go_wp2
  try (rw [ht]; simp only [Result.andThen]; rw [Oper.upon_value]; go_wp2)
  rw [run_callFunc_extern Try.func51 (by kernel_rfl) (by kernel_rfl) (by kernel_rfl) (e := Extern.AbiNoEscape.same) (by kernel_rfl), Lib.run_noEscape]
  simp only [Result.andThen]
  rw [Oper.upon_value]
  go_wp2
  try (rw [hf]; simp only [Result.andThen]; rw [Oper.upon_value]; go_wp2)
  go_end0
  exact ⟨rfl, rfl⟩

/-- A block that is neither the Builder's own nor its buffer's. -/
def Other (b q : Nat) (w : World) : Prop := q < w.heap.size ∧ q ≠ b ∧ ∀ p v, w.heap[b]? = some (.cells #[p, v] 49 (0, 0)) → v.ownBlock ≠ some q

theorem set_head {w : World} {b : Nat} {p v u : Value} (h : w.heap[b]? = some (.cells #[p, v] 49 (0, 0))) : (w.setCell ⟨b, 0, none⟩ u).heap[b]? = some (.cells #[u, v] 49 (0, 0)) := by
  simp [World.setCell, Array.getElem?_modify, h]

theorem check_any (B b : Nat) (bs : List Value) (w : World) (h : Lib.IsBuilder 49 5 B b bs w) :
    Calls Try.prog 45 #[.pointer (some ⟨b, 0, none⟩)] w fun e w' => e = .returned (.tuple #[]) ∧ Lib.BuilderAt 49 5 B b (.pointer (some ⟨b, 0, none⟩)) bs w' ∧ Below B w w' ∧
      ∀ q, Other b q w → Other b q w' ∧ w'.heap[q]? = w.heap[q]? := by
  rcases h with h | h
  · refine (check_fresh b w h.cell0 h.shape h.frozen0).mono fun e w' ⟨he, hw⟩ => ⟨he, by rw [hw]; exact h.used _, by rw [hw]; exact (Below.refl B w).setCell (p := ⟨b, 0, none⟩) h.1 _, fun q hq => ?_⟩
    obtain ⟨h1, h2, h3⟩ := hq
    obtain ⟨_, v0, hbk, _, _⟩ := h
    have hs := ((Below.refl 0 w).setCell (p := ⟨b, 0, none⟩) (Nat.zero_le _) (.pointer (some ⟨b, 0, none⟩))).size
    rw [hw]
    refine ⟨⟨Nat.lt_of_lt_of_le h1 hs, h2, fun p v hv => ?_⟩, Below.heap_setCell _ _ _ _ h2⟩
    rw [set_head hbk] at hv
    cases hv
    exact h3 _ _ hbk
  · exact (check_used b w h.cell0).mono fun e w' ⟨he, hw⟩ => ⟨he, by rw [hw]; exact h, by rw [hw]; exact Below.refl B _, fun q hq => by rw [hw]; exact ⟨hq, rfl⟩⟩

theorem heap_lt {w : World} {b : Nat} {o : Obj} (h : w.heap[b]? = some o) : b < w.heap.size := by
  rcases Nat.lt_or_ge b w.heap.size with h' | h'
  · exact h'
  · rw [Array.getElem?_eq_none h'] at h; cases h

set_option maxHeartbeats 2000000 in
theorem writeByte_any (B b : Nat) (bs : List Value) (c : Int) (w : World) (h : Lib.IsBuilder 49 5 B b bs w) (hl : bs.length ≤ 1000000) (hB : B ≤ w.heap.size) :
    Calls Try.prog 27 #[.pointer (some ⟨b, 0, none⟩), .int .u8 c] w fun e w' => e = .returned .nilIface ∧ Lib.IsBuilder 49 5 B b (bs ++ [.int .u8 c]) w' ∧ Below B w w' ∧ ∀ q, Other b q w → w'.heap[q]? = w.heap[q]? := by
  obtain ⟨i0, hi, hz0, hz1, hz2⟩ := info_parts info5
  have HC := hide (check_any B b bs w h)
  go_enter Try.func27, Try.ntmps27
  go_wp2_with fail
  refine HC.out.mono ?_
  rintro e w1 ⟨rfl, ⟨hBb, v, hbk, hown, hne⟩, hb1, hoth⟩
  have c0 : w1.cell? ⟨b, 0, none⟩ = some (.pointer (some ⟨b, 0, none⟩)) := by rw [Lib.cell_of_heap hbk]; rfl
  have c1 : w1.cell? ⟨b, 1, none⟩ = some v := by rw [Lib.cell_of_heap hbk]; rfl
  have hge := hb1.size
  go_wp2_with (at_builtin; refine wpList_append_own _ rfl _ _ 47 rfl B 5 i0 (.int .u8 0) 1 1 Try.underlying47 hi hz0 hz1 hz2 rfl (by decide) _ _ _ rfl (hown.alloc _) ⟨w1.heap.size, 0, none⟩ 1 1 [.int .u8 c] rfl rfl (fun j u hj => by match j, hj with | 0, hj => simp at hj; subst hj; simp [Addr.add]) (fun u hu => by simp at hu; subst hu; rfl) (by unfold maxLen; omega) (by omega) (by simp; omega) ?_)
  intro v2 w2 hown2 hgrow _
  have hbk2 : w2.heap[b]? = some (.cells #[.pointer (some ⟨b, 0, none⟩), v] 49 (0, 0)) := by
    rw [hgrow.block b (by have := heap_lt hbk; simp; omega) (fun e => hne e.symm), Lib.alloc_old w1 _ b (heap_lt hbk)]; exact hbk
  have d0 : w2.cell? ⟨b, 0, none⟩ = some (.pointer (some ⟨b, 0, none⟩)) := by rw [Lib.cell_of_heap hbk2]; rfl
  have d1 : w2.cell? ⟨b, 1, none⟩ = some v := by rw [Lib.cell_of_heap hbk2]; rfl
  have f1 : w2.frozen? ⟨b, 1, none⟩ = false := Lib.frozen_of_heap hbk2 1
  have hput := Lib.BuilderAt.put (T := 49) (e := 5) hBb hbk2 (bs' := bs ++ [.int .u8 c]) (by simpa using hown2) (by decide)
  have hbel := ((hb1.alloc (by omega) (Obj.cells #[.int .u8 c] 5)).grown hgrow (by simp; omega) (own_base hown)).setCell (p := ⟨b, 1, none⟩) hBb v2
  have HO : Hid (∀ q, Other b q w → (w2.setCell ⟨b, 1, none⟩ v2).heap[q]? = w.heap[q]?) := fun q hq => by
    obtain ⟨⟨k1, k2, k3⟩, k4⟩ := hoth q hq
    rw [Below.heap_setCell _ _ _ _ k2, hgrow.block q (by simp; omega) (fun e => k3 _ _ hbk e.symm), Lib.alloc_old w1 _ q k1, k4]
  have HP := hide hput
  have HB := hide hbel
  obtain ⟨ao, n2, c2, rfl⟩ : ∃ ao n2 c2, v2 = .slice ao n2 c2 := by
    rcases hown2.2 with ⟨hv, _⟩ | ⟨g, cap, cur, hv, _⟩
    · exact ⟨_, _, _, hv⟩
    · exact ⟨_, _, _, hv⟩
  clear hput hbel hown2 hgrow hown hbk hbk2 hoth
  go_wp2
  go_ret
  exact ⟨rfl, .inr HP.out, HB.out, HO.out⟩

set_option maxHeartbeats 2000000 in
theorem writeString_any (B b : Nat) (bs : List Value) (s : ByteArray) (w : World) (h : Lib.IsBuilder 49 5 B b bs w) (hl : bs.length + s.size ≤ 1000000) (hB : B ≤ w.heap.size) :
    Calls Try.prog 28 #[.pointer (some ⟨b, 0, none⟩), .string s] w fun e w' => e = .returned (.tuple #[.int .i64 s.size, .nilIface]) ∧ Lib.IsBuilder 49 5 B b (bs ++ Lib.strCells s) w' ∧ Below B w w' ∧ ∀ q, Other b q w → w'.heap[q]? = w.heap[q]? := by
  obtain ⟨i0, hi, hz0, hz1, hz2⟩ := info_parts info5
  have HC := hide (check_any B b bs w h)
  go_enter Try.func28, Try.ntmps28
  go_wp2_with fail
  refine HC.out.mono ?_
  rintro e w1 ⟨rfl, ⟨hBb, v, hbk, hown, hne⟩, hb1, hoth⟩
  have c0 : w1.cell? ⟨b, 0, none⟩ = some (.pointer (some ⟨b, 0, none⟩)) := by rw [Lib.cell_of_heap hbk]; rfl
  have c1 : w1.cell? ⟨b, 1, none⟩ = some v := by rw [Lib.cell_of_heap hbk]; rfl
  have hge := hb1.size
  go_wp2_with (at_builtin; refine Lib.wpList_append_own_string _ rfl _ _ 47 9 rfl B 5 i0 Try.underlying47 Try.underlying9 hi hz0 hz1 hz2 _ _ _ rfl hown s rfl (by unfold maxLen; omega) (by omega) (by omega) ?_)
  intro v2 w2 hown2 hgrow _
  have hbk2 : w2.heap[b]? = some (.cells #[.pointer (some ⟨b, 0, none⟩), v] 49 (0, 0)) := by
    rw [hgrow.block b (heap_lt hbk) (fun e => hne e.symm)]; exact hbk
  have d0 : w2.cell? ⟨b, 0, none⟩ = some (.pointer (some ⟨b, 0, none⟩)) := by rw [Lib.cell_of_heap hbk2]; rfl
  have d1 : w2.cell? ⟨b, 1, none⟩ = some v := by rw [Lib.cell_of_heap hbk2]; rfl
  have f1 : w2.frozen? ⟨b, 1, none⟩ = false := Lib.frozen_of_heap hbk2 1
  have hput := Lib.BuilderAt.put (T := 49) (e := 5) hBb hbk2 (bs' := bs ++ Lib.strCells s) (by simpa [Lib.strCells_length] using hown2) (by decide)
  have hbel := (hb1.grown hgrow (by omega) (own_base hown)).setCell (p := ⟨b, 1, none⟩) hBb v2
  have HO : Hid (∀ q, Other b q w → (w2.setCell ⟨b, 1, none⟩ v2).heap[q]? = w.heap[q]?) := fun q hq => by
    obtain ⟨⟨k1, k2, k3⟩, k4⟩ := hoth q hq
    rw [Below.heap_setCell _ _ _ _ k2, hgrow.block q k1 (fun e => k3 _ _ hbk e.symm), k4]
  have HP := hide hput
  have HB := hide hbel
  obtain ⟨ao, n2, c2, rfl⟩ : ∃ ao n2 c2, v2 = .slice ao n2 c2 := by
    rcases hown2.2 with ⟨hv, _⟩ | ⟨g, cap, cur, hv, _⟩
    · exact ⟨_, _, _, hv⟩
    · exact ⟨_, _, _, hv⟩
  clear hput hbel hown2 hgrow hown hbk hbk2 hoth
  go_wp2
  go_ret2
  exact ⟨rfl, .inr HP.out, HB.out, HO.out⟩
end Go.Proofs.Ytjiencifdpopdaa
