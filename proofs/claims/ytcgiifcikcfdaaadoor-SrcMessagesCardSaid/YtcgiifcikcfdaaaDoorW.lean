/- Words for memory: a slice value that holds a list of texts; what new blocks leave of it. Of no program; no conditions beyond those that each statement names. -/
import Derived.Below
import Derived.Laws.OwnMore
import Derived.Deep.Draws
import Derived.OwnWalk
import Derived.ChangeSame
namespace Go.Proofs.YtcgiifcikcfdaaaDoor
open Go.RowKit

/-- A text as a value. -/
def sv (l : List UInt8) : Value := .string ⟨l.toArray⟩
theorem sv_of (b : ByteArray) : Value.string b = sv b.data.toList := by unfold sv; cases b; simp

/-- The slice value v holds the texts ls, in memory that is there. -/
def Txts (w : World) (v : Value) (ls : List (List UInt8)) : Prop :=
  ∃ g off c : Nat, v = .slice (some ⟨g, off, none⟩) ls.length c ∧ ls.length ≤ c ∧ g < w.heap.size ∧ ∀ j l, ls[j]? = some l → w.cell? ⟨g, off + j, none⟩ = some (sv l)

theorem Txts.below {w w' : World} {v : Value} {ls : List (List UInt8)} (h : Txts w v ls) (hb : Below w.heap.size w w') : Txts w' v ls := by
  obtain ⟨g, off, c, h1, h2, h3, h4⟩ := h
  exact ⟨g, off, c, h1, h2, Nat.lt_of_lt_of_le h3 hb.size, fun j l hj => (hb.cell (p := ⟨g, off + j, none⟩) h3).trans (h4 j l hj)⟩

theorem Txts.drewN {w : World} {v : Value} {ls : List (List UInt8)} (h : Txts w v ls) (n : Nat) : Txts (w.drewN n) v ls := h

/-- New memory behind new memory. -/
theorem bl_trans {a b c : World} (h : Below a.heap.size a b) (k : Below b.heap.size b c) : Below a.heap.size a c := h.trans (k.mono h.size)
theorem bl_alloc {a b : World} (h : Below a.heap.size a b) (o : Obj) : Below a.heap.size a (b.alloc o) := h.alloc h.size o
theorem bl_drewN {a b : World} (h : Below a.heap.size a b) (n : Nat) : Below a.heap.size a (b.drewN n) := ⟨h.os, h.tape, h.output, h.size, h.block⟩

/-- A row of the call's own that isn't empty holds its texts. -/
theorem Txts.of_own {w : World} {base : Nat} {e : TypeId} {v : Value} {n : Nat} {ls : List (List UInt8)} (h : w.ownsRow base e 1 v n (ls.map sv)) (hn : n = ls.length) (hp : 0 < n) : Txts w v ls := by
  rcases h.2 with ⟨_, h0⟩ | ⟨g, cap, cur, rfl, _, hg, hc, _, _, ht⟩
  · omega
  · have hlt : g < w.heap.size := by
      rcases Nat.lt_or_ge g w.heap.size with h1 | h1
      · exact h1
      · rw [Array.getElem?_eq_none h1] at hg; cases hg
    refine ⟨g, 0, cap, by rw [hn], by omega, hlt, fun j l hj => ?_⟩
    rw [Nat.zero_add, cell_of_row w g j cur e (0, 0) hg]
    have hjn : j < n := by rw [hn]; exact (List.getElem?_eq_some_iff.1 hj).1
    have e1 : (cur.toList.take (n * 1))[j]? = some (sv l) := by rw [ht, List.getElem?_map, hj]; rfl
    rw [List.getElem?_take, if_pos (by omega)] at e1
    simpa using e1

/-- A block that was just laid holds its texts. -/
theorem Txts.of_new (w : World) (bs : List ByteArray) (e : TypeId) (n c : Nat) (hn : n = bs.length) (hc : bs.length ≤ c) :
    Txts (w.alloc (.cells (bs.map Value.string).toArray e)) (.slice (some ⟨w.heap.size, 0, none⟩) n c) (bs.map (·.data.toList)) := by
  refine ⟨w.heap.size, 0, c, by rw [hn, List.length_map], by simpa using hc, by simp, fun j l hj => ?_⟩
  rw [List.getElem?_map] at hj
  obtain ⟨b, hb, rfl⟩ := Option.map_eq_some_iff.1 hj
  rw [Nat.zero_add, cell_of_row _ w.heap.size j (bs.map Value.string).toArray e (0, 0) (heap_alloc_new w _)]
  rw [List.getElem?_toArray, List.getElem?_map, hb, ← sv_of]
  rfl
end Go.Proofs.YtcgiifcikcfdaaaDoor
