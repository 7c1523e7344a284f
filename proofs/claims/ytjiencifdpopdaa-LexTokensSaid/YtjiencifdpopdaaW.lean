/- Words for memory: a slice value that holds a list of tokens; a slice value that holds a list of texts. Of no program; no conditions beyond those that each statement names. -/
import Derived.Test.YtjiencifdpopdaaD
import Derived.Laws.OwnMore
import Derived.Deep.Draws
import Derived.OwnWalk
import Derived.ChangeSame
import Derived.Deep.RegionHeld3
namespace Go.Proofs.Ytjiencifdpopdaa
open Go.RowKit

/-- A token as it lies in memory: its kind, its text, its place. -/
abbrev RT := Int × ByteArray × Int

/-- The slice value v holds the tokens ts, in memory that is there. -/
def Toks (w : World) (v : Value) (ts : List RT) : Prop :=
  ∃ (p : Option Addr) (c : Nat), v = .slice p ts.length c ∧ (ts.length ≤ c ∧ (p = none → c = 0)) ∧ (ts ≠ [] → ∃ g off : Nat, p = some ⟨g, off, none⟩ ∧ g < w.heap.size ∧
    ∀ (j : Nat) (x : RT), ts[j]? = some x → w.cell? ⟨g, off + j * 3, none⟩ = some (.int .i64 x.1) ∧ w.cell? ⟨g, off + j * 3 + 1, none⟩ = some (.string x.2.1) ∧ w.cell? ⟨g, off + j * 3 + 2, none⟩ = some (.int .i64 x.2.2))

theorem Toks.nil (w : World) : Toks w (.slice none 0 0) [] := ⟨none, 0, rfl, ⟨Nat.le_refl _, fun _ => rfl⟩, fun h => absurd rfl h⟩
theorem Toks.below {w w' : World} {v : Value} {ts : List RT} (h : Toks w v ts) (hb : Below w.heap.size w w') : Toks w' v ts := by
  obtain ⟨p, c, h1, h2, h3⟩ := h
  refine ⟨p, c, h1, h2, fun hne => ?_⟩
  obtain ⟨g, off, e, hg, hc⟩ := h3 hne
  exact ⟨g, off, e, Nat.lt_of_lt_of_le hg hb.size, fun j x hx => ⟨(hb.cell (p := ⟨g, off + j * 3, none⟩) hg).trans (hc j x hx).1, (hb.cell (p := ⟨g, off + j * 3 + 1, none⟩) hg).trans (hc j x hx).2.1, (hb.cell (p := ⟨g, off + j * 3 + 2, none⟩) hg).trans (hc j x hx).2.2⟩⟩
theorem Toks.drewN {w : World} {v : Value} {ts : List RT} (h : Toks w v ts) (n : Nat) : Toks (w.drewN n) v ts := h

/-- Where the tokens of a slice that isn't empty lie. -/
def TCells (w : World) (g off : Nat) (ts : List RT) : Prop :=
  ∀ (j : Nat) (x : RT), ts[j]? = some x → w.cell? ⟨g, off + j * 3, none⟩ = some (.int .i64 x.1) ∧ w.cell? ⟨g, off + j * 3 + 1, none⟩ = some (.string x.2.1) ∧ w.cell? ⟨g, off + j * 3 + 2, none⟩ = some (.int .i64 x.2.2)

/-- The slice value v holds the texts ls, in memory that is there. -/
def Txts (w : World) (v : Value) (ls : List ByteArray) : Prop :=
  ∃ g off c : Nat, v = .slice (some ⟨g, off, none⟩) ls.length c ∧ ls.length ≤ c ∧ g < w.heap.size ∧ ∀ j l, ls[j]? = some l → w.cell? ⟨g, off + j, none⟩ = some (.string l)
theorem Txts.of_new (w : World) (bs : List ByteArray) (e : TypeId) (n c : Nat) (hn : n = bs.length) (hc : bs.length ≤ c) :
    Txts (w.alloc (.cells (bs.map Value.string).toArray e)) (.slice (some ⟨w.heap.size, 0, none⟩) n c) bs := by
  refine ⟨w.heap.size, 0, c, by rw [hn], by simpa using hc, by simp, fun j l hj => ?_⟩
  rw [Nat.zero_add, cell_of_row _ w.heap.size j (bs.map Value.string).toArray e (0, 0) (heap_alloc_new w _)]
  rw [List.getElem?_toArray, List.getElem?_map, hj]
  rfl

/-- Alike, wherever they stand. -/
def sameKT (a b : RT) : Bool := (a.1 == b.1) && (a.2.1.toList == b.2.1.toList)
def sameKTA (a b : RT) : Bool := (a.1 == b.1) && ((a.2.1.toList == b.2.1.toList) && (a.2.2 == b.2.2))
def allR (f : RT → RT → Bool) : List RT → List RT → Bool
  | [], [] => true
  | a :: l, b :: r => f a b && allR f l r
  | _, _ => false
theorem allR_len (f : RT → RT → Bool) : ∀ (a b : List RT), a.length ≠ b.length → allR f a b = false
  | [], [], h => absurd rfl h
  | [], _ :: _, _ => rfl
  | _ :: _, [], _ => rfl
  | a :: l, b :: r, h => by rw [allR, allR_len f l r (by simpa using h)]; simp
theorem allR_iff (f : RT → RT → Bool) : ∀ (a b : List RT), a.length = b.length → (allR f a b = true ↔ ∀ j (h1 : j < a.length) (h2 : j < b.length), f a[j] b[j] = true)
  | [], [], _ => by simp [allR]
  | [], _ :: _, h => by simp at h
  | _ :: _, [], h => by simp at h
  | a :: l, b :: r, h => by
    rw [allR, Bool.and_eq_true, allR_iff f l r (by simpa using h)]
    constructor
    · rintro ⟨h1, h2⟩ j hj1 hj2
      cases j with
      | zero => exact h1
      | succ j => exact h2 j (by simpa using hj1) (by simpa using hj2)
    · intro h0
      exact ⟨h0 0 (by simp) (by simp), fun j h1 h2 => h0 (j + 1) (by simpa using h1) (by simpa using h2)⟩
end Go.Proofs.Ytjiencifdpopdaa
