/- The excerpt's indent, by the program. No conditions beyond the bounds that each statement names. -/
import Derived.Test.YtcgiifcikcfdaaaDoorC
import Derived.Laws.IdiomStrings
namespace Go.Proofs.YtcgiifcikcfdaaaDoor
open Go.RowKit

theorem u8_eq (c d : UInt8) (h : (c.toNat : Int) = d.toNat) : c = d := UInt8.toNat_inj.1 (by omega)

/-- Block g holds the bytes l, and may be written. -/
def RowB (w : World) (g : Nat) (l : List UInt8) : Prop :=
  g < w.heap.size ∧ ∀ j (h : j < l.length), w.cell? ⟨g, j, none⟩ = some (.int .u8 (l[j].toNat : Int)) ∧ w.frozen? ⟨g, j, none⟩ = false

theorem bytes_new (w : World) (s : ByteArray) : ∃ cap w1, (convert 9 53 (.string s)).run Tryd.prog w = .ok (.slice (some ⟨w.heap.size, 0, none⟩) s.size cap) w1 ∧ RowB w1 w.heap.size s.data.toList ∧ Below w.heap.size w w1 := by
  refine ⟨_, _, run_bytes_of_string w 9 53 5 s Tryd.underlying9 Tryd.underlying53 Tryd.underlying5, ?_, (Below.refl _ _).drew.alloc (Nat.le_refl _) _⟩
  refine ⟨by simp, fun j h => ?_⟩
  have hj : j < s.size := by simpa using h
  have hh : (w.drew.alloc (.cells (bytesRow s (grownCap w s.size 0 5)) 5 ((bytesRow s (grownCap w s.size 0 5)).size, (bytesRow s (grownCap w s.size 0 5)).size + 1))).heap[w.heap.size]? = some (.cells (bytesRow s (grownCap w s.size 0 5)) 5 ((bytesRow s (grownCap w s.size 0 5)).size, (bytesRow s (grownCap w s.size 0 5)).size + 1)) := heap_alloc_new w.drew _
  have hsz : j < (bytesRow s (grownCap w s.size 0 5)).size := by unfold bytesRow; simp; have : s.data.size = s.size := rfl; omega
  constructor
  · rw [cell_of_row _ w.heap.size j _ 5 _ hh]
    unfold bytesRow
    have : j < (s.data.map (fun b => Value.int .u8 b.toNat)).size := by simp; exact hj
    rw [Array.getElem?_append_left this, Array.getElem?_map]
    simp only [Option.map_eq_some_iff, Value.int.injEq]
    exact ⟨_, Array.getElem?_eq_getElem hj, by simp⟩
  · unfold World.frozen?
    rw [hh]
    simp
    omega

theorem RowB.set {w : World} {g : Nat} {l : List UInt8} (h : RowB w g l) (k : Nat) (c : UInt8) : RowB (w.setCell ⟨g, k, none⟩ (.int .u8 (c.toNat : Int))) g (l.set k c) := by
  obtain ⟨hg, hc⟩ := h
  refine ⟨by simpa [World.setCell] using hg, fun j hj => ?_⟩
  have hj' : j < l.length := by simpa using hj
  obtain ⟨h1, h2⟩ := hc j hj'
  refine ⟨?_, by simpa using h2⟩
  by_cases e : k = j
  · subst e
    rw [List.getElem_set_self]
    exact World.cell?_setCell_same _ _ _ h1
  · rw [List.getElem_set_ne e, World.cell?_setCell_other w ⟨g, k, none⟩ ⟨g, j, none⟩ _ (by intro e2; injection e2 with _ e3; exact e e3)]
    exact h1

/-- What stands ahead of a mark: a blank for each byte, but a byte 9 for a byte 9. -/
def ind (c : UInt8) : UInt8 := if c = 9 then 9 else 32

theorem indent_any (s : ByteArray) (w : World) (hs : s.size ≤ 1000000) :
    Calls Tryd.prog 33 #[.string s] w fun e w' => e = .returned (.string ⟨(s.data.toList.map ind).toArray⟩) ∧ Below w.heap.size w w' := by
  obtain ⟨cap, w1, hconv, hrow, hb1⟩ := bytes_new w s
  have hl : s.data.toList.length = s.size := by simp
  go_enter Tryd.func33, Tryd.ntmps33
  go_wp2
  clear hconv
  go_loopw [10, 4, 5] (fun i _ _ wr => ∃ (k : Nat) (l : List UInt8), k ≤ s.size ∧ i = .int .i64 k ∧ l = (s.data.toList.take k).map ind ++ s.data.toList.drop k ∧ RowB wr w.heap.size l ∧ Below w.heap.size w wr) (fun i _ _ _ => s.size - (intOf i).toNat)
  case atStart => exact ⟨0, _, Nat.zero_le _, rfl, by simp, hrow, hb1⟩
  case round =>
    obtain ⟨k, l, hk, rfl, hlx, hr, hb⟩ := hrel
    have hll : l.length = s.size := by rw [hlx]; simp; have : s.data.size = s.size := rfl; omega
    have HX := hide hlx
    have HL := hide hll
    have HS := hide hl
    clear hlx hll hl
    by_cases hlt : k < s.size
    · have hks : l[k]'(by have := HL.out; omega) = s[k] := by
        have h2 := HS.out
        have e : l[k]'(by have := HL.out; omega) = ((s.data.toList.take k).map ind ++ s.data.toList.drop k)[k]'(by simp; have : s.data.size = s.size := rfl; omega) := by
          congr 1
        rw [e, List.getElem_append_right (by simp; omega)]
        simp
        congr 1
        have : s.data.size = s.size := rfl
        omega
      have hlk : k < l.length := by have := HL.out; omega
      have hc1 := (hr.2 k hlk).1
      have hc2 := (hr.2 k hlk).2
      rw [hks] at hc1
      obtain ⟨c, hc⟩ : ∃ c, c = s[k] := ⟨_, rfl⟩
      rw [← hc] at hc1
      have hnext : (s.data.toList.take (k + 1)).map ind ++ s.data.toList.drop (k + 1) = l.set k (ind c) := by
        have h2 := HS.out
        have hg : s.data.toList[k]'(by omega) = c := by rw [hc]; simp; rfl
        rw [HX.out, List.take_succ_eq_append_getElem (by omega), hg, List.set_append_right _ _ (by simp; omega)]
        have hd : s.data.toList.drop k = c :: s.data.toList.drop (k + 1) := by rw [← hg]; exact List.drop_eq_getElem_cons (by omega)
        rw [hd]
        have h0 : k - (List.map ind (List.take k s.data.toList)).length = 0 := by simp; have : s.data.size = s.size := rfl; omega
        rw [h0]
        simp
      have HK := hide hks
      have HN := hide hnext
      have HC := hide hc
      have HR := hide hr
      clear hks hnext hc hr
      go_wp2
      · have ht : ((c.toNat : Int) != 9) = true := by assumption
        have hi : ind c = 32 := by
          unfold ind
          rw [if_neg]
          rintro rfl
          exact absurd ht (by decide)
        have hs2 := HR.out.set k 32
        rw [hi] at HN
        go_roundw
        case rel => exact ⟨k + 1, _, by omega, by go_num, HN.out.symm, hs2, hb.setCell (Nat.le_refl _) _⟩
        case measure => simp [intOf]; omega
      · have ht : ((c.toNat : Int) != 9) = false := by assumption
        have hc9 : c = 9 := u8_eq c 9 (by simpa using ht)
        have hi : l.set k (ind c) = l := by
          have e : ind c = l[k] := by rw [HK.out, ← HC.out, hc9]; rfl
          rw [e, List.set_getElem_self]
        rw [hi] at HN
        go_roundw
        case rel => exact ⟨k + 1, _, by omega, by go_num, HN.out.symm, HR.out, hb⟩
        case measure => simp [intOf]; omega
    · obtain rfl : k = s.size := by omega
      have hback := run_convert_bytes_back wr 53 9 5 ⟨w.heap.size, 0, none⟩ cap l Tryd.underlying53 Tryd.underlying5 Tryd.underlying9 (fun j hj => by
        have h := (hr.2 j hj).1
        have e : (⟨w.heap.size, 0, none⟩ : Addr).add j = ⟨w.heap.size, j, none⟩ := by unfold Addr.add; split <;> simp_all
        rw [e]; exact h)
      rw [HL.out] at hback
      have HF : Hid (l = s.data.toList.map ind) := by
        have e := HX.out
        have h2 := HS.out
        rw [List.take_of_length_le (by omega), List.drop_of_length_le (by omega), List.append_nil] at e
        exact e
      go_wp2
      go_ret
      exact ⟨by rw [HF.out]; rfl, hb⟩
end Go.Proofs.YtcgiifcikcfdaaaDoor
