/- What the document's own answer reckons of a tree that it only reads: too great or not, how many nodes, how deep; the role of a kid. No conditions beyond the bounds that each statement names. -/
import Derived.Test.YtdccodnompalbaaW
import Derived.Test.YtdccodnompalbaaShelf
import Derived.WalkKit
import Derived.WalkSpells
import Derived.WalkLawsBesides
import Derived.Lib.MinMax
import Derived.BigQuiet
namespace Go.Proofs.Ytdccodnompalbaa
open Go.RowKit

theorem hide {p : Prop} (h : p) : Hid p := h
theorem ret_int {k : IntKind} {a b : Int} (h : a = b) : Ending.returned (.int k a) = .returned (.int k b) := by rw [h]
theorem ret_bool {a b : Bool} (h : a = b) : Ending.returned (.bool a) = .returned (.bool b) := by rw [h]
theorem bl_trans {a b c : World} (h : Below a.heap.size a b) (k : Below b.heap.size b c) : Below a.heap.size a c := h.trans (k.mono h.size)
theorem bl_alloc {a b : World} (h : Below a.heap.size a b) (o : Obj) : Below a.heap.size a (b.alloc o) := h.alloc h.size o
theorem bl_drewN {a b : World} (h : Below a.heap.size a b) (n : Nat) : Below a.heap.size a (b.drewN n) := ⟨h.os, h.tape, h.output, h.size, h.block⟩

/-- The block that a node's box lies in. -/
abbrev boxO (T : NT) : Obj := .cells #[.int .i64 T.k, .string T.t, .int .i64 T.n, T.s, .int .i64 T.a] 24
theorem box_new (w : World) (T : NT) : Cells5 (w.alloc (boxO T)) w.heap.size 0 T := by
  refine ⟨?_, ?_, ?_, ?_, ?_⟩ <;> (rw [cell_of_row _ w.heap.size _ _ 24 (0, 0) (World.alloc_heap_new w _)]; rfl)

theorem great_le (T : NT) (deep many : Int) (h : 0 ≤ many) : T.great deep many ≤ many := by
  rcases Int.lt_or_le (T.great deep many) 0 with h1 | h1
  · omega
  · have := (NT.great_spec T deep many h1).1; omega

/-- The cell of a kid behind a slice. -/
theorem Cells5.nat {w : World} {g o i : Nat} {T : NT} (h : Cells5 w g (o + i * 5) T) : w.cell? ⟨g, o + i * 5, none⟩ = some (.int .i64 T.k) ∧ w.cell? ⟨g, o + i * 5 + 1, none⟩ = some (.string T.t) ∧ w.cell? ⟨g, o + i * 5 + 2, none⟩ = some (.int .i64 T.n) ∧ w.cell? ⟨g, o + i * 5 + 3, none⟩ = some T.s ∧ w.cell? ⟨g, o + i * 5 + 4, none⟩ = some (.int .i64 T.a) := h

set_option maxHeartbeats 1000000 in
theorem great_any : ∀ (T : NT) (deep many : Int) (w : World), Lies w.heap.size w T → T.sized maxLen → deep ≤ 100 → -1 ≤ deep → many ≤ 3000 → 0 ≤ many →
    Calls Try.prog 31 #[T.val, .int .i64 deep, .int .i64 many] w fun e w' => e = .returned (.int .i64 (T.great deep many)) ∧ Below w.heap.size w w' := by
  intro T
  induction T using NT.ind with
  | _ T ih =>
    intro deep many w hL hS hd hd' hm hm'
    obtain ⟨p, c, hs, ⟨hlc, _⟩, hK⟩ := hL.eq
    obtain ⟨ht, hl, hS'⟩ := (NT.sized_eq _ _).1 hS
    clear hL hS
    have HG := hide (NT.great_eq T deep many)
    obtain ⟨b0, b1, b2, b3, b4⟩ := box_new w T
    generalize NT.great T deep many = R at *
    simp only [NT.val, boxO] at b0 b1 b2 b3 b4 ⊢
    rw [hs] at b0 b1 b2 b3 b4 ⊢
    clear hs
    generalize T.k = k at *
    generalize T.t = t at *
    generalize T.n = n at *
    generalize T.a = a at *
    generalize T.len = len at *
    generalize T.kid = kid at *
    have ht' : t.size ≤ 9223372036854775807 := ht
    have hl' : len ≤ 9223372036854775807 := hl
    have hB1 : Below w.heap.size w (w.alloc (Obj.cells #[.int .i64 k, .string t, .int .i64 n, .slice p len c, .int .i64 a] 24)) := bl_alloc (Below.refl _ _) _
    have hsz : (w.alloc (Obj.cells #[.int .i64 k, .string t, .int .i64 n, .slice p len c, .int .i64 a] 24)).heap.size = w.heap.size + 1 := by simp
    rcases Int.lt_or_le deep 1 with h1 | h1
    · go_enter Try.func31, Try.ntmps31
      go_wp2
      go_ret
      refine ⟨ret_int ?_, hB1⟩
      rw [HG.out, if_pos (.inl h1)]
    · obtain ⟨F, hF⟩ : ∃ F : Nat → Int → Int, F = fun i m => (kid i).great (deep - 1) m := ⟨_, rfl⟩
      have HGl : Hid (R = greatN F (many - 1 - (t.size : Int) / 50) len) := hide (by rw [HG.out, if_neg (by omega), hF])
      have HFl : Hid (∀ i m, 0 ≤ m → F i m ≤ m) := hide fun i m h => by rw [hF]; exact great_le _ _ _ h
      have HIH : Hid (∀ i, i < len → ∀ (m : Int) (w' : World), Below w.heap.size w w' → m ≤ 3000 → 0 ≤ m →
          Calls Try.prog 31 #[(kid i).val, .int .i64 (deep - 1), .int .i64 m] w' fun e w'' => e = .returned (.int .i64 (F i m)) ∧ Below w'.heap.size w' w'') := hide fun i hi m w' hb h2 h3 => by
        obtain ⟨g, off, _, _, hC⟩ := hK (by omega)
        have := ih i hi (deep - 1) m w' (((hC i hi).2.below hb).mono hb.size) (hS' i hi) (by omega) (by omega) h2 h3
        rw [hF]; exact this
      have HC : Hid (len ≠ 0 → ∃ g off, p = some { block := g, off := off } ∧ g < w.heap.size ∧ ∀ (i : Nat), i < len → Cells5 w g (off + i * 5) (kid i)) := hide fun hne => by
        obtain ⟨g, off, h1, h2, h3⟩ := hK hne
        exact ⟨g, off, h1, h2, fun i hi => (h3 i hi).1⟩
      have Hb := hide hB1
      have Hs := hide hsz
      clear ih hK hS' HG hF hB1 hsz
      obtain ⟨W1, hW1⟩ : ∃ W1, w.alloc (Obj.cells #[.int .i64 k, .string t, .int .i64 n, .slice p len c, .int .i64 a] 24) = W1 := ⟨_, rfl⟩
      rw [hW1] at b0 b1 b2 b3 b4 Hb Hs
      go_enter Try.func31, Try.ntmps31
      go_wp2
      clear hW1
      go_loopw [2, 7] (fun m i wr => ∃ j : Nat, j ≤ len ∧ i = .int .i64 j ∧ m = .int .i64 (greatN F (many - 1 - (t.size : Int) / 50) j) ∧ greatN F (many - 1 - (t.size : Int) / 50) j ≤ 3000 ∧ Below W1.heap.size W1 wr) (fun _ i _ => len - (intOf i).toNat)
      case atStart => exact ⟨0, Nat.zero_le _, rfl, by go_num, by simp only [greatN]; omega, Below.refl _ _⟩
      case round =>
        obtain ⟨j, hj, rfl, rfl, hle, hB⟩ := hrel
        have q := (hB.cell (p := ⟨w.heap.size, 3, none⟩) (by rw [Hs.out]; simp)).trans b3
        have HB := hide hB
        clear hB b0 b1 b2 b3 b4
        obtain ⟨G, hG⟩ : ∃ G, greatN F (many - 1 - (t.size : Int) / 50) j = G := ⟨_, rfl⟩
        have HGj := hide hG
        rw [hG] at hle ⊢
        clear hG
        rcases Nat.lt_or_ge j len with hlt | hge
        · rcases Int.lt_or_le G 0 with hneg | hpos
          · have HE : Hid (G = R) := hide (by
              rw [HGl.out, ← HGj.out, ← greatN_neg (by rw [HGj.out]; exact hneg) (len - j), show j + (len - j) = len by omega])
            have hi' : (j : Int) < (len : Int) := by omega
            go_wp2
            go_ret
            exact ⟨ret_int HE.out, Hb.out.trans (HB.out.mono Hb.out.size)⟩
          · have hc := HIH.out j hlt G wr (Hb.out.trans (HB.out.mono Hb.out.size)) hle hpos
            obtain ⟨g, off, rfl, hg, hC⟩ := HC.out (by omega)
            obtain ⟨c0, c1, c2, c3, c4⟩ := ((hC j hlt).below (Hb.out.trans (HB.out.mono Hb.out.size)) hg).nat
            have hi' : (j : Int) < (len : Int) := by omega
            have HN : Hid (greatN F (many - 1 - (t.size : Int) / 50) (j + 1) = F j G) := hide (by simp only [greatN]; rw [HGj.out, if_pos hpos])
            have HL := hide (HFl.out j G hpos)
            simp only [NT.val] at hc
            clear HGj
            go_wp2_with (go_at_call 31; refine hc.mono ?_; rintro e w2 ⟨rfl, hb2⟩)
            go_roundw
            case rel => exact ⟨j + 1, by omega, by go_num, by rw [HN.out], by rw [HN.out]; have := HL.out; omega, HB.out.trans (hb2.mono HB.out.size)⟩
            case measure => simp [intOf]; omega
        · have he : j = len := by omega
          subst he
          go_wp2
          go_ret
          exact ⟨ret_int (by rw [HGl.out, HGj.out]), Hb.out.trans (HB.out.mono Hb.out.size)⟩
end Go.Proofs.Ytdccodnompalbaa
