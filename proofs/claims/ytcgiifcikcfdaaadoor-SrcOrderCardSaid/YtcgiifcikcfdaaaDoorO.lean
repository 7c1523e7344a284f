/- The law SrcOrder, walked: it answers true. No conditions beyond what the library's variables hold. -/
import Derived.Test.YtcgiifcikcfdaaaDoorQ
import Derived.Lib.MinMax
namespace Go.Proofs.YtcgiifcikcfdaaaDoor
open Go.RowKit

theorem pos_app (l m : List UInt8) : ∀ k, k ≤ l.length → M.pos (l ++ m) k = M.pos l k := by
  intro k
  induction k with
  | zero => intro _; rfl
  | succ k ih =>
    intro hk
    rw [M.pos_succ, M.pos_succ, ih (by omega), List.getElem?_append_left (by omega)]

theorem pos_step (l : List UInt8) (k : Nat) : (M.pos l k).1 < (M.pos l (k + 1)).1 ∨ ((M.pos l k).1 = (M.pos l (k + 1)).1 ∧ (M.pos l k).2 < (M.pos l (k + 1)).2) := by
  rw [M.pos_succ]
  split
  · left; simp
  · right; simp
theorem pos_lt (l : List UInt8) (a : Nat) : ∀ b, a < b → (M.pos l a).1 < (M.pos l b).1 ∨ ((M.pos l a).1 = (M.pos l b).1 ∧ (M.pos l a).2 < (M.pos l b).2) := by
  intro b
  induction b with
  | zero => intro h; omega
  | succ b ih =>
    intro h
    have hs := pos_step l b
    by_cases e : a = b
    · subst e; exact hs
    · have := ih (by omega)
      omega

theorem line_in (s : ByteArray) (a : Nat) (h : a ≤ s.size) : line s a = ((M.pos s.data.toList a).1 : Int) + 1 ∧ col s a = ((M.pos s.data.toList a).2 : Int) + 1 := by
  have e : (min (max (a : Int) 0) (s.size : Int)).toNat = a := by omega
  unfold line col
  rw [e]
  exact ⟨rfl, rfl⟩

set_option maxHeartbeats 1000000 in
theorem srcOrder_walk (s more : ByteArray) (x0 x1 : Int) (w : World) (hr : Ready w) :
    Calls Tryd.prog 7 #[.string s, .string more, .agg #[.int .i64 x0, .int .i64 x1]] w fun e w' => e = .returned (.bool true) ∧ Below w.heap.size w w' := by
  have HA := hide awake_any
  have hb0 : Below w.heap.size w (w.alloc (Obj.cells #[.int .i64 x0, .int .i64 x1] 37)) := (Below.refl _ w).alloc (Nat.le_refl _) _
  have HR0 := hide (hr.below hb0)
  have HBW := hide hb0
  clear hr hb0
  by_cases hs : (500 : Int) < s.size
  · have hd : decide ((500 : Int) < (s.size : Int)) = true := by simpa using hs
    clear hs
    go_enter Tryd.func7, Tryd.ntmps7
    go_wp2_with fail
    refine (HA.out _ HR0.out).mono ?_
    rintro e w1 ⟨rfl, hb1⟩
    have HB1 := hide (HBW.out.trans (hb1.mono HBW.out.size))
    have HR1 := hide (HR0.out.below hb1)
    clear hb1
    go_wp2_with fail
    refine (HA.out _ HR1.out).mono ?_
    rintro e w2 ⟨rfl, hb2⟩
    have HB2 := hide (bl_trans HB1.out hb2)
    clear hb2
    go_wp2
    go_ret
    exact ⟨rfl, HB2.out⟩
  · have hd : decide ((500 : Int) < (s.size : Int)) = false := by simpa using hs
    by_cases hs2 : (500 : Int) < more.size
    · have hd2 : decide ((500 : Int) < (more.size : Int)) = true := by simpa using hs2
      clear hs hs2
      go_enter Tryd.func7, Tryd.ntmps7
      go_wp2_with fail
      refine (HA.out _ HR0.out).mono ?_
      rintro e w1 ⟨rfl, hb1⟩
      have HB1 := hide (HBW.out.trans (hb1.mono HBW.out.size))
      have HR1 := hide (HR0.out.below hb1)
      clear hb1
      go_wp2_with fail
      refine (HA.out _ HR1.out).mono ?_
      rintro e w2 ⟨rfl, hb2⟩
      have HB2 := hide (bl_trans HB1.out hb2)
      clear hb2
      go_wp2
      go_ret
      exact ⟨rfl, HB2.out⟩
    · have hd2 : decide ((500 : Int) < (more.size : Int)) = false := by simpa using hs2
      obtain ⟨A, hA⟩ : ∃ A : Nat, (A : Int) = min (max (min x0 x1) 0) (s.size : Int) := ⟨(min (max (min x0 x1) 0) (s.size : Int)).toNat, by omega⟩
      obtain ⟨B, hB⟩ : ∃ B : Nat, (B : Int) = min (max x0 (max x1 0)) (s.size : Int) := ⟨(min (max x0 (max x1 0)) (s.size : Int)).toNat, by omega⟩
      have hAs : A ≤ s.size := by omega
      have hBs : B ≤ s.size := by omega
      have hAB : A ≤ B := by omega
      have h1 := fun w => where_any s A w (by omega)
      have h2 := fun w => where_any s B w (by omega)
      have hsz : (s ++ more).size ≤ 1000 := by rw [ByteArray.size_append]; omega
      have h3 := fun w => where_any (s ++ more) A w (by omega)
      rw [(line_in s A hAs).1, (line_in s A hAs).2] at h1
      rw [(line_in s B hBs).1, (line_in s B hBs).2] at h2
      rw [(line_in (s ++ more) A (by rw [ByteArray.size_append]; omega)).1, (line_in (s ++ more) A (by rw [ByteArray.size_append]; omega)).2, ba_app, pos_app _ _ A (by simpa using hAs)] at h3
      have hpA := M.pos_le s.data.toList A
      have hpB := M.pos_le s.data.toList B
      have hlt := pos_lt s.data.toList A B
      generalize M.pos s.data.toList A = pa at *
      generalize M.pos s.data.toList B = pb at *
      obtain ⟨l0, c0⟩ := pa
      obtain ⟨m0, d0⟩ := pb
      simp only at *
      have hlt : (A : Int) < B → (l0 : Int) + 1 < (m0 : Int) + 1 ∨ ((l0 : Int) + 1 = (m0 : Int) + 1 ∧ (c0 : Int) + 1 < (d0 : Int) + 1) := fun h => by have := hlt (by omega); omega
      have hAB : (A : Int) ≤ B := by omega
      clear hpA hpB hAs hBs
      generalize (l0 : Int) + 1 = l at *
      generalize (c0 : Int) + 1 = c at *
      generalize (m0 : Int) + 1 = m at *
      generalize (d0 : Int) + 1 = d at *
      generalize (A : Int) = A at *
      generalize (B : Int) = B at *
      have EA := hide hA
      have EB := hide hB
      have H3 := hide h3
      have hss : s.size + more.size ≤ 1000 := by omega
      by_cases hab : A = B
      · subst hab
        have H1 := hide h1
        have H2 := H1
        clear h1 h2 h3 hA hB hlt hs hs2 hAB hsz
        go_enter Tryd.func7, Tryd.ntmps7
        go_wp2_with fail
        refine (HA.out _ HR0.out).mono ?_
        rintro e w1 ⟨rfl, hb1⟩
        have c0 : w1.cell? ⟨w.heap.size, 0, none⟩ = some (.int .i64 x0) := (hb1.cell (p := ⟨w.heap.size, 0, none⟩) (by simp)).trans (by simp)
        have c1 : w1.cell? ⟨w.heap.size, 1, none⟩ = some (.int .i64 x1) := (hb1.cell (p := ⟨w.heap.size, 1, none⟩) (by simp)).trans (by simp)
        have HB1 := hide (HBW.out.trans (hb1.mono HBW.out.size))
        clear hb1
        go_wp2_with fail
        go_quiet (fail)
        rw [← EA.out, ← EB.out]
        clear c0 c1
        go_wp2_with fail
        refine (H1.out _).mono ?_
        rintro e w2 ⟨rfl, rfl⟩
        go_wp2_with fail
        refine (H2.out _).mono ?_
        rintro e w2 ⟨rfl, rfl⟩
        go_wp2_with fail
        refine (H3.out _).mono ?_
        rintro e w2 ⟨rfl, rfl⟩
        go_wp2
        go_ret
        exact ⟨rfl, bl_drewN HB1.out _⟩
      · rcases hlt (by omega) with hl | ⟨rfl, hl⟩
        · have hAB2 : A < B := by omega
          have t3 : (A == B) = false := by rw [beq_eq_false_iff_ne]; omega
          have t2 : (l == m) = false := by rw [beq_eq_false_iff_ne]; omega
          have H1 := hide h1
          have H2 := hide h2
          clear h1 h2 h3 hA hB hlt hab hs hs2 hAB hsz
          go_enter Tryd.func7, Tryd.ntmps7
          go_wp2_with fail
          refine (HA.out _ HR0.out).mono ?_
          rintro e w1 ⟨rfl, hb1⟩
          have c0 : w1.cell? ⟨w.heap.size, 0, none⟩ = some (.int .i64 x0) := (hb1.cell (p := ⟨w.heap.size, 0, none⟩) (by simp)).trans (by simp)
          have c1 : w1.cell? ⟨w.heap.size, 1, none⟩ = some (.int .i64 x1) := (hb1.cell (p := ⟨w.heap.size, 1, none⟩) (by simp)).trans (by simp)
          have HB1 := hide (HBW.out.trans (hb1.mono HBW.out.size))
          clear hb1
          go_wp2_with fail
          go_quiet (fail)
          rw [← EA.out, ← EB.out]
          clear c0 c1
          go_wp2_with fail
          refine (H1.out _).mono ?_
          rintro e w2 ⟨rfl, rfl⟩
          go_wp2_with fail
          refine (H2.out _).mono ?_
          rintro e w2 ⟨rfl, rfl⟩
          go_wp2_with fail
          refine (H3.out _).mono ?_
          rintro e w2 ⟨rfl, rfl⟩
          go_wp2
          go_ret
          exact ⟨rfl, bl_drewN HB1.out _⟩
        · have hAB2 : A < B := by omega
          have t3 : (A == B) = false := by rw [beq_eq_false_iff_ne]; omega
          have t2 : (c == d) = false := by rw [beq_eq_false_iff_ne]; omega
          have H1 := hide h1
          have H2 := hide h2
          clear h1 h2 h3 hA hB hlt hab hs hs2 hAB hsz
          go_enter Tryd.func7, Tryd.ntmps7
          go_wp2_with fail
          refine (HA.out _ HR0.out).mono ?_
          rintro e w1 ⟨rfl, hb1⟩
          have c0 : w1.cell? ⟨w.heap.size, 0, none⟩ = some (.int .i64 x0) := (hb1.cell (p := ⟨w.heap.size, 0, none⟩) (by simp)).trans (by simp)
          have c1 : w1.cell? ⟨w.heap.size, 1, none⟩ = some (.int .i64 x1) := (hb1.cell (p := ⟨w.heap.size, 1, none⟩) (by simp)).trans (by simp)
          have HB1 := hide (HBW.out.trans (hb1.mono HBW.out.size))
          clear hb1
          go_wp2_with fail
          go_quiet (fail)
          rw [← EA.out, ← EB.out]
          clear c0 c1
          go_wp2_with fail
          refine (H1.out _).mono ?_
          rintro e w2 ⟨rfl, rfl⟩
          go_wp2_with fail
          refine (H2.out _).mono ?_
          rintro e w2 ⟨rfl, rfl⟩
          go_wp2_with fail
          refine (H3.out _).mono ?_
          rintro e w2 ⟨rfl, rfl⟩
          go_wp2
          go_ret
          exact ⟨rfl, bl_drewN HB1.out _⟩
end Go.Proofs.YtcgiifcikcfdaaaDoor
