/- 'tree.rebuilt', 'tree.Copy' and 'tree.Bare': a tree in new memory, made of another node by node. No conditions beyond the bounds that each statement names. -/
import Derived.Test.YtdccodnompalbaaB3
import Derived.Test.YtdccodnompalbaaLs
namespace Go.Proofs.Ytdccodnompalbaa
open Go.RowKit

set_option maxRecDepth 20000 in
set_option maxHeartbeats 4000000 in
theorem rebuiltC_any : ∀ (T : NT) (w : World), Lies w.heap.size w T → T.sized maxLen → T.size ≤ 1000000 →
    Calls Try.prog 35 #[T.val, .func (.func 36) #[] #[]] w fun e w' => ∃ U, e = .returned U.val ∧ Copied T U ∧ LiesP (fun b => w.heap.size ≤ b) w' U ∧ Below w.heap.size w w' := by
  intro T
  induction T using NT.ind with
  | _ T ih =>
    intro w hL hS hz
    obtain ⟨p, c, hs, ⟨hlc, _⟩, hK⟩ := hL.eq
    obtain ⟨_, hl, hS'⟩ := (NT.sized_eq _ _).1 hS
    have hl' : T.len ≤ 9223372036854775807 := hl
    have hl6 : T.len ≤ 1000000 := Nat.le_trans (len_le_size T) hz
    have HIH : Hid (∀ i, i < T.len → ∀ w', Below w.heap.size w w' → Calls Try.prog 35 #[(T.kid i).val, .func (.func 36) #[] #[]] w' fun e w'' => ∃ U, e = .returned U.val ∧ Copied (T.kid i) U ∧ LiesP (fun b => w'.heap.size ≤ b) w'' U ∧ Below w'.heap.size w' w'') := hide fun i hi w' hb => by
      obtain ⟨_, _, _, _, hC⟩ := hK (by omega)
      exact ih i hi w' (((hC i hi).2.below hb).mono hb.size) (hS' i hi) (by
        have h1 : (T.kid i).size ≤ sumN (fun i => (T.kid i).size) T.len := sumN_le (f := fun i => (T.kid i).size) hi
        have := NT.size_eq T
        omega)
    have HC : Hid (T.len ≠ 0 → ∃ g off, p = some ⟨g, off, none⟩ ∧ g < w.heap.size ∧ ∀ i, i < T.len → Cells5 w g (off + i * 5) (T.kid i) ∧ ∃ p' c', (T.kid i).s = .slice p' (T.kid i).len c') := hide fun hne => by
      obtain ⟨g, off, h1, h2, h3⟩ := hK hne
      exact ⟨g, off, h1, h2, fun i hi => ⟨(h3 i hi).1, let ⟨p', c', e, _⟩ := (h3 i hi).2.eq; ⟨p', c', e⟩⟩⟩
    have HM : Hid (∀ U : NT, (U.k = T.k ∧ U.t = T.t ∧ U.n = T.n ∧ U.a = T.a ∧ U.len = T.len ∧ ∀ i, i < T.len → Copied (T.kid i) (U.kid i)) → Copied T U) := hide fun U => (made_eq (fun _ n => n) (fun a => a) T U).2
    have Hst := hide (st_first w T)
    have hf := fun w => copy1_any T.k T.t T.n p T.len c T.a w
    have Hbx : Hid (Cells5 ((w.alloc (boxO T)).alloc (boxO .nul)) w.heap.size 0 (.mk T.k T.t T.n (.slice p T.len c) 0 (fun _ => .nul) T.a)) := hide (by
      have := Hst.out.box
      unfold Cells5 at this ⊢
      rw [hs] at this
      exact this)
    have hst1 : St w ((w.alloc (boxO T)).alloc (boxO .nul)) (.mk T.k T.t T.n (.slice p T.len c) 0 (fun _ => .nul) T.a) := ⟨Hst.out.below, Hst.out.size, Hbx.out, Hst.out.fr, Hst.out.zero, Hst.out.frz⟩
    clear hL hS hz hK hS' ih hl Hst Hbx
    have hbe : boxO T = Obj.cells #[.int .i64 T.k, .string T.t, .int .i64 T.n, .slice p T.len c, .int .i64 T.a] 24 := by rw [← hs]
    rw [hbe] at hst1
    have Hst : Hid (St w ((w.alloc (Obj.cells #[.int .i64 T.k, .string T.t, .int .i64 T.n, .slice p T.len c, .int .i64 T.a] 24)).alloc (Obj.cells #[.int .i64 0, .string ⟨#[]⟩, .int .i64 0, .slice none 0 0, .int .i64 0] 24)) (.mk T.k T.t T.n (.slice p T.len c) 0 (fun _ => .nul) T.a)) := hide hst1
    simp only [NT.val, hs, nodeV] at hf ⊢
    clear hs hst1 hbe
    generalize T.k = k at *
    generalize T.t = t at *
    generalize T.n = n at *
    generalize T.a = a at *
    generalize T.len = len at *
    generalize T.kid = kid at *
    obtain ⟨W1, hW1⟩ : ∃ W1, (w.alloc (Obj.cells #[.int .i64 k, .string t, .int .i64 n, .slice p len c, .int .i64 a] 24)).alloc (Obj.cells #[.int .i64 0, .string ⟨#[]⟩, .int .i64 0, .slice none 0 0, .int .i64 0] 24) = W1 := ⟨_, rfl⟩
    rw [hW1] at Hst
    obtain ⟨b0, b1, b2, b3, b4⟩ := Hst.out.box
    simp only [NT.k, NT.t, NT.n, NT.s, NT.a] at b0 b1 b2 b3 b4
    by_cases h0 : len = 0
    · subst h0
      go_enter Try.func35, Try.ntmps35
      go_wp2_with (go_at_call 36; refine (hf _).mono ?_; clear hf; rintro e w2 ⟨rfl, hb2⟩; have st2 := Hst.out.new hb2 (Hst.out.size); have st3 := st2.put (NT.mk k t (n) (.slice p 0 c) 0 kid (a)); obtain ⟨W3, hW3⟩ : ∃ W3, ((((w2.setCell ⟨w.heap.size, 0, none⟩ (.int .i64 k)).setCell ⟨w.heap.size, 1, none⟩ (.string t)).setCell ⟨w.heap.size, 2, none⟩ (.int .i64 (n))).setCell ⟨w.heap.size, 3, none⟩ (.slice p 0 c)).setCell ⟨w.heap.size, 4, none⟩ (.int .i64 (a)) = W3 := ⟨_, rfl⟩; have st3' : St w W3 (NT.mk k t (n) (.slice p 0 c) 0 kid (a)) := (by rw [← hW3]; exact st3); obtain ⟨m0, m1, m2, m3, m4⟩ := st2.box; obtain ⟨f0, f1, f2, f3, f4⟩ := st2.fr; obtain ⟨o0, o1, o2, o3, o4⟩ := st3'.box; simp only [NT.k, NT.t, NT.n, NT.s, NT.a] at m0 m1 m2 m3 m4 o0 o1 o2 o3 o4; have HS3 := hide st3'; clear st2 st3 st3' hb2)
      clear hW1 hW3 m0 m1 m2 m3 m4 f0 f1 f2 f3 f4 b0 b1 b2 b3 b4
      go_loopw [22] (fun i wr => i = .int .i64 0 ∧ wr = W3) (fun _ _ => 0)
      case atStart => exact ⟨rfl, rfl⟩
      case round =>
        obtain ⟨rfl, rfl⟩ := hrel
        have st8 := St.kids (HS3.out) (NT.mk k t (n) (.slice none 0 0) 0 kid (a)) rfl rfl rfl rfl
        obtain ⟨W8, hW8⟩ : ∃ W8, wr.setCell ⟨w.heap.size, 3, none⟩ (Value.slice none 0 0) = W8 := ⟨_, rfl⟩
        have st8' : St w W8 (NT.mk k t (n) (.slice none 0 0) 0 kid (a)) := by rw [← hW8]; exact st8
        obtain ⟨x0, x1, x2, x3, x4⟩ := (HS3.out).box
        obtain ⟨i0, i1, i2, i3, i4⟩ := (HS3.out).fr
        obtain ⟨y0, y1, y2, y3, y4⟩ := st8'.box
        obtain ⟨z0, z1, z2, z3, z4⟩ := st8'.zero
        obtain ⟨g0, g1, g2, g3, g4⟩ := st8'.frz
        obtain ⟨hBl, s0, s1, s2, s3, s4⟩ := st8'.last (NT.mk k t (n) (.slice none 0 0) 0 kid (a))
        simp only [NT.k, NT.t, NT.n, NT.s, NT.a, Nat.zero_add] at x0 x1 x2 x3 x4 y0 y1 y2 y3 y4 z0 z1 z2 z3 z4 s0 s1 s2 s3 s4 hBl
        have HE := hide (show Copied T (NT.mk k t (n) (.slice none 0 0) 0 kid (a)) from HM.out _ ⟨rfl, rfl, rfl, rfl, rfl, fun i hi => by omega⟩)
        have HBl := hide hBl
        clear st8 st8' hBl o0 o1 o2 o3 o4
        go_wp2
        refine bodyPost_ret (v := nodeV k t (n) none 0 0 (a)) ?_ rfl ⟨_, rfl, HE.out, ⟨none, 0, rfl, ⟨Nat.le_refl _, fun _ => rfl⟩, fun h => absurd rfl h⟩, HBl.out⟩
        simp [results, Try.results35, go_sem, s0, s1, s2, s3, s4]
    · obtain ⟨iz, hi24, hz24, hs24, hb24⟩ := info_parts info24
      have hmk : ∀ W : World, (Instr.makeSlice 22 (.int .i64 (len : Int)) (.int .i64 (len : Int))).run Try.prog W = .ok (.slice (some ⟨W.heap.size, 0, none⟩) len len) (W.alloc (.cells (madeCells #[.int .i64 0, .string ⟨#[]⟩, .int .i64 0, .slice none 0 0, .int .i64 0] (len * 5)) 24)) := fun W => by
        have := run_make (P := Try.prog) W 22 24 iz _ rfl hi24 hz24 .i64 .i64 (len : Int) (len : Int) (by omega) (Int.le_refl _) (by rw [hb24]; omega) (by omega)
        rw [hs24] at this
        simp only [Int.toNat_natCast] at this
        exact this
      have hpos : (0 : Int) < (len : Int) := by omega
      clear hi24 hz24 hs24 hb24
      go_enter Try.func35, Try.ntmps35
      go_wp2_with (go_at_call 36; refine (hf _).mono ?_; clear hf; rintro e w2 ⟨rfl, hb2⟩; have st2 := Hst.out.new hb2 (Hst.out.size); have st3 := st2.put (NT.mk k t (n) (.slice p len c) len kid (a)); obtain ⟨W3, hW3⟩ : ∃ W3, ((((w2.setCell ⟨w.heap.size, 0, none⟩ (.int .i64 k)).setCell ⟨w.heap.size, 1, none⟩ (.string t)).setCell ⟨w.heap.size, 2, none⟩ (.int .i64 (n))).setCell ⟨w.heap.size, 3, none⟩ (.slice p len c)).setCell ⟨w.heap.size, 4, none⟩ (.int .i64 (a)) = W3 := ⟨_, rfl⟩; have st3' : St w W3 (NT.mk k t (n) (.slice p len c) len kid (a)) := (by rw [← hW3]; exact st3); obtain ⟨m0, m1, m2, m3, m4⟩ := st2.box; obtain ⟨f0, f1, f2, f3, f4⟩ := st2.fr; obtain ⟨o0, o1, o2, o3, o4⟩ := st3'.box; simp only [NT.k, NT.t, NT.n, NT.s, NT.a] at m0 m1 m2 m3 m4 o0 o1 o2 o3 o4; have HS3 := hide st3'; clear st2 st3 st3' hb2; obtain ⟨W4, hW4⟩ : ∃ W4, W3.alloc (.cells (madeCells #[.int .i64 0, .string ⟨#[]⟩, .int .i64 0, .slice none 0 0, .int .i64 0] (len * 5)) 24) = W4 := ⟨_, rfl⟩; have hN4 := nodes_made W3 len; rw [hW4] at hN4; have hb4 : Below W3.heap.size W3 W4 := (by rw [← hW4]; exact bl_alloc (Below.refl _ _) _); have hz4 : W4.heap.size = W3.heap.size + 1 := (by rw [← hW4]; simp); have p3 := (hb4.cell (p := ⟨w.heap.size, 3, none⟩) (World.block_lt_of_cell? _ _ o3)).trans o3)
      have HN4 := hide hN4
      have HB4 := hide hb4
      have HZ4 := hide hz4
      clear hW1 hW3 hW4 m0 m1 m2 m3 m4 f0 f1 f2 f3 f4 b0 b1 b2 b3 b4 o0 o1 o2 o3 o4 p3 hN4 hb4 hz4 hmk
      go_loopw [22] (fun i wr => ∃ (j : Nat) (V : Nat → NT), j ≤ len ∧ i = .int .i64 j ∧ Nodes wr W3.heap.size len V ∧ (∀ i, i < j → Copied (kid i) (V i) ∧ LiesP (fun x => W3.heap.size < x) wr (V i)) ∧ Below W3.heap.size W4 wr) (fun i _ => len - (intOf i).toNat)
      case atStart => exact ⟨0, fun _ => .nul, Nat.zero_le _, rfl, HN4.out, fun i hi => by omega, Below.refl _ _⟩
      case round =>
        obtain ⟨j, V, hj, rfl, hN, hV, hB⟩ := hrel
        have hB3 : Below W3.heap.size W3 wr := HB4.out.trans hB
        have HBW := hide (show Below w.heap.size w wr from HS3.out.below.trans (hB3.mono HS3.out.below.size))
        have HGE := hide (show W3.heap.size < wr.heap.size by have := hB.size; have := HZ4.out; omega)
        have HSR := hide (HS3.out.new hB3 HS3.out.size)
        have HN := hide hN
        have HV := hide hV
        have HB := hide hB
        clear hN hV hB hB3
        rcases Nat.lt_or_ge j len with hlt | hge
        · have hi' : (j : Int) < (len : Int) := by omega
          obtain ⟨g, off, rfl, hg, hCC⟩ := HC.out h0
          obtain ⟨c0, c1, c2, c3, c4⟩ := ((hCC j hlt).1.below HBW.out hg).nat
          obtain ⟨p1, c1', hs1⟩ := (hCC j hlt).2
          rw [hs1] at c3
          obtain ⟨W5, hW5⟩ : ∃ W5, wr.alloc (Obj.cells #[.int .i64 (kid j).k, .string (kid j).t, .int .i64 (kid j).n, .slice p1 (kid j).len c1', .int .i64 (kid j).a] 24) = W5 := ⟨_, rfl⟩
          have hB5 := box_new wr (kid j)
          simp only [boxO, hs1] at hB5
          rw [hW5] at hB5
          obtain ⟨v0, v1, v2, v3, v4⟩ := hB5
          rw [hs1] at v3
          have hb5 : Below wr.heap.size wr W5 := by rw [← hW5]; exact bl_alloc (Below.refl _ _) _
          have hc := HIH.out j hlt W5 (bl_trans HBW.out hb5)
          simp only [NT.val, hs1] at hc
          have HB5 := hide hb5
          clear hCC hs1 hb5
          go_wp2_with (go_at_call 35; refine hc.mono ?_; clear hc; rintro e w7 ⟨U, rfl, hU, hLU, hb7⟩; obtain ⟨pu, cu, hsu, _, _⟩ := liesP_eq.1 hLU; have HN7 := hide ((HN.out.below HB5.out HGE.out).below hb7 (by have := HB5.out.size; have := HGE.out; omega)); obtain ⟨n0, n1, n2, n3, n4⟩ := HN7.out.1 j hlt; have l0 := HN7.out.2 (j * 5); have l1 := HN7.out.2 (j * 5 + 1); have l2 := HN7.out.2 (j * 5 + 2); have l3 := HN7.out.2 (j * 5 + 3); have l4 := HN7.out.2 (j * 5 + 4); have HU := hide hU; have HLU := hide hLU; have HB7 := hide hb7; have HSU := hide hsu; simp only [hsu]; clear hU hLU hb7 hsu)
          go_roundw
          case rel =>
            have hset := HN7.out.set hlt U
            rw [HSU.out] at hset
            refine ⟨j + 1, fun i => if i = j then U else V i, by omega, by go_num, hset, fun i hi => ?_, set5_below (HB.out.trans ((HB5.out.trans (HB7.out.mono HB5.out.size)).mono (Nat.le_of_lt HGE.out))) (Nat.le_refl _) _ _ _ _ _ _⟩
            by_cases e : i = j
            · subst e
              simp only [if_true]
              refine ⟨HU.out, LiesP.set (fun x hx => by omega) (HLU.out.carry (fun x hx _ => ?_) (fun _ _ _ hv => hv))⟩
              have := HB5.out.size
              have := HGE.out
              omega
            · simp only [if_neg e]
              refine ⟨(HV.out i (by omega)).1, LiesP.set (fun x hx => by omega) (((HV.out i (by omega)).2.below HB5.out).below HB7.out)⟩
          case measure => simp [intOf]; omega
        · have he : j = len := by omega
          subst he
          have st8 := St.kids (HSR.out) (NT.mk k t (n) (.slice (some ⟨W3.heap.size, 0, none⟩) j j) j V (a)) rfl rfl rfl rfl
          obtain ⟨W8, hW8⟩ : ∃ W8, wr.setCell ⟨w.heap.size, 3, none⟩ (Value.slice (some ⟨W3.heap.size, 0, none⟩) j j) = W8 := ⟨_, rfl⟩
          have st8' : St w W8 (NT.mk k t (n) (.slice (some ⟨W3.heap.size, 0, none⟩) j j) j V (a)) := by rw [← hW8]; exact st8
          obtain ⟨x0, x1, x2, x3, x4⟩ := (HSR.out).box
          obtain ⟨i0, i1, i2, i3, i4⟩ := (HSR.out).fr
          obtain ⟨y0, y1, y2, y3, y4⟩ := st8'.box
          obtain ⟨z0, z1, z2, z3, z4⟩ := st8'.zero
          obtain ⟨g0, g1, g2, g3, g4⟩ := st8'.frz
          obtain ⟨hBl, s0, s1, s2, s3, s4⟩ := st8'.last (NT.mk k t (n) (.slice (some ⟨W3.heap.size, 0, none⟩) j j) j V (a))
          simp only [NT.k, NT.t, NT.n, NT.s, NT.a, Nat.zero_add] at x0 x1 x2 x3 x4 y0 y1 y2 y3 y4 z0 z1 z2 z3 z4 s0 s1 s2 s3 s4 hBl
          have HE := hide (show Copied T (NT.mk k t (n) (.slice (some ⟨W3.heap.size, 0, none⟩) j j) j V (a)) from HM.out _ ⟨rfl, rfl, rfl, rfl, rfl, fun i hi => (HV.out i hi).1⟩)
          have HF := hide (nodes_tree HN.out (Nat.le_trans (by omega : w.heap.size ≤ w.heap.size + 2) HS3.out.size) (fun i hi => (HV.out i hi).2) k t (n) (a))
          have HBl := hide hBl
          have HW8 := hide hW8
          clear st8 st8' hBl
          go_wp2
          refine bodyPost_ret (v := nodeV k t (n) (some ⟨W3.heap.size, 0, none⟩) j j (a)) ?_ rfl ⟨_, rfl, HE.out, ?_, HBl.out⟩
          · simp [results, Try.results35, go_sem, s0, s1, s2, s3, s4]
          · have hS3 := HS3.out.size
            have hne : ∀ (p : Addr), p.block ≠ w.heap.size → W8.cell? p = wr.cell? p := fun p hp => by rw [← HW8.out]; exact World.cell?_setCell_other _ _ _ _ (fun h => hp (by rw [← h]))
            refine LiesP.set (P := fun b => w.heap.size + 2 ≤ b) (fun x hx => by omega) ((nodes_tree HN.out hS3 (fun i hi => (HV.out i hi).2) k t (n) (a)).carry (fun _ hx _ => hx) fun p v hp hv => (hne p (by omega)).trans hv) |>.carry (fun x hx _ => by omega) (fun _ _ _ hv => hv)

set_option maxRecDepth 20000 in
set_option maxHeartbeats 4000000 in
theorem rebuiltB_any : ∀ (T : NT) (w : World), Lies w.heap.size w T → T.sized maxLen → T.size ≤ 1000000 →
    Calls Try.prog 35 #[T.val, .func (.func 40) #[] #[]] w fun e w' => ∃ U, e = .returned U.val ∧ Bared T U ∧ LiesP (fun b => w.heap.size ≤ b) w' U ∧ Below w.heap.size w w' := by
  intro T
  induction T using NT.ind with
  | _ T ih =>
    intro w hL hS hz
    obtain ⟨p, c, hs, ⟨hlc, _⟩, hK⟩ := hL.eq
    obtain ⟨_, hl, hS'⟩ := (NT.sized_eq _ _).1 hS
    have hl' : T.len ≤ 9223372036854775807 := hl
    have hl6 : T.len ≤ 1000000 := Nat.le_trans (len_le_size T) hz
    have HIH : Hid (∀ i, i < T.len → ∀ w', Below w.heap.size w w' → Calls Try.prog 35 #[(T.kid i).val, .func (.func 40) #[] #[]] w' fun e w'' => ∃ U, e = .returned U.val ∧ Bared (T.kid i) U ∧ LiesP (fun b => w'.heap.size ≤ b) w'' U ∧ Below w'.heap.size w' w'') := hide fun i hi w' hb => by
      obtain ⟨_, _, _, _, hC⟩ := hK (by omega)
      exact ih i hi w' (((hC i hi).2.below hb).mono hb.size) (hS' i hi) (by
        have h1 : (T.kid i).size ≤ sumN (fun i => (T.kid i).size) T.len := sumN_le (f := fun i => (T.kid i).size) hi
        have := NT.size_eq T
        omega)
    have HC : Hid (T.len ≠ 0 → ∃ g off, p = some ⟨g, off, none⟩ ∧ g < w.heap.size ∧ ∀ i, i < T.len → Cells5 w g (off + i * 5) (T.kid i) ∧ ∃ p' c', (T.kid i).s = .slice p' (T.kid i).len c') := hide fun hne => by
      obtain ⟨g, off, h1, h2, h3⟩ := hK hne
      exact ⟨g, off, h1, h2, fun i hi => ⟨(h3 i hi).1, let ⟨p', c', e, _⟩ := (h3 i hi).2.eq; ⟨p', c', e⟩⟩⟩
    have HM : Hid (∀ U : NT, (U.k = T.k ∧ U.t = T.t ∧ U.n = bareN T.k T.n ∧ U.a = 0 ∧ U.len = T.len ∧ ∀ i, i < T.len → Bared (T.kid i) (U.kid i)) → Bared T U) := hide fun U => (made_eq bareN (fun _ => 0) T U).2
    have Hst := hide (st_first w T)
    have hf := fun w => bare1_any T.k T.t T.n p T.len c T.a w
    have Hbx : Hid (Cells5 ((w.alloc (boxO T)).alloc (boxO .nul)) w.heap.size 0 (.mk T.k T.t T.n (.slice p T.len c) 0 (fun _ => .nul) T.a)) := hide (by
      have := Hst.out.box
      unfold Cells5 at this ⊢
      rw [hs] at this
      exact this)
    have hst1 : St w ((w.alloc (boxO T)).alloc (boxO .nul)) (.mk T.k T.t T.n (.slice p T.len c) 0 (fun _ => .nul) T.a) := ⟨Hst.out.below, Hst.out.size, Hbx.out, Hst.out.fr, Hst.out.zero, Hst.out.frz⟩
    clear hL hS hz hK hS' ih hl Hst Hbx
    have hbe : boxO T = Obj.cells #[.int .i64 T.k, .string T.t, .int .i64 T.n, .slice p T.len c, .int .i64 T.a] 24 := by rw [← hs]
    rw [hbe] at hst1
    have Hst : Hid (St w ((w.alloc (Obj.cells #[.int .i64 T.k, .string T.t, .int .i64 T.n, .slice p T.len c, .int .i64 T.a] 24)).alloc (Obj.cells #[.int .i64 0, .string ⟨#[]⟩, .int .i64 0, .slice none 0 0, .int .i64 0] 24)) (.mk T.k T.t T.n (.slice p T.len c) 0 (fun _ => .nul) T.a)) := hide hst1
    simp only [NT.val, hs, nodeV] at hf ⊢
    clear hs hst1 hbe
    generalize T.k = k at *
    generalize T.t = t at *
    generalize T.n = n at *
    generalize T.a = a at *
    generalize T.len = len at *
    generalize T.kid = kid at *
    obtain ⟨W1, hW1⟩ : ∃ W1, (w.alloc (Obj.cells #[.int .i64 k, .string t, .int .i64 n, .slice p len c, .int .i64 a] 24)).alloc (Obj.cells #[.int .i64 0, .string ⟨#[]⟩, .int .i64 0, .slice none 0 0, .int .i64 0] 24) = W1 := ⟨_, rfl⟩
    rw [hW1] at Hst
    obtain ⟨b0, b1, b2, b3, b4⟩ := Hst.out.box
    simp only [NT.k, NT.t, NT.n, NT.s, NT.a] at b0 b1 b2 b3 b4
    by_cases h0 : len = 0
    · subst h0
      go_enter Try.func35, Try.ntmps35
      go_wp2_with (go_at_call 40; refine (hf _).mono ?_; clear hf; rintro e w2 ⟨rfl, hb2⟩; have st2 := Hst.out.new hb2 (Hst.out.size); have st3 := st2.put (NT.mk k t (bareN k n) (.slice p 0 c) 0 kid (0)); obtain ⟨W3, hW3⟩ : ∃ W3, ((((w2.setCell ⟨w.heap.size, 0, none⟩ (.int .i64 k)).setCell ⟨w.heap.size, 1, none⟩ (.string t)).setCell ⟨w.heap.size, 2, none⟩ (.int .i64 (bareN k n))).setCell ⟨w.heap.size, 3, none⟩ (.slice p 0 c)).setCell ⟨w.heap.size, 4, none⟩ (.int .i64 (0)) = W3 := ⟨_, rfl⟩; have st3' : St w W3 (NT.mk k t (bareN k n) (.slice p 0 c) 0 kid (0)) := (by rw [← hW3]; exact st3); obtain ⟨m0, m1, m2, m3, m4⟩ := st2.box; obtain ⟨f0, f1, f2, f3, f4⟩ := st2.fr; obtain ⟨o0, o1, o2, o3, o4⟩ := st3'.box; simp only [NT.k, NT.t, NT.n, NT.s, NT.a] at m0 m1 m2 m3 m4 o0 o1 o2 o3 o4; have HS3 := hide st3'; clear st2 st3 st3' hb2)
      clear hW1 hW3 m0 m1 m2 m3 m4 f0 f1 f2 f3 f4 b0 b1 b2 b3 b4
      go_loopw [22] (fun i wr => i = .int .i64 0 ∧ wr = W3) (fun _ _ => 0)
      case atStart => exact ⟨rfl, rfl⟩
      case round =>
        obtain ⟨rfl, rfl⟩ := hrel
        have st8 := St.kids (HS3.out) (NT.mk k t (bareN k n) (.slice none 0 0) 0 kid (0)) rfl rfl rfl rfl
        obtain ⟨W8, hW8⟩ : ∃ W8, wr.setCell ⟨w.heap.size, 3, none⟩ (Value.slice none 0 0) = W8 := ⟨_, rfl⟩
        have st8' : St w W8 (NT.mk k t (bareN k n) (.slice none 0 0) 0 kid (0)) := by rw [← hW8]; exact st8
        obtain ⟨x0, x1, x2, x3, x4⟩ := (HS3.out).box
        obtain ⟨i0, i1, i2, i3, i4⟩ := (HS3.out).fr
        obtain ⟨y0, y1, y2, y3, y4⟩ := st8'.box
        obtain ⟨z0, z1, z2, z3, z4⟩ := st8'.zero
        obtain ⟨g0, g1, g2, g3, g4⟩ := st8'.frz
        obtain ⟨hBl, s0, s1, s2, s3, s4⟩ := st8'.last (NT.mk k t (bareN k n) (.slice none 0 0) 0 kid (0))
        simp only [NT.k, NT.t, NT.n, NT.s, NT.a, Nat.zero_add] at x0 x1 x2 x3 x4 y0 y1 y2 y3 y4 z0 z1 z2 z3 z4 s0 s1 s2 s3 s4 hBl
        have HE := hide (show Bared T (NT.mk k t (bareN k n) (.slice none 0 0) 0 kid (0)) from HM.out _ ⟨rfl, rfl, rfl, rfl, rfl, fun i hi => by omega⟩)
        have HBl := hide hBl
        clear st8 st8' hBl o0 o1 o2 o3 o4
        go_wp2
        refine bodyPost_ret (v := nodeV k t (bareN k n) none 0 0 (0)) ?_ rfl ⟨_, rfl, HE.out, ⟨none, 0, rfl, ⟨Nat.le_refl _, fun _ => rfl⟩, fun h => absurd rfl h⟩, HBl.out⟩
        simp [results, Try.results35, go_sem, s0, s1, s2, s3, s4]
    · obtain ⟨iz, hi24, hz24, hs24, hb24⟩ := info_parts info24
      have hmk : ∀ W : World, (Instr.makeSlice 22 (.int .i64 (len : Int)) (.int .i64 (len : Int))).run Try.prog W = .ok (.slice (some ⟨W.heap.size, 0, none⟩) len len) (W.alloc (.cells (madeCells #[.int .i64 0, .string ⟨#[]⟩, .int .i64 0, .slice none 0 0, .int .i64 0] (len * 5)) 24)) := fun W => by
        have := run_make (P := Try.prog) W 22 24 iz _ rfl hi24 hz24 .i64 .i64 (len : Int) (len : Int) (by omega) (Int.le_refl _) (by rw [hb24]; omega) (by omega)
        rw [hs24] at this
        simp only [Int.toNat_natCast] at this
        exact this
      have hpos : (0 : Int) < (len : Int) := by omega
      clear hi24 hz24 hs24 hb24
      go_enter Try.func35, Try.ntmps35
      go_wp2_with (go_at_call 40; refine (hf _).mono ?_; clear hf; rintro e w2 ⟨rfl, hb2⟩; have st2 := Hst.out.new hb2 (Hst.out.size); have st3 := st2.put (NT.mk k t (bareN k n) (.slice p len c) len kid (0)); obtain ⟨W3, hW3⟩ : ∃ W3, ((((w2.setCell ⟨w.heap.size, 0, none⟩ (.int .i64 k)).setCell ⟨w.heap.size, 1, none⟩ (.string t)).setCell ⟨w.heap.size, 2, none⟩ (.int .i64 (bareN k n))).setCell ⟨w.heap.size, 3, none⟩ (.slice p len c)).setCell ⟨w.heap.size, 4, none⟩ (.int .i64 (0)) = W3 := ⟨_, rfl⟩; have st3' : St w W3 (NT.mk k t (bareN k n) (.slice p len c) len kid (0)) := (by rw [← hW3]; exact st3); obtain ⟨m0, m1, m2, m3, m4⟩ := st2.box; obtain ⟨f0, f1, f2, f3, f4⟩ := st2.fr; obtain ⟨o0, o1, o2, o3, o4⟩ := st3'.box; simp only [NT.k, NT.t, NT.n, NT.s, NT.a] at m0 m1 m2 m3 m4 o0 o1 o2 o3 o4; have HS3 := hide st3'; clear st2 st3 st3' hb2; obtain ⟨W4, hW4⟩ : ∃ W4, W3.alloc (.cells (madeCells #[.int .i64 0, .string ⟨#[]⟩, .int .i64 0, .slice none 0 0, .int .i64 0] (len * 5)) 24) = W4 := ⟨_, rfl⟩; have hN4 := nodes_made W3 len; rw [hW4] at hN4; have hb4 : Below W3.heap.size W3 W4 := (by rw [← hW4]; exact bl_alloc (Below.refl _ _) _); have hz4 : W4.heap.size = W3.heap.size + 1 := (by rw [← hW4]; simp); have p3 := (hb4.cell (p := ⟨w.heap.size, 3, none⟩) (World.block_lt_of_cell? _ _ o3)).trans o3)
      have HN4 := hide hN4
      have HB4 := hide hb4
      have HZ4 := hide hz4
      clear hW1 hW3 hW4 m0 m1 m2 m3 m4 f0 f1 f2 f3 f4 b0 b1 b2 b3 b4 o0 o1 o2 o3 o4 p3 hN4 hb4 hz4 hmk
      go_loopw [22] (fun i wr => ∃ (j : Nat) (V : Nat → NT), j ≤ len ∧ i = .int .i64 j ∧ Nodes wr W3.heap.size len V ∧ (∀ i, i < j → Bared (kid i) (V i) ∧ LiesP (fun x => W3.heap.size < x) wr (V i)) ∧ Below W3.heap.size W4 wr) (fun i _ => len - (intOf i).toNat)
      case atStart => exact ⟨0, fun _ => .nul, Nat.zero_le _, rfl, HN4.out, fun i hi => by omega, Below.refl _ _⟩
      case round =>
        obtain ⟨j, V, hj, rfl, hN, hV, hB⟩ := hrel
        have hB3 : Below W3.heap.size W3 wr := HB4.out.trans hB
        have HBW := hide (show Below w.heap.size w wr from HS3.out.below.trans (hB3.mono HS3.out.below.size))
        have HGE := hide (show W3.heap.size < wr.heap.size by have := hB.size; have := HZ4.out; omega)
        have HSR := hide (HS3.out.new hB3 HS3.out.size)
        have HN := hide hN
        have HV := hide hV
        have HB := hide hB
        clear hN hV hB hB3
        rcases Nat.lt_or_ge j len with hlt | hge
        · have hi' : (j : Int) < (len : Int) := by omega
          obtain ⟨g, off, rfl, hg, hCC⟩ := HC.out h0
          obtain ⟨c0, c1, c2, c3, c4⟩ := ((hCC j hlt).1.below HBW.out hg).nat
          obtain ⟨p1, c1', hs1⟩ := (hCC j hlt).2
          rw [hs1] at c3
          obtain ⟨W5, hW5⟩ : ∃ W5, wr.alloc (Obj.cells #[.int .i64 (kid j).k, .string (kid j).t, .int .i64 (kid j).n, .slice p1 (kid j).len c1', .int .i64 (kid j).a] 24) = W5 := ⟨_, rfl⟩
          have hB5 := box_new wr (kid j)
          simp only [boxO, hs1] at hB5
          rw [hW5] at hB5
          obtain ⟨v0, v1, v2, v3, v4⟩ := hB5
          rw [hs1] at v3
          have hb5 : Below wr.heap.size wr W5 := by rw [← hW5]; exact bl_alloc (Below.refl _ _) _
          have hc := HIH.out j hlt W5 (bl_trans HBW.out hb5)
          simp only [NT.val, hs1] at hc
          have HB5 := hide hb5
          clear hCC hs1 hb5
          go_wp2_with (go_at_call 35; refine hc.mono ?_; clear hc; rintro e w7 ⟨U, rfl, hU, hLU, hb7⟩; obtain ⟨pu, cu, hsu, _, _⟩ := liesP_eq.1 hLU; have HN7 := hide ((HN.out.below HB5.out HGE.out).below hb7 (by have := HB5.out.size; have := HGE.out; omega)); obtain ⟨n0, n1, n2, n3, n4⟩ := HN7.out.1 j hlt; have l0 := HN7.out.2 (j * 5); have l1 := HN7.out.2 (j * 5 + 1); have l2 := HN7.out.2 (j * 5 + 2); have l3 := HN7.out.2 (j * 5 + 3); have l4 := HN7.out.2 (j * 5 + 4); have HU := hide hU; have HLU := hide hLU; have HB7 := hide hb7; have HSU := hide hsu; simp only [hsu]; clear hU hLU hb7 hsu)
          go_roundw
          case rel =>
            have hset := HN7.out.set hlt U
            rw [HSU.out] at hset
            refine ⟨j + 1, fun i => if i = j then U else V i, by omega, by go_num, hset, fun i hi => ?_, set5_below (HB.out.trans ((HB5.out.trans (HB7.out.mono HB5.out.size)).mono (Nat.le_of_lt HGE.out))) (Nat.le_refl _) _ _ _ _ _ _⟩
            by_cases e : i = j
            · subst e
              simp only [if_true]
              refine ⟨HU.out, LiesP.set (fun x hx => by omega) (HLU.out.carry (fun x hx _ => ?_) (fun _ _ _ hv => hv))⟩
              have := HB5.out.size
              have := HGE.out
              omega
            · simp only [if_neg e]
              refine ⟨(HV.out i (by omega)).1, LiesP.set (fun x hx => by omega) (((HV.out i (by omega)).2.below HB5.out).below HB7.out)⟩
          case measure => simp [intOf]; omega
        · have he : j = len := by omega
          subst he
          have st8 := St.kids (HSR.out) (NT.mk k t (bareN k n) (.slice (some ⟨W3.heap.size, 0, none⟩) j j) j V (0)) rfl rfl rfl rfl
          obtain ⟨W8, hW8⟩ : ∃ W8, wr.setCell ⟨w.heap.size, 3, none⟩ (Value.slice (some ⟨W3.heap.size, 0, none⟩) j j) = W8 := ⟨_, rfl⟩
          have st8' : St w W8 (NT.mk k t (bareN k n) (.slice (some ⟨W3.heap.size, 0, none⟩) j j) j V (0)) := by rw [← hW8]; exact st8
          obtain ⟨x0, x1, x2, x3, x4⟩ := (HSR.out).box
          obtain ⟨i0, i1, i2, i3, i4⟩ := (HSR.out).fr
          obtain ⟨y0, y1, y2, y3, y4⟩ := st8'.box
          obtain ⟨z0, z1, z2, z3, z4⟩ := st8'.zero
          obtain ⟨g0, g1, g2, g3, g4⟩ := st8'.frz
          obtain ⟨hBl, s0, s1, s2, s3, s4⟩ := st8'.last (NT.mk k t (bareN k n) (.slice (some ⟨W3.heap.size, 0, none⟩) j j) j V (0))
          simp only [NT.k, NT.t, NT.n, NT.s, NT.a, Nat.zero_add] at x0 x1 x2 x3 x4 y0 y1 y2 y3 y4 z0 z1 z2 z3 z4 s0 s1 s2 s3 s4 hBl
          have HE := hide (show Bared T (NT.mk k t (bareN k n) (.slice (some ⟨W3.heap.size, 0, none⟩) j j) j V (0)) from HM.out _ ⟨rfl, rfl, rfl, rfl, rfl, fun i hi => (HV.out i hi).1⟩)
          have HF := hide (nodes_tree HN.out (Nat.le_trans (by omega : w.heap.size ≤ w.heap.size + 2) HS3.out.size) (fun i hi => (HV.out i hi).2) k t (bareN k n) (0))
          have HBl := hide hBl
          have HW8 := hide hW8
          clear st8 st8' hBl
          go_wp2
          refine bodyPost_ret (v := nodeV k t (bareN k n) (some ⟨W3.heap.size, 0, none⟩) j j (0)) ?_ rfl ⟨_, rfl, HE.out, ?_, HBl.out⟩
          · simp [results, Try.results35, go_sem, s0, s1, s2, s3, s4]
          · have hS3 := HS3.out.size
            have hne : ∀ (p : Addr), p.block ≠ w.heap.size → W8.cell? p = wr.cell? p := fun p hp => by rw [← HW8.out]; exact World.cell?_setCell_other _ _ _ _ (fun h => hp (by rw [← h]))
            refine LiesP.set (P := fun b => w.heap.size + 2 ≤ b) (fun x hx => by omega) ((nodes_tree HN.out hS3 (fun i hi => (HV.out i hi).2) k t (bareN k n) (0)).carry (fun _ hx _ => hx) fun p v hp hv => (hne p (by omega)).trans hv) |>.carry (fun x hx _ => by omega) (fun _ _ _ hv => hv)
end Go.Proofs.Ytdccodnompalbaa
