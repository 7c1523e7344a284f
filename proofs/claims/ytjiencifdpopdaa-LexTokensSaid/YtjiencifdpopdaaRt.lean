/- All tokens of a source, by the document's own answer. No conditions beyond the bounds that each statement names. -/
import Derived.Test.YtjiencifdpopdaaSk
import Derived.Deep.CutRange
import Derived.Deep.RegionHeld3
namespace Go.Proofs.Ytjiencifdpopdaa
open Go.RowKit

theorem cut_of (s : ByteArray) (k n : Nat) : (s.extract k (k + n)).data.toList = (s.data.toList.drop k).take n := by rw [Lib.extract_data, Nat.add_sub_cancel_left]

/-- New memory leaves a row of the call's own. -/
theorem own_below {w w' : World} {base size : Nat} {e : TypeId} {v : Value} {n : Nat} {xs : List Value} (h : w.ownsRow base e size v n xs) (hb : Below w.heap.size w w') : w'.ownsRow base e size v n xs := by
  refine ⟨h.1, ?_⟩
  rcases h.2 with h1 | ⟨g, cap, cur, rfl, hbg, hg, hrest⟩
  · exact .inl h1
  · have hlt : g < w.heap.size := by
      rcases Nat.lt_or_ge g w.heap.size with h1 | h1
      · exact h1
      · rw [Array.getElem?_eq_none h1] at hg; cases hg
    exact .inr ⟨g, cap, cur, rfl, hbg, (hb.block g hlt).trans hg, hrest⟩

theorem new_three {W w3 : World} {e : TypeId} {a b c : Value} (h : Below (W.alloc (Obj.cells #[a, b, c] e)).drew.heap.size (W.alloc (Obj.cells #[a, b, c] e)).drew w3) :
    w3.cell? ⟨W.heap.size, 0, none⟩ = some a ∧ w3.cell? ⟨W.heap.size, 1, none⟩ = some b ∧ w3.cell? ⟨W.heap.size, 2, none⟩ = some c ∧ w3.frozen? ⟨W.heap.size, 0, none⟩ = false ∧ w3.frozen? ⟨W.heap.size, 1, none⟩ = false ∧ w3.frozen? ⟨W.heap.size, 2, none⟩ = false := by
  have hlt : W.heap.size < (W.alloc (Obj.cells #[a, b, c] e)).drew.heap.size := by show W.heap.size < (W.alloc (Obj.cells #[a, b, c] e)).heap.size; simp
  refine ⟨(h.cell (p := ⟨W.heap.size, 0, none⟩) hlt).trans ?_, (h.cell (p := ⟨W.heap.size, 1, none⟩) hlt).trans ?_, (h.cell (p := ⟨W.heap.size, 2, none⟩) hlt).trans ?_, (h.frozen (p := ⟨W.heap.size, 0, none⟩) hlt).trans ?_, (h.frozen (p := ⟨W.heap.size, 1, none⟩) hlt).trans ?_, (h.frozen (p := ⟨W.heap.size, 2, none⟩) hlt).trans ?_⟩
  · show (W.alloc (Obj.cells #[a, b, c] e)).cell? _ = _; simp
  · show (W.alloc (Obj.cells #[a, b, c] e)).cell? _ = _; simp
  · show (W.alloc (Obj.cells #[a, b, c] e)).cell? _ = _; simp
  · show (W.alloc (Obj.cells #[a, b, c] e)).frozen? _ = _; simp
  · show (W.alloc (Obj.cells #[a, b, c] e)).frozen? _ = _; simp
  · show (W.alloc (Obj.cells #[a, b, c] e)).frozen? _ = _; simp
theorem below_size {w w' : World} {B : Nat} (h : Below B w w') : w.heap.size ≤ w'.heap.size := h.size

theorem three_set {W : World} {b : Nat} {x0 x1 x2 : Value} (u v t : Value) (h0 : W.cell? ⟨b, 0, none⟩ = some x0) (h1 : W.cell? ⟨b, 1, none⟩ = some x1) (h2 : W.cell? ⟨b, 2, none⟩ = some x2) :
    (((W.setCell ⟨b, 0, none⟩ u).setCell ⟨b, 1, none⟩ v).setCell ⟨b, 2, none⟩ t).cell? ⟨b, 0, none⟩ = some u ∧ (((W.setCell ⟨b, 0, none⟩ u).setCell ⟨b, 1, none⟩ v).setCell ⟨b, 2, none⟩ t).cell? ⟨b, 1, none⟩ = some v ∧ (((W.setCell ⟨b, 0, none⟩ u).setCell ⟨b, 1, none⟩ v).setCell ⟨b, 2, none⟩ t).cell? ⟨b, 2, none⟩ = some t := by
  obtain ⟨e0, e1⟩ := two_setN u v h0 h1
  refine ⟨?_, ?_, ?_⟩
  · rw [World.cell?_setCell_other _ _ _ _ (by simp)]; exact e0
  · rw [World.cell?_setCell_other _ _ _ _ (by simp)]; exact e1
  · have e2 : ((W.setCell ⟨b, 0, none⟩ u).setCell ⟨b, 1, none⟩ v).cell? ⟨b, 2, none⟩ = some x2 := by rw [World.cell?_setCell_other _ _ _ _ (by simp), World.cell?_setCell_other _ _ _ _ (by simp)]; exact h2
    exact World.cell?_setCell_same _ _ t e2
theorem ext_bound {s : ByteArray} (hs : s.size ≤ 100000) (a b : Nat) : (s.extract a b).size ≤ 1000000 := by simp; omega
theorem alloc_le {w1 wr : World} {o : Obj} {B : Nat} (h : Below B (w1.alloc o) wr) : w1.heap.size + 1 ≤ wr.heap.size := by have := h.size; simpa using this
theorem drew_trans {a c : World} (h : Below a.drew.heap.size a.drew c) : Below a.heap.size a c := bl_trans (Below.refl _ a).drew h
/-- The region's end where the box is made behind the call. -/
theorem box_after {wr w3 : World} {e : TypeId} {x y z : Value} (h : Below wr.drew.heap.size wr.drew w3) :
    ∃ b : Nat, Value.pointer (some ⟨w3.heap.size, 0, none⟩) = .pointer (some ⟨b, 0, none⟩) ∧ (w3.alloc (Obj.cells #[x, y, z] e)).cell? ⟨b, 0, none⟩ = some x ∧ (w3.alloc (Obj.cells #[x, y, z] e)).cell? ⟨b, 1, none⟩ = some y ∧ (w3.alloc (Obj.cells #[x, y, z] e)).cell? ⟨b, 2, none⟩ = some z ∧ wr.heap.size ≤ b ∧ Below wr.heap.size wr (w3.alloc (Obj.cells #[x, y, z] e)) :=
  ⟨_, rfl, by simp, by simp, by simp, h.size, bl_alloc (drew_trans h) _⟩
/-- The region's end where the box is made ahead of the call. -/
theorem box_ahead {wr w3 : World} {e : TypeId} {a b c x y z : Value} (h : Below (wr.alloc (Obj.cells #[a, b, c] e)).drew.heap.size (wr.alloc (Obj.cells #[a, b, c] e)).drew w3) :
    ∃ g : Nat, Value.pointer (some ⟨wr.heap.size, 0, none⟩) = .pointer (some ⟨g, 0, none⟩) ∧ (((w3.setCell ⟨wr.heap.size, 0, none⟩ x).setCell ⟨wr.heap.size, 1, none⟩ y).setCell ⟨wr.heap.size, 2, none⟩ z).cell? ⟨g, 0, none⟩ = some x ∧ (((w3.setCell ⟨wr.heap.size, 0, none⟩ x).setCell ⟨wr.heap.size, 1, none⟩ y).setCell ⟨wr.heap.size, 2, none⟩ z).cell? ⟨g, 1, none⟩ = some y ∧ (((w3.setCell ⟨wr.heap.size, 0, none⟩ x).setCell ⟨wr.heap.size, 1, none⟩ y).setCell ⟨wr.heap.size, 2, none⟩ z).cell? ⟨g, 2, none⟩ = some z ∧ wr.heap.size ≤ g ∧ Below wr.heap.size wr (((w3.setCell ⟨wr.heap.size, 0, none⟩ x).setCell ⟨wr.heap.size, 1, none⟩ y).setCell ⟨wr.heap.size, 2, none⟩ z) := by
  obtain ⟨z0, z1, z2, _⟩ := new_three h
  obtain ⟨e0, e1, e2⟩ := three_set x y z z0 z1 z2
  have hb : Below wr.heap.size wr w3 := bl_trans (bl_alloc (Below.refl _ wr) (Obj.cells #[a, b, c] e)) (drew_trans h)
  exact ⟨_, rfl, e0, e1, e2, Nat.le_refl _, ((hb.setCell (p := ⟨wr.heap.size, 0, none⟩) (Nat.le_refl _) x).setCell (p := ⟨wr.heap.size, 1, none⟩) (Nat.le_refl _) y).setCell (p := ⟨wr.heap.size, 2, none⟩) (Nat.le_refl _) z⟩

/-- What the longest beginning is, while it is sought. -/
def longAt (l : List UInt8) (j : Nat) : Nat := if j ≤ 1 then 0 else if j = 2 then (if M.kindR (l.take 1) = 0 then 0 else 1) else j - 1
theorem longAt_end {l : List UInt8} {K m : Nat} (h : M.Prof l K m) : longAt l (m + 1) = m := by
  obtain ⟨h1, h2, h3, h4, h5, h6⟩ := h
  unfold longAt
  by_cases hm : m = 1
  · subst hm; rw [if_neg (by omega), if_pos rfl, if_neg (by rw [h1]; exact h2)]
  · rw [if_neg (by omega), if_neg (by omega)]; omega

set_option maxRecDepth 20000 in
set_option maxHeartbeats 8000000 in
theorem refTokens_any (s : ByteArray) (w : World) (hs : s.size ≤ 100000) :
    Calls Try.prog 12 #[.string s] w fun e w' => ∃ v, e = .returned (.tuple #[v, fltV (ans s.data.toList).2]) ∧ Toks w' v ((ans s.data.toList).1.map encT) ∧ Below w.heap.size w w' := by
  obtain ⟨i0, hi, hz0, hz1, hz2⟩ := info_parts info32
  have HCL := hide fun w => refClean_any s w (by omega)
  cases hc : cln s.data.toList with
  | some k =>
    rw [ans_some hc]
    rw [hc] at HCL
    show Calls Try.prog 12 #[.string s] w fun e w' => ∃ v, e = .returned (.tuple #[v, .agg #[.int .i64 10, .int .i64 k]]) ∧ Toks w' v [] ∧ Below w.heap.size w w'
    rw [show clnV (some k) = .agg #[.int .i64 10, .int .i64 k] from rfl] at HCL
    clear hc
    go_enter Try.func12, Try.ntmps12
    go_wp2_with fail
    refine (HCL.out _).mono ?_
    rintro e w1 ⟨rfl, hb1⟩
    have hlt : w.heap.size < (w.alloc (Obj.cells #[Value.int IntKind.i64 0, Value.int IntKind.i64 0] 26)).heap.size := by simp
    have hb2 := bl_alloc hb1 (Obj.cells #[Value.int IntKind.i64 10, Value.int IntKind.i64 k] 26)
    have c0 := hb2.cell (p := ⟨w.heap.size, 0, none⟩) hlt
    have c1 := hb2.cell (p := ⟨w.heap.size, 1, none⟩) hlt
    have g0 := hb2.frozen (p := ⟨w.heap.size, 0, none⟩) hlt
    have g1 := hb2.frozen (p := ⟨w.heap.size, 1, none⟩) hlt
    have HB1 := hide ((Below.refl _ w).alloc (Nat.le_refl _) (Obj.cells #[Value.int IntKind.i64 0, Value.int IntKind.i64 0] 26) |>.trans (hb1.mono (by simp)))
    clear hb1 hb2
    simp at c0 c1 g0 g1
    have HS := hide (two_set (.int .i64 10) (.int .i64 k) c0 c1)
    go_wp2
    go_region
    go_wp2
    obtain ⟨s0, s1⟩ := HS.out
    refine bodyPost_ret (v := .tuple #[.slice none 0 0, .agg #[.int .i64 10, .int .i64 k]]) (by simp [results, Try.results12, go_sem, s0, s1]) rfl ?_
    exact ⟨_, rfl, Toks.nil _, two_below _ _ (bl_alloc HB1.out _) (Nat.le_refl _)⟩
  | none =>
    obtain ⟨R, f1, f2, hR0⟩ : ∃ R f1 f2, ans s.data.toList = (R, f1, f2) := ⟨_, _, _, rfl⟩
    rw [hR0]
    have hR := (ans_none hc).symm.trans hR0
    rw [hc] at HCL
    rw [show clnV none = .agg #[.int .i64 0, .int .i64 0] from rfl] at HCL
    clear hc hR0
    show Calls Try.prog 12 #[.string s] w fun e w' => ∃ v, e = .returned (.tuple #[v, .agg #[.int .i64 f1, .int .i64 f2]]) ∧ Toks w' v (R.map encT) ∧ Below w.heap.size w w'
    have HR := hide hR
    clear hR
    have HKD := hide fun k n w => kind_any (s.extract k (k + n)) w (by simp; omega)
    have HSK := hide fun a w h => skip_any s a w hs h
    go_enter Try.func12, Try.ntmps12
    go_wp2_with fail
    refine (HCL.out _).mono ?_
    rintro e w1 ⟨rfl, hb1⟩
    have hlt : w.heap.size < (w.alloc (Obj.cells #[Value.int IntKind.i64 0, Value.int IntKind.i64 0] 26)).heap.size := by simp
    have hb2 := bl_alloc hb1 (Obj.cells #[Value.int IntKind.i64 0, Value.int IntKind.i64 0] 26)
    have c0 := hb2.cell (p := ⟨w.heap.size, 0, none⟩) hlt
    have c1 := hb2.cell (p := ⟨w.heap.size, 1, none⟩) hlt
    have g0 := hb2.frozen (p := ⟨w.heap.size, 0, none⟩) hlt
    have g1 := hb2.frozen (p := ⟨w.heap.size, 1, none⟩) hlt
    have HB2 := hide ((Below.refl _ w).alloc (Nat.le_refl _) (Obj.cells #[Value.int IntKind.i64 0, Value.int IntKind.i64 0] 26) |>.trans (hb2.mono (by simp)))
    have hlt2 : w.heap.size < (w1.alloc (Obj.cells #[Value.int IntKind.i64 0, Value.int IntKind.i64 0] 26)).heap.size := Nat.lt_of_lt_of_le hlt hb2.size
    have HLT2 := hide hlt2
    clear hb1 hb2 hlt hlt2
    simp at c0 c1 g0 g1
    have C0 := hide c0
    have C1 := hide c1
    have G0 := hide g0
    have G1 := hide g1
    clear c0 c1 g0 g1
    go_wp2
    go_loopw [5, 6] (fun v i wr => ∃ (k : Nat) (acc : List M.Tok), k ≤ s.size ∧ i = .int .i64 k ∧ acc.length ≤ k ∧ M.T 0 s.data.toList = (acc ++ (M.T k (s.data.toList.drop k)).1, (M.T k (s.data.toList.drop k)).2) ∧
        wr.ownsRow (w1.heap.size + 1) 32 3 v acc.length (flat (acc.map encT)) ∧ (acc = [] → v = .slice none 0 0) ∧ Below (w1.heap.size + 1) (w1.alloc (Obj.cells #[Value.int IntKind.i64 0, Value.int IntKind.i64 0] 26)) wr) (fun _ i _ => s.size - (intOf i).toNat)
    case atStart => exact ⟨0, [], Nat.zero_le _, rfl, Nat.le_refl _, by simp, World.ownsRow_nil _ _ _ _, fun _ => rfl, Below.refl _ _⟩
    case round =>
      obtain ⟨k, acc, hk, rfl, hal, hT, hown, hnil, hbel⟩ := hrel
      have d0 := (hbel.cell (p := ⟨w.heap.size, 0, none⟩) (Nat.lt_of_lt_of_le HLT2.out (by simp))).trans C0.out
      have d1 := (hbel.cell (p := ⟨w.heap.size, 1, none⟩) (Nat.lt_of_lt_of_le HLT2.out (by simp))).trans C1.out
      have e0 := (hbel.frozen (p := ⟨w.heap.size, 0, none⟩) (Nat.lt_of_lt_of_le HLT2.out (by simp))).trans G0.out
      have e1 := (hbel.frozen (p := ⟨w.heap.size, 1, none⟩) (Nat.lt_of_lt_of_le HLT2.out (by simp))).trans G1.out
      have HBW := hide (HB2.out.trans (hbel.mono (Nat.le_of_lt (Nat.lt_of_lt_of_le HLT2.out (by simp)))))
      have HT := hide hT
      have HOWN := hide hown
      have HNIL := hide hnil
      have HBEL := hide hbel
      clear hT hown hnil hbel
      go_wp2_with fail
      refine (HSK.out k _ hk).mono ?_
      rintro e w' ⟨hsk, rfl⟩
      rcases hsk with ⟨n, hkn, hns, rfl, hTn, hend⟩ | ⟨fr, hfr, rfl, hTf⟩
      · have hT2 := HT.out
        rw [hTn] at hT2
        have HT2 := hide hT2
        clear hT2 hTn
        by_cases hlast : n = s.size
        · subst hlast
          have hd : s.data.toList.drop s.size = [] := by rw [← len_of s]; exact List.drop_length
          have hT3 := HT2.out
          rw [hd, M.T_nil] at hT3
          have hR := HR.out
          rw [hT3] at hR
          simp only [Prod.mk.injEq, List.append_nil] at hR
          obtain ⟨rfl, rfl, rfl⟩ := hR
          have hlw : w.heap.size < w1.heap.size + 1 := Nat.lt_of_lt_of_le HLT2.out (by simp)
          have HTK := hide (Toks.of_own (w' := (wr.setCell ⟨w.heap.size, 0, none⟩ (.int .i64 0)).setCell ⟨w.heap.size, 1, none⟩ (.int .i64 0)) HOWN.out (by simp) (fun h => HNIL.out (List.length_eq_zero_iff.1 h)) (two_belowN (W0 := wr) _ _ (Below.refl 0 wr) (Nat.zero_le _)).size (fun p hp => two_other wr _ _ hlw p hp))
          have HS := hide (two_setN (.int .i64 0) (.int .i64 0) d0 d1)
          clear hT3 hd hend
          go_wp2
          obtain ⟨s0, s1⟩ := HS.out
          refine bodyPost_ret (v := .tuple #[u5, .agg #[.int .i64 0, .int .i64 0]]) (by simp [results, Try.results12, go_sem, s0, s1]) rfl ?_
          exact ⟨_, rfl, HTK.out, two_belowN _ _ HBW.out (Nat.le_refl _)⟩
        · have hnl : n < s.size := by omega
          have hk0 : (M.first (s.data.toList.drop n)).1 ≠ 0 := by rcases hend with h | h; exact absurd h hlast; exact h
          have hneq : ((n : Int) == (s.size : Int)) = false := by rw [beq_eq_false_iff_ne]; omega
          clear hend hlast
          generalize wr = wo at *
          have hdl : (s.data.toList.drop n).length = s.size - n := by rw [List.length_drop, len_of]
          have hne : s.data.toList.drop n ≠ [] := M.ne_of_len hdl (by omega)
          obtain ⟨K, m, e, hF⟩ : ∃ K m e, M.first (s.data.toList.drop n) = (K, m, e) := ⟨_, _, _, rfl⟩
          rw [hF] at hk0
          have hprof := M.first_prof _ K m e hne hF hk0
          have HKN : Hid (∀ j w, Calls Try.prog 25 #[.string (s.extract n (n + j))] w fun e w' => e = .returned (.int .i64 (M.kindR ((s.data.toList.drop n).take j))) ∧ Below w.heap.size w w') := fun j w => by
            have := HKD.out n j w
            rw [cut_of] at this; exact this
          -- the token that is there, if it is one
          have hcase : (∃ K' m', M.Prof (s.data.toList.drop n) K' m' ∧ ((K' = 1 ∧ M.big ((s.data.toList.drop n).take m') = true ∧ (M.T n (s.data.toList.drop n)).2 = some (22, n)) ∨
              ((K' = 1 → M.big ((s.data.toList.drop n).take m') = false) ∧ M.T n (s.data.toList.drop n) = (⟨K', (s.data.toList.drop n).take m', n⟩ :: (M.T (n + m') (s.data.toList.drop (n + m'))).1, (M.T (n + m') (s.data.toList.drop (n + m'))).2)))) ∨
              (M.kindR ((s.data.toList.drop n).take 1) = 0 ∧ M.kindR ((s.data.toList.drop n).take 2) = 0 ∧ (M.T n (s.data.toList.drop n)).2 = some (20, n)) := by
            rcases hprof with ⟨rfl, hp, hb⟩ | ⟨rfl, hp, hb⟩ | ⟨rfl, hp, hb⟩
            · exact .inl ⟨K, m, hp, .inr ⟨hb, by rw [M.T_tok hne hF hk0, List.drop_drop]⟩⟩
            · exact .inl ⟨1, _, hp, .inl ⟨rfl, hb, by rw [M.T_err hne hF (by decide)]⟩⟩
            · exact .inr ⟨hp, hb, by rw [M.T_err hne hF (by decide)]⟩
          have HC := hide hcase
          clear hcase hprof hF hk0
          go_wp2
          rcases HC.out with ⟨K', m', hprof, hcs⟩ | ⟨k1, k2, hT20⟩
          · have HPR := hide hprof
            have HEND := hide (longAt_end hprof)
            obtain ⟨p1, p2, p3, p4, p5, p6⟩ := hprof
            rw [hdl] at p4 p6
            have P1 := hide p1
            have P5 := hide p5
            have P6 := hide p6
            have HCS := hide hcs
            have HMS : Hid (n + m' ≤ s.size) := hide (by omega)
            have HKM : Hid (∀ w, Calls Try.prog 25 #[.string (s.extract n (n + m'))] w fun e w' => e = .returned (.int .i64 K') ∧ Below w.heap.size w w') := fun w => by
              have := HKN.out m' w
              rw [P1.out] at this; exact this
            have HLR : Hid (w.heap.size < wo.heap.size) := Nat.lt_of_lt_of_le (Nat.lt_of_lt_of_le HLT2.out (below_size HBEL.out)) (Nat.le_refl _)
            have D00 := hide d0
            have D10 := hide d1
            have E00 := hide e0
            have E10 := hide e1
            clear p1 p5 p6 hcs hne hdl d0 d1 e0 e1
            go_loopw [9, 10] (fun lg j wx => ∃ q : Nat, 1 ≤ q ∧ q ≤ m' + 1 ∧ j = .int .i64 q ∧ lg = .int .i64 (longAt (s.data.toList.drop n) q) ∧ Below wo.heap.size wo wx) (fun _ j _ => s.size + 2 - (intOf j).toNat)
            case atStart => exact ⟨1, Nat.le_refl _, by omega, rfl, rfl, Below.refl _ _⟩
            case round =>
              obtain ⟨q, hq1, hqm, rfl, rfl, hbx⟩ := hrel
              by_cases hq : n + q ≤ s.size
              · have hkq := fun w => HKN.out q w
                obtain ⟨kd, hkd⟩ : ∃ kd, kd = M.kindR ((s.data.toList.drop n).take q) := ⟨_, rfl⟩
                rw [← hkd] at hkq
                have HKQ := hide hkq
                clear hkq
                by_cases hz : kd = 0
                · subst hz
                  by_cases hq1' : q = 1
                  · subst hq1'
                    have hl2 : longAt (s.data.toList.drop n) 2 = 0 := by unfold longAt; rw [if_neg (by decide), if_pos rfl, if_pos hkd.symm]
                    rw [show longAt (s.data.toList.drop n) 1 = 0 from rfl]
                    have HBX := hide hbx
                    have HL2 := hide hl2
                    clear hkd hl2 hbx
                    go_wp2_with (go_at_call 25; refine (HKQ.out _).mono ?_; rintro e w3 ⟨rfl, hb3⟩)
                    go_roundw
                    case rel => exact ⟨2, by omega, by omega, rfl, by rw [HL2.out]; rfl, bl_trans HBX.out hb3⟩
                    case measure => simp [intOf]
                  · obtain rfl : q = m' + 1 := by
                      rcases Nat.lt_or_ge q (m' + 1) with h | h
                      · exact absurd hkd.symm (P5.out q (by omega) (by omega))
                      · omega
                    rw [HEND.out]
                    have HBX := hide hbx
                    have g0 : ((m' : Int) == 0) = false := by rw [beq_eq_false_iff_ne]; omega
                    have g1 : decide (0 < m') = true := decide_eq_true p3
                    clear hkd hbx hq1'
                    go_wp2_with fail
                    refine (HKQ.out _).mono ?_
                    rintro e w3 ⟨rfl, hb3⟩
                    have hbx := bl_trans HBX.out hb3
                    clear HBX hb3 HKQ
                    generalize w3 = wr at *
                    go_wp2
                    -- behind the search: LONG is m'
                    have hlt0 : w.heap.size < wo.heap.size := HLR.out
                    have HLX : Hid (w.heap.size < wr.heap.size) := Nat.lt_of_lt_of_le hlt0 hbx.size
                    have D0 := hide ((hbx.cell (p := ⟨w.heap.size, 0, none⟩) hlt0).trans D00.out)
                    have D1 := hide ((hbx.cell (p := ⟨w.heap.size, 1, none⟩) hlt0).trans D10.out)
                    have E0 := hide ((hbx.frozen (p := ⟨w.heap.size, 0, none⟩) hlt0).trans E00.out)
                    have E1 := hide ((hbx.frozen (p := ⟨w.heap.size, 1, none⟩) hlt0).trans E10.out)
                    have HBELX := hide (HBEL.out.trans (hbx.mono (by have := HBEL.out.size; simpa using this)))
                    have HBWX := hide (HBW.out.trans (hbx.mono (Nat.le_of_lt hlt0)))
                    have HOWNX := hide (own_below HOWN.out hbx)
                    obtain ⟨N2, hN2⟩ : ∃ N2, N2 = n + m' := ⟨_, rfl⟩
                    have hsumI : (n : Int) + (m' : Int) = (N2 : Int) := by rw [hN2]; exact (Int.natCast_add n m').symm
                    have hw1 : IntKind.i64.wrap ((n : Int) + (m' : Int)) = (N2 : Int) := by rw [hsumI]; exact IntWalk.i64_in _ (by omega)
                    have hw2 : IntKind.i64.wrap (N2 : Int) = (N2 : Int) := IntWalk.i64_in _ (by omega)
                    have hw3 : wrap64 (N2 : Int) = (N2 : Int) := by rw [← IntWalk.i64_left]; exact hw2
                    have hw4 : wrap64 ((n : Int) + (m' : Int)) = (N2 : Int) := by rw [← IntWalk.i64_left]; exact hw1
                    have hN2s : N2 ≤ s.size := (by rw [hN2]; exact HMS.out)
                    have hnN2 : n ≤ N2 := hN2 ▸ Nat.le_add_right n m'
                    have hbb0 : (0 : Int) ≤ (n : Int) := Int.natCast_nonneg n
                    have hbb1 : (n : Int) ≤ (N2 : Int) := Int.ofNat_le.2 hnN2
                    have hbb2 : (N2 : Int) ≤ (s.size : Int) := Int.ofNat_le.2 hN2s
                    have HKM2 := hide HKM.out
                    rw [← hN2] at HKM2
                    have HN2 := hide hN2
                    clear hN2
                    clear hbx hlt0
                    go_upto_region 21 with fail
                    go_cut [11] from 64 to 85 (fun v11 wx => ∃ b : Nat, v11 = .pointer (some ⟨b, 0, none⟩) ∧ wx.cell? ⟨b, 0, none⟩ = some (.int .i64 K') ∧ wx.cell? ⟨b, 1, none⟩ = some (.string (s.extract n N2)) ∧ wx.cell? ⟨b, 2, none⟩ = some (.int .i64 n) ∧ wr.heap.size ≤ b ∧ Below wr.heap.size wr wx)
                    case first =>
                      go_region_held3 (fun _ => True) (trivial) (first
                        | (go_at_call 25; refine (HKM2.out _).mono ?_; rintro e w3 ⟨rfl, hb3⟩; (try (have Z := new_three hb3; obtain ⟨z0, z1, z2, z3, z4, z5⟩ := Z))))
                      all_goals (go_wp2_with fail; go_meet)
                      all_goals (first | exact box_after hb3 | exact box_ahead hb3)
                    case rest =>
                      obtain ⟨b, rfl, q0, q1, q2, hbb, hbW⟩ := hcut
                      have hN2' := HN2.out
                      subst hN2'
                      clear hsumI hw1 hw2 hw3 hw4 hbb0 hbb1 hbb2 hN2s hnN2
                      have hms := HMS.out
                      have hbelW := HBELX.out.trans (hbW.mono (alloc_le HBELX.out))
                      have hownW := own_below HOWNX.out hbW
                      have b0 := (hbW.cell (p := ⟨w.heap.size, 0, none⟩) HLX.out).trans D0.out
                      have b1 := (hbW.cell (p := ⟨w.heap.size, 1, none⟩) HLX.out).trans D1.out
                      have b2 := (hbW.frozen (p := ⟨w.heap.size, 0, none⟩) HLX.out).trans E0.out
                      have b3 := (hbW.frozen (p := ⟨w.heap.size, 1, none⟩) HLX.out).trans E1.out
                      have HBWW := hide (HBWX.out.trans (hbW.mono (Nat.le_of_lt HLX.out)))
                      clear hbW
                      rcases HCS.out with ⟨hK1, hbig, hT22⟩ | ⟨hnb, hTok⟩
                      · have hT3 := HT2.out
                        rw [hT22] at hT3
                        have hR := HR.out
                        rw [hT3] at hR
                        simp only [Prod.mk.injEq] at hR
                        obtain ⟨rfl, rfl, rfl⟩ := hR
                        have hbg := fun w => refBig_any (s.extract n (n + m')) w (ext_bound hs n (n + m'))
                        rw [cut_of, hbig] at hbg
                        have HBG := hide hbg
                        have HS := hide (two_setN (.int .i64 22) (.int .i64 n) b0 b1)
                        subst hK1
                        clear hT3 hT22 hbig hbg hownW hbelW
                        go_wp2_with (go_at_call 26; refine (HBG.out _).mono ?_; rintro e w' ⟨rfl, rfl⟩)
                        obtain ⟨s0, s1⟩ := HS.out
                        refine bodyPost_ret (v := .tuple #[.slice none 0 0, .agg #[.int .i64 22, .int .i64 n]]) (by simp [results, Try.results12, go_sem, s0, s1]) rfl ?_
                        exact ⟨_, rfl, Toks.nil _, two_belowN _ _ HBWW.out (Nat.le_refl _)⟩
                      · by_cases hK1 : K' = 1
                        · have hbg := fun w => refBig_any (s.extract n (n + m')) w (ext_bound hs n (n + m'))
                          rw [cut_of, hnb hK1] at hbg
                          have HBG := hide hbg
                          subst hK1
                          clear hnb hbg b0 b1 b2 b3
                          have HTOK2 := hide (show M.T 0 s.data.toList = ((acc ++ [⟨1, (s.data.toList.drop n).take m', n⟩]) ++ (M.T (n + m') (s.data.toList.drop (n + m'))).1, (M.T (n + m') (s.data.toList.drop (n + m'))).2) by rw [HT2.out, hTok, List.append_assoc]; rfl)
                          clear hTok
                          go_wp2_with (first
                            | (go_at_call 26; refine (HBG.out _).mono ?_; rintro e w' ⟨rfl, rfl⟩)
                            | (at_builtin; refine wpList_append_own _ rfl _ _ 23 rfl (w1.heap.size + 1) 32 i0 (.agg #[.int .i64 0, .string ByteArray.empty, .int .i64 0]) 3 32 Try.underlying23 hi hz0 hz1 hz2 rfl (by decide) _ _ _ rfl (hownW.alloc _) ⟨wc.heap.size, 0, none⟩ 1 1 [.int .i64 1, .string (s.extract n (n + m')), .int .i64 n] rfl rfl (cell_new3 _ _ _ _ _) (fun u hu => by simp at hu; rcases hu with rfl | rfl | rfl <;> rfl) (by unfold maxLen; omega) (by omega) (by have := hbelW.size; simp at this ⊢; omega) ?_; intro v' w4 hown' hgrow _))
                          have hb' := (hbelW.alloc (by have := hbelW.size; simp at this; omega) (Obj.cells #[Value.int .i64 1, .string (s.extract n (n + m')), .int .i64 n] 32)).grown hgrow (by have := hbelW.size; simp at this ⊢; omega) (own_base hownW)
                          have ho : w4.ownsRow (w1.heap.size + 1) 32 3 v' (acc ++ [(⟨1, (s.data.toList.drop n).take m', n⟩ : M.Tok)]).length (flat ((acc ++ [(⟨1, (s.data.toList.drop n).take m', n⟩ : M.Tok)]).map encT)) := by
                            rw [List.map_append, flat_append, List.length_append]
                            show w4.ownsRow _ 32 3 v' (acc.length + 1) (flat (acc.map encT) ++ [.int .i64 1, .string ⟨((s.data.toList.drop n).take m').toArray⟩, .int .i64 n])
                            rw [← ext_of]; exact hown'
                          have HO := hide ho
                          have HB' := hide hb'
                          clear hown' hgrow ho hb' hownW hbelW
                          go_wp2
                          go_roundw
                          case rel => exact ⟨n + m', _, by omega, by go_num, by simp; omega, HTOK2.out, HO.out, fun h => absurd h (by simp), HB'.out⟩
                          case measure => simp [intOf]; omega
                        · have hk1 : ((K' : Int) == 1) = false := by rw [beq_eq_false_iff_ne]; omega
                          have HBG := hide (fun w => refBig_any (s.extract n (n + m')) w (ext_bound hs n (n + m')))
                          clear hnb hK1 b0 b1 b2 b3
                          have HTOK2 := hide (show M.T 0 s.data.toList = ((acc ++ [⟨K', (s.data.toList.drop n).take m', n⟩]) ++ (M.T (n + m') (s.data.toList.drop (n + m'))).1, (M.T (n + m') (s.data.toList.drop (n + m'))).2) by rw [HT2.out, hTok, List.append_assoc]; rfl)
                          clear hTok
                          go_wp2_with (first
                            | (go_at_call 26; refine (HBG.out _).mono ?_; rintro e w' ⟨rfl, rfl⟩)
                            | (at_builtin; refine wpList_append_own _ rfl _ _ 23 rfl (w1.heap.size + 1) 32 i0 (.agg #[.int .i64 0, .string ByteArray.empty, .int .i64 0]) 3 32 Try.underlying23 hi hz0 hz1 hz2 rfl (by decide) _ _ _ rfl (hownW.alloc _) ⟨wc.heap.size, 0, none⟩ 1 1 [.int .i64 K', .string (s.extract n (n + m')), .int .i64 n] rfl rfl (cell_new3 _ _ _ _ _) (fun u hu => by simp at hu; rcases hu with rfl | rfl | rfl <;> rfl) (by unfold maxLen; omega) (by omega) (by have := hbelW.size; simp at this ⊢; omega) ?_; intro v' w4 hown' hgrow _))
                          have hb' := (hbelW.alloc (by have := hbelW.size; simp at this; omega) (Obj.cells #[Value.int .i64 K', .string (s.extract n (n + m')), .int .i64 n] 32)).grown hgrow (by have := hbelW.size; simp at this ⊢; omega) (own_base hownW)
                          have ho : w4.ownsRow (w1.heap.size + 1) 32 3 v' (acc ++ [(⟨K', (s.data.toList.drop n).take m', n⟩ : M.Tok)]).length (flat ((acc ++ [(⟨K', (s.data.toList.drop n).take m', n⟩ : M.Tok)]).map encT)) := by
                            rw [List.map_append, flat_append, List.length_append]
                            show w4.ownsRow _ 32 3 v' (acc.length + 1) (flat (acc.map encT) ++ [.int .i64 K', .string ⟨((s.data.toList.drop n).take m').toArray⟩, .int .i64 n])
                            rw [← ext_of]; exact hown'
                          have HO := hide ho
                          have HB' := hide hb'
                          clear hown' hgrow ho hb' hownW hbelW
                          go_wp2
                          go_roundw
                          case rel => exact ⟨n + m', _, by omega, by go_num, by simp; omega, HTOK2.out, HO.out, fun h => absurd h (by simp), HB'.out⟩
                          case measure => simp [intOf]; omega
                · have hqm' : q ≤ m' := by
                    rcases Nat.lt_or_ge m' q with h | h
                    · obtain rfl : q = m' + 1 := by omega
                      exact absurd (hkd.trans (P6.out (by omega))) hz
                    · exact h
                  have hl2 : longAt (s.data.toList.drop n) (q + 1) = q := by
                    unfold longAt
                    by_cases h1 : q = 1
                    · subst h1; rw [if_neg (by decide), if_pos rfl, if_neg (by rw [← hkd]; exact hz)]
                    · rw [if_neg (by omega), if_neg (by omega)]; omega
                  have HL2 := hide hl2
                  have HBX := hide hbx
                  have g0 : ((q : Int) == 0) = false := by rw [beq_eq_false_iff_ne]; omega
                  have g1 : decide (0 < q) = true := decide_eq_true hq1
                  have g2 : decide (0 < kd) = true := decide_eq_true (Nat.pos_of_ne_zero hz)
                  have g3 : (0 : Int) < (kd : Int) := by omega
                  clear hkd hl2 hbx hz
                  go_wp2_with (go_at_call 25; refine (HKQ.out _).mono ?_; rintro e w3 ⟨rfl, hb3⟩)
                  go_roundw
                  case rel => exact ⟨q + 1, by omega, by omega, by go_num, by rw [HL2.out], bl_trans HBX.out hb3⟩
                  case measure => simp [intOf]; omega
              · obtain rfl : q = m' + 1 := by omega
                rw [HEND.out]
                have g0 : ((m' : Int) == 0) = false := by rw [beq_eq_false_iff_ne]; omega
                have hqi : (s.size : Int) < (n : Int) + ((m' : Int) + 1) := by omega
                go_wp2
                -- behind the search: LONG is m'
                have hlt0 : w.heap.size < wo.heap.size := HLR.out
                have HLX : Hid (w.heap.size < wr.heap.size) := Nat.lt_of_lt_of_le hlt0 hbx.size
                have D0 := hide ((hbx.cell (p := ⟨w.heap.size, 0, none⟩) hlt0).trans D00.out)
                have D1 := hide ((hbx.cell (p := ⟨w.heap.size, 1, none⟩) hlt0).trans D10.out)
                have E0 := hide ((hbx.frozen (p := ⟨w.heap.size, 0, none⟩) hlt0).trans E00.out)
                have E1 := hide ((hbx.frozen (p := ⟨w.heap.size, 1, none⟩) hlt0).trans E10.out)
                have HBELX := hide (HBEL.out.trans (hbx.mono (by have := HBEL.out.size; simpa using this)))
                have HBWX := hide (HBW.out.trans (hbx.mono (Nat.le_of_lt hlt0)))
                have HOWNX := hide (own_below HOWN.out hbx)
                obtain ⟨N2, hN2⟩ : ∃ N2, N2 = n + m' := ⟨_, rfl⟩
                have hsumI : (n : Int) + (m' : Int) = (N2 : Int) := by rw [hN2]; exact (Int.natCast_add n m').symm
                have hw1 : IntKind.i64.wrap ((n : Int) + (m' : Int)) = (N2 : Int) := by rw [hsumI]; exact IntWalk.i64_in _ (by omega)
                have hw2 : IntKind.i64.wrap (N2 : Int) = (N2 : Int) := IntWalk.i64_in _ (by omega)
                have hw3 : wrap64 (N2 : Int) = (N2 : Int) := by rw [← IntWalk.i64_left]; exact hw2
                have hw4 : wrap64 ((n : Int) + (m' : Int)) = (N2 : Int) := by rw [← IntWalk.i64_left]; exact hw1
                have hN2s : N2 ≤ s.size := (by rw [hN2]; exact HMS.out)
                have hnN2 : n ≤ N2 := hN2 ▸ Nat.le_add_right n m'
                have hbb0 : (0 : Int) ≤ (n : Int) := Int.natCast_nonneg n
                have hbb1 : (n : Int) ≤ (N2 : Int) := Int.ofNat_le.2 hnN2
                have hbb2 : (N2 : Int) ≤ (s.size : Int) := Int.ofNat_le.2 hN2s
                have HKM2 := hide HKM.out
                rw [← hN2] at HKM2
                have HN2 := hide hN2
                clear hN2
                clear hbx hlt0
                go_upto_region 21 with fail
                go_cut [11] from 64 to 85 (fun v11 wx => ∃ b : Nat, v11 = .pointer (some ⟨b, 0, none⟩) ∧ wx.cell? ⟨b, 0, none⟩ = some (.int .i64 K') ∧ wx.cell? ⟨b, 1, none⟩ = some (.string (s.extract n N2)) ∧ wx.cell? ⟨b, 2, none⟩ = some (.int .i64 n) ∧ wr.heap.size ≤ b ∧ Below wr.heap.size wr wx)
                case first =>
                  go_region_held3 (fun _ => True) (trivial) (first
                    | (go_at_call 25; refine (HKM2.out _).mono ?_; rintro e w3 ⟨rfl, hb3⟩; (try (have Z := new_three hb3; obtain ⟨z0, z1, z2, z3, z4, z5⟩ := Z))))
                  all_goals (go_wp2_with fail; go_meet)
                  all_goals (first | exact box_after hb3 | exact box_ahead hb3)
                case rest =>
                  obtain ⟨b, rfl, q0, q1, q2, hbb, hbW⟩ := hcut
                  have hN2' := HN2.out
                  subst hN2'
                  clear hsumI hw1 hw2 hw3 hw4 hbb0 hbb1 hbb2 hN2s hnN2
                  have hms := HMS.out
                  have hbelW := HBELX.out.trans (hbW.mono (alloc_le HBELX.out))
                  have hownW := own_below HOWNX.out hbW
                  have b0 := (hbW.cell (p := ⟨w.heap.size, 0, none⟩) HLX.out).trans D0.out
                  have b1 := (hbW.cell (p := ⟨w.heap.size, 1, none⟩) HLX.out).trans D1.out
                  have b2 := (hbW.frozen (p := ⟨w.heap.size, 0, none⟩) HLX.out).trans E0.out
                  have b3 := (hbW.frozen (p := ⟨w.heap.size, 1, none⟩) HLX.out).trans E1.out
                  have HBWW := hide (HBWX.out.trans (hbW.mono (Nat.le_of_lt HLX.out)))
                  clear hbW
                  rcases HCS.out with ⟨hK1, hbig, hT22⟩ | ⟨hnb, hTok⟩
                  · have hT3 := HT2.out
                    rw [hT22] at hT3
                    have hR := HR.out
                    rw [hT3] at hR
                    simp only [Prod.mk.injEq] at hR
                    obtain ⟨rfl, rfl, rfl⟩ := hR
                    have hbg := fun w => refBig_any (s.extract n (n + m')) w (ext_bound hs n (n + m'))
                    rw [cut_of, hbig] at hbg
                    have HBG := hide hbg
                    have HS := hide (two_setN (.int .i64 22) (.int .i64 n) b0 b1)
                    subst hK1
                    clear hT3 hT22 hbig hbg hownW hbelW
                    go_wp2_with (go_at_call 26; refine (HBG.out _).mono ?_; rintro e w' ⟨rfl, rfl⟩)
                    obtain ⟨s0, s1⟩ := HS.out
                    refine bodyPost_ret (v := .tuple #[.slice none 0 0, .agg #[.int .i64 22, .int .i64 n]]) (by simp [results, Try.results12, go_sem, s0, s1]) rfl ?_
                    exact ⟨_, rfl, Toks.nil _, two_belowN _ _ HBWW.out (Nat.le_refl _)⟩
                  · by_cases hK1 : K' = 1
                    · have hbg := fun w => refBig_any (s.extract n (n + m')) w (ext_bound hs n (n + m'))
                      rw [cut_of, hnb hK1] at hbg
                      have HBG := hide hbg
                      subst hK1
                      clear hnb hbg b0 b1 b2 b3
                      have HTOK2 := hide (show M.T 0 s.data.toList = ((acc ++ [⟨1, (s.data.toList.drop n).take m', n⟩]) ++ (M.T (n + m') (s.data.toList.drop (n + m'))).1, (M.T (n + m') (s.data.toList.drop (n + m'))).2) by rw [HT2.out, hTok, List.append_assoc]; rfl)
                      clear hTok
                      go_wp2_with (first
                        | (go_at_call 26; refine (HBG.out _).mono ?_; rintro e w' ⟨rfl, rfl⟩)
                        | (at_builtin; refine wpList_append_own _ rfl _ _ 23 rfl (w1.heap.size + 1) 32 i0 (.agg #[.int .i64 0, .string ByteArray.empty, .int .i64 0]) 3 32 Try.underlying23 hi hz0 hz1 hz2 rfl (by decide) _ _ _ rfl (hownW.alloc _) ⟨wc.heap.size, 0, none⟩ 1 1 [.int .i64 1, .string (s.extract n (n + m')), .int .i64 n] rfl rfl (cell_new3 _ _ _ _ _) (fun u hu => by simp at hu; rcases hu with rfl | rfl | rfl <;> rfl) (by unfold maxLen; omega) (by omega) (by have := hbelW.size; simp at this ⊢; omega) ?_; intro v' w4 hown' hgrow _))
                      have hb' := (hbelW.alloc (by have := hbelW.size; simp at this; omega) (Obj.cells #[Value.int .i64 1, .string (s.extract n (n + m')), .int .i64 n] 32)).grown hgrow (by have := hbelW.size; simp at this ⊢; omega) (own_base hownW)
                      have ho : w4.ownsRow (w1.heap.size + 1) 32 3 v' (acc ++ [(⟨1, (s.data.toList.drop n).take m', n⟩ : M.Tok)]).length (flat ((acc ++ [(⟨1, (s.data.toList.drop n).take m', n⟩ : M.Tok)]).map encT)) := by
                        rw [List.map_append, flat_append, List.length_append]
                        show w4.ownsRow _ 32 3 v' (acc.length + 1) (flat (acc.map encT) ++ [.int .i64 1, .string ⟨((s.data.toList.drop n).take m').toArray⟩, .int .i64 n])
                        rw [← ext_of]; exact hown'
                      have HO := hide ho
                      have HB' := hide hb'
                      clear hown' hgrow ho hb' hownW hbelW
                      go_wp2
                      go_roundw
                      case rel => exact ⟨n + m', _, by omega, by go_num, by simp; omega, HTOK2.out, HO.out, fun h => absurd h (by simp), HB'.out⟩
                      case measure => simp [intOf]; omega
                    · have hk1 : ((K' : Int) == 1) = false := by rw [beq_eq_false_iff_ne]; omega
                      have HBG := hide (fun w => refBig_any (s.extract n (n + m')) w (ext_bound hs n (n + m')))
                      clear hnb hK1 b0 b1 b2 b3
                      have HTOK2 := hide (show M.T 0 s.data.toList = ((acc ++ [⟨K', (s.data.toList.drop n).take m', n⟩]) ++ (M.T (n + m') (s.data.toList.drop (n + m'))).1, (M.T (n + m') (s.data.toList.drop (n + m'))).2) by rw [HT2.out, hTok, List.append_assoc]; rfl)
                      clear hTok
                      go_wp2_with (first
                        | (go_at_call 26; refine (HBG.out _).mono ?_; rintro e w' ⟨rfl, rfl⟩)
                        | (at_builtin; refine wpList_append_own _ rfl _ _ 23 rfl (w1.heap.size + 1) 32 i0 (.agg #[.int .i64 0, .string ByteArray.empty, .int .i64 0]) 3 32 Try.underlying23 hi hz0 hz1 hz2 rfl (by decide) _ _ _ rfl (hownW.alloc _) ⟨wc.heap.size, 0, none⟩ 1 1 [.int .i64 K', .string (s.extract n (n + m')), .int .i64 n] rfl rfl (cell_new3 _ _ _ _ _) (fun u hu => by simp at hu; rcases hu with rfl | rfl | rfl <;> rfl) (by unfold maxLen; omega) (by omega) (by have := hbelW.size; simp at this ⊢; omega) ?_; intro v' w4 hown' hgrow _))
                      have hb' := (hbelW.alloc (by have := hbelW.size; simp at this; omega) (Obj.cells #[Value.int .i64 K', .string (s.extract n (n + m')), .int .i64 n] 32)).grown hgrow (by have := hbelW.size; simp at this ⊢; omega) (own_base hownW)
                      have ho : w4.ownsRow (w1.heap.size + 1) 32 3 v' (acc ++ [(⟨K', (s.data.toList.drop n).take m', n⟩ : M.Tok)]).length (flat ((acc ++ [(⟨K', (s.data.toList.drop n).take m', n⟩ : M.Tok)]).map encT)) := by
                        rw [List.map_append, flat_append, List.length_append]
                        show w4.ownsRow _ 32 3 v' (acc.length + 1) (flat (acc.map encT) ++ [.int .i64 K', .string ⟨((s.data.toList.drop n).take m').toArray⟩, .int .i64 n])
                        rw [← ext_of]; exact hown'
                      have HO := hide ho
                      have HB' := hide hb'
                      clear hown' hgrow ho hb' hownW hbelW
                      go_wp2
                      go_roundw
                      case rel => exact ⟨n + m', _, by omega, by go_num, by simp; omega, HTOK2.out, HO.out, fun h => absurd h (by simp), HB'.out⟩
                      case measure => simp [intOf]; omega
          · have hT3 := HT2.out
            rw [hT20] at hT3
            have hR := HR.out
            rw [hT3] at hR
            simp only [Prod.mk.injEq] at hR
            obtain ⟨rfl, rfl, rfl⟩ := hR
            have HQ1 : Hid (∀ w, Calls Try.prog 25 #[.string (s.extract n (n + 1))] w fun e w' => e = .returned (.int .i64 (0 : Nat)) ∧ Below w.heap.size w w') := fun w => by
              have := HKN.out 1 w
              rw [k1] at this; exact this
            have HQ2 : Hid (∀ w, Calls Try.prog 25 #[.string (s.extract n (n + 2))] w fun e w' => e = .returned (.int .i64 (0 : Nat)) ∧ Below w.heap.size w w') := fun w => by
              have := HKN.out 2 w
              rw [k2] at this; exact this
            have HLR : Hid (w.heap.size < wo.heap.size) := Nat.lt_of_lt_of_le (Nat.lt_of_lt_of_le HLT2.out (below_size HBEL.out)) (Nat.le_refl _)
            have D00 := hide d0
            have D10 := hide d1
            have E00 := hide e0
            have E10 := hide e1
            clear d0 d1 e0 e1 hne hdl k1 k2 hT3 hT20
            go_loopw [9, 10] (fun lg j wx => ∃ q : Nat, 1 ≤ q ∧ q ≤ 2 ∧ j = .int .i64 q ∧ lg = .int .i64 (0 : Nat) ∧ Below wo.heap.size wo wx) (fun _ j _ => s.size + 2 - (intOf j).toNat)
            case atStart => exact ⟨1, Nat.le_refl _, by omega, rfl, rfl, Below.refl _ _⟩
            case round =>
              obtain ⟨q, hq1, hqm, rfl, rfl, hbx⟩ := hrel
              by_cases hq : n + q ≤ s.size
              · by_cases hq1' : q = 1
                · subst hq1'
                  have HBX := hide hbx
                  clear hbx
                  go_wp2_with (go_at_call 25; refine (HQ1.out _).mono ?_; rintro e w3 ⟨rfl, hb3⟩)
                  go_roundw
                  case rel => exact ⟨2, by omega, by omega, rfl, rfl, bl_trans HBX.out hb3⟩
                  case measure => simp [intOf]
                · obtain rfl : q = 2 := by omega
                  have HBX := hide hbx
                  clear hbx hq1'
                  go_wp2_with fail
                  refine (HQ2.out _).mono ?_
                  rintro e w3 ⟨rfl, hb3⟩
                  have hbx := bl_trans HBX.out hb3
                  clear HBX hb3
                  have b0 := (hbx.cell (p := ⟨w.heap.size, 0, none⟩) HLR.out).trans D00.out
                  have b1 := (hbx.cell (p := ⟨w.heap.size, 1, none⟩) HLR.out).trans D10.out
                  have b2 := (hbx.frozen (p := ⟨w.heap.size, 0, none⟩) HLR.out).trans E00.out
                  have b3 := (hbx.frozen (p := ⟨w.heap.size, 1, none⟩) HLR.out).trans E10.out
                  have HBWW := hide (HBW.out.trans (hbx.mono (Nat.le_of_lt HLR.out)))
                  have HS := hide (two_setN (.int .i64 20) (.int .i64 n) b0 b1)
                  clear hbx
                  go_wp2
                  obtain ⟨s0, s1⟩ := HS.out
                  refine bodyPost_ret (v := .tuple #[.slice none 0 0, .agg #[.int .i64 20, .int .i64 n]]) (by simp [results, Try.results12, go_sem, s0, s1]) rfl ?_
                  exact ⟨_, rfl, Toks.nil _, two_belowN _ _ HBWW.out (Nat.le_refl _)⟩
              · obtain rfl : q = 2 := by omega
                have hqi : (s.size : Int) < (n : Int) + 2 := by omega
                have b0 := (hbx.cell (p := ⟨w.heap.size, 0, none⟩) HLR.out).trans D00.out
                have b1 := (hbx.cell (p := ⟨w.heap.size, 1, none⟩) HLR.out).trans D10.out
                have b2 := (hbx.frozen (p := ⟨w.heap.size, 0, none⟩) HLR.out).trans E00.out
                have b3 := (hbx.frozen (p := ⟨w.heap.size, 1, none⟩) HLR.out).trans E10.out
                have HBWW := hide (HBW.out.trans (hbx.mono (Nat.le_of_lt HLR.out)))
                have HS := hide (two_setN (.int .i64 20) (.int .i64 n) b0 b1)
                clear hbx
                go_wp2
                obtain ⟨s0, s1⟩ := HS.out
                refine bodyPost_ret (v := .tuple #[.slice none 0 0, .agg #[.int .i64 20, .int .i64 n]]) (by simp [results, Try.results12, go_sem, s0, s1]) rfl ?_
                exact ⟨_, rfl, Toks.nil _, two_belowN _ _ HBWW.out (Nat.le_refl _)⟩
      · have hT2 := HT.out
        rw [hTf] at hT2
        have hR := HR.out
        rw [hT2] at hR
        simp only [Prod.mk.injEq] at hR
        obtain ⟨rfl, rfl, rfl⟩ := hR
        have HS := hide (two_setN (.int .i64 21) (.int .i64 fr) d0 d1)
        clear hT2 hTf
        go_wp2
        obtain ⟨s0, s1⟩ := HS.out
        refine bodyPost_ret (v := .tuple #[.slice none 0 0, .agg #[.int .i64 21, .int .i64 fr]]) (by simp [results, Try.results12, go_sem, s0, s1]) rfl ?_
        exact ⟨_, rfl, Toks.nil _, two_belowN _ _ HBW.out (Nat.le_refl _)⟩
end Go.Proofs.Ytjiencifdpopdaa
