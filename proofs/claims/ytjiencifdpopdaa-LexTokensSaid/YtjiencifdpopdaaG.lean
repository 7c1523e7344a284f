/- All tokens of a source, by the program. No conditions beyond the bounds that each statement names. -/
import Derived.Test.YtjiencifdpopdaaF
namespace Go.Proofs.Ytjiencifdpopdaa
open Go.RowKit

def encT (t : M.Tok) : RT := ((t.kind : Int), ⟨t.text.toArray⟩, (t.at_ : Int))
/-- A source's tokens, or its fault. -/
def ans (l : List UInt8) : List M.Tok × (Nat × Nat) :=
  match cln l with
  | some k => ([], (10, k))
  | none => match (M.T 0 l).2 with
    | some f => ([], f)
    | none => ((M.T 0 l).1, (0, 0))
theorem ans_some {l : List UInt8} {k : Nat} (h : cln l = some k) : ans l = ([], (10, k)) := by unfold ans; rw [h]
theorem ans_none {l : List UInt8} (h : cln l = none) : ans l = match (M.T 0 l).2 with | some f => ([], f) | none => ((M.T 0 l).1, (0, 0)) := by unfold ans; rw [h]
def fltV (f : Nat × Nat) : Value := .agg #[.int .i64 f.1, .int .i64 f.2]

theorem info32 : (Try.prog.info? 32).map (fun i => (i.zero, i.size, i.bytes)) = some (some (.agg #[.int .i64 0, .string ByteArray.empty, .int .i64 0]), 3, 32) := by kernel_rfl

/-- The cells of tokens, one behind the other. -/
def flat : List RT → List Value
  | [] => []
  | x :: r => .int .i64 x.1 :: .string x.2.1 :: .int .i64 x.2.2 :: flat r
theorem flat_length : ∀ ts : List RT, (flat ts).length = ts.length * 3
  | [] => rfl
  | x :: r => by rw [flat]; simp [flat_length r]; omega
theorem flat_append : ∀ (a b : List RT), flat (a ++ b) = flat a ++ flat b
  | [], _ => rfl
  | x :: r, b => by rw [List.cons_append, flat, flat, flat_append r b]; rfl
theorem flat_get : ∀ (ts : List RT) (j : Nat) (x : RT), ts[j]? = some x → (flat ts)[j * 3]? = some (.int .i64 x.1) ∧ (flat ts)[j * 3 + 1]? = some (.string x.2.1) ∧ (flat ts)[j * 3 + 2]? = some (.int .i64 x.2.2)
  | [], _, _, h => by simp at h
  | y :: r, 0, x, h => by simp at h; subst h; exact ⟨rfl, rfl, rfl⟩
  | y :: r, j + 1, x, h => by
    have := flat_get r j x (by simpa using h)
    rw [flat, show (j + 1) * 3 = j * 3 + 3 by omega]
    exact this

/-- A row of the call's own holds its tokens. -/
theorem Toks.of_own {w w' : World} {base : Nat} {e : TypeId} {v : Value} {n : Nat} {ts : List RT} (h : w.ownsRow base e 3 v n (flat ts)) (hn : n = ts.length) (h0 : n = 0 → v = .slice none 0 0)
    (hs : w.heap.size ≤ w'.heap.size) (hw : ∀ p : Addr, base ≤ p.block → w'.cell? p = w.cell? p) : Toks w' v ts := by
  by_cases hz : n = 0
  · rw [h0 hz]
    have : ts = [] := List.length_eq_zero_iff.1 (by omega)
    subst this; exact Toks.nil _
  rcases h.2 with ⟨hv, h1⟩ | ⟨g, cap, cur, rfl, hbg, hg, hc, _, _, ht⟩
  · have := h.1; omega
  · have hlt : g < w.heap.size := by
      rcases Nat.lt_or_ge g w.heap.size with h1 | h1
      · exact h1
      · rw [Array.getElem?_eq_none h1] at hg; cases hg
    refine ⟨_, cap, by rw [hn], ⟨by omega, fun h => by cases h⟩, fun _ => ⟨g, 0, rfl, Nat.lt_of_lt_of_le hlt hs, fun j x hj => ?_⟩⟩
    have hjn : j < n := by rw [hn]; exact (List.getElem?_eq_some_iff.1 hj).1
    have key : ∀ (k : Nat) (u : Value), k < n * 3 → (flat ts)[k]? = some u → w'.cell? ⟨g, k, none⟩ = some u := by
      intro k u hk hu
      rw [hw ⟨g, k, none⟩ hbg, cell_of_row w g k cur e (0, 0) hg]
      rw [← ht, List.getElem?_take, if_pos hk] at hu
      simpa using hu
    obtain ⟨h1, h2, h3⟩ := flat_get ts j x hj
    rw [Nat.zero_add]
    exact ⟨key _ _ (by omega) h1, key _ _ (by omega) h2, key _ _ (by omega) h3⟩

theorem two_set {W : World} {b : Nat} {x0 x1 : Value} (u v : Value) (h0 : W.cell? ⟨b, 0, none⟩ = some x0) (h1 : W.cell? ⟨b, 1, none⟩ = some x1) :
    ((W.setCell ⟨b, 0, none⟩ u).setCell ⟨b, 1, none⟩ v).drew.cell? ⟨b, 0, none⟩ = some u ∧ ((W.setCell ⟨b, 0, none⟩ u).setCell ⟨b, 1, none⟩ v).drew.cell? ⟨b, 1, none⟩ = some v := by
  have e1 : (W.setCell ⟨b, 0, none⟩ u).cell? ⟨b, 0, none⟩ = some u := World.cell?_setCell_same W _ u h0
  have e2 : (W.setCell ⟨b, 0, none⟩ u).cell? ⟨b, 1, none⟩ = some x1 := by rw [World.cell?_setCell_other _ _ _ _ (by simp)]; exact h1
  refine ⟨?_, ?_⟩
  · show ((W.setCell ⟨b, 0, none⟩ u).setCell ⟨b, 1, none⟩ v).cell? ⟨b, 0, none⟩ = some u
    rw [World.cell?_setCell_other _ _ _ _ (by simp)]; exact e1
  · show ((W.setCell ⟨b, 0, none⟩ u).setCell ⟨b, 1, none⟩ v).cell? ⟨b, 1, none⟩ = some v
    exact World.cell?_setCell_same _ _ v e2
theorem two_setN {W : World} {b : Nat} {x0 x1 : Value} (u v : Value) (h0 : W.cell? ⟨b, 0, none⟩ = some x0) (h1 : W.cell? ⟨b, 1, none⟩ = some x1) :
    ((W.setCell ⟨b, 0, none⟩ u).setCell ⟨b, 1, none⟩ v).cell? ⟨b, 0, none⟩ = some u ∧ ((W.setCell ⟨b, 0, none⟩ u).setCell ⟨b, 1, none⟩ v).cell? ⟨b, 1, none⟩ = some v := two_set u v h0 h1
theorem own_base {w : World} {base size : Nat} {e : TypeId} {v : Value} {n : Nat} {xs : List Value} (h : w.ownsRow base e size v n xs) : ∀ g, v.ownBlock = some g → base ≤ g := by
  intro g hg
  rcases h.2 with ⟨rfl, _⟩ | ⟨g', _, _, rfl, hle, _⟩
  · cases hg
  · simp [Value.ownBlock] at hg; subst hg; exact hle
theorem ext_of (s : ByteArray) (k n : Nat) : s.extract k (k + n) = ⟨((s.data.toList.drop k).take n).toArray⟩ := by
  have h : (s.extract k (k + n)).data.toList = (s.data.toList.drop k).take n := by rw [Lib.extract_data, Nat.add_sub_cancel_left]
  rw [← h]
theorem cell_new3 (w : World) (e : TypeId) (a b c : Value) : ∀ (j : Nat) (x : Value), [a, b, c][j]? = some x → (w.alloc (Obj.cells #[a, b, c] e)).cell? ((⟨w.heap.size, 0, none⟩ : Addr).add j) = some x := by
  intro j x hj
  match j, hj with
  | 0, hj => simp at hj; subst hj; simp [Addr.add]
  | 1, hj => simp at hj; subst hj; simp [Addr.add]
  | 2, hj => simp at hj; subst hj; simp [Addr.add]
theorem two_belowN {W W0 : World} {B b : Nat} (u v : Value) (h : Below B W0 W) (hb : B ≤ b) : Below B W0 ((W.setCell ⟨b, 0, none⟩ u).setCell ⟨b, 1, none⟩ v) :=
  (h.setCell (p := ⟨b, 0, none⟩) hb u).setCell (p := ⟨b, 1, none⟩) hb v
theorem two_other (W : World) {b base : Nat} (u v : Value) (hb : b < base) (p : Addr) (hp : base ≤ p.block) : ((W.setCell ⟨b, 0, none⟩ u).setCell ⟨b, 1, none⟩ v).cell? p = W.cell? p := by
  rw [World.cell?_setCell_other _ _ _ _ (by rintro rfl; simp at hp; omega), World.cell?_setCell_other _ _ _ _ (by rintro rfl; simp at hp; omega)]
theorem two_below {W W0 : World} {B b : Nat} (u v : Value) (h : Below B W0 W) (hb : B ≤ b) : Below B W0 ((W.setCell ⟨b, 0, none⟩ u).setCell ⟨b, 1, none⟩ v).drew :=
  ((h.setCell (p := ⟨b, 0, none⟩) hb u).setCell (p := ⟨b, 1, none⟩) hb v).drew

set_option maxHeartbeats 2000000 in
theorem tokens_any (s : ByteArray) (w : World) (hs : s.size ≤ 1000000) (hm : MaxOk w) :
    Calls Try.prog 11 #[.string s] w fun e w' => ∃ v, e = .returned (.tuple #[v, fltV (ans s.data.toList).2]) ∧ Toks w' v ((ans s.data.toList).1.map encT) ∧ Below w.heap.size w w' := by
  obtain ⟨i0, hi, hz0, hz1, hz2⟩ := info_parts info32
  have HCL := hide fun w => clean_any s w hs
  cases hc : cln s.data.toList with
  | some k =>
    rw [ans_some hc]
    rw [hc] at HCL
    show Calls Try.prog 11 #[.string s] w fun e w' => ∃ v, e = .returned (.tuple #[v, .agg #[.int .i64 10, .int .i64 k]]) ∧ Toks w' v [] ∧ Below w.heap.size w w'
    rw [show clnV (some k) = .agg #[.int .i64 10, .int .i64 k] from rfl] at HCL
    clear hc
    go_enter Try.func11, Try.ntmps11
    go_wp2_with fail
    refine (HCL.out _).mono ?_
    rintro e w1 ⟨rfl, hb1⟩
    have hlt : w.heap.size < (w.alloc (Obj.cells #[Value.int IntKind.i64 0, Value.int IntKind.i64 0] 26)).heap.size := by simp
    have hb2 := bl_alloc hb1 (Obj.cells #[Value.int IntKind.i64 10, Value.int IntKind.i64 k] 26)
    have c0 := hb2.cell (p := ⟨w.heap.size, 0, none⟩) hlt
    have c1 := hb2.cell (p := ⟨w.heap.size, 1, none⟩) hlt
    have g0 := hb2.frozen (p := ⟨w.heap.size, 0, none⟩) hlt
    have g1 := hb2.frozen (p := ⟨w.heap.size, 1, none⟩) hlt
    have HB1 := hide ((Below.refl _ w).alloc (Nat.le_refl _) (Obj.cells #[Value.int IntKind.i64 0, Value.int IntKind.i64 0] 26) |>.trans (hb1.mono (by simp)))
    clear hb1 hb2
    simp at c0 c1 g0 g1
    have HS := hide (two_set (.int .i64 10) (.int .i64 k) c0 c1)
    go_wp2
    go_region
    go_wp2
    obtain ⟨s0, s1⟩ := HS.out
    refine bodyPost_ret (v := .tuple #[.slice none 0 0, .agg #[.int .i64 10, .int .i64 k]]) (by simp [results, Try.results11, go_sem, s0, s1]) rfl ?_
    exact ⟨_, rfl, Toks.nil _, two_below _ _ (bl_alloc HB1.out _) (Nat.le_refl _)⟩
  | none =>
    rw [ans_none hc]
    rw [hc] at HCL
    rw [show clnV none = .agg #[.int .i64 0, .int .i64 0] from rfl] at HCL
    clear hc
    obtain ⟨R, f1, f2, hR⟩ : ∃ R f1 f2, (match (M.T 0 s.data.toList).2 with | some f => ([], f) | none => ((M.T 0 s.data.toList).1, (0, 0))) = (R, f1, f2) := ⟨_, _, _, rfl⟩
    rw [hR]
    show Calls Try.prog 11 #[.string s] w fun e w' => ∃ v, e = .returned (.tuple #[v, .agg #[.int .i64 f1, .int .i64 f2]]) ∧ Toks w' v (R.map encT) ∧ Below w.heap.size w w'
    have HR := hide hR
    clear hR
    have HM := hide hm
    clear hm
    go_enter Try.func11, Try.ntmps11
    go_wp2_with fail
    refine (HCL.out _).mono ?_
    rintro e w1 ⟨rfl, hb1⟩
    have hlt : w.heap.size < (w.alloc (Obj.cells #[Value.int IntKind.i64 0, Value.int IntKind.i64 0] 26)).heap.size := by simp
    have hb2 := bl_alloc hb1 (Obj.cells #[Value.int IntKind.i64 0, Value.int IntKind.i64 0] 26)
    have c0 := hb2.cell (p := ⟨w.heap.size, 0, none⟩) hlt
    have c1 := hb2.cell (p := ⟨w.heap.size, 1, none⟩) hlt
    have g0 := hb2.frozen (p := ⟨w.heap.size, 0, none⟩) hlt
    have g1 := hb2.frozen (p := ⟨w.heap.size, 1, none⟩) hlt
    have HB2 := hide ((Below.refl _ w).alloc (Nat.le_refl _) (Obj.cells #[Value.int IntKind.i64 0, Value.int IntKind.i64 0] 26) |>.trans (hb2.mono (by simp)))
    have hlt2 : w.heap.size < (w1.alloc (Obj.cells #[Value.int IntKind.i64 0, Value.int IntKind.i64 0] 26)).heap.size := Nat.lt_of_lt_of_le hlt hb2.size
    have HLT2 := hide hlt2
    clear hb1 hb2 hlt hlt2
    simp at c0 c1 g0 g1
    have C0 := hide c0
    have C1 := hide c1
    have G0 := hide g0
    have G1 := hide g1
    clear c0 c1 g0 g1
    go_wp2
    obtain ⟨w2, hw2⟩ : ∃ w2, w2 = w1.alloc (Obj.cells #[Value.int IntKind.i64 0, Value.int IntKind.i64 0] 26) := ⟨_, rfl⟩
    go_loopw [5, 6, 7, 8, 9] (fun v i _ _ _ wr => ∃ (k : Nat) (acc : List M.Tok), k ≤ s.size ∧ i = .int .i64 k ∧ acc.length ≤ k ∧ M.T 0 s.data.toList = (acc ++ (M.T k (s.data.toList.drop k)).1, (M.T k (s.data.toList.drop k)).2) ∧
        wr.ownsRow (w1.heap.size + 1) 32 3 v acc.length (flat (acc.map encT)) ∧ (acc = [] → v = .slice none 0 0) ∧ Below (w1.heap.size + 1) (w1.alloc (Obj.cells #[Value.int IntKind.i64 0, Value.int IntKind.i64 0] 26)) wr) (fun _ i _ _ _ _ => s.size - (intOf i).toNat)
    case atStart => exact ⟨0, [], Nat.zero_le _, rfl, Nat.le_refl _, by simp, World.ownsRow_nil _ _ _ _, fun _ => rfl, Below.refl _ _⟩
    case round =>
      obtain ⟨k, acc, hk, rfl, hal, hT, hown, hnil, hbel⟩ := hrel
      have HT := hide hT
      clear hT
      by_cases hlt : k < s.size
      · have hml : MaxOk wr := HM.out.below (HB2.out.trans (hbel.mono (Nat.le_of_lt (Nat.lt_of_lt_of_le HLT2.out (by simp)))))
        have hf := first_any (s.extract k s.size) wr (by simp; omega) (by simp; omega) hml
        rw [drop_of] at hf
        have hdl : (s.data.toList.drop k).length = s.size - k := by rw [List.length_drop, len_of]
        have d0 := (hbel.cell (p := ⟨w.heap.size, 0, none⟩) (Nat.lt_of_lt_of_le HLT2.out (by simp))).trans C0.out
        have d1 := (hbel.cell (p := ⟨w.heap.size, 1, none⟩) (Nat.lt_of_lt_of_le HLT2.out (by simp))).trans C1.out
        have e0 := (hbel.frozen (p := ⟨w.heap.size, 0, none⟩) (Nat.lt_of_lt_of_le HLT2.out (by simp))).trans G0.out
        have e1 := (hbel.frozen (p := ⟨w.heap.size, 1, none⟩) (Nat.lt_of_lt_of_le HLT2.out (by simp))).trans G1.out
        have HBW := hide (HB2.out.trans (hbel.mono (Nat.le_of_lt (Nat.lt_of_lt_of_le HLT2.out (by simp)))))
        rcases M.T_cases (s.data.toList.drop k) with h | ⟨hl, K, n, e, h, he⟩ | ⟨hl, n, h, h0, h1⟩ | ⟨hl, K, n, h, hK, h0, h1⟩
        · rw [h] at hdl; simp at hdl; omega
        · have hT2 := HT.out
          rw [M.T_err hl h he] at hT2
          have hR := HR.out
          rw [hT2] at hR
          simp only [Prod.mk.injEq] at hR
          obtain ⟨rfl, rfl, rfl⟩ := hR
          rw [h, show v3 (K, n, e) = .tuple #[.int .i64 K, .int .i64 n, .int .i64 e] from rfl] at hf
          have HF := hide hf
          have hk0 : ((e : Int) != 0) = true := by simp; omega
          have HS := hide (two_setN (.int .i64 e) (.int .i64 k) d0 d1)
          clear hf h hT2 hown hnil hbel HT HR hdl hl he
          go_wp2_with fail
          refine HF.out.mono ?_
          rintro e' w' ⟨rfl, rfl⟩
          go_wp2
          obtain ⟨s0, s1⟩ := HS.out
          refine bodyPost_ret (v := .tuple #[.slice none 0 0, .agg #[.int .i64 e, .int .i64 k]]) (by simp [results, Try.results11, go_sem, s0, s1]) rfl ?_
          exact ⟨_, rfl, Toks.nil _, two_belowN _ _ HBW.out (Nat.le_refl _)⟩
        · have hT2 := HT.out
          rw [M.T_gap hl h, List.drop_drop] at hT2
          rw [hdl] at h1
          rw [h, show v3 (0, n, 0) = .tuple #[.int .i64 0, .int .i64 n, .int .i64 0] from rfl] at hf
          have HF := hide hf
          have HT2 := hide hT2
          have hkn : k + n ≤ s.size := by omega
          clear hf h hT2 HT hdl hl d0 d1 e0 e1
          go_wp2_with fail
          refine HF.out.mono ?_
          rintro e' w' ⟨rfl, rfl⟩
          go_wp2
          go_roundw
          case rel => exact ⟨k + n, acc, hkn, by go_num, by omega, HT2.out, hown, hnil, hbel⟩
          case measure => simp [intOf]; omega
        · have hT2 := HT.out
          rw [M.T_tok hl h hK, List.drop_drop] at hT2
          rw [hdl] at h1
          rw [h, show v3 (K, n, 0) = .tuple #[.int .i64 K, .int .i64 n, .int .i64 0] from rfl] at hf
          have HF := hide hf
          have HT2 := hide hT2
          have hk0 : ((K : Int) != 0) = true := by simp; omega
          have hkn : k + n ≤ s.size := by omega
          clear hf h hT2 HT hdl hl d0 d1 e0 e1 hK
          go_wp2_with fail
          refine HF.out.mono ?_
          rintro e' w' ⟨rfl, rfl⟩
          go_wp2_with (at_builtin; refine wpList_append_own _ rfl _ _ 23 rfl (w1.heap.size + 1) 32 i0 (.agg #[.int .i64 0, .string ByteArray.empty, .int .i64 0]) 3 32 Try.underlying23 hi hz0 hz1 hz2 rfl (by decide) _ _ _ rfl (hown.alloc _) ⟨wr.heap.size, 0, none⟩ 1 1 [.int .i64 K, .string (s.extract k (k + n)), .int .i64 k] rfl rfl ?c1 ?c2 ?c3 ?c4 ?c5 ?_)
          case c1 => exact cell_new3 _ _ _ _ _
          case c2 => intro u hu; simp at hu; rcases hu with rfl | rfl | rfl <;> rfl
          case c3 => unfold maxLen; omega
          case c4 => omega
          case c5 => have := hbel.size; simp at this ⊢; omega
          intro v' w3 hown' hgrow _
          have hb' := (hbel.alloc (by have := hbel.size; simp at this; omega) (Obj.cells #[Value.int .i64 K, .string (s.extract k (k + n)), .int .i64 k] 32)).grown hgrow (by have := hbel.size; simp at this ⊢; omega) (own_base hown)
          have ho : w3.ownsRow (w1.heap.size + 1) 32 3 v' (acc ++ [(⟨K, (s.data.toList.drop k).take n, k⟩ : M.Tok)]).length (flat ((acc ++ [(⟨K, (s.data.toList.drop k).take n, k⟩ : M.Tok)]).map encT)) := by
            rw [List.map_append, flat_append, List.length_append]
            show w3.ownsRow _ 32 3 v' (acc.length + 1) (flat (acc.map encT) ++ [.int .i64 K, .string ⟨((s.data.toList.drop k).take n).toArray⟩, .int .i64 k])
            rw [← ext_of]; exact hown'
          have HO := hide ho
          have HB' := hide hb'
          clear hown' hgrow hown hbel ho hb'
          go_wp2
          go_roundw
          case rel => exact ⟨k + n, _, hkn, by go_num, by simp; omega, by rw [HT2.out, List.append_assoc]; rfl, HO.out, fun h => absurd h (by simp), HB'.out⟩
          case measure => simp [intOf]; omega
      · obtain rfl : k = s.size := by omega
        have hT2 := HT.out
        have hd : s.data.toList.drop s.size = [] := by rw [← len_of s]; exact List.drop_length
        rw [hd, M.T_nil] at hT2
        have hR := HR.out
        rw [hT2] at hR
        simp only [Prod.mk.injEq, List.append_nil] at hR
        obtain ⟨rfl, rfl, rfl⟩ := hR
        have d0 := (hbel.cell (p := ⟨w.heap.size, 0, none⟩) (Nat.lt_of_lt_of_le HLT2.out (by simp))).trans C0.out
        have d1 := (hbel.cell (p := ⟨w.heap.size, 1, none⟩) (Nat.lt_of_lt_of_le HLT2.out (by simp))).trans C1.out
        have e0 := (hbel.frozen (p := ⟨w.heap.size, 0, none⟩) (Nat.lt_of_lt_of_le HLT2.out (by simp))).trans G0.out
        have e1 := (hbel.frozen (p := ⟨w.heap.size, 1, none⟩) (Nat.lt_of_lt_of_le HLT2.out (by simp))).trans G1.out
        have HBW := hide (HB2.out.trans (hbel.mono (Nat.le_of_lt (Nat.lt_of_lt_of_le HLT2.out (by simp)))))
        have hlw : w.heap.size < w1.heap.size + 1 := Nat.lt_of_lt_of_le HLT2.out (by simp)
        have HTK := hide (Toks.of_own (w' := (wr.setCell ⟨w.heap.size, 0, none⟩ (.int .i64 0)).setCell ⟨w.heap.size, 1, none⟩ (.int .i64 0)) hown (by simp) (fun h => hnil (List.length_eq_zero_iff.1 h)) (two_belowN (W0 := wr) _ _ (Below.refl 0 wr) (Nat.zero_le _)).size (fun p hp => two_other wr _ _ hlw p hp))
        have HS := hide (two_setN (.int .i64 0) (.int .i64 0) d0 d1)
        clear hT2 hd hown hnil hbel HT HR hlt
        go_wp2
        obtain ⟨s0, s1⟩ := HS.out
        refine bodyPost_ret (v := .tuple #[u5, .agg #[.int .i64 0, .int .i64 0]]) (by simp [results, Try.results11, go_sem, s0, s1]) rfl ?_
        exact ⟨_, rfl, HTK.out, two_belowN _ _ HBW.out (Nat.le_refl _)⟩
end Go.Proofs.Ytjiencifdpopdaa
