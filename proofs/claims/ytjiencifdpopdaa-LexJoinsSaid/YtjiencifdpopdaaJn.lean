/- Tokens as a source, by the program and by the document's own answer. No conditions beyond the bounds that each statement names. -/
import Derived.Test.YtjiencifdpopdaaBd
import Derived.Test.YtjiencifdpopdaaR
namespace Go.Proofs.Ytjiencifdpopdaa
open Go.RowKit

theorem ba_toArray {a : ByteArray} {l : List UInt8} (h : a.data.toList = l) : a = ⟨l.toArray⟩ := by subst h; cases a; simp
theorem own_below' {w w' : World} {base size : Nat} {e : TypeId} {v : Value} {n : Nat} {xs : List Value} (h : w.ownsRow base e size v n xs) (hb : Below w.heap.size w w') : w'.ownsRow base e size v n xs := by
  refine ⟨h.1, ?_⟩
  rcases h.2 with h1 | ⟨g, cap, cur, rfl, hbg, hg, hrest⟩
  · exact .inl h1
  · exact .inr ⟨g, cap, cur, rfl, hbg, (hb.block g (heap_lt hg)).trans hg, hrest⟩

/-- The tokens' texts, joined. -/
def tx (x : RT) : List UInt8 := x.2.1.data.toList
def joinR (ts : List RT) : List UInt8 := M.join (ts.map tx)
theorem join_snoc : ∀ (l : List (List UInt8)) (x : List UInt8), M.join (l ++ [x]) = if l = [] then x else M.join l ++ 32 :: x
  | [], _ => rfl
  | [a], x => rfl
  | a :: b :: r, x => by
    have := join_snoc (b :: r) x
    rw [if_neg (by simp)] at this
    rw [if_neg (by simp)]
    show a ++ 32 :: M.join (b :: r ++ [x]) = (a ++ 32 :: M.join (b :: r)) ++ 32 :: x
    rw [this]; simp
theorem joinR_step (ts : List RT) (k : Nat) (h : k < ts.length) : joinR (ts.take (k + 1)) = if k = 0 then tx ts[k] else joinR (ts.take k) ++ 32 :: tx ts[k] := by
  unfold joinR
  rw [List.take_succ_eq_append_getElem h, List.map_append, List.map_singleton, join_snoc]
  by_cases hk : k = 0
  · subst hk; rw [if_pos rfl, if_pos (by simp)]
  · rw [if_neg hk, if_neg]
    intro h2
    have h3 : ((ts.take k).map tx).length = 0 := by rw [h2]; rfl
    rw [List.length_map, List.length_take] at h3; omega
theorem join_len : ∀ l : List (List UInt8), (M.join l).length ≤ (l.map List.length).sum + l.length
  | [] => Nat.le_refl _
  | [a] => by show a.length ≤ _; simp
  | a :: b :: r => by
    have := join_len (b :: r)
    show (a ++ 32 :: M.join (b :: r)).length ≤ _
    simp at this ⊢; omega
theorem sum_take_le (l : List Nat) (k : Nat) : (l.take k).sum ≤ l.sum := by
  induction l generalizing k with
  | nil => simp
  | cons a l ih => cases k with | zero => simp | succ k => have := ih k; simp; omega
theorem joinR_len (ts : List RT) (k : Nat) (hb : (ts.map fun x => x.2.1.size).sum + ts.length ≤ 2000) : (joinR (ts.take k)).length ≤ 2000 := by
  have h1 := join_len ((ts.take k).map tx)
  have h2 : (((ts.take k).map tx).map List.length) = ((ts.map fun x => x.2.1.size).take k) := by
    rw [List.map_map, List.map_take]; congr 1
  rw [h2] at h1
  have h3 := sum_take_le (ts.map fun x => x.2.1.size) k
  rw [List.length_map, List.length_take] at h1
  unfold joinR; omega

set_option maxHeartbeats 4000000 in
theorem refJoin_any (v : Value) (ts : List RT) (w : World) (h : Toks w v ts) (hb : (ts.map fun x => x.2.1.size).sum + ts.length ≤ 2000) :
    Calls Try.prog 15 #[v] w fun e w' => e = .returned (.string ⟨(joinR ts).toArray⟩) ∧ w' = w := by
  obtain ⟨p, c, rfl, hc, hx⟩ := h
  have hlen : ts.length ≤ 2000 := by omega
  have HX := hide hx
  have HS := hide fun k h => joinR_step ts k h
  have HLN := hide fun k => joinR_len ts k hb
  have HEND : Hid (joinR (ts.take ts.length) = joinR ts) := by unfold Hid; rw [List.take_length]
  clear hx hb
  go_enter Try.func15, Try.ntmps15
  go_wp2
  go_loop [3, 4] (fun s i => ∃ k : Nat, k ≤ ts.length ∧ i = .int .i64 k ∧ s = .string ⟨(joinR (ts.take k)).toArray⟩) (fun _ i => ts.length - (intOf i).toNat)
  case atStart => exact ⟨0, Nat.zero_le _, rfl, rfl⟩
  case round =>
    obtain ⟨k, hk, rfl, rfl⟩ := hrel
    by_cases hlt : k < ts.length
    · obtain ⟨g, off, rfl, hg, hcell⟩ := HX.out (by intro h; rw [h] at hlt; simp at hlt)
      obtain ⟨_, a2, _⟩ := hcell k _ (List.getElem?_eq_getElem hlt)
      obtain ⟨x, hxx⟩ : ∃ x, x = ts[k].2.1 := ⟨_, rfl⟩
      rw [← hxx] at a2
      have hst := HS.out k hlt
      have hl1 := HLN.out (k + 1)
      have hl0 := HLN.out k
      obtain ⟨S, hS⟩ : ∃ S : ByteArray, S = ⟨(joinR (ts.take k)).toArray⟩ := ⟨_, rfl⟩
      have hSl : S.data.toList = joinR (ts.take k) := by rw [hS]
      have hSs : S.size ≤ 2000 := by rw [← len_of, hSl]; exact hl0
      have hxs : x.size ≤ 2000 := by
        rw [hst] at hl1
        rw [← len_of, hxx]
        by_cases h0 : k = 0
        · rw [if_pos h0] at hl1; exact hl1
        · rw [if_neg h0] at hl1
          simp only [List.length_append, List.length_cons] at hl1
          unfold tx at hl1; omega
      rw [← hS]
      by_cases h0 : k = 0
      · subst h0
        rw [if_pos rfl] at hst
        obtain ⟨r1, e1, s1, l1, b1⟩ := add_sum S x (by omega)
        have hr : r1 = ⟨(joinR (ts.take (0 + 1))).toArray⟩ := by
          refine ba_toArray ?_
          rw [l1, hSl, hst, hxx]; rfl
        have HR := hide hr
        clear hcell hxx hst hl1 hl0 hS hSl hSs hxs e1 s1 l1 hr
        go_wp2
        go_round
        case rel => exact ⟨1, hlt, rfl, by rw [HR.out]⟩
        case measure => simp [intOf]; omega
      · rw [if_neg h0] at hst
        have h0' : decide (0 < k) = true := decide_eq_true (by omega)
        obtain ⟨r1, e1, s1, l1, b1⟩ := add_sum S ⟨#[32]⟩ (by rw [show (⟨#[32]⟩ : ByteArray).size = 1 from rfl]; omega)
        obtain ⟨r2, e2, s2, l2, b2⟩ := add_sum r1 x (by rw [s1, show (⟨#[32]⟩ : ByteArray).size = 1 from rfl]; omega)
        have hr : r2 = ⟨(joinR (ts.take (k + 1))).toArray⟩ := by
          refine ba_toArray ?_
          rw [l2, l1, hSl, hst, hxx]; simp [tx]
        have HR := hide hr
        have hkp : 0 < k := by omega
        clear hcell hxx hst hl1 hl0 hS hSl hSs hxs e1 s1 l1 e2 s2 l2 hr h0
        go_wp2
        go_round
        case rel => exact ⟨k + 1, hlt, by go_num, by rw [HR.out]⟩
        case measure => simp [intOf]; omega
    · obtain rfl : k = ts.length := by omega
      clear hlt
      go_wp2
      go_ret
      exact ⟨by first | rfl | rw [HEND.out], rfl⟩

theorem bld_below {B b : Nat} {bs : List Value} {w w' : World} (h : Lib.IsBuilder 49 5 B b bs w) (hb : Below w.heap.size w w') : Lib.IsBuilder 49 5 B b bs w' := by
  have key : ∀ p, Lib.BuilderAt 49 5 B b p bs w → Lib.BuilderAt 49 5 B b p bs w' := fun p h => by
    obtain ⟨hB, v, hbk, hown, hne⟩ := h
    exact ⟨hB, v, (hb.block b (heap_lt hbk)).trans hbk, own_below' hown hb, hne⟩
  rcases h with h | h
  · exact .inl (key _ h)
  · exact .inr (key _ h)

/-- A new block is neither the Builder's nor its buffer's. -/
theorem other_new {B b : Nat} {bs : List Value} {w : World} (h : Lib.IsBuilder 49 5 B b bs w) (o : Obj) : Other b w.heap.size (w.alloc o) := by
  have key : ∀ p, Lib.BuilderAt 49 5 B b p bs w → Other b w.heap.size (w.alloc o) := fun p h => by
    obtain ⟨hB, v, hbk, hown, hne⟩ := h
    have hlt := heap_lt hbk
    refine ⟨by simp, by omega, fun p' v' hv => ?_⟩
    rw [Lib.alloc_old w o b hlt, hbk] at hv
    cases hv
    rcases hown.2 with ⟨rfl, _⟩ | ⟨g, _, _, rfl, _, hg, _⟩
    · intro h; cases h
    · intro h
      simp [Value.ownBlock] at h
      have := heap_lt hg; omega
  rcases h with h | h
  · exact key _ h
  · exact key _ h

theorem cells_app (a b : List UInt8) : Lib.byteCells a ++ Lib.byteCells b = Lib.byteCells (a ++ b) := by simp [Lib.byteCells]

set_option maxHeartbeats 4000000 in
theorem join_any (v : Value) (ts : List RT) (w : World) (h : Toks w v ts) (hb : (ts.map fun x => x.2.1.size).sum + ts.length ≤ 2000) :
    Calls Try.prog 14 #[v] w fun e w' => e = .returned (.string ⟨(joinR ts).toArray⟩) ∧ Below w.heap.size w w' := by
  obtain ⟨p, c, rfl, hc, hx⟩ := h
  have hlen : ts.length ≤ 2000 := by omega
  have HX := hide hx
  have HS := hide fun k h => joinR_step ts k h
  have HLN := hide fun k => joinR_len ts k hb
  have HEND : Hid (joinR (ts.take ts.length) = joinR ts) := by unfold Hid; rw [List.take_length]
  have HB0 := hide (Lib.fresh_isBuilder 49 5 w)
  clear hx hb
  go_enter Try.func14, Try.ntmps14
  go_wp2
  go_loopw [8, 4, 5] (fun i _ _ wr => ∃ k : Nat, k ≤ ts.length ∧ i = .int .i64 k ∧ Lib.IsBuilder 49 5 w.heap.size w.heap.size (Lib.byteCells (joinR (ts.take k))) wr ∧ Below w.heap.size w wr) (fun i _ _ _ => ts.length - (intOf i).toNat)
  case atStart => exact ⟨0, Nat.zero_le _, rfl, HB0.out, (Below.refl _ _).alloc (Nat.le_refl _) _⟩
  case round =>
    obtain ⟨k, hk, rfl, hbld, hbel⟩ := hrel
    have HBLD := hide hbld
    have HBEL := hide hbel
    clear hbld hbel
    by_cases hlt : k < ts.length
    · obtain ⟨g, off, rfl, hg, hcell⟩ := HX.out (by intro h; rw [h] at hlt; simp at hlt)
      obtain ⟨b1, b2, b3⟩ := hcell k _ (List.getElem?_eq_getElem hlt)
      obtain ⟨x, hxx⟩ : ∃ x, x = ts[k] := ⟨_, rfl⟩
      rw [← hxx] at b1 b2 b3
      have c1 := (HBEL.out.cell (p := ⟨g, off + k * 3, none⟩) hg).trans b1
      have c2 := (HBEL.out.cell (p := ⟨g, off + k * 3 + 1, none⟩) hg).trans b2
      have c3 := (HBEL.out.cell (p := ⟨g, off + k * 3 + 2, none⟩) hg).trans b3
      have hst := HS.out k hlt
      have hl1 := HLN.out (k + 1)
      have hl0 := HLN.out k
      rw [← hxx] at hst
      obtain ⟨x1, x2, x3⟩ := x
      simp only at c1 c2 c3
      have hxs : x2.size ≤ 2000 := by
        rw [hst] at hl1
        rw [← len_of]
        by_cases h0 : k = 0
        · rw [if_pos h0] at hl1; exact hl1
        · rw [if_neg h0] at hl1
          simp only [List.length_append, List.length_cons] at hl1
          rw [show tx (x1, x2, x3) = x2.data.toList from rfl] at hl1; omega
      have HBA := hide (bl_alloc HBEL.out (Obj.cells #[.int .i64 x1, .string x2, .int .i64 x3] 32))
      have HBLA := hide (bld_below HBLD.out (bl_alloc (Below.refl _ wr) (Obj.cells #[.int .i64 x1, .string x2, .int .i64 x3] 32)))
      have HL0 := hide hl0
      have HST := hide hst
      have HXS := hide hxs
      clear hcell hxx hst hl1 hl0 hxs b1 b2 b3
      by_cases h0 : k = 0
      · subst h0
        rw [Nat.zero_mul, Nat.add_zero] at c1 c2 c3
        go_wp2_with fail
        refine (writeString_any _ _ _ x2 _ HBLA.out (by rw [Lib.byteCells_length]; have := HL0.out; have := HXS.out; omega) HBA.out.size).mono ?_
        rintro e w3 ⟨rfl, hb3, hbe3, _⟩
        have HB3 := hide hb3
        have HBE3 := hide (HBA.out.trans hbe3)
        clear hb3 hbe3
        go_wp2
        go_roundw
        case rel => exact ⟨1, hlt, rfl, by
          have h1 := HB3.out
          have h2 := HST.out
          have h3 : joinR (ts.take 1) = tx (x1, x2, x3) := by simpa using h2
          rw [h3]
          exact h1, HBE3.out⟩
        case measure => simp [intOf]; omega
      · have hkp : 0 < k := by omega
        go_wp2_with fail
        refine (writeByte_any _ _ _ 32 _ HBLA.out (by rw [Lib.byteCells_length]; have := HL0.out; omega) HBA.out.size).mono ?_
        rintro e w3 ⟨rfl, hb3, hbe3, ho3⟩
        have hblk := ho3 _ (other_new HBLD.out _)
        have d2 : w3.cell? ⟨wr.heap.size, 1, none⟩ = some (.string x2) := by
          rw [World.cell?_of_block (w := wr.alloc (Obj.cells #[Value.int .i64 x1, .string x2, .int .i64 x3] 32)) hblk]; simp
        have HB3 := hide hb3
        have HBE3 := hide (HBA.out.trans hbe3)
        clear hb3 hbe3 ho3 hblk
        go_wp2_with fail
        refine (writeString_any _ _ _ x2 _ HB3.out (by rw [List.length_append, Lib.byteCells_length]; have := HL0.out; have := HXS.out; simp; omega) HBE3.out.size).mono ?_
        rintro e w4 ⟨rfl, hb4, hbe4, _⟩
        have HB4 := hide hb4
        have HBE4 := hide (HBE3.out.trans hbe4)
        clear hb4 hbe4
        go_wp2
        go_roundw
        case rel => exact ⟨k + 1, hlt, by go_num, by
          have h1 := HB4.out
          have h2 := HST.out
          rw [if_neg h0] at h2
          rw [h2]
          rw [show [Value.int .u8 32] = Lib.byteCells [32] from rfl, show Lib.strCells x2 = Lib.byteCells x2.data.toList from rfl, cells_app, cells_app] at h1
          simpa [tx] using h1, HBE4.out⟩
        case measure => simp [intOf]; omega
    · obtain rfl : k = ts.length := by omega
      have hfin := Try.Builder_String_any _ _ _ wr HBLD.out HBEL.out.size
      rw [HEND.out] at hfin
      have HF := hide hfin
      clear hlt hfin
      go_wp2_with fail
      refine HF.out.mono ?_
      rintro e w3 ⟨rfl, hb3⟩
      have HB3 := hide (HBEL.out.trans hb3)
      clear hb3
      go_wp2
      go_ret
      exact ⟨rfl, HB3.out⟩
end Go.Proofs.Ytjiencifdpopdaa
