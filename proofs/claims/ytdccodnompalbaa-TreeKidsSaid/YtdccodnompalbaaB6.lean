/- 'borrowdaleref03.Alike' of a tree and a copy of it: true. No conditions beyond the bounds that each statement names. -/
import Derived.Test.YtdccodnompalbaaB5
import Derived.Test.YtdccodnompalbaaS1
namespace Go.Proofs.Ytdccodnompalbaa
open Go.RowKit

/-- Where the nodes stand, in order. -/
def atN (T : NT) (i : Nat) : Int := match (T.pre 1)[i]? with | some x => x.1.a | none => 0
theorem atN_cell (T : NT) (j : Nat) (hj : j < T.size) : (flat5 ((T.pre 1).map (·.1)))[j * 5 + 4]? = some (.int .i64 (atN T j)) := by
  have h : j < (T.pre 1).length := by rw [NT.pre_len]; exact hj
  refine (flat5_at _ j (T.pre 1)[j].1 (by rw [List.getElem?_map, List.getElem?_eq_getElem h]; rfl)).2.2.2.2.trans ?_
  rw [atN, List.getElem?_eq_getElem h]
theorem atN_made {f : Int → Int → Int} {T U : NT} (h : Made f (fun a => a) T U) (j : Nat) (hj : j < T.size) : atN U j = atN T j := by
  have hp := h.pres 1 0
  have h1 : j < (T.pres 1 0).length := by rw [NT.pres_len]; exact hj
  have h2 : j < (U.pres 1 0).length := by rw [← hp.len]; exact h1
  have := hp.at_ (List.getElem?_eq_getElem h1) (List.getElem?_eq_getElem h2)
  have e : ∀ (V : NT) (hV : j < (V.pres 1 0).length), atN V j = (V.pres 1 0)[j].1.a := fun V hV => by
    rw [atN, ← pres_pre V 1 0, List.getElem?_map, List.getElem?_eq_getElem hV]
    rfl
  rw [e T h1, e U h2]
  exact ((made_eq _ _ _ _).1 this.1).2.2.2.1

/-- List at a program's root: both slices by name. -/
theorem list_pair (T : NT) (w : World) (hL : Lies w.heap.size w T) (hS : T.sized maxLen) (hz : T.size ≤ 1000000) (hd : T.depth ≤ 900000) :
    Calls Try.prog 21 #[T.val, .int .i64 1] w fun e w' => ∃ pv cv pu cu, e = .returned (.tuple #[.slice pv T.size cv, .slice pu T.size cu]) ∧ w'.ownsRow w.heap.size 24 5 (.slice pv T.size cv) T.size (flat5 ((T.pre 1).map (·.1))) ∧ Below w.heap.size w w' := by
  refine (list_any T 1 w hL hS hz (by omega) (by omega)).mono ?_
  rintro e w' ⟨v, u, rfl, hlp, hb⟩
  obtain ⟨pv, cv, rfl, _, _⟩ := row_shape hlp.1
  obtain ⟨pu, cu, rfl, _, _⟩ := row_shape hlp.2
  have h1 := hlp.1
  rw [NT.pre_len] at h1 ⊢
  exact ⟨pv, cv, pu, cu, rfl, h1, hb⟩
theorem row_at {w : World} {b : Nat} {e : TypeId} {p : Option Addr} {n c size : Nat} {xs : List Value} (h : w.ownsRow b e size (.slice p n c) n xs) (hn : 0 < n) :
    ∃ g, p = some ⟨g, 0, none⟩ ∧ g < w.heap.size ∧ ∀ i u, xs[i]? = some u → w.cell? ⟨g, i, none⟩ = some u := by
  have hc := h
  rcases h.2 with ⟨_, h0⟩ | ⟨g, cap, cur, e', _⟩
  · omega
  · cases e'
    refine ⟨g, rfl, (hc.lt g rfl).2, fun i u hu => ?_⟩
    have := hc.cells rfl i u hu
    rwa [Addr.add_lit, Nat.zero_add] at this

set_option maxRecDepth 20000 in
set_option maxHeartbeats 4000000 in
theorem alike_any (A B : NT) (w : World) (hLA : Lies w.heap.size w A) (hLB : Lies w.heap.size w B) (hSA : A.sized maxLen) (hSB : B.sized maxLen) (hz : A.size ≤ 1000000) (hd : A.depth ≤ 900000) (hC : Copied A B) :
    Calls Try.prog 19 #[A.val, B.val] w fun e w' => e = .returned (.bool true) ∧ Below w.heap.size w w' := by
  obtain ⟨p, c, hs, _, _⟩ := hLA.eq
  obtain ⟨q, d, hsB, _, _⟩ := hLB.eq
  have HA := hide fun w' (hb : Below w.heap.size w w') => list_pair A w' ((hLA.below hb).mono hb.size) hSA hz hd
  have HB := hide fun w' (hb : Below w.heap.size w w') => list_pair B w' ((hLB.below hb).mono hb.size) hSB (by rw [hC.size]; exact hz) (by rw [hC.depth]; exact hd)
  have HS := hide fun w' (hb : Below w.heap.size w w') => refSame_any A B w' ((hLA.below hb).mono hb.size) ((hLB.below hb).mono hb.size) hSA hSB
  rw [hC.same] at HS
  rw [hC.size] at HB
  have HXA := hide (atN_cell A)
  have HXB := hide (atN_cell B)
  rw [hC.size] at HXB
  have HEq := hide (atN_made hC)
  obtain ⟨FA, hFA⟩ : ∃ FA, FA = flat5 ((A.pre 1).map (·.1)) := ⟨_, rfl⟩
  obtain ⟨FB, hFB⟩ : ∃ FB, FB = flat5 ((B.pre 1).map (·.1)) := ⟨_, rfl⟩
  rw [← hFA] at HA HXA
  rw [← hFB] at HB HXB
  obtain ⟨XA, hXA⟩ : ∃ XA, XA = atN A := ⟨_, rfl⟩
  obtain ⟨XB, hXB⟩ : ∃ XB, XB = atN B := ⟨_, rfl⟩
  rw [← hXA] at HXA HEq
  rw [← hXB] at HXB HEq
  generalize A.size = m at *
  have hbx := box_two w A B
  have hB1 : Below w.heap.size w ((w.alloc (boxO A)).alloc (boxO B)) := two_alloc _ _ _
  clear hLA hLB hSA hSB hd hC hFA hFB hXA hXB
  simp only [NT.val, boxO, hs, hsB, Cells5] at HA HB HS hbx hB1 ⊢
  clear hs hsB
  obtain ⟨W1, hW1⟩ : ∃ W1, (w.alloc (Obj.cells #[.int .i64 A.k, .string A.t, .int .i64 A.n, .slice p A.len c, .int .i64 A.a] 24)).alloc (Obj.cells #[.int .i64 B.k, .string B.t, .int .i64 B.n, .slice q B.len d, .int .i64 B.a] 24) = W1 := ⟨_, rfl⟩
  rw [hW1] at hbx hB1
  have HCe : Hid (∀ w', Below W1.heap.size W1 w' → (w'.cell? ⟨w.heap.size, 0, none⟩ = some (.int .i64 A.k) ∧ w'.cell? ⟨w.heap.size, 1, none⟩ = some (.string A.t) ∧ w'.cell? ⟨w.heap.size, 2, none⟩ = some (.int .i64 A.n) ∧ w'.cell? ⟨w.heap.size, 3, none⟩ = some (.slice p A.len c) ∧ w'.cell? ⟨w.heap.size, 4, none⟩ = some (.int .i64 A.a)) ∧
      (w'.cell? ⟨w.heap.size + 1, 0, none⟩ = some (.int .i64 B.k) ∧ w'.cell? ⟨w.heap.size + 1, 1, none⟩ = some (.string B.t) ∧ w'.cell? ⟨w.heap.size + 1, 2, none⟩ = some (.int .i64 B.n) ∧ w'.cell? ⟨w.heap.size + 1, 3, none⟩ = some (.slice q B.len d) ∧ w'.cell? ⟨w.heap.size + 1, 4, none⟩ = some (.int .i64 B.a))) := hide fun w' hb => by
    have e : ∀ (a : Addr) (v : Value), W1.cell? a = some v → w'.cell? a = some v := fun a v hv => (hb.cell (p := a) (World.block_lt_of_cell? _ _ hv)).trans hv
    obtain ⟨⟨a0, a1, a2, a3, a4⟩, ⟨b0, b1, b2, b3, b4⟩⟩ := hbx
    exact ⟨⟨e _ _ a0, e _ _ a1, e _ _ a2, e _ _ a3, e _ _ a4⟩, ⟨e _ _ b0, e _ _ b1, e _ _ b2, e _ _ b3, e _ _ b4⟩⟩
  have HB1 := hide hB1
  obtain ⟨⟨a0, a1, a2, a3, a4⟩, ⟨b0, b1, b2, b3, b4⟩⟩ := hbx
  clear hB1
  go_enter Try.func19, Try.ntmps19
  go_wp2_with (first
    | (go_at_call 21; refine (HA.out _ HB1.out).mono ?_; clear HA; rintro e w3 ⟨pv, cv, pu, cu, rfl, hrow, hb3⟩; have HR3 := hide hrow; have HB3 := hide hb3; have HCA := hide (HCe.out w3 hb3); obtain ⟨⟨s0, s1, s2, s3, s4⟩, ⟨t0, t1, t2, t3, t4⟩⟩ := HCe.out w3 hb3; clear hrow hb3 a0 a1 a2 a3 a4 b0 b1 b2 b3 b4)
    | (go_at_call 21; refine (HB.out _ (bl_trans HB1.out HB3.out)).mono ?_; clear HB; rintro e w5 ⟨pw, cw, px, cx, rfl, hrow, hb5⟩; have HR5 := hide hrow; have HRA := hide (row_below HR3.out hb5); have HB5 := hide (HB3.out.trans (hb5.mono HB3.out.size)); clear hrow hb5 s0 s1 s2 s3 s4 t0 t1 t2 t3 t4))
  clear hW1
  go_loopw [9] (fun i wr => ∃ j : Nat, j ≤ m ∧ i = .int .i64 j ∧ Below w5.heap.size w5 wr) (fun i _ => m - (intOf i).toNat)
  case atStart => exact ⟨0, Nat.zero_le _, rfl, Below.refl _ _⟩
  case round =>
    obtain ⟨j, hj, rfl, hb⟩ := hrel
    have HBr := hide hb
    have HBw := hide (HB5.out.trans (hb.mono HB5.out.size))
    clear hb
    rcases Nat.lt_or_ge j m with hlt | hge
    · have hi' : (j : Int) < (m : Int) := by omega
      obtain ⟨ga, rfl, hga, hca⟩ := row_at HRA.out (by omega)
      obtain ⟨gb, rfl, hgb, hcb⟩ := row_at HR5.out (by omega)
      have d0 := (HBr.out.cell (p := ⟨ga, j * 5 + 4, none⟩) hga).trans (hca _ _ (HXA.out j hlt))
      have d1 := (HBr.out.cell (p := ⟨gb, j * 5 + 4, none⟩) hgb).trans (hcb _ _ (HXB.out j hlt))
      have he : XB j = XA j := HEq.out j hlt
      rw [he] at d1
      clear hca hcb he
      go_wp2
      go_quiet (fail)
      go_wp2
      go_roundw
      case rel => exact ⟨j + 1, by omega, by go_num, bl_drewN HBr.out _⟩
      case measure => simp [intOf]; omega
    · have he : j = m := by omega
      subst he
      have hi' : ¬ (j : Int) < (j : Int) := by omega
      obtain ⟨⟨s0, s1, s2, s3, s4⟩, ⟨t0, t1, t2, t3, t4⟩⟩ := HCe.out wr HBw.out
      go_wp2_with (go_at_call 18; refine (HS.out _ (bl_trans HB1.out HBw.out)).mono ?_; clear HS; rintro e w7 ⟨rfl, hb7⟩; have HB7 := hide hb7; clear hb7)
      go_ret
      exact ⟨rfl, bl_trans (bl_trans HB1.out HBw.out) HB7.out⟩
end Go.Proofs.Ytdccodnompalbaa
