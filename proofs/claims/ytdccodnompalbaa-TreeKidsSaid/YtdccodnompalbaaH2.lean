/- 'tree.All', asked as long as the law's round asks: it stops where it is told. No conditions beyond the bounds that each statement names. -/
import Derived.Test.YtdccodnompalbaaH1
import Derived.Test.YtdccodnompalbaaWr
import Derived.Test.YtdccodnompalbaaQs
namespace Go.Proofs.Ytdccodnompalbaa
open Go.RowKit Go.Shelf
attribute [local go_sem] Oper.semAt_some wide_fn
attribute [local simp] wide_fn

/-- What stands between two rounds: so many were asked for. -/
structure IS (w0 w2 : World) (P : Nat → Prop) (Bc Bk Y : Nat) (k : Int) (yv : Value) (m : Nat) (W : World) : Prop where
  below : Below w0.heap.size w0 W
  cnt : OneC W Bc (.int .i64 (m : Int))
  lim : W.cell? ⟨Bk, 0, none⟩ = some (.int .i64 k)
  fy : W.cell? ⟨Y, 0, none⟩ = some yv
  keep : ∀ (p : Addr) (v : Value), P p.block → w2.cell? p = some v → W.cell? p = some v
  size : w2.heap.size ≤ W.heap.size
section
variable {w0 w2 : World} {P : Nat → Prop} {Bc Bk Y : Nat} {k : Int} {yv : Value} {m : Nat} {W W' : World}
theorem IS.new (h : IS w0 w2 P Bc Bk Y k yv m W) (hb : Below W.heap.size W W') : IS w0 w2 P Bc Bk Y k yv m W' := by
  have e : ∀ (p : Addr) (v : Value), W.cell? p = some v → W'.cell? p = some v := fun p v hv => (hb.cell (p := p) (World.block_lt_of_cell? _ _ hv)).trans hv
  exact ⟨h.below.trans (hb.mono h.below.size), h.cnt.below hb (World.block_lt_of_cell? _ _ h.cnt.1), e _ _ h.lim, e _ _ h.fy, fun p v hp hv => e _ _ (h.keep p v hp hv), Nat.le_trans h.size hb.size⟩
theorem IS.count (h : IS w0 w2 P Bc Bk Y k yv m W) (h0 : w0.heap.size ≤ Bc) (hk : Bk ≠ Bc) (hY : Y ≠ Bc) (hP : ¬ P Bc) : IS w0 w2 P Bc Bk Y k yv (m + 1) (W.setCell ⟨Bc, 0, none⟩ (.int .i64 ((m + 1 : Nat) : Int))) := by
  have e : ∀ (p : Addr) (v : Value), p.block ≠ Bc → W.cell? p = some v → (W.setCell ⟨Bc, 0, none⟩ (.int .i64 ((m + 1 : Nat) : Int))).cell? p = some v := fun p v hp hv => (World.cell?_setCell_other _ _ _ _ (fun e => hp (by rw [← e]))).trans hv
  exact ⟨h.below.setCell (p := ⟨Bc, 0, none⟩) h0 _, h.cnt.set _, e _ _ hk h.lim, e _ _ hY h.fy, fun p v hp hv => e _ _ (fun hb => hP (by rw [← hb]; exact hp)) (h.keep p v hp hv), by simpa using h.size⟩
theorem IS.own {β : Type} {B : Nat} {f : β → Nat} (hB : w0.heap.size ≤ B) : OwnFrom B (fun (s : β) W => IS w0 w2 P Bc Bk Y k yv (f s) W) := fun _ W W' row hs hg hr => by
  have e : ∀ (p : Addr) (v : Value), W.cell? p = some v → W'.cell? p = some v := fun p v hv => cell_kept hv hg (fun r e => (hr r e).2)
  exact ⟨hs.below.grown hg hs.below.size (fun k e => by have := (hr k e).1; omega), ⟨e _ _ hs.cnt.1, (frozen_kept hs.cnt.1 hg (fun r e => (hr r e).2)).trans hs.cnt.2⟩, e _ _ hs.lim, e _ _ hs.fy, fun p v hp hv => e _ _ (hs.keep p v hp hv), Nat.le_trans hs.size hg.size⟩
end
theorem zip2P {P : Nat → Prop} {W0 : World} (p q : Tmp) (x : AlP P W0) (A : Array Value) :
    (#[p, q].zip (encP x)).foldl (fun t (y : Tmp × Value) => t.setIfInBounds y.1 y.2) A = (A.setIfInBounds p x.1.1.val).setIfInBounds q (spotV x.1.2.1 x.1.2.2) := by
  simp [encP]

/-- Where a round has said 'no more'. -/
def XS (w0 w2 : World) (P : Nat → Prop) (Bc Bk Y : Nat) (k : Int) (yv : Value) (c : Code) (pre : List (AlP P w2)) (W : World) : Prop := c = .ret ∧ (pre.length : Int) = k ∧ IS w0 w2 P Bc Bk Y k yv pre.length W

set_option maxRecDepth 20000 in
set_option maxHeartbeats 4000000 in
theorem allStops_in (n : Nat) (hn : 3 ≤ n) (O : NT) (B Bc Bk : Nat) (k : Int) (w0 w : World) (hB : Cells5 w B 0 O) (hL : LiesP (fun b => Bc < b) w O) (hS : O.ok) (hd : O.depth ≤ 900) (hz : O.size ≤ 1000000)
    (h0 : w0.heap.size ≤ Bc) (hne : Bk ≠ Bc) (hb : Below w0.heap.size w0 w) (hc : OneC w Bc (.int .i64 0)) (hk : w.cell? ⟨Bk, 0, none⟩ = some (.int .i64 k)) (hk1 : 1 ≤ k) (hk2 : k ≤ (O.size : Int)) :
    CallsIn Fence.wide n Try.prog 39 #[.func (.func 28) #[] #[.pointer (some ⟨Bc, 0, none⟩), .pointer (some ⟨Bk, 0, none⟩)], .pointer (some ⟨B, 0, none⟩)] w fun e w' =>
      (∃ v, e = .returned v) ∧ OneC w' Bc (.int .i64 k) ∧ w'.cell? ⟨Bk, 0, none⟩ = some (.int .i64 k) ∧ Below w0.heap.size w0 w' := by
  have h1 : 1 ≤ n := by omega
  obtain ⟨p, c, hs, _, _⟩ := liesP_eq.1 hL
  obtain ⟨yv, hyv⟩ : ∃ yv, yv = Value.func (.func 28) #[] #[.pointer (some ⟨Bc, 0, none⟩), .pointer (some ⟨Bk, 0, none⟩)] := ⟨_, rfl⟩
  obtain ⟨w1, hw1⟩ : ∃ w1, w.alloc (Obj.cells #[.func (.func 28) #[] #[.pointer (some ⟨Bc, 0, none⟩), .pointer (some ⟨Bk, 0, none⟩)]] 26) = w1 := ⟨_, rfl⟩
  have s1 : w1.heap.size = w.heap.size + 1 := by rw [← hw1]; simp
  have b1 : Below w.heap.size w w1 := by rw [← hw1]; exact bl_alloc (Below.refl _ _) _
  have y1 : w1.cell? ⟨w.heap.size, 0, none⟩ = some yv := by rw [← hw1, cell_of_row _ w.heap.size _ _ 26 (0, 0) (World.alloc_heap_new w _), hyv]; rfl
  obtain ⟨w2, hw2⟩ : ∃ w2, w1.alloc (boxO O) = w2 := ⟨_, rfl⟩
  have s2 : w2.heap.size = w.heap.size + 2 := by rw [← hw2]; simp [s1]
  have b2 : Below w1.heap.size w1 w2 := by rw [← hw2]; exact bl_alloc (Below.refl _ _) _
  have b12 : Below w.heap.size w w2 := bl_trans b1 b2
  have e12 : ∀ (q : Addr) (v : Value), w.cell? q = some v → w2.cell? q = some v := fun q v hv => (b12.cell (p := q) (World.block_lt_of_cell? _ _ hv)).trans hv
  have hBc : Bc < w.heap.size := World.block_lt_of_cell? _ _ hc.1
  obtain ⟨P, hP⟩ : ∃ P : Nat → Prop, P = fun b => Bc < b ∧ b < w.heap.size := ⟨_, rfl⟩
  have hLP : LiesP P w2 O := by rw [hP]; exact hL.carry (fun g h1 h2 => ⟨h1, h2⟩) (fun q v _ hv => e12 q v hv)
  have hEt : Told w2.heap.size (fun (_ : World) b => b = Bc) := fun _ _ _ _ h => h
  have hInv : InvP P w.heap.size (fun (_ : World) b => b = Bc) w2 := ⟨fun b h => by rw [hP] at h; exact h.2, by omega, fun b h => ⟨fun hp => by rw [hP] at hp; have := hp.1; omega, by have : b = Bc := h; omega⟩⟩
  have hst := spotsP_stops (n - 1) w.heap.size w1.heap.size P (fun (_ : World) b => b = Bc) O w2 hEt hInv (by omega) (by rw [← hw2]; exact box_new w1 O) hLP ⟨hS, hz⟩ hd
  have hIS : IS w0 w2 P Bc Bk w.heap.size k yv 0 w2 := ⟨hb.trans (b12.mono hb.size), hc.below b12 hBc, e12 _ _ hk, (b2.cell (p := ⟨w.heap.size, 0, none⟩) (by show w.heap.size < w1.heap.size; omega)).trans y1, fun _ _ _ hv => hv, Nat.le_refl _⟩
  have hw0 : w0.heap.size ≤ w2.heap.size := by have := hb.size; omega
  have HSp := fun w2 => spots_in (n - 1) O w2
  obtain ⟨a0, a1, a2, a3, a4⟩ := hB.below b1 (World.block_lt_of_cell? _ _ hB.1)
  simp only [Nat.zero_add] at a1 a2 a3 a4
  rw [hs] at a3
  simp only [NT.val, hs, boxO] at HSp hw2
  have HIS := hide hIS
  have Hw2 := hide hw2
  have HP := hide hP
  have Hyv := hide hyv
  clear hB hL hb hc hk b1 b2 b12 e12 y1 hIS hP hw2 hInv hLP hyv
  refine callsIn_of_wp_marks Try.func39 rfl trivial ?_
  simp only [Try.ntmps39, List.size_toArray, List.length_cons, List.length_nil, Nat.reduceAdd, Nat.reduceSub, Array.replicate_succ, Array.replicate_zero, List.push_toArray, List.append_toArray, List.nil_append, List.cons_append]
  gi_wp2_with ((try refine ⟨fun h => (by cases h), ?_⟩); refine (HSp _).mono ?_; clear HSp; rintro e w' ⟨rfl, rfl⟩)
  rw [Hw2.out]
  rw [s1] at hst
  refine wpIn_rangeFunc_ownH rfl h1 (gf := 45) (lb := #[.pointer (some ⟨w.heap.size + 1, 0, none⟩)]) rfl trivial (enters_of Try.func45 (by kernel_rfl) rfl)
    hst keepG_t (keepG_b hEt (Nat.le_refl _)) (Below.refl _ _) (fun _ => rfl)
    (fun pre W => IS w0 w2 P Bc Bk w.heap.size k yv pre.length W ∧ (pre.length : Int) < k) (XS w0 w2 P Bc Bk w.heap.size k yv)
    ((IS.own hw0).and (ownFrom_pure _ _)) ?hIx ⟨HIS.out, by simp; omega⟩
    (fun (x : AlP P w2) a' W => ∃ B1, w2.heap.size ≤ B1 ∧ Cells5 W B1 0 x.1.1 ∧ a' = { tmps := #[Value.func (Fn.func 28) #[] #[Value.pointer (some ⟨Bc, 0, none⟩), Value.pointer (some ⟨Bk, 0, none⟩)], .pointer (some ⟨B, 0, none⟩), .pointer (some ⟨w.heap.size, 0, none⟩), .pointer (some ⟨B1, 0, none⟩), .agg #[.int .i64 O.k, .string O.t, .int .i64 O.n, .slice p O.len c, .int .i64 O.a], .func (.func 45) #[] #[.pointer (some ⟨w.heap.size + 1, 0, none⟩)], x.1.1.val, spotV x.1.2.1 x.1.2.2, undef, undef, undef, undef, undef], defers := [] }) ?hAx ?assign ?body ?done ?stop
  case hIx =>
    rintro c' s W W' row ⟨hc, hl, hI⟩ hg hr
    exact ⟨hc, hl, IS.own (β := Unit) (f := fun _ => s.length) hw0 () W W' row hI hg hr⟩
  case hAx =>
    rintro x a' s W W' row ⟨B1, hB1, hv, e⟩ hg hr
    exact ⟨B1, hB1, hv.of fun _ _ _ hv => cell_kept hv hg (fun r e => (hr r e).2), e⟩
  case assign =>
    intro l pre x W K hI hK
    obtain ⟨p', c', hs', _, _⟩ := liesP_eq.1 x.2.1
    have HK := hide hK
    have HI := hide hI
    clear hK hI hst
    rw [zip2P]
    simp only [NT.val, hs', spotV]
    gi_wp2
    have hv := box_new W x.1.1
    simp only [boxO, hs'] at hv
    have hbl : ∀ o, Below W.heap.size W (W.alloc o) := fun o => bl_alloc (Below.refl _ _) o
    refine HK.out _ _ ((KeepsOthers.alloc _ _).from _) (KeepG.of_below hEt HI.out.1.size (hbl _)) ⟨HI.out.1.new (hbl _), HI.out.2⟩ ⟨_, HI.out.1.size, hv, ?_⟩
    simp only [NT.val, hs', spotV]
  case body =>
    rintro l pre x a' W hl ⟨r, hr⟩ ⟨hI, hlt⟩ ⟨B1, hB1, ⟨x0, x1, x2, x3, x4⟩, rfl⟩ hlen
    obtain ⟨p', c', hs', _, _⟩ := liesP_eq.1 x.2.1
    have hLx : Lies W.heap.size W x.1.1 := (x.2.1.carry (fun _ h _ => h) hI.keep).lies
    have hcp := copy_any x.1.1 W.drew (hLx.below (Below.refl W.heap.size W).drew) x.2.2.1.1 x.2.2.2
    have hfy := hI.fy
    rw [Hyv.out] at hfy
    have HI := hide hI
    have HM := hide (show pre.length ≤ 1000000 by omega)
    have HNE := hide hne
    have HLT := hide hlt
    have hPB : ¬ P Bc := fun h => by rw [HP.out] at h; omega
    have HPB := hide hPB
    have HWB := hide (show w.heap.size ≠ Bc by omega)
    have HH0 := hide h0
    have HET := hide hEt
    have hks : ∀ (X : World) (v : Value), KeepG (fun (_ : World) b => b = Bc) X (X.setCell ⟨Bc, 0, none⟩ v) := fun X v => ⟨by simp, fun b o hb h1 _ => (Below.heap_setCell X ⟨Bc, 0, none⟩ v b hb).trans h1, fun b hb => .inl hb⟩
    have HKS := hide hks
    simp only [NT.val, hs', Nat.zero_add] at hcp x0 x1 x2 x3 x4 ⊢
    clear hLx hI hPB hks hEt h0 hr hl hst hs' hne hlen
    by_cases hk' : (pre.length : Int) + 1 < k
    · have HK' := hide hk'
      have hd : decide ((pre.length : Int) + 1 < k) = true := decide_eq_true hk'
      clear hlt hk'
      gi_wp2
      refine wpIn_region_three (by kernel_rfl) (by kernel_rfl) ?_ ?_
      · gi_wp2_with (first
          | ((try refine ⟨fun h => (by cases h), ?_⟩); refine (CallsIn.inRound l (callsIn_wide.2 hcp)).mono ?_; clear hcp; rintro e w3 ⟨U, rfl, hU, hLU, hb3⟩; obtain ⟨pu, cu, hsu, _, _⟩ := liesP_eq.1 hLU; simp only [hsu]; have hb3' : Below W.heap.size W w3 := bl_trans (Below.refl W.heap.size W).drew hb3; have HI3 := hide (HI.out.new hb3'); have hfy3 := HI3.out.fy; rw [Hyv.out] at hfy3; have hcn := count_any U.k U.t U.n pu U.len cu U.a Bc Bk pre.length k w3 HI3.out.cnt HI3.out.lim HM.out HNE.out; have HB3 := hide hb3'; clear hU hLU hb3 hb3' hsu)
          | ((try refine ⟨fun h => (by cases h), ?_⟩); refine (CallsIn.inRound l (callsIn_wide.2 hcn)).mono ?_; clear hcn; rintro e w4 ⟨rfl, W', hbW, rfl⟩; have HI4 := hide (HI3.out.new hbW); have HB4 := hide (bl_trans HB3.out hbW); clear hbW))
        refine ⟨((keepsOthers_new HB4.out).trans (KeepsOthers.setCell _ _ _)).from _, (KeepG.of_below HET.out HI.out.size HB4.out).trans (HKS.out _ _), ?_, ?_⟩
        · have := HI4.out.count HH0.out HNE.out HWB.out HPB.out
          simpa using this
        · have := HK'.out
          simp
          omega
      · gi_wp2
        refine ⟨?_, ?_⟩
        · gi_wp2_with (first
            | ((try refine ⟨fun h => (by cases h), ?_⟩); refine (CallsIn.inRound l (callsIn_wide.2 hcp)).mono ?_; clear hcp; rintro e w3 ⟨U, rfl, hU, hLU, hb3⟩; obtain ⟨pu, cu, hsu, _, _⟩ := liesP_eq.1 hLU; simp only [hsu]; have hb3' : Below W.heap.size W w3 := bl_trans (Below.refl W.heap.size W).drew hb3; have HI3 := hide (HI.out.new hb3'); have hfy3 := HI3.out.fy; rw [Hyv.out] at hfy3; have hcn := count_any U.k U.t U.n pu U.len cu U.a Bc Bk pre.length k w3 HI3.out.cnt HI3.out.lim HM.out HNE.out; have HB3 := hide hb3'; clear hU hLU hb3 hb3' hsu)
            | ((try refine ⟨fun h => (by cases h), ?_⟩); refine (CallsIn.inRound l (callsIn_wide.2 hcn)).mono ?_; clear hcn; rintro e w4 ⟨rfl, W', hbW, rfl⟩; have HI4 := hide (HI3.out.new hbW); have HB4 := hide (bl_trans HB3.out hbW); clear hbW))
          refine ⟨((keepsOthers_new HB4.out).trans (KeepsOthers.setCell _ _ _)).from _, (KeepG.of_below HET.out HI.out.size HB4.out).trans (HKS.out _ _), ?_, ?_⟩
          · have := HI4.out.count HH0.out HNE.out HWB.out HPB.out
            simpa using this
          · have := HK'.out
            simp
            omega
        · gi_wp2_with (first
            | ((try refine ⟨fun h => (by cases h), ?_⟩); refine (CallsIn.inRound l (callsIn_wide.2 hcp)).mono ?_; clear hcp; rintro e w3 ⟨U, rfl, hU, hLU, hb3⟩; obtain ⟨pu, cu, hsu, _, _⟩ := liesP_eq.1 hLU; simp only [hsu]; have hb3' : Below W.heap.size W w3 := bl_trans (Below.refl W.heap.size W).drew hb3; have HI3 := hide (HI.out.new hb3'); have hfy3 := HI3.out.fy; rw [Hyv.out] at hfy3; have hcn := count_any U.k U.t U.n pu U.len cu U.a Bc Bk pre.length k w3 HI3.out.cnt HI3.out.lim HM.out HNE.out; have HB3 := hide hb3'; clear hU hLU hb3 hb3' hsu)
            | ((try refine ⟨fun h => (by cases h), ?_⟩); refine (CallsIn.inRound l (callsIn_wide.2 hcn)).mono ?_; clear hcn; rintro e w4 ⟨rfl, W', hbW, rfl⟩; have HI4 := hide (HI3.out.new hbW); have HB4 := hide (bl_trans HB3.out hbW); clear hbW))
          refine ⟨((keepsOthers_new HB4.out).trans (KeepsOthers.setCell _ _ _)).from _, (KeepG.of_below HET.out HI.out.size HB4.out).trans (HKS.out _ _), ?_, ?_⟩
          · have := HI4.out.count HH0.out HNE.out HWB.out HPB.out
            simpa using this
          · have := HK'.out
            simp
            omega
    · have HK' := hide hk'
      have hd : decide ((pre.length : Int) + 1 < k) = false := decide_eq_false hk'
      clear hlt hk'
      gi_wp2
      refine wpIn_region_three (by kernel_rfl) (by kernel_rfl) ?_ ?_
      · gi_wp2_with (first
          | ((try refine ⟨fun h => (by cases h), ?_⟩); refine (CallsIn.inRound l (callsIn_wide.2 hcp)).mono ?_; clear hcp; rintro e w3 ⟨U, rfl, hU, hLU, hb3⟩; obtain ⟨pu, cu, hsu, _, _⟩ := liesP_eq.1 hLU; simp only [hsu]; have hb3' : Below W.heap.size W w3 := bl_trans (Below.refl W.heap.size W).drew hb3; have HI3 := hide (HI.out.new hb3'); have hfy3 := HI3.out.fy; rw [Hyv.out] at hfy3; have hcn := count_any U.k U.t U.n pu U.len cu U.a Bc Bk pre.length k w3 HI3.out.cnt HI3.out.lim HM.out HNE.out; have HB3 := hide hb3'; clear hU hLU hb3 hb3' hsu)
          | ((try refine ⟨fun h => (by cases h), ?_⟩); refine (CallsIn.inRound l (callsIn_wide.2 hcn)).mono ?_; clear hcn; rintro e w4 ⟨rfl, W', hbW, rfl⟩; have HI4 := hide (HI3.out.new hbW); have HB4 := hide (bl_trans HB3.out hbW); clear hbW))
        refine ⟨((keepsOthers_new HB4.out).trans (KeepsOthers.setCell _ _ _)).from _, rfl, ?_, ?_⟩
        · have := HK'.out
          have := HLT.out
          simp
          omega
        · have := HI4.out.count HH0.out HNE.out HWB.out HPB.out
          simpa using this
      · gi_wp2
        refine ⟨?_, ?_⟩
        · gi_wp2_with (first
            | ((try refine ⟨fun h => (by cases h), ?_⟩); refine (CallsIn.inRound l (callsIn_wide.2 hcp)).mono ?_; clear hcp; rintro e w3 ⟨U, rfl, hU, hLU, hb3⟩; obtain ⟨pu, cu, hsu, _, _⟩ := liesP_eq.1 hLU; simp only [hsu]; have hb3' : Below W.heap.size W w3 := bl_trans (Below.refl W.heap.size W).drew hb3; have HI3 := hide (HI.out.new hb3'); have hfy3 := HI3.out.fy; rw [Hyv.out] at hfy3; have hcn := count_any U.k U.t U.n pu U.len cu U.a Bc Bk pre.length k w3 HI3.out.cnt HI3.out.lim HM.out HNE.out; have HB3 := hide hb3'; clear hU hLU hb3 hb3' hsu)
            | ((try refine ⟨fun h => (by cases h), ?_⟩); refine (CallsIn.inRound l (callsIn_wide.2 hcn)).mono ?_; clear hcn; rintro e w4 ⟨rfl, W', hbW, rfl⟩; have HI4 := hide (HI3.out.new hbW); have HB4 := hide (bl_trans HB3.out hbW); clear hbW))
          refine ⟨((keepsOthers_new HB4.out).trans (KeepsOthers.setCell _ _ _)).from _, rfl, ?_, ?_⟩
          · have := HK'.out
            have := HLT.out
            simp
            omega
          · have := HI4.out.count HH0.out HNE.out HWB.out HPB.out
            simpa using this
        · gi_wp2_with (first
            | ((try refine ⟨fun h => (by cases h), ?_⟩); refine (CallsIn.inRound l (callsIn_wide.2 hcp)).mono ?_; clear hcp; rintro e w3 ⟨U, rfl, hU, hLU, hb3⟩; obtain ⟨pu, cu, hsu, _, _⟩ := liesP_eq.1 hLU; simp only [hsu]; have hb3' : Below W.heap.size W w3 := bl_trans (Below.refl W.heap.size W).drew hb3; have HI3 := hide (HI.out.new hb3'); have hfy3 := HI3.out.fy; rw [Hyv.out] at hfy3; have hcn := count_any U.k U.t U.n pu U.len cu U.a Bc Bk pre.length k w3 HI3.out.cnt HI3.out.lim HM.out HNE.out; have HB3 := hide hb3'; clear hU hLU hb3 hb3' hsu)
            | ((try refine ⟨fun h => (by cases h), ?_⟩); refine (CallsIn.inRound l (callsIn_wide.2 hcn)).mono ?_; clear hcn; rintro e w4 ⟨rfl, W', hbW, rfl⟩; have HI4 := hide (HI3.out.new hbW); have HB4 := hide (bl_trans HB3.out hbW); clear hbW))
          refine ⟨((keepsOthers_new HB4.out).trans (KeepsOthers.setCell _ _ _)).from _, rfl, ?_, ?_⟩
          · have := HK'.out
            have := HLT.out
            simp
            omega
          · have := HI4.out.count HH0.out HNE.out HWB.out HPB.out
            simpa using this
  case done =>
    rintro D ys W hle hys ⟨hI, hlt⟩ hK
    have hl : (ys.length : Int) = (O.size : Int) := by
      have := congrArg List.length hys
      rw [List.length_map, NT.pres_len] at this
      omega
    omega
  case stop =>
    rintro D c' pre W hle _ ⟨rfl, hpk, hI⟩ hK
    have HI := hide hI
    have HPK := hide hpk
    have HK := hide hK
    have HLE := hide hle
    clear hI hpk hK hst hle
    gi_wp2
    refine ⟨by simp, .inl ⟨_, _, rfl, run_takeDeferred HK.out, ?_⟩⟩
    have hgr := grownBy_putObj' W D (.deferred none)
    have hrw : ∀ r, some D = some r → ∃ o : Obj, W.heap[r]? = some o ∧ o.isCells = false := fun r e => by cases e; exact ⟨_, HK.out, rfl⟩
    have hIe : IS w0 w2 P Bc Bk w.heap.size k yv pre.length (W.putObj D (.deferred none)) := IS.own (β := Unit) (f := fun _ => pre.length) hw0 () W _ (some D) HI.out hgr (fun r e => ⟨by cases e; exact HLE.out, hrw r e⟩)
    refine ⟨.tuple #[], by simp [results, Try.results39, go_sem], ⟨_, rfl⟩, ?_, hIe.lim, hIe.below⟩
    rw [← HPK.out]
    exact hIe.cnt
end Go.Proofs.Ytdccodnompalbaa
