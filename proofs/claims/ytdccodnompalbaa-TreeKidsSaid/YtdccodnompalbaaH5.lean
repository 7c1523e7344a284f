/- 'tree.All', asked for all, walked. No conditions beyond the bounds that each statement names. -/
import Derived.Test.YtdccodnompalbaaH4
namespace Go.Proofs.Ytdccodnompalbaa
open Go.RowKit Go.Shelf
attribute [local go_sem] Oper.semAt_some wide_fn
attribute [local simp] wide_fn

set_option maxRecDepth 20000 in
set_option maxHeartbeats 4000000 in
theorem allNodes_in (n : Nat) (hn : 3 ≤ n) (O : NT) (B Bl Bm : Nat) (w0 w : World) (hB : Cells5 w B 0 O) (hL : LiesP (fun b => Bl < b) w O) (hS : O.ok) (hd : O.depth ≤ 900) (hz : O.size ≤ 1000000)
    (h0 : w0.heap.size ≤ Bl) (hne : Bm ≠ Bl) (hb : Below w0.heap.size w0 w) (hc : OneC w Bl (.slice none 0 0)) (hk : w.cell? ⟨Bm, 0, none⟩ = some (.int .i64 (O.size : Int))) :
    CallsIn Fence.wide n Try.prog 39 #[.func (.func 37) #[] #[.pointer (some ⟨Bl, 0, none⟩), .pointer (some ⟨Bm, 0, none⟩)], .pointer (some ⟨B, 0, none⟩)] w fun e w' =>
      (∃ v, e = .returned v) ∧ Below w0.heap.size w0 w' ∧ ∃ (V : Nat → NT) (p : Option Addr) (c : Nat), OneC w' Bl (.slice p O.size c) ∧ w'.ownsRow w.heap.size 24 5 (.slice p O.size c) O.size (flatV V O.size) ∧
        ∀ i x, (O.pres 1 0)[i]? = some x → Copied x.1 (V i) ∧ Lies w'.heap.size w' (V i) := by
  have h1 : 1 ≤ n := by omega
  obtain ⟨p, c, hs, _, _⟩ := liesP_eq.1 hL
  obtain ⟨yv, hyv⟩ : ∃ yv, yv = Value.func (.func 37) #[] #[.pointer (some ⟨Bl, 0, none⟩), .pointer (some ⟨Bm, 0, none⟩)] := ⟨_, rfl⟩
  obtain ⟨w1, hw1⟩ : ∃ w1, w.alloc (Obj.cells #[.func (.func 37) #[] #[.pointer (some ⟨Bl, 0, none⟩), .pointer (some ⟨Bm, 0, none⟩)]] 26) = w1 := ⟨_, rfl⟩
  have s1 : w1.heap.size = w.heap.size + 1 := by rw [← hw1]; simp
  have b1 : Below w.heap.size w w1 := by rw [← hw1]; exact bl_alloc (Below.refl _ _) _
  have y1 : w1.cell? ⟨w.heap.size, 0, none⟩ = some yv := by rw [← hw1, cell_of_row _ w.heap.size _ _ 26 (0, 0) (World.alloc_heap_new w _), hyv]; rfl
  obtain ⟨w2, hw2⟩ : ∃ w2, w1.alloc (boxO O) = w2 := ⟨_, rfl⟩
  have s2 : w2.heap.size = w.heap.size + 2 := by rw [← hw2]; simp [s1]
  have b2 : Below w1.heap.size w1 w2 := by rw [← hw2]; exact bl_alloc (Below.refl _ _) _
  have b12 : Below w.heap.size w w2 := bl_trans b1 b2
  have e12 : ∀ (q : Addr) (v : Value), w.cell? q = some v → w2.cell? q = some v := fun q v hv => (b12.cell (p := q) (World.block_lt_of_cell? _ _ hv)).trans hv
  have hBc : Bl < w.heap.size := World.block_lt_of_cell? _ _ hc.1
  have hBm : Bm < w.heap.size := World.block_lt_of_cell? _ _ hk
  obtain ⟨P, hP⟩ : ∃ P : Nat → Prop, P = fun b => Bl < b ∧ b < w.heap.size := ⟨_, rfl⟩
  have hLP : LiesP P w2 O := by rw [hP]; exact hL.carry (fun g h1 h2 => ⟨h1, h2⟩) (fun q v _ hv => e12 q v hv)
  have hEt : Told w2.heap.size (ER Bl) := er_told Bl _ (by omega)
  have hc2 : OneC w2 Bl (.slice none 0 0) := hc.below b12 hBc
  have hInv : InvP P w.heap.size (ER Bl) w2 := ⟨fun b h => by rw [hP] at h; exact h.2, by omega, fun b h => by
    rcases er_own hc2.1 h with h | h
    · exact ⟨fun hp => by rw [hP] at hp; have := hp.1; omega, by omega⟩
    · cases h⟩
  have hst := spotsP_stops (n - 1) w.heap.size w1.heap.size P (ER Bl) O w2 hEt hInv (by omega) (by rw [← hw2]; exact box_new w1 O) hLP ⟨hS, hz⟩ hd
  have hIS : IV w0 w2 P Bl Bm w.heap.size (O.size : Int) yv [] (fun _ => .nul) none 0 w2 := ⟨hb.trans (b12.mono hb.size), hc2, World.ownsRow_nil _ _ _ _, e12 _ _ hk, (b2.cell (p := ⟨w.heap.size, 0, none⟩) (by show w.heap.size < w1.heap.size; omega)).trans y1, fun _ _ _ hv => hv, Nat.le_refl _, fun i x hx => by simp at hx⟩
  have hw0 : w0.heap.size ≤ w2.heap.size := by have := hb.size; omega
  have HSp := fun w2 => spots_in (n - 1) O w2
  obtain ⟨a0, a1, a2, a3, a4⟩ := hB.below b1 (World.block_lt_of_cell? _ _ hB.1)
  simp only [Nat.zero_add] at a1 a2 a3 a4
  rw [hs] at a3
  simp only [NT.val, hs, boxO] at HSp hw2
  have HIS := hide hIS
  have Hw2 := hide hw2
  have HP := hide hP
  have Hyv := hide hyv
  clear hB hL hb hc hk b1 b2 b12 e12 y1 hIS hP hw2 hInv hLP hyv
  refine callsIn_of_wp_marks Try.func39 rfl trivial ?_
  simp only [Try.ntmps39, List.size_toArray, List.length_cons, List.length_nil, Nat.reduceAdd, Nat.reduceSub, Array.replicate_succ, Array.replicate_zero, List.push_toArray, List.append_toArray, List.nil_append, List.cons_append]
  gi_wp2_with ((try refine ⟨fun h => (by cases h), ?_⟩); refine (HSp _).mono ?_; clear HSp; rintro e w' ⟨rfl, rfl⟩)
  rw [Hw2.out]
  rw [s1] at hst
  refine wpIn_rangeFunc_ownH rfl h1 (gf := 45) (lb := #[.pointer (some ⟨w.heap.size + 1, 0, none⟩)]) rfl trivial (enters_of Try.func45 (by kernel_rfl) rfl)
    hst keepG_t (keepG_b hEt (Nat.le_refl _)) (Below.refl _ _) (fun _ => rfl)
    (fun pre W => ∃ V p c, IV w0 w2 P Bl Bm w.heap.size (O.size : Int) yv pre V p c W) (fun _ _ _ => False)
    (IV.own hw0) (fun _ _ _ _ _ hs _ _ => hs) ⟨_, _, _, HIS.out⟩
    (fun (x : AlP P w2) a' W => ∃ B1, w2.heap.size ≤ B1 ∧ Cells5 W B1 0 x.1.1 ∧ a' = { tmps := #[Value.func (Fn.func 37) #[] #[Value.pointer (some ⟨Bl, 0, none⟩), Value.pointer (some ⟨Bm, 0, none⟩)], .pointer (some ⟨B, 0, none⟩), .pointer (some ⟨w.heap.size, 0, none⟩), .pointer (some ⟨B1, 0, none⟩), .agg #[.int .i64 O.k, .string O.t, .int .i64 O.n, .slice p O.len c, .int .i64 O.a], .func (.func 45) #[] #[.pointer (some ⟨w.heap.size + 1, 0, none⟩)], x.1.1.val, spotV x.1.2.1 x.1.2.2, undef, undef, undef, undef, undef], defers := [] }) ?hAx ?assign ?body ?done ?stop
  case hAx =>
    rintro x a' s W W' row ⟨B1, hB1, hv, e⟩ hg hr
    exact ⟨B1, hB1, hv.of fun _ _ _ hv => cell_kept hv hg (fun r e => (hr r e).2), e⟩
  case assign =>
    intro l pre x W K hI hK
    obtain ⟨p', c', hs', _, _⟩ := liesP_eq.1 x.2.1
    have HK := hide hK
    have HI := hide hI
    clear hK hI hst
    rw [zip2P]
    simp only [NT.val, hs', spotV]
    gi_wp2
    have hv := box_new W x.1.1
    simp only [boxO, hs'] at hv
    have hbl : ∀ o, Below W.heap.size W (W.alloc o) := fun o => bl_alloc (Below.refl _ _) o
    obtain ⟨V0, p0, c0, hI0⟩ := HI.out
    refine HK.out _ _ ((KeepsOthers.alloc _ _).from _) (KeepG.of_below hEt hI0.size (hbl _)) ⟨V0, p0, c0, hI0.new (hbl _)⟩ ⟨_, hI0.size, hv, ?_⟩
    simp only [NT.val, hs', spotV]
  case body =>
    rintro l pre x a' W hl ⟨r, hr⟩ ⟨V, p2, c2, hI⟩ ⟨B1, hB1, ⟨x0, x1, x2, x3, x4⟩, rfl⟩ hlen
    obtain ⟨p', c', hs', _, _⟩ := liesP_eq.1 x.2.1
    have hLx : Lies W.heap.size W x.1.1 := (x.2.1.carry (fun _ h _ => h) hI.keep).lies
    have hcp := copy_any x.1.1 W.drew (hLx.below (Below.refl W.heap.size W).drew) x.2.2.1.1 x.2.2.2
    have hfy := hI.fy
    rw [Hyv.out] at hfy
    have HI := hide hI
    have HM := hide (show pre.length ≤ 1000000 by omega)
    have HNE := hide hne
    have HLB : Hid (Bl < w2.heap.size ∧ Bm < w2.heap.size ∧ w.heap.size < w2.heap.size ∧ w.heap.size ≠ Bl ∧ w0.heap.size ≤ w2.heap.size) := hide ⟨by omega, by omega, by omega, by omega, hw0⟩
    have HPB : Hid (∀ b, P b → b ≠ Bl ∧ b < w2.heap.size) := hide fun b h => by rw [HP.out] at h; omega
    have HH0 := hide h0
    have HET := hide hEt
    have hd : decide (((pre.length + 1 : Nat) : Int) ≤ (O.size : Int)) = true := decide_eq_true (by omega)
    have HHd := hide hd
    simp only [NT.val, hs', Nat.zero_add] at hcp x0 x1 x2 x3 x4 ⊢
    clear hLx hI hEt h0 hr hl hst hs' hne hlen hd
    gi_wp2
    refine wpIn_region_three (by kernel_rfl) (by kernel_rfl) ?_ ?_
    · gi_wp2_with (first
      | ((try refine ⟨fun h => (by cases h), ?_⟩); refine (CallsIn.inRound l (callsIn_wide.2 hcp)).mono ?_; clear hcp; rintro e w3 ⟨U, rfl, hU, hLU, hb3⟩; obtain ⟨pu, cu, hsu, _, _⟩ := liesP_eq.1 hLU; simp only [hsu]; have hb3' : Below W.heap.size W w3 := bl_trans (Below.refl W.heap.size W).drew hb3; have hI3 := HI.out.new hb3'; have hfy3 := hI3.fy; rw [Hyv.out] at hfy3; have hcn := put_any U.k U.t U.n pu U.len cu U.a Bl Bm w2.heap.size p2 pre.length c2 V (O.size : Int) w3 hI3.box hI3.row hI3.lim HM.out HLB.out.1 HLB.out.2.1 HNE.out hI3.size; rw [HHd.out] at hcn; have HI3 := hide hI3; have HB3 := hide hb3'; have HU := hide hU; have HLU := hide hLU; have HSU := hide hsu; clear hU hLU hb3 hb3' hsu hI3)
      | ((try refine ⟨fun h => (by cases h), ?_⟩); refine (CallsIn.inRound l (callsIn_wide.2 hcn)).mono ?_; clear hcn; rintro e w4 ⟨rfl, g, cap, hO4, hR4, hat4, hp4⟩; have HO4 := hide hO4; have HR4 := hide hR4; have HA4 := hide hat4; have HP4 := hide hp4; clear hO4 hR4 hat4 hp4))
      obtain ⟨kg, ko⟩ := put_keepG HI3.out.box HI3.out.row HO4.out HR4.out HA4.out HP4.out
      obtain ⟨l1, l2, l3, l4, l5⟩ := HLB.out
      exact ⟨((keepsOthers_new HB3.out).trans ko).from _, (KeepG.of_below HET.out HI.out.size HB3.out).trans kg, _, _, _, HI.out.put x HB3.out HSU.out HU.out HLU.out HH0.out l5 l1 l2 l3 HNE.out l4 HPB.out HO4.out HR4.out HA4.out HP4.out⟩
    · gi_wp2
      refine ⟨?_, ?_⟩
      · gi_wp2_with (first
        | ((try refine ⟨fun h => (by cases h), ?_⟩); refine (CallsIn.inRound l (callsIn_wide.2 hcp)).mono ?_; clear hcp; rintro e w3 ⟨U, rfl, hU, hLU, hb3⟩; obtain ⟨pu, cu, hsu, _, _⟩ := liesP_eq.1 hLU; simp only [hsu]; have hb3' : Below W.heap.size W w3 := bl_trans (Below.refl W.heap.size W).drew hb3; have hI3 := HI.out.new hb3'; have hfy3 := hI3.fy; rw [Hyv.out] at hfy3; have hcn := put_any U.k U.t U.n pu U.len cu U.a Bl Bm w2.heap.size p2 pre.length c2 V (O.size : Int) w3 hI3.box hI3.row hI3.lim HM.out HLB.out.1 HLB.out.2.1 HNE.out hI3.size; rw [HHd.out] at hcn; have HI3 := hide hI3; have HB3 := hide hb3'; have HU := hide hU; have HLU := hide hLU; have HSU := hide hsu; clear hU hLU hb3 hb3' hsu hI3)
        | ((try refine ⟨fun h => (by cases h), ?_⟩); refine (CallsIn.inRound l (callsIn_wide.2 hcn)).mono ?_; clear hcn; rintro e w4 ⟨rfl, g, cap, hO4, hR4, hat4, hp4⟩; have HO4 := hide hO4; have HR4 := hide hR4; have HA4 := hide hat4; have HP4 := hide hp4; clear hO4 hR4 hat4 hp4))
        obtain ⟨kg, ko⟩ := put_keepG HI3.out.box HI3.out.row HO4.out HR4.out HA4.out HP4.out
        obtain ⟨l1, l2, l3, l4, l5⟩ := HLB.out
        exact ⟨((keepsOthers_new HB3.out).trans ko).from _, (KeepG.of_below HET.out HI.out.size HB3.out).trans kg, _, _, _, HI.out.put x HB3.out HSU.out HU.out HLU.out HH0.out l5 l1 l2 l3 HNE.out l4 HPB.out HO4.out HR4.out HA4.out HP4.out⟩
      · gi_wp2_with (first
        | ((try refine ⟨fun h => (by cases h), ?_⟩); refine (CallsIn.inRound l (callsIn_wide.2 hcp)).mono ?_; clear hcp; rintro e w3 ⟨U, rfl, hU, hLU, hb3⟩; obtain ⟨pu, cu, hsu, _, _⟩ := liesP_eq.1 hLU; simp only [hsu]; have hb3' : Below W.heap.size W w3 := bl_trans (Below.refl W.heap.size W).drew hb3; have hI3 := HI.out.new hb3'; have hfy3 := hI3.fy; rw [Hyv.out] at hfy3; have hcn := put_any U.k U.t U.n pu U.len cu U.a Bl Bm w2.heap.size p2 pre.length c2 V (O.size : Int) w3 hI3.box hI3.row hI3.lim HM.out HLB.out.1 HLB.out.2.1 HNE.out hI3.size; rw [HHd.out] at hcn; have HI3 := hide hI3; have HB3 := hide hb3'; have HU := hide hU; have HLU := hide hLU; have HSU := hide hsu; clear hU hLU hb3 hb3' hsu hI3)
        | ((try refine ⟨fun h => (by cases h), ?_⟩); refine (CallsIn.inRound l (callsIn_wide.2 hcn)).mono ?_; clear hcn; rintro e w4 ⟨rfl, g, cap, hO4, hR4, hat4, hp4⟩; have HO4 := hide hO4; have HR4 := hide hR4; have HA4 := hide hat4; have HP4 := hide hp4; clear hO4 hR4 hat4 hp4))
        obtain ⟨kg, ko⟩ := put_keepG HI3.out.box HI3.out.row HO4.out HR4.out HA4.out HP4.out
        obtain ⟨l1, l2, l3, l4, l5⟩ := HLB.out
        exact ⟨((keepsOthers_new HB3.out).trans ko).from _, (KeepG.of_below HET.out HI.out.size HB3.out).trans kg, _, _, _, HI.out.put x HB3.out HSU.out HU.out HLU.out HH0.out l5 l1 l2 l3 HNE.out l4 HPB.out HO4.out HR4.out HA4.out HP4.out⟩
  case done =>
    rintro D ys W hle hys ⟨V, p2, c2, hI⟩ hK
    have hl : ys.length = O.size := by
      have := congrArg List.length hys
      rw [List.length_map, NT.pres_len] at this
      omega
    have HI := hide hI
    have HYS := hide hys
    have HL := hide hl
    have HK := hide hK
    have HLE := hide hle
    clear hI hys hl hK hst hle
    gi_wp2
    refine ⟨by simp, .inl ⟨_, _, rfl, run_takeDeferred HK.out, ?_⟩⟩
    have hgr := grownBy_putObj' W D (.deferred none)
    obtain ⟨V3, p3, c3, hIe⟩ := IV.own (B := w2.heap.size) (P := P) (Bl := Bl) (Bm := Bm) (Y := w.heap.size) (M := (O.size : Int)) (yv := yv) hw0 ys W (W.putObj D (.deferred none)) (some D) ⟨V, p2, c2, HI.out⟩ hgr (fun r e => by cases e; exact ⟨HLE.out, _, HK.out, rfl⟩)
    refine ⟨.tuple #[], by simp [results, Try.results39, go_sem], ⟨_, rfl⟩, hIe.below, V3, p3, c3, ?_, ?_, fun i x hx => ?_⟩
    · rw [← HL.out]; exact hIe.box
    · have := row_mono hIe.row (show w.heap.size ≤ w2.heap.size by omega)
      rw [← HL.out]; exact this
    · rw [← HYS.out, List.getElem?_map] at hx
      obtain ⟨y, hy, rfl⟩ := Option.map_eq_some_iff.1 hx
      obtain ⟨k1, k2⟩ := hIe.each i y hy
      exact ⟨k1, k2.lies⟩
  case stop =>
    rintro D c' pre W _ _ h _
    exact h.elim
end Go.Proofs.Ytdccodnompalbaa
