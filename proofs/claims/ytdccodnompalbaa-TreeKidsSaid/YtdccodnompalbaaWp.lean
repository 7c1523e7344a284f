/- 'tree.walk' and 'tree.spots', where some blocks may turn from round to round: every node comes, in order, as long as the round asks for more. No conditions beyond those that each statement names. -/
import Derived.Test.YtdccodnompalbaaW2
import Derived.Test.YtdccodnompalbaaSp
import Derived.Test.YtdccodnompalbaaQr
namespace Go.Proofs.Ytdccodnompalbaa
open Go.RowKit Go.Shelf
attribute [local go_sem] Oper.semAt_some wide_fn
attribute [local simp] wide_fn

/-- The blocks that may turn are there, and none of P's; P's lie below n₀. -/
def InvP (P : Nat → Prop) (n₀ : Nat) (E : World → Nat → Prop) (W : World) : Prop := (∀ b, P b → b < n₀) ∧ n₀ ≤ W.heap.size ∧ ∀ b, E W b → ¬ P b ∧ b < W.heap.size
theorem KeepG.invP {P : Nat → Prop} {n₀ : Nat} {E : World → Nat → Prop} {W W' : World} (h : KeepG E W W') (hi : InvP P n₀ E W) : InvP P n₀ E W' :=
  ⟨hi.1, Nat.le_trans hi.2.1 h.size, fun b hb => by
    have h1 := h.size
    have h2 := hi.2.1
    rcases h.more b hb with h3 | h3
    · have := hi.2.2 b h3; exact ⟨this.1, by omega⟩
    · exact ⟨fun hp => by have := hi.1 b hp; omega, h3.2⟩⟩
theorem LiesP.keepG {P : Nat → Prop} {n₀ : Nat} {E : World → Nat → Prop} {W W' : World} {T : NT} (h : LiesP P W T) (hi : InvP P n₀ E W) (hk : KeepG E W W') : LiesP P W' T :=
  h.carry (fun _ hp _ => hp) fun _ _ hp hv => hk.cell (fun he => (hi.2.2 _ he).1 hp) hv
/-- Texts and numbers of kids, and of nodes, that a machine holds. -/
def NT.oks (T : NT) : Prop := T.ok ∧ T.size ≤ 1000000
theorem NT.oks_kid {T : NT} (h : T.oks) {i : Nat} (hi : i < T.len) : (T.kid i).oks := ⟨NT.ok_kid h.1 hi, by
  have h1 : (T.kid i).size ≤ sumN (fun i => (T.kid i).size) T.len := sumN_le (f := fun i => (T.kid i).size) hi
  have := NT.size_eq T
  have := h.2
  omega⟩
/-- What comes: a node that lies in the first world, with its depth and role. -/
abbrev AlP (P : Nat → Prop) (W0 : World) := { x : Spot // LiesP P W0 x.1 ∧ x.1.oks }
def encP {P : Nat → Prop} {W0 : World} (x : AlP P W0) : Array Value := #[x.1.1.val, spotV x.1.2.1 x.1.2.2]

/-- All have come; or a round has said 'no more'. -/
def WalkPP {P : Nat → Prop} {W0 : World} (E : World → Nat → Prop) (J Jx : List (AlP P W0) → World → Prop) (L : List Spot) (pre : List (AlP P W0)) (W : World) (e : Ending) (W' : World) : Prop :=
  (e = .returned (.bool true) ∧ ∃ ys : List (AlP P W0), ys.map (·.1) = L ∧ J (pre ++ ys) W' ∧ KeepG E W W') ∨
  (e = .returned (.bool false) ∧ ∃ ys : List (AlP P W0), ys.map (·.1) <+: L ∧ ys ≠ [] ∧ Jx (pre ++ ys) W')

set_option maxHeartbeats 2000000 in
theorem walkP_in (l n₀ D N : Nat) (P : Nat → Prop) (E : World → Nat → Prop) (hE : Told D E) (W0 : World) (J Jx : List (AlP P W0) → World → Prop)
    (hY : ∀ m pre x W, J pre W → pre.length < N → YieldAt Fence.wide m Try.prog l (encP x) W fun e W' =>
      (e = .returned (.bool true) ∧ J (pre ++ [x]) W' ∧ KeepG E W W') ∨ (e = .returned (.bool false) ∧ Jx (pre ++ [x]) W'))
    (hJ : ∀ pre W W', J pre W → W.grownBy W' none → J pre W') (T : NT) :
    ∀ (n : Nat) (d r : Int) (pre : List (AlP P W0)) (W : World), LiesP P W0 T → LiesP P W T → T.oks → 0 ≤ d → d + T.depth ≤ 1000 → D ≤ W.heap.size → InvP P n₀ E W → J pre W → pre.length + T.size ≤ N →
      CallsIn Fence.wide n Try.prog 46 #[T.val, spotV d r, .func (.yield l) #[] #[]] W (WalkPP E J Jx (T.pres d r) pre W) := by
  induction T using NT.ind with
  | _ T ih =>
    intro n d r pre W hL0 hL hS hd hd2 hDW hI hJ0 hN
    have hsz := NT.size_eq T
    have hdp := NT.depth_eq T
    have HP := hide (NT.pres_eq T d r)
    obtain ⟨p, c, hs, ⟨hlc, _⟩, hK⟩ := liesP_eq.1 hL
    obtain ⟨ht, hl, hS'⟩ := (NT.sized_eq _ _).1 hS.1.1
    have ht' : T.t.size ≤ 9223372036854775807 := ht
    have hl' : T.len ≤ 9223372036854775807 := hl
    obtain ⟨x0, hx0⟩ : ∃ x0 : AlP P W0, x0 = ⟨(T, d, r), hL0, hS⟩ := ⟨_, rfl⟩
    have henc : encP x0 = #[.agg #[.int .i64 T.k, .string T.t, .int .i64 T.n, .slice p T.len c, .int .i64 T.a], .agg #[.int .i64 d, .int .i64 r]] := by rw [hx0, ← hs]; rfl
    have hB2 := two_new W T d r
    have hok : ∀ i, i < T.len → (T.kid i).oks := fun i hi => NT.oks_kid hS hi
    have hLk : ∀ i, i < T.len → LiesP P W0 (T.kid i) := fun i hi => by
      obtain ⟨_, _, _, _, h3⟩ := liesP_eq.1 hL0
      obtain ⟨_, _, _, _, h4⟩ := h3 (by omega)
      exact (h4 i hi).2
    have hx1 : x0.1 = (T, d, r) := by rw [hx0]
    clear hx0
    have hx0 := hx1
    clear hx1
    clear hL hL0 hS
    simp only [NT.val, spotV, boxO] at hB2 ⊢
    rw [hs] at hB2 ⊢
    have hc3 : Cells5 ((W.alloc (Obj.cells #[.int .i64 T.k, .string T.t, .int .i64 T.n, .slice p T.len c, .int .i64 T.a] 24)).alloc (Obj.cells #[.int .i64 d, .int .i64 r] 55)) W.heap.size 0 T := hB2.1
    replace hB2 := hB2.2
    obtain ⟨b0, b1, b2, b3, b4⟩ := hc3
    rw [hs] at b3
    clear hs
    generalize T.k = k at *
    generalize T.t = t at *
    generalize T.n = nn at *
    generalize T.a = a at *
    generalize T.len = len at *
    generalize T.kid = kid at *
    obtain ⟨W1, hW1⟩ : ∃ W1, ((W.alloc (Obj.cells #[.int .i64 k, .string t, .int .i64 nn, .slice p len c, .int .i64 a] 24)).alloc (Obj.cells #[.int .i64 d, .int .i64 r] 55)) = W1 := ⟨_, rfl⟩
    rw [hW1] at hB2 b0 b1 b2 b3 b4
    obtain ⟨s0, s1⟩ := hB2
    have hg1 : W.grownBy W1 none := by rw [← hW1]; exact (World.grownBy_alloc _ _ _).trans (World.grownBy_alloc _ _ _)
    have hJ1 := hJ _ _ _ hJ0 hg1
    have hbw : Below W.heap.size W W1 := (Below.refl _ W).grown hg1 (Nat.le_refl _) (fun _ e => by cases e)
    have hkw1 : KeepG E W W1 := KeepG.of_below hE hDW hbw
    have hnew : ∀ b, W.heap.size ≤ b → ¬ E W1 b := fun b hb he => by
      have := (hI.2.2 b (hE W W1 b (fun k hk => hbw.block k (by omega)) he)).2
      omega
    have hne0 := hnew W.heap.size (Nat.le_refl _)
    have hne1 := hnew (W.heap.size + 1) (by omega)
    clear hnew
    obtain ⟨fn, tmps, assign, body, hy, hR⟩ := hY (n - 1) pre x0 W1 hJ1 (by omega)
    rw [henc] at hy
    clear hY
    refine callsIn_of_wp Try.func46 rfl trivial ?_
    simp only [Try.ntmps46, List.size_toArray, List.length_cons, List.length_nil, Nat.reduceAdd, Nat.reduceSub, Array.replicate_succ, Array.replicate_zero, List.push_toArray, List.append_toArray, List.nil_append, List.cons_append]
    gi_wp2
    refine ⟨fun h => (by cases h), hR.mono ?_⟩
    clear hR
    rintro e W2 (⟨rfl, hJ2, hk2⟩ | ⟨rfl, hx2⟩)
    · have q3 := hk2.cell (p := ⟨W.heap.size, 3, none⟩) hne0 b3
      gi_wp2
      have HJ2 := hide hJ2
      clear hJ2 hJ0 hJ1 q3
      obtain ⟨FL, hFL⟩ : ∃ FL : Nat → List Spot, FL = fun i => (kid i).pres (d + 1) (roleM k r i) := ⟨_, rfl⟩
      rw [← hFL] at HP
      have HPA : Hid (x0.1 :: flatN FL len = T.pres d r) := hide (by rw [HP.out, hx0])
      have HPX : Hid (∀ (j : Nat) (z : List Spot), j < len → z <+: FL j → x0.1 :: (flatN FL j ++ z) <+: T.pres d r) := hide fun j z hj hz => by
        rw [← HPA.out, List.cons_prefix_cons]
        exact ⟨rfl, ((List.prefix_append_right_inj _).2 hz).trans (flatN_upto hj)⟩
      clear HP
      gi_loopw [17] (fun i wr => ∃ (j : Nat) (ys : List (AlP P W0)), j ≤ len ∧ i = .int .i64 j ∧ ys.map (·.1) = flatN FL j ∧ J (pre ++ [x0] ++ ys) wr ∧ KeepG E W1 wr) (fun i _ => len - (intOf i).toNat)
      case atStart => exact ⟨0, [], Nat.zero_le _, rfl, rfl, by simpa using HJ2.out, hk2⟩
      case round =>
        obtain ⟨j, ys, hj, rfl, hys, hJr, hkr⟩ := hrel
        rcases Nat.lt_or_ge j len with hlt | hge
        · have hi' : (j : Int) < (len : Int) := by omega
          obtain ⟨g, off, rfl, hg, hC⟩ := hK (by omega)
          have hkW : KeepG E W wr := hkw1.trans hkr
          obtain ⟨c0, c1, c2, c3, c4⟩ := ((hC j hlt).1.keepG hkW (fun he => (hI.2.2 g he).1 hg)).nat
          have q0 := hkr.cell (p := ⟨W.heap.size, 0, none⟩) hne0 b0
          have r0 := hkr.cell (p := ⟨W.heap.size + 1, 0, none⟩) hne1 s0
          have r1 := hkr.cell (p := ⟨W.heap.size + 1, 1, none⟩) hne1 s1
          obtain ⟨p', c', hs', _, _⟩ := liesP_eq.1 (hC j hlt).2
          have hL0j : LiesP P W0 (kid j) := hLk j hlt
          have hlen : (pre ++ [x0] ++ ys).length + (kid j).size ≤ N := by
            have h1 : ys.length = (flatN FL j).length := by rw [← hys, List.length_map]
            rw [flatN_len, sumN_congr (g := fun i => (kid i).size) (fun i _ => by rw [hFL]; exact NT.pres_len _ _ _)] at h1
            have h2 : sumN (fun i => (kid i).size) j + (kid j).size ≤ sumN (fun i => (kid i).size) len := sumN_upto hlt
            simp only [List.length_append, List.length_cons, List.length_nil]
            omega
          have HIH := hide (fun W5 (hk5 : KeepG E W W5) (hJ5 : J (pre ++ [x0] ++ ys) W5) => ih j hlt (n - 1) (d + 1) (roleM k r j) (pre ++ [x0] ++ ys) W5 hL0j ((hC j hlt).2.keepG hI hk5) (hok j hlt) (by omega) (by have : (kid j).depth ≤ maxN (fun i => (kid i).depth) len := maxN_le (f := fun i => (kid i).depth) hlt; omega) (Nat.le_trans hDW hk5.size) (hk5.invP hI) hJ5 hlen)
          clear hlen hL0j
          obtain ⟨W5, hW5⟩ : ∃ W5, wr.alloc (Obj.cells #[.int .i64 (kid j).k, .string (kid j).t, .int .i64 (kid j).n, .slice p' (kid j).len c', .int .i64 (kid j).a] 24) = W5 := ⟨_, rfl⟩
          have hB5 := box_new wr (kid j)
          simp only [boxO, hs'] at hB5
          rw [hW5] at hB5
          obtain ⟨v0, v1, v2, v3, v4⟩ := hB5
          rw [hs'] at v3 c3
          have hg5 : wr.grownBy W5 none := by rw [← hW5]; exact World.grownBy_alloc _ _ _
          have hb5 : Below wr.heap.size wr W5 := by rw [← hW5]; exact bl_alloc (Below.refl _ _) _
          have hsr : D ≤ wr.heap.size := Nat.le_trans hDW hkW.size
          have q0' := (hb5.cell (p := ⟨W.heap.size, 0, none⟩) (World.block_lt_of_cell? _ _ q0)).trans q0
          have r0' := (hb5.cell (p := ⟨W.heap.size + 1, 0, none⟩) (World.block_lt_of_cell? _ _ r0)).trans r0
          have r1' := (hb5.cell (p := ⟨W.heap.size + 1, 1, none⟩) (World.block_lt_of_cell? _ _ r1)).trans r1
          have HI : ∀ nq, CallsIn Fence.wide (n - 1) Try.prog 46 #[(kid j).val, spotV (d + 1) (roleM k r j), .func (.yield l) #[] #[]] (W5.drewN nq) (WalkPP E J Jx ((kid j).pres (d + 1) (roleM k r j)) (pre ++ [x0] ++ ys) (W5.drewN nq)) := fun nq => HIH.out (W5.drewN nq) ((hkW.trans (KeepG.of_below hE hsr hb5)).drewN hE nq) (hJ _ _ _ (hJ _ _ _ hJr hg5) (grownBy_drewN _ _))
          simp only [NT.val, hs', spotV] at HI
          have hd1 : wrap64 (d + 1) = d + 1 := IntWalk.wrap64_in _ (by omega)
          have HYs := hide hys
          have HKr := hide (hkr.trans (KeepG.of_below hE hsr hb5))
          have HFL := hide (show FL j = (kid j).pres (d + 1) (roleM k r j) by rw [hFL])
          have hro : ∀ w, Calls Try.prog 58 #[.int .i64 k, .int .i64 r, .int .i64 j] w fun e w' => e = .returned (.int .i64 (roleM k r j)) ∧ w' = w := fun w => (roleOf_any k r j (Nat.le_trans hj hl) w).mono fun _ _ h => ⟨h.1, h.2.symm⟩
          clear hne0 hne1 hkw1 hbw hI b0 b1 b2 b3 b4 s0 s1 HIH hC hk2 hkr hys hkW hd hd2 hlc hg1 hx0 henc hy hsz hdp hS' hK ih hFL hJ hok hLk
          gi_wp2
          refine wpIn_region_quiet_tail 12 rfl (by kernel_rfl) (by kernel_rfl) ?_
          simp only [List.take_succ_cons, List.take_zero, List.drop_succ_cons, List.drop_zero]
          iterate 9 (gi_big_quiet_step (fail))
          gi_big_quiet_step ((refine ⟨fun h => (by cases h), ?_⟩; exact CallsIn.quiet_of_same (callsIn_wide.2 (hro _))))
          iterate 2 (gi_big_quiet_step (fail))
          refine wpQuietIn_nil ?_
          rintro _ ⟨nq, rfl⟩
          have HI' := HI nq
          clear HI hro
          gi_wp2_with (refine ⟨fun h => (by cases h), ?_⟩; refine HI'.mono ?_; clear HI'; rintro e w2 (⟨rfl, zs, hz, hJz, hkz⟩ | ⟨rfl, zs, hz, hz0, hxz⟩))
          · go_roundw
            case rel => exact ⟨j + 1, ys ++ zs, by omega, by go_num, by rw [List.map_append, HYs.out, hz, flatN, HFL.out], by simpa using hJz, (HKr.out.drewN hE nq).trans hkz⟩
            case measure => simp [intOf]; omega
          · go_ret
            refine .inr ⟨rfl, [x0] ++ ys ++ zs, ?_, by simp, by simpa using hxz⟩
            have := HPX.out j (zs.map (·.1)) hlt (by rw [HFL.out]; exact hz)
            simpa [HYs.out] using this
        · have he : j = len := by omega
          subst he
          have HYs := hide hys
          have HKr := hide (hkw1.trans hkr)
          have HJr := hide hJr
          clear hne0 hne1 hkw1 hbw hI b0 b1 b2 b3 b4 s0 s1 hk2 hkr hys hd hd2 hlc hg1 hx0 henc hy hsz hdp hS' hK ih hFL hJ hJr HPX hok hLk
          gi_wp2
          go_ret
          refine .inl ⟨rfl, [x0] ++ ys, ?_, by simpa using HJr.out, HKr.out⟩
          rw [List.map_append, HYs.out]
          exact HPA.out
    · clear hne0 hne1 hkw1 hbw hI
      gi_wp2
      go_ret
      exact .inr ⟨rfl, [x0], by rw [HP.out, List.map_cons, List.map_nil, hx0]; exact ⟨_, rfl⟩, by simp, hx2⟩
/-- The function value that 'spots' hands back. -/
theorem spots1P_in (n l n₀ D B : Nat) (P : Nat → Prop) (E : World → Nat → Prop) (hE : Told D E) (W0 : World) (T : NT) (J Jx : List (AlP P W0) → World → Prop)
    (hY : ∀ m pre x W, J pre W → pre.length < T.size → YieldAt Fence.wide m Try.prog l (encP x) W fun e W' =>
      (e = .returned (.bool true) ∧ J (pre ++ [x]) W' ∧ KeepG E W W') ∨ (e = .returned (.bool false) ∧ Jx (pre ++ [x]) W'))
    (hJ : ∀ pre W W', J pre W → W.grownBy W' none → J pre W') (W : World) (hL0 : LiesP P W0 T) (hL : LiesP P W T) (hS : T.oks) (hd : T.depth ≤ 900) (hD : D ≤ W.heap.size) (hI : InvP P n₀ E W)
    (hb : Cells5 W B 0 T) (h0 : J [] W) :
    CallsIn Fence.wide n Try.prog 45 #[.func (.yield l) #[] #[], .pointer (some ⟨B, 0, none⟩)] W fun e W' => (∃ v, e = .returned v) ∧
      ((∃ ys : List (AlP P W0), ys.map (·.1) = T.pres 1 0 ∧ J ys W') ∨ (∃ ys : List (AlP P W0), (ys.map (·.1) <+: T.pres 1 0 ∧ ys ≠ []) ∧ Jx ys W')) := by
  obtain ⟨p, c, hs, _, _⟩ := liesP_eq.1 hL
  obtain ⟨b0, b1, b2, b3, b4⟩ := hb
  have HW := walkP_in l n₀ D T.size P E hE W0 J Jx hY hJ T (n - 1) 1 0 [] W hL0 hL hS (by omega) (by omega) hD hI h0 (by simp)
  rw [hs] at b3
  simp only [NT.val, spotV, hs] at HW
  clear hL0 hL hY hJ hS hs hd hD h0 hI hE
  refine callsIn_of_wp Try.func45 rfl trivial ?_
  simp only [Try.ntmps45, List.size_toArray, List.length_cons, List.length_nil, Nat.reduceAdd, Nat.reduceSub, Array.replicate_succ, Array.replicate_zero, List.push_toArray, List.append_toArray, List.nil_append, List.cons_append]
  gi_wp2_with (refine ⟨fun h => (by cases h), ?_⟩; refine HW.mono ?_; clear HW; rintro e w2 (⟨rfl, ys, hy, hj, _⟩ | ⟨rfl, ys, hy, hy0, hx⟩))
  · go_end0
    exact ⟨⟨_, rfl⟩, .inl ⟨ys, hy, by simpa using hj⟩⟩
  · go_end0
    exact ⟨⟨_, rfl⟩, .inr ⟨ys, ⟨hy, hy0⟩, by simpa using hx⟩⟩

/-- **'spots(n)' stops**, where some blocks may turn: all nodes in order, or a part of them. -/
theorem spotsP_stops (n n₀ B : Nat) (P : Nat → Prop) (E : World → Nat → Prop) (T : NT) (w : World) (hE : Told w.heap.size E) (hI : InvP P n₀ E w) (hB : B < w.heap.size) (hb : Cells5 w B 0 T) (hL : LiesP P w T) (hS : T.oks) (hd : T.depth ≤ 900) :
    SeqStopsK Fence.wide n Try.prog 45 #[.pointer (some ⟨B, 0, none⟩)] (encP (P := P) (W0 := w)) (KeepG E) (fun ys => ys.map (·.1) = T.pres 1 0) (fun ys => ys.map (·.1) <+: T.pres 1 0 ∧ ys ≠ []) T.size w := fun l J Jx W hW hJ _ hY h0 =>
  spots1P_in n l n₀ w.heap.size B P E hE w T J Jx (fun m pre x W1 h1 h2 => anyYield m (hY pre x W1 h1 h2)) (fun pre A A' h hg => hJ pre A A' none h hg (fun _ e => by cases e)) W hL (hL.below hW) hS hd hW.size ((KeepG.of_below hE (Nat.le_refl _) hW).invP hI) (hb.below hW hB) h0
end Go.Proofs.Ytdccodnompalbaa
