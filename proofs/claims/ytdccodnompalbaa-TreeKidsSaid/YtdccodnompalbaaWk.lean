/- 'tree.walk': every node of a tree comes, in order, each with its depth and its role, as long as the round asks for more. No conditions beyond those that each statement names. -/
import Derived.Test.YtdccodnompalbaaG
import Derived.Test.YtdccodnompalbaaQt
import Derived.RangeFuncBound
import Derived.RangeFuncLeaves
import Derived.RangeFuncCalls
import Derived.Shelf.Abstract
import Derived.OwnWalkIn
import Derived.TacticsInMore
import Derived.LoopIn
import Derived.LoopNIn
namespace Go.Proofs.Ytdccodnompalbaa
open Go.RowKit Go.Shelf
attribute [local go_sem] Oper.semAt_some
theorem wide_fn (f : FuncId) : Fence.wide.fn f = True := rfl
attribute [local go_sem] wide_fn
attribute [local simp] wide_fn

theorem roleOf_any (k r : Int) (i : Nat) (hi : i ≤ maxLen) (w : World) : Calls Try.prog 58 #[.int .i64 k, .int .i64 r, .int .i64 i] w fun e w' => e = .returned (.int .i64 (roleM k r i)) ∧ w = w' := by
  have hi' : i ≤ 9223372036854775807 := hi
  by_cases h5 : k = 5
  · subst h5; go_enter Try.func58, Try.ntmps58; go_wp2; go_ret; exact ⟨rfl, rfl⟩
  by_cases h9 : k = 9
  · subst h9; go_enter Try.func58, Try.ntmps58; go_wp2; go_ret; exact ⟨rfl, rfl⟩
  by_cases h23 : k = 23
  · subst h23
    rcases i with _ | i
    · go_enter Try.func58, Try.ntmps58; go_wp2; go_ret; exact ⟨rfl, rfl⟩
    · have hne : ((i + 1 : Nat) : Int) ≠ 0 := by omega
      go_enter Try.func58, Try.ntmps58; go_wp2; go_ret; exact ⟨by simp [roleM], rfl⟩
  by_cases h2 : k = 2 ∨ k = 3 ∨ k = 4
  · rcases i with _ | _ | i
    · rcases h2 with rfl | rfl | rfl <;> (go_enter Try.func58, Try.ntmps58; go_wp2; go_ret; exact ⟨rfl, rfl⟩)
    · rcases h2 with rfl | rfl | rfl <;> (go_enter Try.func58, Try.ntmps58; go_wp2; go_ret; exact ⟨rfl, rfl⟩)
    · have hne : ((i + 1 + 1 : Nat) : Int) ≠ 0 := by omega
      have hne1 : ((i + 1 + 1 : Nat) : Int) ≠ 1 := by omega
      rcases h2 with rfl | rfl | rfl <;> (go_enter Try.func58, Try.ntmps58; go_wp2; go_ret; exact ⟨by simp [roleM], rfl⟩)
  · have e : roleM k r i = 0 := by simp [roleM, h5, h9, h23, h2]
    have k2 : ¬ k = 2 := fun h => h2 (.inl h)
    have k3 : ¬ k = 3 := fun h => h2 (.inr (.inl h))
    have k4 : ¬ k = 4 := fun h => h2 (.inr (.inr h))
    have HE := hide e
    clear e h2
    go_enter Try.func58, Try.ntmps58; go_wp2; go_ret; exact ⟨ret_int HE.out.symm, rfl⟩

/-- Texts and numbers of kids that a machine holds. -/
def NT.ok (T : NT) : Prop := T.sized maxLen ∧ T.short 4000000000
theorem NT.ok_kid {T : NT} (h : T.ok) {i : Nat} (hi : i < T.len) : (T.kid i).ok := ⟨((NT.sized_eq _ _).1 h.1).2.2 i hi, ((NT.short_eq _ _).1 h.2).2 i hi⟩
/-- What comes: a node that lies in the first world, with its depth and role. -/
abbrev Al (b : Nat) (W0 : World) := { x : Spot // Lies b W0 x.1 ∧ x.1.ok }
def spotV (d r : Int) : Value := .agg #[.int .i64 d, .int .i64 r]
def encS {b : Nat} {W0 : World} (x : Al b W0) : Array Value := #[x.1.1.val, spotV x.1.2.1 x.1.2.2]

/-- The world behind a loop variable's block, newly laid and filled with a node. -/
abbrev boxZ : Obj := .cells #[.int .i64 0, .string ⟨#[]⟩, .int .i64 0, .slice none 0 0, .int .i64 0] 24

theorem two_new (w : World) (T : NT) (d r : Int) : Cells5 ((w.alloc (boxO T)).alloc (.cells #[.int .i64 d, .int .i64 r] 55)) w.heap.size 0 T ∧
    ((w.alloc (boxO T)).alloc (.cells #[.int .i64 d, .int .i64 r] 55)).cell? ⟨w.heap.size + 1, 0, none⟩ = some (.int .i64 d) ∧ ((w.alloc (boxO T)).alloc (.cells #[.int .i64 d, .int .i64 r] 55)).cell? ⟨w.heap.size + 1, 1, none⟩ = some (.int .i64 r) := by
  have hs : (w.alloc (boxO T)).heap.size = w.heap.size + 1 := by simp
  refine ⟨(box_new w T).below (b := (w.alloc (boxO T)).heap.size) (bl_alloc (Below.refl _ _) _) (by simp), ?_, ?_⟩ <;> (rw [← hs, cell_of_row _ (w.alloc (boxO T)).heap.size _ _ 55 (0, 0) (World.alloc_heap_new _ _)]; rfl)

theorem sumN_upto {f : Nat → Nat} : ∀ {n i : Nat}, i < n → sumN f i + f i ≤ sumN f n
  | 0, _, h => by omega
  | n + 1, i, h => by
    simp only [sumN]
    by_cases e : i = n
    · subst e; omega
    · have := sumN_upto (f := f) (n := n) (i := i) (by omega); omega
theorem flatN_upto {α : Type} {f : Nat → List α} : ∀ {n i : Nat}, i < n → flatN f i ++ f i <+: flatN f n
  | 0, _, h => by omega
  | n + 1, i, h => by
    simp only [flatN]
    by_cases e : i = n
    · subst e; exact List.prefix_refl _
    · exact (flatN_upto (f := f) (n := n) (i := i) (by omega)).trans (List.prefix_append _ _)
theorem grownBy_drewN (w : World) (n : Nat) : w.grownBy (w.drewN n) none := ⟨rfl, rfl, rfl, Nat.le_refl _, fun _ _ _ => rfl⟩
theorem keepC_drewN {n₀ D : Nat} {W W' : World} (h : KeepC n₀ D W W') (n : Nat) : KeepC n₀ D W (W'.drewN n) := ⟨h.size, h.same⟩

/-- All have come; or a round has said 'no more'. -/
def WalkP {b : Nat} {W0 : World} (n₀ D : Nat) (J Jx : List (Al b W0) → World → Prop) (L : List Spot) (pre : List (Al b W0)) (W : World) (e : Ending) (W' : World) : Prop :=
  (e = .returned (.bool true) ∧ ∃ ys : List (Al b W0), ys.map (·.1) = L ∧ J (pre ++ ys) W' ∧ KeepC n₀ D W W') ∨
  (e = .returned (.bool false) ∧ ∃ ys : List (Al b W0), ys.map (·.1) <+: L ∧ ys ≠ [] ∧ Jx (pre ++ ys) W')

set_option maxHeartbeats 2000000 in
theorem walk_in (l n₀ D N : Nat) (W0 : World) (J Jx : List (Al n₀ W0) → World → Prop)
    (hY : ∀ m pre x W, J pre W → pre.length < N → YieldAt Fence.wide m Try.prog l (encS x) W fun e W' =>
      (e = .returned (.bool true) ∧ J (pre ++ [x]) W' ∧ KeepC n₀ D W W') ∨ (e = .returned (.bool false) ∧ Jx (pre ++ [x]) W'))
    (hJ : ∀ pre W W', J pre W → W.grownBy W' none → J pre W') (T : NT) :
    ∀ (n : Nat) (d r : Int) (pre : List (Al n₀ W0)) (W : World), Lies n₀ W0 T → Lies n₀ W T → T.ok → 0 ≤ d → d + T.depth ≤ 1000 → n₀ ≤ D → D ≤ W.heap.size → J pre W → pre.length + T.size ≤ N →
      CallsIn Fence.wide n Try.prog 46 #[T.val, spotV d r, .func (.yield l) #[] #[]] W (WalkP n₀ D J Jx (T.pres d r) pre W) := by
  induction T using NT.ind with
  | _ T ih =>
    intro n d r pre W hL0 hL hS hd hd2 hnD hDW hJ0 hN
    have hsz := NT.size_eq T
    have hdp := NT.depth_eq T
    have HP := hide (NT.pres_eq T d r)
    obtain ⟨p, c, hs, ⟨hlc, _⟩, hK⟩ := hL.eq
    obtain ⟨ht, hl, hS'⟩ := (NT.sized_eq _ _).1 hS.1
    have ht' : T.t.size ≤ 9223372036854775807 := ht
    have hl' : T.len ≤ 9223372036854775807 := hl
    obtain ⟨x0, hx0⟩ : ∃ x0 : Al n₀ W0, x0 = ⟨(T, d, r), hL0, hS⟩ := ⟨_, rfl⟩
    have henc : encS x0 = #[.agg #[.int .i64 T.k, .string T.t, .int .i64 T.n, .slice p T.len c, .int .i64 T.a], .agg #[.int .i64 d, .int .i64 r]] := by rw [hx0, ← hs]; rfl
    have hB2 := two_new W T d r
    have hok : ∀ i, i < T.len → (T.kid i).ok := fun i hi => NT.ok_kid hS hi
    have hLk : ∀ i, i < T.len → Lies n₀ W0 (T.kid i) := fun i hi => by
      obtain ⟨_, _, _, _, h3⟩ := hL0.eq
      obtain ⟨_, _, _, _, h4⟩ := h3 (by omega)
      exact (h4 i hi).2
    have hx1 : x0.1 = (T, d, r) := by rw [hx0]
    clear hx0
    have hx0 := hx1
    clear hx1
    clear hL hL0 hS
    simp only [NT.val, spotV, boxO] at hB2 ⊢
    rw [hs] at hB2 ⊢
    have hc3 : Cells5 ((W.alloc (Obj.cells #[.int .i64 T.k, .string T.t, .int .i64 T.n, .slice p T.len c, .int .i64 T.a] 24)).alloc (Obj.cells #[.int .i64 d, .int .i64 r] 55)) W.heap.size 0 T := hB2.1
    replace hB2 := hB2.2
    obtain ⟨b0, b1, b2, b3, b4⟩ := hc3
    rw [hs] at b3
    clear hs
    generalize T.k = k at *
    generalize T.t = t at *
    generalize T.n = nn at *
    generalize T.a = a at *
    generalize T.len = len at *
    generalize T.kid = kid at *
    obtain ⟨W1, hW1⟩ : ∃ W1, ((W.alloc (Obj.cells #[.int .i64 k, .string t, .int .i64 nn, .slice p len c, .int .i64 a] 24)).alloc (Obj.cells #[.int .i64 d, .int .i64 r] 55)) = W1 := ⟨_, rfl⟩
    rw [hW1] at hB2 b0 b1 b2 b3 b4
    obtain ⟨s0, s1⟩ := hB2
    have hg1 : W.grownBy W1 none := by rw [← hW1]; exact (World.grownBy_alloc _ _ _).trans (World.grownBy_alloc _ _ _)
    have hJ1 := hJ _ _ _ hJ0 hg1
    obtain ⟨fn, tmps, assign, body, hy, hR⟩ := hY (n - 1) pre x0 W1 hJ1 (by omega)
    rw [henc] at hy
    clear hY
    refine callsIn_of_wp Try.func46 rfl trivial ?_
    simp only [Try.ntmps46, List.size_toArray, List.length_cons, List.length_nil, Nat.reduceAdd, Nat.reduceSub, Array.replicate_succ, Array.replicate_zero, List.push_toArray, List.append_toArray, List.nil_append, List.cons_append]
    gi_wp2
    refine ⟨fun h => (by cases h), hR.mono ?_⟩
    clear hR
    rintro e W2 (⟨rfl, hJ2, hk2⟩ | ⟨rfl, hx2⟩)
    · have q3 := hk2.cell (p := ⟨W.heap.size, 3, none⟩) (.inr hDW) b3
      gi_wp2
      have HJ2 := hide hJ2
      clear hJ2 hJ0 hJ1 q3
      obtain ⟨FL, hFL⟩ : ∃ FL : Nat → List Spot, FL = fun i => (kid i).pres (d + 1) (roleM k r i) := ⟨_, rfl⟩
      rw [← hFL] at HP
      have HPA : Hid (x0.1 :: flatN FL len = T.pres d r) := hide (by rw [HP.out, hx0])
      have HPX : Hid (∀ (j : Nat) (z : List Spot), j < len → z <+: FL j → x0.1 :: (flatN FL j ++ z) <+: T.pres d r) := hide fun j z hj hz => by
        rw [← HPA.out, List.cons_prefix_cons]
        exact ⟨rfl, ((List.prefix_append_right_inj _).2 hz).trans (flatN_upto hj)⟩
      clear HP
      gi_loopw [17] (fun i wr => ∃ (j : Nat) (ys : List (Al n₀ W0)), j ≤ len ∧ i = .int .i64 j ∧ ys.map (·.1) = flatN FL j ∧ J (pre ++ [x0] ++ ys) wr ∧ KeepC n₀ D W1 wr) (fun i _ => len - (intOf i).toNat)
      case atStart => exact ⟨0, [], Nat.zero_le _, rfl, rfl, by simpa using HJ2.out, hk2⟩
      case round =>
        obtain ⟨j, ys, hj, rfl, hys, hJr, hkr⟩ := hrel
        rcases Nat.lt_or_ge j len with hlt | hge
        · have hi' : (j : Int) < (len : Int) := by omega
          obtain ⟨g, off, rfl, hg, hC⟩ := hK (by omega)
          have hkW : KeepC n₀ D W wr := (KeepC.of_below ((Below.refl _ W).grown hg1 (Nat.le_refl _) (fun _ e => by cases e))).trans hkr
          obtain ⟨c0, c1, c2, c3, c4⟩ := ((hC j hlt).1.keep hkW (.inl hg)).nat
          have q0 := hkr.cell (p := ⟨W.heap.size, 0, none⟩) (.inr hDW) b0
          have r0 := hkr.cell (p := ⟨W.heap.size + 1, 0, none⟩) (.inr (by show D ≤ W.heap.size + 1; omega)) s0
          have r1 := hkr.cell (p := ⟨W.heap.size + 1, 1, none⟩) (.inr (by show D ≤ W.heap.size + 1; omega)) s1
          obtain ⟨p', c', hs', _, _⟩ := (hC j hlt).2.eq
          have hL0j : Lies n₀ W0 (kid j) := hLk j hlt
          have hlen : (pre ++ [x0] ++ ys).length + (kid j).size ≤ N := by
            have h1 : ys.length = (flatN FL j).length := by rw [← hys, List.length_map]
            rw [flatN_len, sumN_congr (g := fun i => (kid i).size) (fun i _ => by rw [hFL]; exact NT.pres_len _ _ _)] at h1
            have h2 : sumN (fun i => (kid i).size) j + (kid j).size ≤ sumN (fun i => (kid i).size) len := sumN_upto hlt
            simp only [List.length_append, List.length_cons, List.length_nil]
            omega
          have HIH := hide (fun W5 (hk5 : KeepC n₀ D W W5) (hJ5 : J (pre ++ [x0] ++ ys) W5) => ih j hlt (n - 1) (d + 1) (roleM k r j) (pre ++ [x0] ++ ys) W5 hL0j ((hC j hlt).2.keep hk5) (hok j hlt) (by omega) (by have : (kid j).depth ≤ maxN (fun i => (kid i).depth) len := maxN_le (f := fun i => (kid i).depth) hlt; omega) hnD (Nat.le_trans hDW hk5.size) hJ5 hlen)
          clear hlen hL0j
          obtain ⟨W5, hW5⟩ : ∃ W5, wr.alloc (Obj.cells #[.int .i64 (kid j).k, .string (kid j).t, .int .i64 (kid j).n, .slice p' (kid j).len c', .int .i64 (kid j).a] 24) = W5 := ⟨_, rfl⟩
          have hB5 := box_new wr (kid j)
          simp only [boxO, hs'] at hB5
          rw [hW5] at hB5
          obtain ⟨v0, v1, v2, v3, v4⟩ := hB5
          rw [hs'] at v3 c3
          have hg5 : wr.grownBy W5 none := by rw [← hW5]; exact World.grownBy_alloc _ _ _
          have hb5 : Below wr.heap.size wr W5 := by rw [← hW5]; exact bl_alloc (Below.refl _ _) _
          have hsr : D ≤ wr.heap.size := Nat.le_trans hDW hkW.size
          have q0' := (KeepC.of_below (n₀ := n₀) (D := D) hb5).cell (p := ⟨W.heap.size, 0, none⟩) (.inr hDW) q0
          have r0' := (KeepC.of_below (n₀ := n₀) (D := D) hb5).cell (p := ⟨W.heap.size + 1, 0, none⟩) (.inr (by show D ≤ W.heap.size + 1; omega)) r0
          have r1' := (KeepC.of_below (n₀ := n₀) (D := D) hb5).cell (p := ⟨W.heap.size + 1, 1, none⟩) (.inr (by show D ≤ W.heap.size + 1; omega)) r1
          have HI : ∀ nq, CallsIn Fence.wide (n - 1) Try.prog 46 #[(kid j).val, spotV (d + 1) (roleM k r j), .func (.yield l) #[] #[]] (W5.drewN nq) (WalkP n₀ D J Jx ((kid j).pres (d + 1) (roleM k r j)) (pre ++ [x0] ++ ys) (W5.drewN nq)) := fun nq => HIH.out (W5.drewN nq) (keepC_drewN (hkW.trans (KeepC.of_below hb5)) nq) (hJ _ _ _ (hJ _ _ _ hJr hg5) (grownBy_drewN _ _))
          simp only [NT.val, hs', spotV] at HI
          have hd1 : wrap64 (d + 1) = d + 1 := IntWalk.wrap64_in _ (by omega)
          have HYs := hide hys
          have HKr := hide (hkr.trans (KeepC.of_below hb5))
          have HFL := hide (show FL j = (kid j).pres (d + 1) (roleM k r j) by rw [hFL])
          have hro : ∀ w, Calls Try.prog 58 #[.int .i64 k, .int .i64 r, .int .i64 j] w fun e w' => e = .returned (.int .i64 (roleM k r j)) ∧ w' = w := fun w => (roleOf_any k r j (Nat.le_trans hj hl) w).mono fun _ _ h => ⟨h.1, h.2.symm⟩
          clear b0 b1 b2 b3 b4 s0 s1 HIH hC hk2 hkr hys hkW hd hd2 hlc hg1 hx0 henc hy hsz hdp hS' hK ih hFL hJ hok hLk
          gi_wp2
          refine wpIn_region_quiet_tail 12 rfl (by kernel_rfl) (by kernel_rfl) ?_
          simp only [List.take_succ_cons, List.take_zero, List.drop_succ_cons, List.drop_zero]
          iterate 9 (gi_big_quiet_step (fail))
          gi_big_quiet_step ((refine ⟨fun h => (by cases h), ?_⟩; exact CallsIn.quiet_of_same (callsIn_wide.2 (hro _))))
          iterate 2 (gi_big_quiet_step (fail))
          refine wpQuietIn_nil ?_
          rintro _ ⟨nq, rfl⟩
          have HI' := HI nq
          clear HI hro
          gi_wp2_with (refine ⟨fun h => (by cases h), ?_⟩; refine HI'.mono ?_; clear HI'; rintro e w2 (⟨rfl, zs, hz, hJz, hkz⟩ | ⟨rfl, zs, hz, hz0, hxz⟩))
          · go_roundw
            case rel => exact ⟨j + 1, ys ++ zs, by omega, by go_num, by rw [List.map_append, HYs.out, hz, flatN, HFL.out], by simpa using hJz, (keepC_drewN HKr.out nq).trans hkz⟩
            case measure => simp [intOf]; omega
          · go_ret
            refine .inr ⟨rfl, [x0] ++ ys ++ zs, ?_, by simp, by simpa using hxz⟩
            have := HPX.out j (zs.map (·.1)) hlt (by rw [HFL.out]; exact hz)
            simpa [HYs.out] using this
        · have he : j = len := by omega
          subst he
          have HYs := hide hys
          have HKr := hide ((KeepC.of_below (n₀ := n₀) (D := D) ((Below.refl _ W).grown hg1 (Nat.le_refl _) (fun _ e => by cases e))).trans hkr)
          have HJr := hide hJr
          clear b0 b1 b2 b3 b4 s0 s1 hk2 hkr hys hd hd2 hlc hg1 hx0 henc hy hsz hdp hS' hK ih hFL hJ hJr HPX hok hLk
          gi_wp2
          go_ret
          refine .inl ⟨rfl, [x0] ++ ys, ?_, by simpa using HJr.out, HKr.out⟩
          rw [List.map_append, HYs.out]
          exact HPA.out
    · gi_wp2
      go_ret
      exact .inr ⟨rfl, [x0], by rw [HP.out, List.map_cons, List.map_nil, hx0]; exact ⟨_, rfl⟩, by simp, hx2⟩
end Go.Proofs.Ytdccodnompalbaa
