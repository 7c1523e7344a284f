/- What a node's kids must be, by the document's own answer. No conditions beyond the bounds that each statement names. -/
import Derived.Test.YtdccodnompalbaaD5
namespace Go.Proofs.Ytdccodnompalbaa
open Go.RowKit Go.Shelf

def wfirst (k : Int) : List Int := if k = 2 then [9, 5000] else if k = 3 then [9, 5000] else if k = 4 then [9, 5000, 18, 7, 20, 69] else if k = 7 then [2] else if k = 11 then [2] else if k = 24 then [2] else if k = 25 then [2] else if k = 26 then [2] else if k = 9 then [5002] else if k = 23 then [5000] else if k = 30 then [7, 6] else if k = 31 then [4] else if k = 43 then [4] else if k = 45 then [4] else if k = 46 then [4] else if k = 47 then [4] else if k = 51 then [4] else if k = 44 then [4, 4] else if k = 62 then [4, 4] else if k = 48 then [59] else if k = 52 then [59] else if k = 50 then [59] else if k = 53 then [4, 69, 8] else if k = 54 then [4, 69] else if k = 55 then [69] else if k = 56 then [6] else if k = 58 then [6] else if k = 60 then [4] else if k = 61 then [5, 4] else []
def wmore (k place : Int) : Int := if k = 1 then 1 else if k = 2 then 21 else if k = 3 then 22 else if k = 8 then 17 else if k = 10 then 19 else if k = 12 then 2 else if k = 49 then 2 else if k = 23 then 2 else if k = 48 then 4 else if k = 52 then 4 else if k = 50 then 61 else if k = 60 then 71 else if k = 74 then 5 else if k = 5 then (if place = 5000 then 5002 else 5001) else 0
/-- Kid i of len. -/
def wantAt (k place : Int) (len i : Nat) : Int := if k = 59 then (if (i : Int) < (len : Int) - 1 then 3 else 6) else if h : i < (wfirst k).length then (wfirst k)[i] else wmore k place
def wantsOk (k place : Int) (len : Nat) : Bool := if k = 59 then decide (0 < len) else decide ((wfirst k).length ≤ len) && (decide (0 < wmore k place) || len == (wfirst k).length)

/-- Where the ways meet. -/
def Wm (w : World) (k place : Int) (p : Option Addr) (l c : Nat) (s6 s7 : Value) (wc : World) : Prop :=
  IntsAt (w.heap.size + 1) wc s6 (wfirst k) ∧ s7 = .int .i64 (wmore k place) ∧ wc.cell? ⟨w.heap.size, 0, none⟩ = some (.int .i64 k) ∧ wc.cell? ⟨w.heap.size, 3, none⟩ = some (.slice p l c) ∧ Below w.heap.size w wc ∧ w.heap.size + 1 ≤ wc.heap.size
theorem wm_some (w : World) (k place : Int) (t : ByteArray) (n a : Int) (p : Option Addr) (l c : Nat) (L : List Int) (m : Int) (q : Nat) (hf : wfirst k = L) (hm : wmore k place = m) (hq : q = L.length) :
    Wm w k place p l c (.slice (some ⟨w.heap.size + 1, 0, none⟩) q q) (.int .i64 m) ((w.alloc (Obj.cells #[.int .i64 k, .string t, .int .i64 n, .slice p l c, .int .i64 a] 24)).alloc (.cells (L.map (Value.int .i64)).toArray 3)) := by
  have h := ints_new (w.alloc (Obj.cells #[.int .i64 k, .string t, .int .i64 n, .slice p l c, .int .i64 a] 24)) L q q hq (by omega)
  rw [World.size_alloc] at h
  exact ⟨by rw [hf]; exact h, by rw [hm], by simp, by simp, two_alloc _ _ _, by simp⟩
theorem wm_none (w : World) (k place : Int) (t : ByteArray) (n a : Int) (p : Option Addr) (l c : Nat) (m : Int) (hf : wfirst k = []) (hm : wmore k place = m) :
    Wm w k place p l c (.slice none 0 0) (.int .i64 m) (w.alloc (Obj.cells #[.int .i64 k, .string t, .int .i64 n, .slice p l c, .int .i64 a] 24)) :=
  ⟨by rw [hf]; exact IntsAt.nil _ _, by rw [hm], by simp, by simp, bl_alloc (Below.refl _ _) _, by simp⟩

theorem len_iteL {p : Prop} [Decidable p] {a b : List Int} (ha : a.length ≤ 100) (hb : b.length ≤ 100) : (if p then a else b).length ≤ 100 := by split <;> assumption
theorem wfirst_len (k : Int) : (wfirst k).length ≤ 100 := by
  unfold wfirst
  repeat (refine len_iteL (by decide) ?_)
  decide

set_option maxRecDepth 20000 in
set_option maxHeartbeats 8000000 in
theorem refWants_v (k : Int) (t : ByteArray) (n a : Int) (p : Option Addr) (l c : Nat) (place : Int) (w : World) (hl : l ≤ 1000000) :
    Calls Try.prog 44 #[.agg #[.int .i64 k, .string t, .int .i64 n, .slice p l c, .int .i64 a], .int .i64 place] w fun e w' => ∃ v, e = .returned (.tuple #[v, .bool (wantsOk k place l)]) ∧ w'.ownsRow w.heap.size 3 1 v l ((List.range l).map fun i => .int .i64 (wantAt k place l i)) ∧ Below w.heap.size w w' := by
  obtain ⟨WA, hWA⟩ : ∃ WA : Nat → Int, WA = fun j => wantAt k place l j := ⟨_, rfl⟩
  obtain ⟨OK, hOK⟩ : ∃ OK, OK = wantsOk k place l := ⟨_, rfl⟩
  rw [show (List.range l).map (fun i => Value.int .i64 (wantAt k place l i)) = (List.range l).map (fun i => Value.int .i64 (WA i)) by rw [hWA], ← hOK]
  have HWA := hide (show ∀ j, WA j = if k = 59 then (if (j : Int) < (l : Int) - 1 then 3 else 6) else if h : j < (wfirst k).length then (wfirst k)[j] else wmore k place from fun j => by rw [hWA]; rfl)
  have HOK := hide (show OK = if k = 59 then decide (0 < l) else decide ((wfirst k).length ≤ l) && (decide (0 < wmore k place) || l == (wfirst k).length) by rw [hOK]; rfl)
  clear hWA hOK
  go_enter Try.func44, Try.ntmps44
  go_upto_block 0 with fail
  go_cut [6, 7] from 10 (fun s6 s7 wc => Wm w k place p l c s6 s7 wc)
  case first =>
    by_cases k1 : k = 1
    · subst k1
      go_wp2
      go_meet
      exact wm_none w 1 place t n a p l c 1 rfl rfl
    by_cases k2 : k = 2
    · subst k2
      go_wp2
      go_meet
      exact wm_some w 2 place t n a p l c [9, 5000] 21 2 rfl rfl rfl
    by_cases k3 : k = 3
    · subst k3
      go_wp2
      go_meet
      exact wm_some w 3 place t n a p l c [9, 5000] 22 2 rfl rfl rfl
    by_cases k4 : k = 4
    · subst k4
      go_wp2
      go_meet
      exact wm_some w 4 place t n a p l c [9, 5000, 18, 7, 20, 69] 0 6 rfl rfl rfl
    by_cases k7 : k = 7
    · subst k7
      go_wp2
      go_meet
      exact wm_some w 7 place t n a p l c [2] 0 1 rfl rfl rfl
    by_cases k11 : k = 11
    · subst k11
      go_wp2
      go_meet
      exact wm_some w 11 place t n a p l c [2] 0 1 rfl rfl rfl
    by_cases k24 : k = 24
    · subst k24
      go_wp2
      go_meet
      exact wm_some w 24 place t n a p l c [2] 0 1 rfl rfl rfl
    by_cases k25 : k = 25
    · subst k25
      go_wp2
      go_meet
      exact wm_some w 25 place t n a p l c [2] 0 1 rfl rfl rfl
    by_cases k26 : k = 26
    · subst k26
      go_wp2
      go_meet
      exact wm_some w 26 place t n a p l c [2] 0 1 rfl rfl rfl
    by_cases k8 : k = 8
    · subst k8
      go_wp2
      go_meet
      exact wm_none w 8 place t n a p l c 17 rfl rfl
    by_cases k9 : k = 9
    · subst k9
      go_wp2
      go_meet
      exact wm_some w 9 place t n a p l c [5002] 0 1 rfl rfl rfl
    by_cases k10 : k = 10
    · subst k10
      go_wp2
      go_meet
      exact wm_none w 10 place t n a p l c 19 rfl rfl
    by_cases k12 : k = 12
    · subst k12
      go_wp2
      go_meet
      exact wm_none w 12 place t n a p l c 2 rfl rfl
    by_cases k49 : k = 49
    · subst k49
      go_wp2
      go_meet
      exact wm_none w 49 place t n a p l c 2 rfl rfl
    by_cases k23 : k = 23
    · subst k23
      go_wp2
      go_meet
      exact wm_some w 23 place t n a p l c [5000] 2 1 rfl rfl rfl
    by_cases k30 : k = 30
    · subst k30
      go_wp2
      go_meet
      exact wm_some w 30 place t n a p l c [7, 6] 0 2 rfl rfl rfl
    by_cases k31 : k = 31
    · subst k31
      go_wp2
      go_meet
      exact wm_some w 31 place t n a p l c [4] 0 1 rfl rfl rfl
    by_cases k43 : k = 43
    · subst k43
      go_wp2
      go_meet
      exact wm_some w 43 place t n a p l c [4] 0 1 rfl rfl rfl
    by_cases k45 : k = 45
    · subst k45
      go_wp2
      go_meet
      exact wm_some w 45 place t n a p l c [4] 0 1 rfl rfl rfl
    by_cases k46 : k = 46
    · subst k46
      go_wp2
      go_meet
      exact wm_some w 46 place t n a p l c [4] 0 1 rfl rfl rfl
    by_cases k47 : k = 47
    · subst k47
      go_wp2
      go_meet
      exact wm_some w 47 place t n a p l c [4] 0 1 rfl rfl rfl
    by_cases k51 : k = 51
    · subst k51
      go_wp2
      go_meet
      exact wm_some w 51 place t n a p l c [4] 0 1 rfl rfl rfl
    by_cases k44 : k = 44
    · subst k44
      go_wp2
      go_meet
      exact wm_some w 44 place t n a p l c [4, 4] 0 2 rfl rfl rfl
    by_cases k62 : k = 62
    · subst k62
      go_wp2
      go_meet
      exact wm_some w 62 place t n a p l c [4, 4] 0 2 rfl rfl rfl
    by_cases k48 : k = 48
    · subst k48
      go_wp2
      go_meet
      exact wm_some w 48 place t n a p l c [59] 4 1 rfl rfl rfl
    by_cases k52 : k = 52
    · subst k52
      go_wp2
      go_meet
      exact wm_some w 52 place t n a p l c [59] 4 1 rfl rfl rfl
    by_cases k50 : k = 50
    · subst k50
      go_wp2
      go_meet
      exact wm_some w 50 place t n a p l c [59] 61 1 rfl rfl rfl
    by_cases k53 : k = 53
    · subst k53
      go_wp2
      go_meet
      exact wm_some w 53 place t n a p l c [4, 69, 8] 0 3 rfl rfl rfl
    by_cases k54 : k = 54
    · subst k54
      go_wp2
      go_meet
      exact wm_some w 54 place t n a p l c [4, 69] 0 2 rfl rfl rfl
    by_cases k55 : k = 55
    · subst k55
      go_wp2
      go_meet
      exact wm_some w 55 place t n a p l c [69] 0 1 rfl rfl rfl
    by_cases k56 : k = 56
    · subst k56
      go_wp2
      go_meet
      exact wm_some w 56 place t n a p l c [6] 0 1 rfl rfl rfl
    by_cases k58 : k = 58
    · subst k58
      go_wp2
      go_meet
      exact wm_some w 58 place t n a p l c [6] 0 1 rfl rfl rfl
    by_cases k60 : k = 60
    · subst k60
      go_wp2
      go_meet
      exact wm_some w 60 place t n a p l c [4] 71 1 rfl rfl rfl
    by_cases k61 : k = 61
    · subst k61
      go_wp2
      go_meet
      exact wm_some w 61 place t n a p l c [5, 4] 0 2 rfl rfl rfl
    by_cases k74 : k = 74
    · subst k74
      go_wp2
      go_meet
      exact wm_none w 74 place t n a p l c 5 rfl rfl
    by_cases k5 : k = 5
    · subst k5
      by_cases hp : place = 5000
      · subst hp
        go_wp2
        go_meet
        exact wm_none w 5 5000 t n a p l c 5002 rfl rfl
      · go_wp2
        go_meet
        exact wm_none w 5 place t n a p l c 5001 rfl (by simp [wmore, hp])
    go_wp2
    go_meet
    exact wm_none w k place t n a p l c 0 (by simp [wfirst, k2, k3, k4, k7, k11, k24, k25, k26, k9, k23, k30, k31, k43, k45, k46, k47, k51, k44, k62, k48, k52, k50, k53, k54, k55, k56, k58, k60, k61]) (by simp [wmore, k1, k2, k3, k8, k10, k12, k49, k23, k48, k52, k50, k60, k74, k5])
  case rest =>
    obtain ⟨hf, rfl, hq0, hq3, hb, hge⟩ := hcut
    obtain ⟨pf, cf, rfl, hfc, hV⟩ := hf
    have HV := hide hV
    have HB := hide hb
    have HGE := hide hge
    have HQ0 := hide hq0
    have HQ3 := hide hq3
    have hfl : (wfirst k).length ≤ 100 := wfirst_len k
    obtain ⟨i3, hi3, hz3, hs3, hb3⟩ := info_parts info3
    clear hV hb hge hq0 hq3
    generalize wmore k place = M at *
    generalize wfirst k = F at *
    have HWA' := HWA
    clear HWA
    go_wp2
    go_loopw [8, 9] (fun vo i wr => ∃ j : Nat, j ≤ l ∧ i = .int .i64 j ∧ wr.ownsRow wc.heap.size 3 1 vo j ((List.range j).map fun i => .int .i64 (WA i)) ∧ Below wc.heap.size wc wr) (fun _ i _ => l - (intOf i).toNat)
    case atStart => exact ⟨0, Nat.zero_le _, rfl, World.ownsRow_nil _ _ _ _, Below.refl _ _⟩
    case round =>
      obtain ⟨j, hj, rfl, hown, hbel⟩ := hrel
      have HOWN := hide hown
      have HBEL := hide hbel
      have q0 := (hbel.cell (p := ⟨w.heap.size, 0, none⟩) (by show w.heap.size < wc.heap.size; have := HGE.out; omega)).trans HQ0.out
      have q3 := (hbel.cell (p := ⟨w.heap.size, 3, none⟩) (by show w.heap.size < wc.heap.size; have := HGE.out; omega)).trans HQ3.out
      have hwl : wrap64 ((l : Int) - 1) = (l : Int) - 1 := IntWalk.wrap64_in _ (by omega)
      clear hown hbel
      rcases Nat.lt_or_ge j l with hlt | hge
      · have hi' : (j : Int) < (l : Int) := by omega
        by_cases k59 : k = 59
        · subst k59
          by_cases hjl : (j : Int) < (l : Int) - 1
          · have HX := hide (show WA j = 3 by rw [HWA'.out, if_pos rfl, if_pos hjl])
            go_wp2_with (at_builtin; refine wpList_append_own _ rfl _ _ 35 rfl wc.heap.size 3 i3 (.int .i64 0) 1 8 Try.underlying35 hi3 hz3 hs3 hb3 rfl (by decide) _ _ _ rfl (HOWN.out.alloc _) ⟨wr.heap.size, 0, none⟩ 1 1 [.int .i64 3] rfl rfl (fun j' u hj' => by match j', hj' with | 0, hj' => simp at hj'; subst hj'; simp [Addr.add]) (fun u hu => by simp at hu; subst hu; rfl) (by unfold maxLen; omega) (by omega) (by have := HBEL.out.size; simp; omega) ?_)
            intro v' w1 hown' hgrow _
            have HB1 := hide ((HBEL.out.alloc HBEL.out.size (Obj.cells #[.int .i64 3] 3)).grown hgrow (by have := HBEL.out.size; simp; omega) (fun k hk => (HOWN.out.lt k hk).1))
            have HO1 : Hid (w1.ownsRow wc.heap.size 3 1 v' (j + 1) ((List.range (j + 1)).map fun i => .int .i64 (WA i))) := hide (by
              rw [List.range_succ, List.map_append, List.map_cons, List.map_nil, HX.out]; exact hown')
            clear hown' hgrow
            obtain ⟨p1, c1', rfl, _, _⟩ := row_shape HO1.out
            go_wp2
            go_roundw
            case rel => exact ⟨j + 1, by omega, by go_num, HO1.out, HB1.out⟩
            case measure => simp [intOf]; omega
          · have HX := hide (show WA j = 6 by rw [HWA'.out, if_pos rfl, if_neg hjl])
            go_wp2_with (at_builtin; refine wpList_append_own _ rfl _ _ 35 rfl wc.heap.size 3 i3 (.int .i64 0) 1 8 Try.underlying35 hi3 hz3 hs3 hb3 rfl (by decide) _ _ _ rfl (HOWN.out.alloc _) ⟨wr.heap.size, 0, none⟩ 1 1 [.int .i64 6] rfl rfl (fun j' u hj' => by match j', hj' with | 0, hj' => simp at hj'; subst hj'; simp [Addr.add]) (fun u hu => by simp at hu; subst hu; rfl) (by unfold maxLen; omega) (by omega) (by have := HBEL.out.size; simp; omega) ?_)
            intro v' w1 hown' hgrow _
            have HB1 := hide ((HBEL.out.alloc HBEL.out.size (Obj.cells #[.int .i64 6] 3)).grown hgrow (by have := HBEL.out.size; simp; omega) (fun k hk => (HOWN.out.lt k hk).1))
            have HO1 : Hid (w1.ownsRow wc.heap.size 3 1 v' (j + 1) ((List.range (j + 1)).map fun i => .int .i64 (WA i))) := hide (by
              rw [List.range_succ, List.map_append, List.map_cons, List.map_nil, HX.out]; exact hown')
            clear hown' hgrow
            obtain ⟨p1, c1', rfl, _, _⟩ := row_shape HO1.out
            go_wp2
            go_roundw
            case rel => exact ⟨j + 1, by omega, by go_num, HO1.out, HB1.out⟩
            case measure => simp [intOf]; omega
        · have hk59 : (k == 59) = false := by simp [k59]
          by_cases hjF : j < F.length
          · obtain ⟨gf, of, rfl, hbf, hgf, hcf⟩ := HV.out (by intro h; rw [h] at hjF; simp at hjF)
            have d1 := (HBEL.out.cell (p := ⟨gf, of + j, none⟩) hgf).trans (hcf j _ (List.getElem?_eq_getElem hjF))
            have HX := hide (show WA j = F[j] by rw [HWA'.out, if_neg k59, dif_pos hjF])
            have hjF' : (j : Int) < (F.length : Int) := by omega
            obtain ⟨x, hx⟩ : ∃ x, x = F[j] := ⟨_, rfl⟩
            rw [← hx] at d1 HX
            clear hx hcf k59
            go_wp2_with (at_builtin; refine wpList_append_own _ rfl _ _ 35 rfl wc.heap.size 3 i3 (.int .i64 0) 1 8 Try.underlying35 hi3 hz3 hs3 hb3 rfl (by decide) _ _ _ rfl (HOWN.out.alloc _) ⟨wr.heap.size, 0, none⟩ 1 1 [.int .i64 x] rfl rfl (fun j' u hj' => by match j', hj' with | 0, hj' => simp at hj'; subst hj'; simp [Addr.add]) (fun u hu => by simp at hu; subst hu; rfl) (by unfold maxLen; omega) (by omega) (by have := HBEL.out.size; simp; omega) ?_)
            intro v' w1 hown' hgrow _
            have HB1 := hide ((HBEL.out.alloc HBEL.out.size (Obj.cells #[.int .i64 x] 3)).grown hgrow (by have := HBEL.out.size; simp; omega) (fun k hk => (HOWN.out.lt k hk).1))
            have HO1 : Hid (w1.ownsRow wc.heap.size 3 1 v' (j + 1) ((List.range (j + 1)).map fun i => .int .i64 (WA i))) := hide (by
              rw [List.range_succ, List.map_append, List.map_cons, List.map_nil, HX.out]; exact hown')
            clear hown' hgrow
            obtain ⟨p1, c1', rfl, _, _⟩ := row_shape HO1.out
            go_wp2
            go_roundw
            case rel => exact ⟨j + 1, by omega, by go_num, HO1.out, HB1.out⟩
            case measure => simp [intOf]; omega
          · have HX := hide (show WA j = M by rw [HWA'.out, if_neg k59, dif_neg hjF])
            have hjF' : ¬ (j : Int) < (F.length : Int) := by omega
            clear k59
            go_wp2_with (at_builtin; refine wpList_append_own _ rfl _ _ 35 rfl wc.heap.size 3 i3 (.int .i64 0) 1 8 Try.underlying35 hi3 hz3 hs3 hb3 rfl (by decide) _ _ _ rfl (HOWN.out.alloc _) ⟨wr.heap.size, 0, none⟩ 1 1 [.int .i64 M] rfl rfl (fun j' u hj' => by match j', hj' with | 0, hj' => simp at hj'; subst hj'; simp [Addr.add]) (fun u hu => by simp at hu; subst hu; rfl) (by unfold maxLen; omega) (by omega) (by have := HBEL.out.size; simp; omega) ?_)
            intro v' w1 hown' hgrow _
            have HB1 := hide ((HBEL.out.alloc HBEL.out.size (Obj.cells #[.int .i64 M] 3)).grown hgrow (by have := HBEL.out.size; simp; omega) (fun k hk => (HOWN.out.lt k hk).1))
            have HO1 : Hid (w1.ownsRow wc.heap.size 3 1 v' (j + 1) ((List.range (j + 1)).map fun i => .int .i64 (WA i))) := hide (by
              rw [List.range_succ, List.map_append, List.map_cons, List.map_nil, HX.out]; exact hown')
            clear hown' hgrow
            obtain ⟨p1, c1', rfl, _, _⟩ := row_shape HO1.out
            go_wp2
            go_roundw
            case rel => exact ⟨j + 1, by omega, by go_num, HO1.out, HB1.out⟩
            case measure => simp [intOf]; omega
      · have he : j = l := by omega
        subst he
        by_cases k59 : k = 59
        · subst k59
          have e : OK = decide (0 < j) := by rw [HOK.out, if_pos rfl]
          subst e
          go_wp2
          go_quiet (fail)
          go_wp2
          go_ret2
          exact ⟨_, by simp, row_mono HOWN.out (by have := HGE.out; omega), bl_drewN (HB.out.trans (HBEL.out.mono HB.out.size)) _⟩
        · have hk59 : (k == 59) = false := by simp [k59]
          have HOE := hide (show OK = (decide (F.length ≤ j) && (decide (0 < M) || j == F.length)) by rw [HOK.out, if_neg k59])
          clear k59
          by_cases h1 : F.length ≤ j
          · have h1i : decide ((F.length : Int) ≤ (j : Int)) = true := by simp; omega
            have h1n : decide (F.length ≤ j) = true := by simp; omega
            by_cases hM : 0 < M
            · have hMb : decide (0 < M) = true := by simp [hM]
              have HE := hide (show (decide (F.length ≤ j) && (decide (0 < M) || j == F.length)) = true by simp [h1, hM])
              clear h1 hM
              go_wp2
              go_quiet (fail)
              go_wp2
              go_ret2
              exact ⟨_, by rw [HOE.out, HE.out]; first | rfl | simp [*], row_mono HOWN.out (by have := HGE.out; omega), bl_drewN (HB.out.trans (HBEL.out.mono HB.out.size)) _⟩
            · have hMb : decide (0 < M) = false := by simp; omega
              by_cases hE : j = F.length
              · have HE := hide (show (decide (F.length ≤ j) && (decide (0 < M) || j == F.length)) = true by simp [hE])
                have hEi : ((j : Int) == (F.length : Int)) = true := by simp [hE]
                have hEn : (j == F.length) = true := by simp [hE]
                clear h1 hM hE
                go_wp2
                go_quiet (fail)
                go_wp2
                go_ret2
                exact ⟨_, by rw [HOE.out, HE.out]; first | rfl | simp [*], row_mono HOWN.out (by have := HGE.out; omega), bl_drewN (HB.out.trans (HBEL.out.mono HB.out.size)) _⟩
              · have HE := hide (show (decide (F.length ≤ j) && (decide (0 < M) || j == F.length)) = false by simp [hE, hMb])
                have hEi : ((j : Int) == (F.length : Int)) = false := by simp; omega
                have hEn : (j == F.length) = false := by simp [hE]
                clear h1 hM hE
                go_wp2
                go_quiet (fail)
                go_wp2
                go_ret2
                exact ⟨_, by rw [HOE.out, HE.out]; first | rfl | simp [*], row_mono HOWN.out (by have := HGE.out; omega), bl_drewN (HB.out.trans (HBEL.out.mono HB.out.size)) _⟩
          · have h1i : decide ((F.length : Int) ≤ (j : Int)) = false := by simp; omega
            have h1n : decide (F.length ≤ j) = false := by simp; omega
            have HE := hide (show (decide (F.length ≤ j) && (decide (0 < M) || j == F.length)) = false by simp [h1])
            clear h1
            go_wp2
            go_quiet (fail)
            go_wp2
            go_ret2
            exact ⟨_, by rw [HOE.out, HE.out]; first | rfl | simp [*], row_mono HOWN.out (by have := HGE.out; omega), bl_drewN (HB.out.trans (HBEL.out.mono HB.out.size)) _⟩
end Go.Proofs.Ytdccodnompalbaa
