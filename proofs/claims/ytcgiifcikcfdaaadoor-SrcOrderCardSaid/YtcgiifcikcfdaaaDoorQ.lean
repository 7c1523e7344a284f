/- The law SrcMark, walked: it answers true. No conditions beyond what the library's variables hold. -/
import Derived.Test.YtcgiifcikcfdaaaDoorP
import Derived.Deep.QuietTactic
import Derived.BigQuiet
namespace Go.Proofs.YtcgiifcikcfdaaaDoor
open Go.RowKit

theorem lns_no10 : ∀ (l x : List UInt8), x ∈ M.lns l → 10 ∉ x
  | [], x, h => by simp [M.lns] at h; subst h; simp
  | c :: r, x, h => by
    by_cases hc : c = 10
    · rw [M.lns_nl c r hc] at h
      rcases List.mem_cons.1 h with rfl | h
      · simp
      · exact lns_no10 r x h
    · cases hl : M.lns r with
      | nil => exact absurd hl (M.lns_ne r)
      | cons a b =>
        rw [M.lns_co c r a b hc hl] at h
        rcases List.mem_cons.1 h with rfl | h
        · intro hm
          rcases List.mem_cons.1 hm with e | hm
          · exact hc e.symm
          · exact lns_no10 r a (by rw [hl]; simp) hm
        · exact lns_no10 r x (by rw [hl]; simp [h])

theorem lns_cat : ∀ (x y : List UInt8), 10 ∉ x → M.lns (x ++ 10 :: y) = x :: M.lns y
  | [], y, _ => M.lns_nl 10 y rfl
  | c :: r, y, h => by
    have hc : ¬ c = 10 := fun e => h (by rw [e]; simp)
    exact M.lns_co c (r ++ 10 :: y) r (M.lns y) hc (lns_cat r y (fun hm => h (by simp [hm])))

theorem ind_no10 (x : List UInt8) : 10 ∉ x.map ind := by
  intro h
  obtain ⟨c, _, hc⟩ := List.mem_map.1 h
  unfold ind at hc
  split at hc <;> cases hc

theorem exc_lns (l : List UInt8) (k : Nat) (hk : k ≤ l.length) : M.lns (exc l k) = [lineOf l k, ((lineOf l k).take (M.pos l k).2).map ind ++ [94], []] := by
  have hx : 10 ∉ lineOf l k := by
    unfold lineOf
    have h := (lineOf_cut l k hk).2.2.2.2
    rw [show (M.lns l).getD (M.pos l k).1 [] = (M.lns l)[(M.pos l k).1] by simp [h]]
    exact lns_no10 l _ (List.getElem_mem h)
  have e : exc l k = lineOf l k ++ 10 :: ((((lineOf l k).take (M.pos l k).2).map ind ++ [94]) ++ 10 :: []) := by unfold exc; simp
  rw [e, lns_cat _ _ hx, lns_cat _ [] (by
    intro h
    rcases List.mem_append.1 h with h | h
    · exact ind_no10 _ h
    · simp at h)]
  rfl

theorem last94 (m : List UInt8) (Y : ByteArray) (hY : Y = ⟨(m ++ [94]).toArray⟩) (c : Nat) (hc : m.length = c) (h : c < Y.size) : Y[c] = 94 := by
  subst hc
  subst hY
  have e : (⟨(m ++ [94]).toArray⟩ : ByteArray)[m.length] = ((m ++ [94]).toArray)[m.length]'(by simp) := rfl
  rw [e]
  simp

set_option maxHeartbeats 1000000 in
theorem srcMark_walk (s : ByteArray) (n : Int) (w : World) (hr : Ready w) :
    Calls Tryd.prog 9 #[.string s, .int .i64 n] w fun e w' => e = .returned (.bool true) ∧ Below w.heap.size w w' := by
  have HA := hide awake_any
  have HR0 := hide hr
  have HBW := hide (Below.refl w.heap.size w)
  clear hr
  by_cases hs : (500 : Int) < s.size
  · have hd : decide ((500 : Int) < (s.size : Int)) = true := by simpa using hs
    clear hs
    go_enter Tryd.func9, Tryd.ntmps9
    go_wp2_with fail
    refine (HA.out _ HR0.out).mono ?_
    rintro e w1 ⟨rfl, hb1⟩
    have HB1 := hide (HBW.out.trans (hb1.mono HBW.out.size))
    have HR1 := hide (HR0.out.below hb1)
    clear hb1
    go_wp2_with fail
    refine (HA.out _ HR1.out).mono ?_
    rintro e w2 ⟨rfl, hb2⟩
    have HB2 := hide (bl_trans HB1.out hb2)
    clear hb2
    go_wp2
    go_ret
    exact ⟨rfl, HB2.out⟩
  · have hd : decide ((500 : Int) < (s.size : Int)) = false := by simpa using hs
    obtain ⟨k, hk, hkn⟩ : ∃ k : Nat, k ≤ s.size ∧ min (max n 0) (s.size : Int) = k := ⟨(min (max n 0) (s.size : Int)).toNat, by omega, by omega⟩
    have hl : s.data.toList.length = s.size := by simp
    obtain ⟨q1, q2, q3, q4, q5⟩ := lineOf_cut s.data.toList k (by omega)
    have hle := M.pos_le s.data.toList k
    have hline : line s n = ((M.pos s.data.toList k).1 : Int) + 1 ∧ col s n = ((M.pos s.data.toList k).2 : Int) + 1 := by
      unfold line col; rw [hkn, Int.toNat_natCast]; exact ⟨rfl, rfl⟩
    have h1 := fun w => where_any s n w (by omega)
    rw [hline.1, hline.2] at h1
    obtain ⟨E, hE⟩ : ∃ E : ByteArray, E = ⟨(exc s.data.toList k).toArray⟩ := ⟨_, rfl⟩
    have h2 := fun w => excerpt_any s n w (by omega)
    rw [hkn, Int.toNat_natCast, ← hE] at h2
    obtain ⟨X, hX⟩ : ∃ X : ByteArray, X = ⟨(lineOf s.data.toList k).toArray⟩ := ⟨_, rfl⟩
    obtain ⟨Y, hY⟩ : ∃ Y : ByteArray, Y = ⟨(((lineOf s.data.toList k).take (M.pos s.data.toList k).2).map ind ++ [94]).toArray⟩ := ⟨_, rfl⟩
    have hxl : (lineOf s.data.toList k).length ≤ s.size := by rw [q1]; simp; have : s.data.size = s.size := rfl; omega
    have hcl : (M.pos s.data.toList k).2 ≤ (lineOf s.data.toList k).length := by
      have h := congrArg List.length q2
      rw [List.length_take, List.length_drop, List.length_take] at h
      omega
    have hYs : Y.size = (M.pos s.data.toList k).2 + 1 := by rw [hY]; show (List.toArray _).size = _; simp; omega
    have hY94 : ∀ h : (M.pos s.data.toList k).2 < Y.size, Y[(M.pos s.data.toList k).2] = 94 := fun h =>
      last94 _ Y hY _ (by simp; omega) h
    have hEs : E.size ≤ 3000 := by rw [hE]; show (exc s.data.toList k).toArray.size ≤ _; unfold exc; simp; omega
    have hEl : M.lns E.data.toList = [X.data.toList, Y.data.toList, []] := by
      rw [hE, hX, hY]; exact exc_lns s.data.toList k (by omega)
    have h3 := fun w (h : MaxOk w) => lines_any E w (by omega) h
    rw [hEl] at h3
    have h4 := fun w (h : MaxOk w) => lines_any s w (by omega) h
    have hget : (M.lns s.data.toList)[(M.pos s.data.toList k).1]? = some X.data.toList := by
      rw [hX]; unfold lineOf; rw [List.getElem?_eq_getElem q5]; simp [q5]
    have hll : (M.lns s.data.toList).length ≤ 1001 := by
      obtain ⟨a, b, e1, e2, _⟩ := M.lns_last s.data.toList s.data.toList.length (Nat.le_refl _)
      rw [List.take_length] at e1
      have := M.pos_le s.data.toList s.data.toList.length
      rw [e1]; simp; omega
    have hp1 : (M.pos s.data.toList k).1 ≤ 1000 := by omega
    have hp2 : (M.pos s.data.toList k).2 ≤ 1000 := by omega
    generalize M.lns s.data.toList = ls at *
    generalize M.pos s.data.toList k = p at *
    obtain ⟨y, hy⟩ : ∃ y, y = p.2 := ⟨_, rfl⟩
    obtain ⟨x, hx⟩ : ∃ x, x = p.1 := ⟨_, rfl⟩
    rw [show ((p.2 : Int) + 1) = (Y.size : Int) by omega] at h1
    rw [← hx] at h1 hget hp1 q5
    rw [← hy] at hp2 hYs hY94
    have hyy : y < Y.size := by omega
    have hY94' := hY94 hyy
    have H1 := hide h1
    have H2 := hide h2
    have H3 := hide h3
    have H4 := hide h4
    have hYsz : Y.size ≤ 1001 := by omega
    have hYw : IntKind.i64.wrap ((Y.size : Int) - 1) = (y : Int) := by rw [show ((Y.size : Int) - 1) = (y : Int) by omega]; exact IntWalk.i64_in _ (by omega)
    have hxw : IntKind.i64.wrap ((x : Int) + 1 - 1) = (x : Int) := by rw [show ((x : Int) + 1 - 1) = (x : Int) by omega]; exact IntWalk.i64_in _ (by omega)
    have HYW := hide hYw
    have HXW := hide hxw
    have HG := hide hget
    have H94 := hide hY94'
    clear h1 h2 h3 h4 hget hYs hY94 hY94' hX hYw hxw hy hx hY hE hEl hcl hxl hline hle q1 q2 q3 q4 hl hkn hk hs hEs
    go_enter Tryd.func9, Tryd.ntmps9
    go_wp2_with fail
    refine (HA.out _ HR0.out).mono ?_
    rintro e w1 ⟨rfl, hb1⟩
    have HB1 := hide (HBW.out.trans (hb1.mono HBW.out.size))
    have HR1 := hide (HR0.out.below hb1)
    clear hb1
    go_wp2_with fail
    refine (H1.out _).mono ?_
    rintro e w2 ⟨rfl, rfl⟩
    go_wp2_with fail
    refine (H2.out _).mono ?_
    rintro e w2 ⟨rfl, hb2⟩
    have HB2 := hide (bl_trans HB1.out hb2)
    have HR2 := hide (HR1.out.below hb2)
    clear hb2
    go_wp2_with fail
    refine (H3.out _ HR2.out.max).mono ?_
    rintro e w3 ⟨_, rfl, ⟨g1, o1, c1, rfl, hc1, hg1, hC1⟩, hb3⟩
    have HB3 := hide (bl_trans HB2.out hb3)
    have HR3 := hide (HR2.out.below hb3)
    clear hb3
    go_wp2_with fail
    refine (H4.out _ HR3.out.max).mono ?_
    rintro e w4 ⟨_, rfl, ⟨g2, o2, c2, rfl, hc2, hg2, hC2⟩, hb4⟩
    have k0 : w4.cell? ⟨g1, o1, none⟩ = some (.string X) := (hb4.cell (p := ⟨g1, o1, none⟩) hg1).trans (by have := hC1 0 _ rfl; rw [Nat.add_zero, ← sv_of] at this; exact this)
    have k1 : w4.cell? ⟨g1, o1 + 1, none⟩ = some (.string Y) := (hb4.cell (p := ⟨g1, o1 + 1, none⟩) hg1).trans (by have := hC1 1 _ rfl; rw [← sv_of] at this; exact this)
    have k2 : w4.cell? ⟨g1, o1 + 2, none⟩ = some (.string ⟨#[]⟩) := (hb4.cell (p := ⟨g1, o1 + 2, none⟩) hg1).trans (hC1 2 _ rfl)
    have kl : w4.cell? ⟨g2, o2 + x, none⟩ = some (.string X) := by have := hC2 _ _ HG.out; rw [← sv_of] at this; exact this
    have HB4 := hide (bl_trans HB3.out hb4)
    have HC1 := hide hc1
    have HC2 := hide hc2
    clear hC1 hC2 hb4 hc1 hc2 hg1 hg2
    go_wp2_with fail
    have hYw := HYW.out
    have hxw := HXW.out
    have t1 : decide ((1 : Int) ≤ (x : Int) + 1) = true := by simp; omega
    have t2 : decide ((x : Int) + 1 ≤ (ls.length : Int)) = true := by simp; omega
    have t3 : ((Y[y].toNat : Int) == 94) = true := by rw [H94.out]; rfl
    have b1 : (0 : Int) ≤ (x : Int) := by omega
    have b2 : (x : Int) < (ls.length : Int) := by omega
    have b3 : (0 : Int) ≤ (y : Int) := by omega
    have b4 : (y : Int) < (Y.size : Int) := by omega
    go_quiet (fail)
    go_wp2
    go_ret
    exact ⟨rfl, bl_drewN HB4.out _⟩
end Go.Proofs.YtcgiifcikcfdaaaDoor
