/- The law SrcLines, walked: it answers true. No conditions beyond what the library's variables hold. -/
import Derived.Test.YtcgiifcikcfdaaaDoorL
namespace Go.Proofs.YtcgiifcikcfdaaaDoor
open Go.RowKit

/-- Texts put together with line feeds. -/
def joinN : List (List UInt8) → List UInt8
  | [] => []
  | h :: t => h ++ (t.map (fun x => 10 :: x)).flatten

theorem join_lns : ∀ l : List UInt8, joinN (M.lns l) = l
  | [] => rfl
  | c :: r => by
    have ih := join_lns r
    cases hl : M.lns r with
    | nil => exact absurd hl (M.lns_ne r)
    | cons x y =>
      rw [hl] at ih
      by_cases hc : c = 10
      · rw [M.lns_nl c r hc, hl]
        simp only [joinN, List.map_cons, List.flatten_cons, List.nil_append] at ih ⊢
        rw [hc, List.cons_append, ih]
      · rw [M.lns_co c r x y hc hl]
        simp only [joinN] at ih ⊢
        rw [List.cons_append, ih]
theorem joinN_snoc (h : List UInt8) (t : List (List UInt8)) (k : Nat) (hk : k < t.length) : joinN (h :: t.take (k + 1)) = joinN (h :: t.take k) ++ (10 :: t[k]) := by
  simp only [joinN]
  rw [List.take_succ_eq_append_getElem hk, List.map_append, List.flatten_append]
  simp only [List.map_singleton, List.flatten_singleton, List.append_assoc]
theorem joinN_le (h : List UInt8) (t : List (List UInt8)) (k : Nat) : (joinN (h :: t.take k)).length ≤ (joinN (h :: t)).length := by
  have e : joinN (h :: t) = joinN (h :: t.take k) ++ ((t.drop k).map (fun x => 10 :: x)).flatten := by
    simp only [joinN, List.append_assoc, List.append_cancel_left_eq]
    rw [← List.flatten_append, ← List.map_append, List.take_append_drop]
  rw [e, List.length_append]; omega

set_option maxHeartbeats 1000000 in
theorem srcLines_walk (s : ByteArray) (w : World) (hr : Ready w) :
    Calls Tryd.prog 4 #[.string s] w fun e w' => e = .returned (.bool true) ∧ Below w.heap.size w w' := by
  have HA := hide awake_any
  have HR0 := hide hr
  have HBW := hide (Below.refl w.heap.size w)
  clear hr
  by_cases hs : (1000 : Int) < s.size
  · have hd : decide ((1000 : Int) < (s.size : Int)) = true := by simpa using hs
    clear hs
    go_enter Tryd.func4, Tryd.ntmps4
    go_wp2_with fail
    refine (HA.out _ HR0.out).mono ?_
    rintro e w1 ⟨rfl, hb1⟩
    have HB1 := hide (HBW.out.trans (hb1.mono HBW.out.size))
    have HR1 := hide (HR0.out.below hb1)
    clear hb1
    go_wp2_with fail
    refine (HA.out _ HR1.out).mono ?_
    rintro e w2 ⟨rfl, hb2⟩
    have HB2 := hide (bl_trans HB1.out hb2)
    clear hb2
    go_wp2
    go_ret
    exact ⟨rfl, HB2.out⟩
  · have hd : decide ((1000 : Int) < (s.size : Int)) = false := by simpa using hs
    have h1 := fun w (h : MaxOk w) => lines_any s w (by omega) h
    have h2 := fun w => refLines_any s w (by omega)
    have hj := join_lns s.data.toList
    have hlen : (joinN (M.lns s.data.toList)).length ≤ 1000 := by rw [hj]; simp; omega
    have hll : (M.lns s.data.toList).length ≤ 1001 := by
      obtain ⟨a, b, e1, e2, _⟩ := M.lns_last s.data.toList s.data.toList.length (Nat.le_refl _)
      rw [List.take_length] at e1
      have := M.pos_le s.data.toList s.data.toList.length
      have hl : s.data.toList.length = s.size := by simp
      rw [e1]; simp; omega
    have hne := List.length_pos_iff.2 (M.lns_ne s.data.toList)
    generalize M.lns s.data.toList = ls at *
    obtain ⟨h, t, rfl⟩ : ∃ h t, ls = h :: t := by
      cases ls with
      | nil => simp at hne
      | cons x y => exact ⟨x, y, rfl⟩
    have H1 := hide h1
    have H2 := hide h2
    have HJ := hide hj
    have HLL := hide hll
    have HLE := hide hlen
    have HSZ := hide hs
    clear h1 h2 hj hlen hll hne hs
    go_enter Tryd.func4, Tryd.ntmps4
    go_wp2_with fail
    refine (HA.out _ HR0.out).mono ?_
    rintro e w1 ⟨rfl, hb1⟩
    have HB1 := hide (HBW.out.trans (hb1.mono HBW.out.size))
    have HR1 := hide (HR0.out.below hb1)
    clear hb1
    go_wp2_with fail
    refine (H1.out _ HR1.out.max).mono ?_
    rintro e w2 ⟨_, rfl, ht, hb2⟩
    have HB2 := hide (bl_trans HB1.out hb2)
    clear hb2
    have HT := hide ht
    obtain ⟨g, off, c, rfl, hc, hg, hC⟩ := ht
    have HCC := hide hC
    have HC1 := hide hc
    clear hC hc
    go_wp2_with fail
    refine (H2.out _).mono ?_
    rintro e w3 ⟨v3, rfl, ht3, hb3⟩
    have hsame := same_any _ _ _ _ _ (HT.out.below hb3) ht3 (by have := HLL.out; omega)
    have HB3 := hide (bl_trans HB2.out hb3)
    have hC3 : ∀ j l, (h :: t)[j]? = some l → w3.cell? ⟨g, off + j, none⟩ = some (sv l) := fun j l hj => (hb3.cell (p := ⟨g, off + j, none⟩) hg).trans (HCC.out j l hj)
    rw [show decide (h :: t = h :: t) = true from decide_eq_true rfl] at hsame
    have HS := hide hsame
    have HC3 := hide hC3
    clear hsame hb3 ht3 hC3 hg
    go_wp2_with fail
    refine HS.out.mono ?_
    rintro e w4 ⟨rfl, n, rfl⟩
    have c0 := HC3.out 0 h rfl
    rw [Nat.add_zero] at c0
    unfold sv at c0
    have hne0 : ((t.length : Int) + 1 == 0) = false := by rw [beq_eq_false_iff_ne]; omega
    have hhl : h.length ≤ 1000 := by have := HLE.out; simp only [joinN, List.length_append] at this; omega
    have htl : t.length ≤ 1001 := by have := HLL.out; simp at this; omega
    by_cases hcc : c = 1
    · have ht0 : t = [] := by have := HC1.out; simp at this; exact List.eq_nil_of_length_eq_zero (by omega)
      subst ht0
      subst hcc
      obtain ⟨z, hz⟩ : ∃ z : ByteArray, z = ⟨h.toArray⟩ := ⟨_, rfl⟩
      have HF : Hid (z = s) := by
        unfold Hid
        have := HJ.out
        simp only [joinN, List.map_nil, List.flatten_nil, List.append_nil] at this
        rw [hz, this]
      rw [← hz] at c0
      clear hz
      go_wp2_with fail
      go_loop [33, 4] (fun i o => i = .int .i64 0 ∧ o = .string z) (fun _ _ => 0)
      case atStart => exact ⟨rfl, rfl⟩
      case round =>
        obtain ⟨rfl, rfl⟩ := hrel
        go_wp2
        go_ret
        exact ⟨ret_bool (by rw [HF.out]; simp), bl_drewN HB3.out n⟩
    · go_wp2_with fail
      clear c0
      go_loop [33, 4, 6] (fun i o _ => ∃ (k : Nat) (z : ByteArray), k ≤ t.length ∧ i = .int .i64 k ∧ o = .string z ∧ Hid (z.data.toList = joinN (h :: t.take k))) (fun i _ _ => t.length - (intOf i).toNat)
      case atStart => exact ⟨0, _, Nat.zero_le _, rfl, rfl, by unfold Hid; simp [joinN]⟩
      case round =>
        obtain ⟨k, z, hk, rfl, rfl, HZ⟩ := hrel
        have hzs : z.size ≤ 1000 := by
          have h1 := joinN_le h t k
          have h2 := HLE.out
          rw [← HZ.out] at h1
          have : z.data.toList.length = z.size := by simp
          omega
        by_cases hlt : k < t.length
        · have hx := HC3.out (k + 1) t[k] (by simp [hlt])
          rw [show off + (k + 1) = off + 1 + k by omega] at hx
          obtain ⟨y, hy⟩ : ∃ y : ByteArray, y = ⟨t[k].toArray⟩ := ⟨_, rfl⟩
          have hx2 : w3.cell? ⟨g, off + 1 + k, none⟩ = some (.string y) := by rw [hy]; exact hx
          have hys : y.size ≤ 1000 := by
            have h1 := joinN_le h t (k + 1)
            have h2 := HLE.out
            rw [joinN_snoc h t k hlt, List.length_append] at h1
            have : y.size = t[k].length := by rw [hy]; show t[k].toArray.size = _; simp
            simp at h1
            omega
          have HN : Hid ((z ++ (⟨#[10]⟩ ++ y)).data.toList = joinN (h :: t.take (k + 1))) := by
            unfold Hid
            rw [ba_app, ba_app, HZ.out, joinN_snoc h t k hlt, hy]
            simp
          clear hx hy
          have z1 : (⟨#[10]⟩ : ByteArray).size = 1 := rfl
          go_wp2
          go_round
          case rel => exact ⟨k + 1, _, by omega, by go_num, rfl, HN.out⟩
          case measure => simp [intOf]; omega
        · obtain rfl : k = t.length := by omega
          have HF : Hid (z = s) := by
            unfold Hid
            have h1 := HZ.out
            rw [List.take_length, HJ.out] at h1
            exact ByteArray.ext (Array.toList_inj.1 h1)
          go_wp2
          go_ret
          exact ⟨ret_bool (by rw [HF.out]; simp), bl_drewN HB3.out n⟩
end Go.Proofs.YtcgiifcikcfdaaaDoor
