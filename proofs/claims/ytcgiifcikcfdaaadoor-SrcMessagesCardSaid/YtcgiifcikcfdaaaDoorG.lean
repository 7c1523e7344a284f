/- The document's own excerpt. No conditions beyond the bounds that each statement names. -/
import Derived.Test.YtcgiifcikcfdaaaDoorF
namespace Go.Proofs.YtcgiifcikcfdaaaDoor
open Go.RowKit

set_option maxHeartbeats 1000000 in
theorem refExcerpt_any (s : ByteArray) (n : Int) (w : World) (hs : s.size ≤ 1000000) :
    Calls Tryd.prog 22 #[.string s, .int .i64 n] w fun e w' => e = .returned (.string ⟨(exc s.data.toList (min (max n 0) s.size).toNat).toArray⟩) ∧ Below w.heap.size w w' := by
  obtain ⟨k, hk, hkn⟩ : ∃ k : Nat, k ≤ s.size ∧ min (max n 0) (s.size : Int) = k := ⟨(min (max n 0) (s.size : Int)).toNat, by omega, by omega⟩
  have hl : s.data.toList.length = s.size := by simp
  obtain ⟨e1, e2, e3, e4, e5⟩ := lineOf_cut s.data.toList k (by omega)
  have hle := M.pos_le s.data.toList k
  have hline : line s n = ((M.pos s.data.toList k).1 : Int) + 1 ∧ col s n = ((M.pos s.data.toList k).2 : Int) + 1 := by
    unfold line col; rw [hkn, Int.toNat_natCast]; exact ⟨rfl, rfl⟩
  have hW : ∀ w, Calls Tryd.prog 18 #[.string s, .int .i64 n] w fun e w' => e = .returned (.tuple #[.int .i64 (((M.pos s.data.toList k).1 : Int) + 1), .int .i64 (((M.pos s.data.toList k).2 : Int) + 1)]) ∧ w = w' := fun w => by
    rw [← hline.1, ← hline.2]; exact refWhere_any s n w hs
  rw [hkn, Int.toNat_natCast]
  obtain ⟨t, ht⟩ : ∃ t : ByteArray, t = ⟨(lineOf s.data.toList k).toArray⟩ := ⟨_, rfl⟩
  have htl : t.data.toList = lineOf s.data.toList k := by rw [ht]
  have hcol : (M.pos s.data.toList k).2 ≤ t.size := by
    have h := congrArg List.length e2
    rw [List.length_take, List.length_drop, List.length_take] at h
    have : t.size = (lineOf s.data.toList k).length := by rw [← htl]; simp
    omega
  have hts : t.size ≤ 1000000 := by
    have : t.size = (lineOf s.data.toList k).length := by rw [← htl]; simp
    rw [this, e1]; simp; have : s.data.size = s.size := rfl; omega
  have hF : exc s.data.toList k = t.data.toList ++ [10] ++ (t.data.toList.take (M.pos s.data.toList k).2).map ind ++ [94, 10] := by rw [htl]; rfl
  have hget : (M.lns s.data.toList)[(M.pos s.data.toList k).1]? = some t.data.toList := by
    rw [htl]; unfold lineOf; rw [List.getElem?_eq_getElem e5]; simp [e5]
  have HL := hide (fun w => refLines_any s w hs)
  have HF := hide hF
  have HG := hide hget
  have HW := hide hW
  have hp1 : (M.pos s.data.toList k).1 ≤ 1000000 := by omega
  have hp2 : (M.pos s.data.toList k).2 ≤ 1000000 := by omega
  have e5' := e5
  generalize M.lns s.data.toList = ls at *
  generalize M.pos s.data.toList k = p at *
  clear hkn hl e1 e2 e3 e4 hle hline hW ht htl hF hget e5'
  go_enter Tryd.func22, Tryd.ntmps22
  go_wp2_with (first
    | (go_at_call 18; refine (HW.out _).mono ?_; rintro e w' ⟨rfl, rfl⟩)
    | (go_at_call 16; refine (HL.out _).mono ?_; rintro e w' ⟨_, rfl, ⟨g, off, c, rfl, hc, hg, hC⟩, hb⟩; have hcell := hC _ _ HG.out; rw [← sv_of] at hcell; have HC := hide hC; clear hC))
  clear hcell
  go_loop [8, 9] (fun o i => ∃ (j : Nat) (z : ByteArray), j ≤ p.2 ∧ i = .int .i64 j ∧ o = .string z ∧ z.size = t.size + 1 + j ∧ Hid (z.data.toList = t.data.toList ++ [10] ++ (t.data.toList.take j).map ind)) (fun _ i => p.2 - (intOf i).toNat)
  case atStart => exact ⟨0, _, Nat.zero_le _, rfl, rfl, by simp; rfl, by unfold Hid; simp⟩
  case round =>
    obtain ⟨j, z, hj, rfl, rfl, hz, HZ⟩ := hrel
    have hz1 : z.size ≤ 3000000 := by omega
    have HZL := hide hz
    clear hz
    by_cases hlt : j < p.2
    · have hjt : j < t.size := by omega
      obtain ⟨x, hx⟩ : ∃ x, x = t[j] := ⟨_, rfl⟩
      have hstep : (t.data.toList.take (j + 1)).map ind = (t.data.toList.take j).map ind ++ [ind x] := by
        have hl : t.data.toList.length = t.size := by simp
        rw [List.take_succ_eq_append_getElem (by omega), List.map_append, hx]
        simp; rfl
      have HS := hide hstep
      have HX := hide hx
      clear hx hstep
      go_wp2
      · have hi : ind x = 9 := by
          have h : ((t[j].toNat : Int) == 9) = true := by assumption
          have : x = 9 := by rw [HX.out]; exact u8_eq t[j] 9 (by simpa using h)
          rw [this]; rfl
        go_round
        case rel => exact ⟨j + 1, z ++ ⟨#[9]⟩, by omega, by go_num, rfl, by rw [ByteArray.size_append, HZL.out]; rfl, by unfold Hid; rw [ba_app, HZ.out, HS.out, hi]; simp⟩
        case measure => simp [intOf]; omega
      · have hi : ind x = 32 := by
          have h : ((t[j].toNat : Int) == 9) = false := by assumption
          unfold ind
          rw [if_neg]
          intro e
          rw [← HX.out, e] at h
          exact absurd h (by decide)
        go_round
        case rel => exact ⟨j + 1, z ++ ⟨#[32]⟩, by omega, by go_num, rfl, by rw [ByteArray.size_append, HZL.out]; rfl, by unfold Hid; rw [ba_app, HZ.out, HS.out, hi]; simp⟩
        case measure => simp [intOf]; omega
    · obtain rfl : j = p.2 := by omega
      have HX : Hid (z ++ ⟨#[94, 10]⟩ = ⟨(exc s.data.toList k).toArray⟩) := by
        unfold Hid
        apply ba_ext
        rw [ba_app, HZ.out, HF.out]
      go_wp2
      go_ret
      exact ⟨ret_str HX.out, hb⟩
end Go.Proofs.YtcgiifcikcfdaaaDoor
