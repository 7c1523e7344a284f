/- Whether lists of tokens are alike, by the program. No conditions beyond the bounds that each statement names. -/
import Derived.Test.YtjiencifdpopdaaE
namespace Go.Proofs.Ytjiencifdpopdaa
open Go.RowKit

set_option maxHeartbeats 2000000 in
theorem lexSame_any (va vb : Value) (la lb : List RT) (w : World) (ha : Toks w va la) (hb : Toks w vb lb) (hl : la.length ≤ 1000000) :
    Calls Try.prog 16 #[va, vb] w fun e w' => e = .returned (.bool (allR sameKT la lb)) ∧ Below w.heap.size w w' := by
  obtain ⟨pa, ca, rfl, hca, hA⟩ := ha
  obtain ⟨pb, cb, rfl, hcb, hB⟩ := hb
  by_cases hlen : la.length = lb.length
  · have hne : ((la.length : Int) != (lb.length : Int)) = false := by simp [hlen]
    have HR := hide (allR_iff sameKT la lb hlen)
    have HF := hide (Bool.eq_false_iff (b := allR sameKT la lb))
    generalize allR sameKT la lb = R at *
    have HLen := hide hlen
    have HA := hide hA
    have HB := hide hB
    clear hlen hA hB
    go_enter Try.func16, Try.ntmps16
    go_wp2
    go_loopw [14, 5, 6] (fun i _ _ wr => ∃ k : Nat, k ≤ la.length ∧ i = .int .i64 k ∧ Below w.heap.size w wr ∧ ∀ j (h1 : j < la.length) (h2 : j < lb.length), j < k → sameKT la[j] lb[j] = true) (fun i _ _ _ => la.length - (intOf i).toNat)
    case atStart => exact ⟨0, Nat.zero_le _, rfl, Below.refl _ _, fun j _ _ h => by omega⟩
    case round =>
      obtain ⟨k, hk, rfl, hbel, heq⟩ := hrel
      have HE := hide heq
      have HB0 := hide hbel
      clear heq hbel
      by_cases hlt : k < la.length
      · have hltb : k < lb.length := by have := HLen.out; omega
        obtain ⟨ga, oa, rfl, hga, hA⟩ := HA.out (by intro h; rw [h] at hlt; simp at hlt)
        obtain ⟨gb, ob, rfl, hgb, hB⟩ := HB.out (by intro h; rw [h] at hltb; simp at hltb)
        obtain ⟨a1, a2, a3⟩ := hA k _ (List.getElem?_eq_getElem hlt)
        obtain ⟨b1, b2, b3⟩ := hB k _ (List.getElem?_eq_getElem hltb)
        obtain ⟨x, hx⟩ : ∃ x, x = la[k] := ⟨_, rfl⟩
        obtain ⟨y, hy⟩ : ∃ y, y = lb[k] := ⟨_, rfl⟩
        rw [← hx] at a1 a2 a3
        rw [← hy] at b1 b2 b3
        have HX := hide hx
        have HY := hide hy
        obtain ⟨x1, x2, x3⟩ := x
        obtain ⟨y1, y2, y3⟩ := y
        simp only at a1 a2 a3 b1 b2 b3
        have HNo : Hid (¬ sameKT (x1, x2, x3) (y1, y2, y3) = true → false = R) := fun hno => by
          rw [eq_comm, HF.out]; intro hall
          exact hno (by rw [HX.out, HY.out]; exact HR.out.1 hall k hlt hltb)
        have HYes : Hid (sameKT (x1, x2, x3) (y1, y2, y3) = true → ∀ j (h1 : j < la.length) (h2 : j < lb.length), j < k + 1 → sameKT la[j] lb[j] = true) := fun hyes j h1 h2 hj => by
          by_cases e : j = k
          · subst e; rw [← HX.out, ← HY.out]; exact hyes
          · exact HE.out j h1 h2 (by omega)
        have c1 := (HB0.out.cell (p := ⟨ga, oa + k * 3, none⟩) hga).trans a1
        have c2 := (HB0.out.cell (p := ⟨ga, oa + k * 3 + 1, none⟩) hga).trans a2
        have c3 := (HB0.out.cell (p := ⟨ga, oa + k * 3 + 2, none⟩) hga).trans a3
        have hnew := bl_alloc HB0.out (Obj.cells #[.int .i64 x1, .string x2, .int .i64 x3] 32)
        have d1 := (hnew.cell (p := ⟨gb, ob + k * 3, none⟩) hgb).trans b1
        have d2 := (hnew.cell (p := ⟨gb, ob + k * 3 + 1, none⟩) hgb).trans b2
        have HB1 := hide hnew
        clear hx hy hA hB HX HY HE a1 a2 a3 b1 b2 b3 hnew
        by_cases hK : x1 = y1
        · subst hK
          by_cases hT : x2.toList = y2.toList
          · have ht : (x2.toList == y2.toList) = true := by simpa using hT
            have HT := hide hT
            clear hT
            have HYc := hide (HYes.out ((kt_iff _ _).2 ⟨rfl, HT.out⟩))
            clear HYes HNo
            go_wp2
            go_quiet (fail)
            go_wp2
            go_roundw
            case rel => exact ⟨k + 1, by omega, by go_num, bl_drewN HB1.out _, HYc.out⟩
            case measure => simp [intOf]; omega
          · have ht : (x2.toList == y2.toList) = false := by simpa using hT
            have HNc := hide (HNo.out fun h => hT ((kt_iff _ _).1 h).2)
            clear HYes HNo hT
            go_wp2
            go_quiet (fail)
            go_wp2
            go_ret
            exact ⟨ret_bool HNc.out, bl_drewN HB1.out _⟩
        · have hk2 : (x1 != y1) = true := by simpa using hK
          have HNc := hide (HNo.out fun h => hK ((kt_iff _ _).1 h).1)
          clear HYes HNo hK
          go_wp2
          go_quiet (fail)
          go_wp2
          go_ret
          exact ⟨ret_bool HNc.out, bl_drewN HB1.out _⟩
      · obtain rfl : k = la.length := by omega
        have HT := hide (HR.out.2 fun j h1 h2 => HE.out j h1 h2 h1)
        clear hlt
        go_wp2
        go_ret
        exact ⟨ret_bool HT.out.symm, HB0.out⟩
  · have hne : ((la.length : Int) != (lb.length : Int)) = true := by simp; omega
    have HN := hide (allR_len sameKT la lb hlen)
    generalize allR sameKT la lb = R at *
    clear hlen hA hB
    go_enter Try.func16, Try.ntmps16
    go_wp2
    go_ret
    exact ⟨ret_bool HN.out.symm, Below.refl _ _⟩
end Go.Proofs.Ytjiencifdpopdaa
