/- The law LexPlaces, walked: it answers true. No conditions beyond what the library's variable holds. -/
import Derived.Test.YtjiencifdpopdaaN
import Derived.BigQuiet
namespace Go.Proofs.Ytjiencifdpopdaa
open Go.RowKit

theorem new3 (w : World) (e : TypeId) (a b c : Value) : (w.alloc (Obj.cells #[a, b, c] e)).cell? ⟨w.heap.size, 0, none⟩ = some a ∧ (w.alloc (Obj.cells #[a, b, c] e)).cell? ⟨w.heap.size, 1, none⟩ = some b ∧ (w.alloc (Obj.cells #[a, b, c] e)).cell? ⟨w.heap.size, 2, none⟩ = some c := by
  refine ⟨?_, ?_, ?_⟩ <;> simp

set_option maxRecDepth 20000 in
set_option maxHeartbeats 4000000 in
theorem lexPlaces_walk (s : ByteArray) (w : World) (hm : MaxOk w) :
    Calls Try.prog 4 #[.string s] w fun e w' => e = .returned (.bool true) ∧ Below w.heap.size w w' := by
  have HWK := hide wakes_any
  have HM := hide hm
  clear hm
  by_cases hs : (400 : Int) < s.size
  · go_enter Try.func4, Try.ntmps4
    go_wp2_with fail
    refine (HWK.out _ HM.out).mono ?_
    rintro e w1 ⟨rfl, hb1⟩
    have HB1 := hide hb1
    clear hb1
    go_wp2
    go_ret
    exact ⟨rfl, HB1.out⟩
  · have hT := fun w hm => tokens_any s w (by omega) hm
    have HT := hide hT
    clear hT
    rcases ans_cases s.data.toList with hok | hbad
    · obtain ⟨hcl, hTT⟩ := ans_ok hok
      rw [hok] at HT
      have HTT := hide hTT
      have HCL := hide ((cln_none _).1 hcl)
      clear hTT hcl hok
      generalize (ans s.data.toList).1 = ts at *
      go_enter Try.func4, Try.ntmps4
      go_wp2_with fail
      refine (HWK.out _ HM.out).mono ?_
      rintro e w1 ⟨rfl, hb1⟩
      have HB1 := hide hb1
      clear hb1
      go_wp2_with fail
      refine (HT.out _ (HM.out.below HB1.out)).mono ?_
      rintro e w2 ⟨v, rfl, ht, hb2⟩
      rw [show fltV (0, 0) = .agg #[.int .i64 0, .int .i64 0] from rfl]
      have HB2 := hide (bl_trans HB1.out hb2)
      obtain ⟨p, c, rfl, hpc, hpx⟩ := ht
      have HPX := hide hpx
      rw [List.length_map] at hpc ⊢
      have hlen : ts.length ≤ 400 := by have := (M.T_len _ _ _ _ HTT.out).1; rw [len_of] at this; omega
      clear hb2 hpx
      go_wp2
      go_loopw [40, 5, 7, 8, 9] (fun i a _ _ _ wr => ∃ k q : Nat, k ≤ ts.length ∧ q ≤ s.size ∧ i = .int .i64 k ∧ a = .int .i64 q ∧ M.T q (s.data.toList.drop q) = (ts.drop k, none) ∧ Below w2.heap.size w2 wr) (fun i _ _ _ _ _ => ts.length - (intOf i).toNat)
      case atStart => exact ⟨0, 0, Nat.zero_le _, Nat.zero_le _, rfl, rfl, HTT.out, (Below.refl _ _).alloc (Nat.le_refl _) _⟩
      case round =>
        obtain ⟨k, q, hk, hq, rfl, rfl, hTk, hbel⟩ := hrel
        by_cases hlt : k < ts.length
        · obtain ⟨g, off, rfl, hg, hx⟩ := HPX.out (by intro h; have := congrArg List.length h; simp at this; subst this; simp at hlt)
          obtain ⟨a1, a2, a3⟩ := hx k _ (by rw [List.getElem?_map, List.getElem?_eq_getElem hlt]; rfl)
          have b1 := (hbel.cell (p := ⟨g, off + k * 3, none⟩) hg).trans a1
          have b2 := (hbel.cell (p := ⟨g, off + k * 3 + 1, none⟩) hg).trans a2
          have b3 := (hbel.cell (p := ⟨g, off + k * 3 + 2, none⟩) hg).trans a3
          rw [List.drop_eq_getElem_cons hlt] at hTk
          obtain ⟨m, n, K, e1, e2, e3, e4, e5, e6, e7, e8⟩ := M.T_head _ _ _ _ _ hTk
          rw [e1] at b1 b2 b3
          rw [List.length_drop, len_of] at e4
          simp only [encT] at b1 b2 b3
          rw [List.drop_drop] at b2 e6
          rw [← ext_of] at b2
          have hin := fun w hm => tokens_any (s.extract q (q + m)) w (by simp; omega) hm
          have hsub : (s.extract q (q + m)).data.toList = (s.data.toList.drop q).take m := by rw [Lib.extract_data, Nat.add_sub_cancel_left]
          rw [hsub, ans_of ((cln_none _).2 ⟨fun c hc => HCL.out.1 c (List.mem_of_mem_drop (List.mem_of_mem_take hc)), by rw [List.length_take, List.length_drop, len_of]; omega⟩) (e7 0)] at hin
          have HBL := hide hbel
          have hmw : MaxOk wr := (HM.out.below HB2.out).below hbel
          have HMW := hide hmw
          have hqm : q + m + n ≤ s.size := by omega
          clear e1 e2 e7 e5 e8 hx a1 a2 a3 hsub hTk hbel hmw
          obtain ⟨A, hA⟩ : ∃ A, A = q + m := ⟨_, rfl⟩
          rw [← Nat.add_assoc, ← hA] at e6
          rw [← hA] at hin b2 b3 hqm
          have HE6 := hide e6
          clear e6
          obtain ⟨tx, htx⟩ : ∃ tx, tx = s.extract A (A + n) := ⟨_, rfl⟩
          rw [← htx] at b2
          have hsz : tx.size = n := by rw [htx]; simp; omega
          have hne : (tx.toList == []) = false := by
            rw [beq_eq_false_iff_ne]; intro h
            have := congrArg List.length h
            rw [ByteArray.toList_eq, len_of, hsz] at this; simp at this; omega
          have heq : ((s.extract A (A + n)).toList == tx.toList) = true := by rw [htx]; simp
          have hqA : q ≤ A := by omega
          have d1 : decide (A < q) = false := by simp; omega
          have d2 : decide ((s.size : Int) - (n : Int) < (A : Int)) = false := by simp; omega
          have HIN := hide hin
          have HSZ := hide hsz
          have hszi : (tx.size : Int) = (n : Int) := by rw [hsz]
          have hnA : (A : Int) + n ≤ s.size := by omega
          have z1 : (wr.alloc (Obj.cells #[Value.int IntKind.i64 K, Value.string tx, Value.int IntKind.i64 A] 32)).heap.size = wr.heap.size + 1 := by simp
          clear hin htx hsz e4 hA e3
          go_wp2
          go_quiet (fail)
          go_wp2_with fail
          have hbx := bl_drewN (bl_alloc HBL.out (Obj.cells #[Value.int IntKind.i64 K, Value.string tx, Value.int IntKind.i64 A] 32)) nq
          refine (HIN.out _ ((HM.out.below HB2.out).below hbx)).mono ?_
          rintro e w3 ⟨v3', rfl, ht3, hb3⟩
          rw [show fltV (([] : List M.Tok), ((0, 0) : Nat × Nat)).2 = .agg #[.int .i64 0, .int .i64 0] from rfl]
          obtain ⟨p3, c3, rfl, q1, q2⟩ := ht3
          clear q1 q2
          simp only [List.map_nil, List.length_nil]
          have hlw : wr.heap.size < ((wr.alloc (Obj.cells #[Value.int IntKind.i64 K, Value.string tx, Value.int IntKind.i64 A] 32)).drewN nq).heap.size := by
            show wr.heap.size < (wr.alloc (Obj.cells #[Value.int IntKind.i64 K, Value.string tx, Value.int IntKind.i64 A] 32)).heap.size
            simp
          have hb4 := bl_alloc hb3 (Obj.cells #[Value.int IntKind.i64 0, Value.int IntKind.i64 0] 26)
          have y1 := (hb4.cell (p := ⟨wr.heap.size, 1, none⟩) hlw).trans (new3 wr 32 _ _ _).2.1
          have y2 := (hb4.cell (p := ⟨wr.heap.size, 2, none⟩) hlw).trans (new3 wr 32 _ _ _).2.2
          have HB4 := hide (bl_trans hbx hb4)
          clear hb3 hb4 hbx hlw d1 d2 hne heq b1 b2 b3 z1 hqA
          go_wp2
          go_roundw
          case rel => exact ⟨k + 1, A + n, hlt, hqm, by go_num, by go_num, HE6.out, HB4.out⟩
          case measure => simp [intOf]; omega
        · obtain rfl : k = ts.length := by omega
          clear hlt
          go_wp2
          refine bodyPost_ret (v := .bool true) (by simp [results, Try.results4, go_sem]) rfl ?_
          exact ⟨rfl, bl_trans HB2.out hbel⟩
    · obtain ⟨h1, h2, h3⟩ := ans_bad hbad
      rw [h1] at HT
      obtain ⟨f1, f2, hf⟩ : ∃ f1 f2, (ans s.data.toList).2 = (f1, f2) := ⟨_, _, rfl⟩
      rw [hf] at HT h2 h3
      rw [len_of] at h3
      simp only at h2 h3
      have hf1 : ¬ f1 = 0 := h2
      clear hbad h1 hf h2
      go_enter Try.func4, Try.ntmps4
      go_wp2_with fail
      refine (HWK.out _ HM.out).mono ?_
      rintro e w1 ⟨rfl, hb1⟩
      have HB1 := hide hb1
      clear hb1
      go_wp2_with fail
      refine (HT.out _ (HM.out.below HB1.out)).mono ?_
      rintro e w2 ⟨v, rfl, ht, hb2⟩
      rw [show fltV (f1, f2) = .agg #[.int .i64 f1, .int .i64 f2] from rfl]
      have HB2 := hide (bl_trans HB1.out hb2)
      obtain ⟨p, c, rfl, hpc, hpx⟩ := ht
      clear hb2 hpx
      go_wp2
      all_goals (go_ret; exact ⟨rfl, bl_alloc HB2.out _⟩)
end Go.Proofs.Ytjiencifdpopdaa
