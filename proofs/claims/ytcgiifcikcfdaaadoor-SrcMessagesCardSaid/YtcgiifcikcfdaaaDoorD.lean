/- Two lists of texts held against each other; the document's own At and Excerpt. No conditions beyond the bounds that each statement names. -/
import Derived.Test.YtcgiifcikcfdaaaDoorC
import Derived.Deep.QuietTactic
import Derived.BigQuiet
namespace Go.Proofs.YtcgiifcikcfdaaaDoor
open Go.RowKit

theorem same_any (va vb : Value) (la lb : List (List UInt8)) (w : World) (ha : Txts w va la) (hb : Txts w vb lb) (hl : la.length ≤ 1000000) :
    Calls Tryd.prog 15 #[va, vb] w fun e w' => e = .returned (.bool (decide (la = lb))) ∧ ∃ n, w' = w.drewN n := by
  obtain ⟨ga, oa, ca, rfl, hca, hga, hA⟩ := ha
  obtain ⟨gb, ob, cb, rfl, hcb, hgb, hB⟩ := hb
  by_cases hlen : la.length = lb.length
  · have hne : ((la.length : Int) != (lb.length : Int)) = false := by simp [hlen]
    have HLen := hide hlen
    have HA := hide hA
    have HB := hide hB
    clear hlen hA hB
    go_enter Tryd.func15, Tryd.ntmps15
    go_wp2
    go_loopw [13, 5] (fun i _ wr => ∃ k n : Nat, k ≤ la.length ∧ i = .int .i64 k ∧ wr = w.drewN n ∧ la.take k = lb.take k) (fun i _ _ => la.length - (intOf i).toNat)
    case atStart => exact ⟨0, 0, Nat.zero_le _, rfl, rfl, rfl⟩
    case round =>
      obtain ⟨k, n, hk, rfl, rfl, heq⟩ := hrel
      have HE := hide heq
      clear heq
      by_cases hlt : k < la.length
      · have hltb : k < lb.length := by have := HLen.out; omega
        have h1 : w.cell? ⟨ga, oa + k, none⟩ = some (sv la[k]) := HA.out k _ (List.getElem?_eq_getElem hlt)
        have h2 : w.cell? ⟨gb, ob + k, none⟩ = some (sv lb[k]) := HB.out k _ (List.getElem?_eq_getElem hltb)
        unfold sv at h1 h2
        obtain ⟨x, hx⟩ : ∃ x, x = la[k] := ⟨_, rfl⟩
        obtain ⟨y, hy⟩ : ∃ y, y = lb[k] := ⟨_, rfl⟩
        rw [← hx] at h1
        rw [← hy] at h2
        have HX := hide hx
        have HY := hide hy
        clear hx hy
        go_wp2
        go_quiet (fail)
        go_wp2
        · have hxy : (!x == y) = true := by assumption
          go_ret
          refine ⟨ret_bool ?_, _, World.drewN_drewN _ _ _⟩
          rw [eq_comm, decide_eq_false_iff_not]
          rintro rfl
          rw [HX.out, HY.out] at hxy
          simp at hxy
        · have he : (!x == y) = false := by assumption
          have hxy : la[k] = lb[k] := by rw [← HX.out, ← HY.out]; simpa using he
          have hn : la.take (k + 1) = lb.take (k + 1) := by
            rw [List.take_succ_eq_append_getElem hlt, List.take_succ_eq_append_getElem hltb, HE.out, hxy]
          go_roundw
          case rel => exact ⟨k + 1, _, by omega, by go_num, rfl, hn⟩
          case measure => simp [intOf]; omega
      · obtain rfl : k = la.length := by omega
        have heq : la = lb := by
          have h := HE.out
          rw [List.take_length, HLen.out, List.take_length] at h
          exact h
        have HQ := hide heq
        clear heq
        go_wp2
        go_ret
        exact ⟨ret_bool (by rw [eq_comm, decide_eq_true_iff]; exact HQ.out), _, rfl⟩
  · have hne : ((la.length : Int) != (lb.length : Int)) = true := by simp; omega
    have HN := hide (show la ≠ lb from fun e => hlen (by rw [e]))
    clear hlen hA hB
    go_enter Tryd.func15, Tryd.ntmps15
    go_wp2
    go_ret
    exact ⟨ret_bool (by rw [eq_comm, decide_eq_false_iff_not]; exact HN.out), 0, rfl⟩

theorem st_le (s : ByteArray) (i : Nat) (h : i < (M.lns s.data.toList).length) : M.st (M.lns s.data.toList) i + (M.lns s.data.toList)[i].length ≤ s.size := by
  have e := M.atR_lns s.data.toList i (M.lns s.data.toList)[i].length
  rw [if_pos ⟨h, by simp [h]⟩] at e
  have := (M.pos_atR _ _ _ _ e).1
  simpa using this

theorem refAt_any (s : ByteArray) (n m : Int) (w : World) (hs : s.size ≤ 1000000) (hn' : n ≤ 9223372036854775807) (hm : m ≤ 9223372036854775807) :
    Calls Tryd.prog 20 #[.string s, .int .i64 n, .int .i64 m] w fun e w' => e = .returned (plcV (plc s n m)) ∧ Below w.heap.size w w' := by
  have HL := hide (refLines_any s w hs)
  have HS := hide (st_le s)
  have HP : Hid (plc s n m = if n < 1 ∨ m < 1 then none else if (n - 1).toNat < (M.lns s.data.toList).length ∧ (m - 1).toNat ≤ ((M.lns s.data.toList).getD (n - 1).toNat []).length then some (M.st (M.lns s.data.toList) (n - 1).toNat + (m - 1).toNat) else none) := by
    unfold plc Hid; rw [M.atR_lns]
  have hlen : (M.lns s.data.toList).length ≤ 1000001 := by
    have hne := List.length_pos_iff.2 (M.lns_ne s.data.toList)
    have h := M.lns_last s.data.toList s.data.toList.length (Nat.le_refl _)
    obtain ⟨a, b, h1, h2, _⟩ := h
    rw [List.take_length] at h1
    have := M.pos_le s.data.toList s.data.toList.length
    have hl : s.data.toList.length = s.size := by simp
    rw [h1]; simp; omega
  generalize M.lns s.data.toList = ls at *
  have bad : plc s n m = none → plcV (plc s n m) = .tuple #[.int .i64 0, .int .i64 11] := fun h => by rw [h]; rfl
  have BAD := hide bad
  clear bad
  by_cases h1 : n < 1
  · have HF := hide (BAD.out (by rw [HP.out, if_pos (Or.inl h1)]))
    go_enter Tryd.func20, Tryd.ntmps20
    go_wp2_with (go_at_call 16; refine HL.out.mono ?_; rintro e w' ⟨_, rfl, ⟨g, off, c, rfl, hc, hg, hC⟩, hb⟩)
    go_ret2
    exact ⟨by rw [HF.out]; rfl, hb⟩
  · by_cases h2 : (ls.length : Int) < n
    · have HF := hide (BAD.out (by rw [HP.out]; by_cases hx : n < 1 ∨ m < 1; rw [if_pos hx]; rw [if_neg hx, if_neg (by omega)]))
      go_enter Tryd.func20, Tryd.ntmps20
      go_wp2_with (go_at_call 16; refine HL.out.mono ?_; rintro e w' ⟨_, rfl, ⟨g, off, c, rfl, hc, hg, hC⟩, hb⟩)
      go_ret2
      exact ⟨by rw [HF.out]; rfl, hb⟩
    · by_cases h3 : m < 1
      · have HF := hide (BAD.out (by rw [HP.out, if_pos (Or.inr h3)]))
        go_enter Tryd.func20, Tryd.ntmps20
        go_wp2_with (go_at_call 16; refine HL.out.mono ?_; rintro e w' ⟨_, rfl, ⟨g, off, c, rfl, hc, hg, hC⟩, hb⟩)
        go_ret2
        exact ⟨by rw [HF.out]; rfl, hb⟩
      · obtain ⟨i, hi⟩ : ∃ i : Nat, n = i + 1 := ⟨(n - 1).toNat, by omega⟩
        have hil : i < ls.length := by omega
        have hn1 : (n - 1).toNat = i := by omega
        have HP2 : Hid (plc s n m = if (m - 1).toNat ≤ ls[i].length then some (M.st ls i + (m - 1).toNat) else none) := by
          unfold Hid
          rw [HP.out, if_neg (by omega), hn1]
          by_cases hx : (m - 1).toNat ≤ ls[i].length
          · rw [if_pos hx, if_pos ⟨hil, by simpa [hil] using hx⟩]
          · rw [if_neg hx, if_neg (by simpa [hil] using hx)]
        have hsi := HS.out i hil
        by_cases h4 : (ls[i].length : Int) + 1 < m
        · have HF := hide (BAD.out (by rw [HP2.out, if_neg (by omega)]))
          obtain ⟨x, hx⟩ : ∃ x, x = ls[i] := ⟨_, rfl⟩
          rw [← hx] at h4 hsi
          have HX := hide hx
          clear hx hn1
          subst hi
          go_enter Tryd.func20, Tryd.ntmps20
          go_wp2_with (go_at_call 16; refine HL.out.mono ?_; rintro e w' ⟨_, rfl, ⟨g, off, c, rfl, hc, hg, hC⟩, hb⟩; have hcell := hC i x (by rw [List.getElem?_eq_getElem hil, HX.out]); unfold sv at hcell; have HC := hide hC; clear hC)
          go_ret2
          exact ⟨by rw [HF.out]; rfl, hb⟩
        · have HF : Hid (plcV (plc s n m) = .tuple #[.int .i64 (M.st ls i + (m - 1)), .int .i64 0]) := by
            unfold Hid
            rw [HP2.out, if_pos (by omega)]
            show Value.tuple #[.int .i64 ((M.st ls i + (m - 1).toNat : Nat) : Int), .int .i64 0] = _
            rw [show ((M.st ls i + (m - 1).toNat : Nat) : Int) = M.st ls i + (m - 1) by omega]
          obtain ⟨x, hx⟩ : ∃ x, x = ls[i] := ⟨_, rfl⟩
          rw [← hx] at h4 hsi
          have HX := hide hx
          clear hx hn1
          subst hi
          have d1 : decide ((i : Int) + 1 < 1) = false := by simp; omega
          have d2 : decide ((ls.length : Int) < (i : Int) + 1) = false := by simp; omega
          have d3 : decide (m < 1) = false := by simp; omega
          have d4 : decide ((x.length : Int) + 1 < m) = false := by simp; omega
          have H3 := hide h3
          have H4 := hide h4
          clear h1 h2 h3 h4
          go_enter Tryd.func20, Tryd.ntmps20
          go_wp2_with (go_at_call 16; refine HL.out.mono ?_; rintro e w' ⟨_, rfl, ⟨g, off, c, rfl, hc, hg, hC⟩, hb⟩; have hcell := hC i x (by rw [List.getElem?_eq_getElem hil, HX.out]); unfold sv at hcell; have HC := hide hC; clear hC)
          go_loop [9, 10] (fun t j => ∃ k : Nat, k ≤ i ∧ j = .int .i64 k ∧ t = .int .i64 (M.st ls k)) (fun _ j => i - (intOf j).toNat)
          case atStart => exact ⟨0, Nat.zero_le _, rfl, rfl⟩
          case round =>
            obtain ⟨k, hk, rfl, rfl⟩ := hrel
            by_cases hlt : k < i
            · have hkl : k < ls.length := by omega
              obtain ⟨y, hy⟩ : ∃ y, y = ls[k] := ⟨_, rfl⟩
              have hcy := HC.out k y (by rw [List.getElem?_eq_getElem hkl, hy])
              unfold sv at hcy
              have hsk := HS.out k hkl
              have hsu := M.st_succ ls k hkl
              rw [← hy] at hsk hsu
              have HU := hide hsu
              clear hy hsu hcell
              go_wp2
              go_round
              case rel => exact ⟨k + 1, by omega, by go_num, by rw [HU.out]; go_num⟩
              case measure => simp [intOf]; omega
            · obtain rfl : k = i := by omega
              have h3 := H3.out
              have h4 := H4.out
              clear d1 d2 d3 d4
              go_wp2
              go_ret2
              exact ⟨by rw [HF.out]; exact ret_int2 (by omega) rfl, hb⟩
end Go.Proofs.YtcgiifcikcfdaaaDoor
