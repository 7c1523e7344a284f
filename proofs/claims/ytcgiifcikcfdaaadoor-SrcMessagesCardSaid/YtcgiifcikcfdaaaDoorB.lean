/- The document's own answers of layer 1 (Clean, Where): what each call answers. No conditions beyond the bounds that each statement names. -/
import Derived.Test.YtcgiifcikcfdaaaDoorA
namespace Go.Proofs.YtcgiifcikcfdaaaDoor
open Go.RowKit

theorem refClean_any (s : ByteArray) (w : World) (hs : s.size ≤ 1000000) :
    Calls Tryd.prog 13 #[.string s] w fun e w' => e = .returned (clnV (cln s.data.toList)) ∧ Below w.heap.size w w' := by
  have HB := hide fun n w => right_any n w
  go_enter Tryd.func13, Tryd.ntmps13
  go_wp2
  go_loop [3] (fun i => ∃ k : Nat, k ≤ s.size ∧ k ≤ 65536 ∧ i = .int .i64 k ∧ ∀ j (h : j < s.size), j < k → srcB s[j].toNat = true) (fun i => s.size - (intOf i).toNat)
  case atStart => exact ⟨0, Nat.zero_le _, Nat.zero_le _, rfl, fun j h hj => by omega⟩
  case round =>
    obtain ⟨k, hk, hk6, rfl, hp⟩ := hrel
    have HP := hide hp
    have HK := hide hk6
    clear hp hk6
    by_cases hlt : k < s.size
    · by_cases hl6 : k < 65536
      · have HL := hide hl6
        have hd : decide ((k : Int) < 65536) = true := by simp; omega
        clear hl6
        by_cases hg : srcB s[k].toNat = true
        · have HG := hide hg
          clear hg
          go_wp2_with (go_at_call 26; refine (HB.out _ _).mono ?_; rw [HG.out]; rintro e w' ⟨rfl, rfl⟩)
          go_round
          case rel => exact ⟨k + 1, by omega, by have := HL.out; omega, by go_num, fun j h hj => by
            by_cases e : j = k
            · subst e; exact HG.out
            · exact HP.out j h (by omega)⟩
          case measure => simp [intOf]; omega
        · have HG := hide (Bool.eq_false_iff.2 hg)
          clear hg
          have HF := hide (cln_at s k hlt HL.out HG.out HP.out)
          go_wp2_with (go_at_call 26; refine (HB.out _ _).mono ?_; rw [HG.out]; rintro e w' ⟨rfl, rfl⟩)
          refine bodyPost_ret (v := .agg #[.int .i64 10, .int .i64 k]) (by simp [results, Tryd.results13, go_sem]) rfl ?_
          exact ⟨by rw [HF.out]; rfl, (Below.refl _ _).alloc (Nat.le_refl _) _⟩
      · have HF := hide (cln_end s (fun j h hj => HP.out j h (by omega)))
        have hd : decide ((k : Int) < 65536) = false := by simp; omega
        have hd2 : decide ((65536 : Int) < (s.size : Int)) = true := by simp; omega
        have HL := hide hl6
        clear hl6
        go_wp2
        refine bodyPost_ret (v := .agg #[.int .i64 10, .int .i64 65536]) (by simp [results, Tryd.results13, go_sem]) rfl ?_
        refine ⟨by rw [HF.out, if_pos (by have := HL.out; omega)]; rfl, ?_⟩
        exact (Below.refl _ _).alloc (Nat.le_refl _) _
    · have HF := hide (cln_end s (fun j h hj => HP.out j h (by omega)))
      by_cases hb : s.size ≤ 65536
      · have hd : decide ((k : Int) < (s.size : Int)) = false := by simp; omega
        have HS := hide hb
        have hd2 : decide ((65536 : Int) < (s.size : Int)) = false := by simp; omega
        clear hb
        go_wp2
        refine bodyPost_ret (v := .agg #[.int .i64 0, .int .i64 0]) (by simp [results, Tryd.results13, go_sem]) rfl ?_
        refine ⟨by rw [HF.out, if_neg (by have := HS.out; omega)]; rfl, ?_⟩
        exact (Below.refl _ _).alloc (Nat.le_refl _) _
      · have := HK.out; omega

theorem refWhere_any (s : ByteArray) (n : Int) (w : World) (hs : s.size ≤ 1000000) :
    Calls Tryd.prog 18 #[.string s, .int .i64 n] w fun e w' => e = .returned (.tuple #[.int .i64 (line s n), .int .i64 (col s n)]) ∧ w = w' := by
  obtain ⟨K, hK, hKn⟩ : ∃ k : Nat, k ≤ s.size ∧ min (max n 0) (s.size : Int) = k := ⟨(min (max n 0) (s.size : Int)).toNat, by omega, by omega⟩
  have hF : line s n = ((M.pos s.data.toList K).1 : Int) + 1 ∧ col s n = ((M.pos s.data.toList K).2 : Int) + 1 := by
    unfold line col; rw [hKn, Int.toNat_natCast]; exact ⟨rfl, rfl⟩
  have HF := hide hF
  clear hF
  have hmin : (s.size : Int) < n ∨ n ≤ s.size := by omega
  rcases hmin with hb | hb
  all_goals
    go_enter Tryd.func18, Tryd.ntmps18
    go_wp2
    go_loop [6, 7, 8] (fun a b i => ∃ k : Nat, k ≤ K ∧ i = .int .i64 k ∧ a = .int .i64 (((M.pos s.data.toList k).1 : Int) + 1) ∧ b = .int .i64 (((M.pos s.data.toList k).2 : Int) + 1)) (fun _ _ i => K - (intOf i).toNat)
    case atStart => exact ⟨0, Nat.zero_le _, rfl, rfl, rfl⟩
    case round =>
      obtain ⟨k, hk, rfl, rfl, rfl⟩ := hrel
      have hle := M.pos_le s.data.toList k
      by_cases hlt : k < K
      · have hks : k < s.size := by omega
        have hg : s.data.toList[k]? = some s[k] := by simp [hks]; rfl
        have hsu := M.pos_succ s.data.toList k
        rw [hg] at hsu
        have HS := hide hsu
        clear hsu hg
        generalize M.pos s.data.toList k = p at *
        go_wp2
        · have hc : s[k] = 10 := by
            have h : ((s[k].toNat : Int) == 10) = true := by assumption
            exact UInt8.toNat_inj.1 (by have := beq_iff_eq.1 h; show s[k].toNat = 10; omega)
          have hp : M.pos s.data.toList (k + 1) = (p.1 + 1, 0) := by rw [HS.out, if_pos (by rw [hc])]
          go_round
          case rel => exact ⟨k + 1, by omega, by go_num, by rw [hp]; go_num, by rw [hp]; rfl⟩
          case measure => simp [intOf]; omega
        · have hc : ¬ s[k] = 10 := by
            have h : ((s[k].toNat : Int) == 10) = false := by assumption
            intro e
            rw [e] at h
            exact absurd h (by decide)
          have hp : M.pos s.data.toList (k + 1) = (p.1, p.2 + 1) := by rw [HS.out, if_neg (by simpa using hc)]
          go_round
          case rel => exact ⟨k + 1, by omega, by go_num, by rw [hp], by rw [hp]; go_num⟩
          case measure => simp [intOf]; omega
      · obtain rfl : k = K := by omega
        go_wp2
        go_ret2
        exact ⟨by rw [HF.out.1, HF.out.2]; rfl, rfl⟩
end Go.Proofs.YtcgiifcikcfdaaaDoor
