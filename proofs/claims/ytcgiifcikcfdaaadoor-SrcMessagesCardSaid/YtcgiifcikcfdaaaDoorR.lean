/- The document's own numbers as texts, for every int. No conditions but that the number is an int's. -/
import Derived.Test.YtcgiifcikcfdaaaDoorI
import Derived.Laws.IdiomStrings
namespace Go.Proofs.YtcgiifcikcfdaaaDoor
open Go.RowKit

theorem num_digit (n : Nat) (h : n < 10) : num n = ⟨#[UInt8.ofNat (48 + n)]⟩ := by
  unfold num
  rw [Lib.itoa_nonneg, Lib.decDigits_one h]
theorem num_pos (n : Nat) (h : ¬ n < 10) : num n = num ((n / 10 : Nat) : Int) ++ num ((n % 10 : Nat) : Int) := by
  have h1 : n % 10 < 10 := Nat.mod_lt _ (by decide)
  rw [num_digit _ h1]
  unfold num
  rw [Lib.itoa_nonneg, Lib.itoa_nonneg]
  apply ByteArray.ext
  rw [Lib.decDigits, dif_neg h]
  simp

theorem num_neg (n : Nat) (h : 1 ≤ n) : num (-(n : Int)) = ⟨#[45]⟩ ++ num n := by
  unfold num
  rw [Lib.itoa_neg n h, Lib.itoa_nonneg]
  apply ByteArray.ext
  simp
theorem num_negs (n : Nat) (h : ¬ n < 10) : num (-(n : Int)) = num (-((n / 10 : Nat) : Int)) ++ num ((n % 10 : Nat) : Int) := by
  rw [num_neg n (by omega), num_neg (n / 10) (by omega), num_pos n h, ByteArray.append_assoc]

theorem num_small (n : Nat) (w : World) (h : n < 10) : Calls Tryd.prog 36 #[.int .i64 n] w fun e w' => e = .returned (.string (num n)) ∧ Below w.heap.size w w' := by
  have HF := hide (num_digit n h)
  have hu : ((UInt8.ofNat (48 + n)).toNat : Int) = 48 + (n : Int) := by
    rw [UInt8.toNat_ofNat']; omega
  have hback := run_convert_bytes_back (P := Tryd.prog) (w.alloc (Obj.cells #[Value.int .u8 (48 + (n : Int))] 5)) 53 9 5 ⟨w.heap.size, 0, none⟩ 1 [UInt8.ofNat (48 + n)] Tryd.underlying53 Tryd.underlying5 Tryd.underlying9 (fun j hj => by
    match j, hj with
    | 0, _ =>
      show (w.alloc (Obj.cells #[Value.int .u8 (48 + (n : Int))] 5)).cell? ((⟨w.heap.size, 0, none⟩ : Addr).add 0) = some (.int .u8 ((UInt8.ofNat (48 + n)).toNat : Int))
      rw [hu]
      exact cell_new w 5 _ 0 _ rfl)
  obtain ⟨z, hz⟩ : ∃ z : ByteArray, z = ⟨[UInt8.ofNat (48 + n)].toArray⟩ := ⟨_, rfl⟩
  rw [← hz] at hback
  have hback : (convert 53 9 (.slice (some ⟨w.heap.size, 0, none⟩) 1 1)).run Tryd.prog (w.alloc (Obj.cells #[Value.int .u8 (48 + (n : Int))] 5)) = .ok (.string z) (w.alloc (Obj.cells #[Value.int .u8 (48 + (n : Int))] 5)) := hback
  have HZ := hide hz
  clear hz hu
  go_enter Tryd.func36, Tryd.ntmps36
  go_wp2
  go_ret
  exact ⟨ret_str (by rw [HF.out, HZ.out]), (Below.refl _ _).alloc (Nat.le_refl _) _⟩

theorem num_calls (k : Nat) : ∀ (n : Int) (w : World), n.natAbs ≤ k → -9223372036854775808 ≤ n → n ≤ 9223372036854775807 →
    Calls Tryd.prog 36 #[.int .i64 n] w fun e w' => e = .returned (.string (num n)) ∧ Below w.heap.size w w' := by
  induction k with
  | zero =>
    intro n w hk _ _
    obtain rfl : n = ((0 : Nat) : Int) := by omega
    exact num_small 0 w (by decide)
  | succ k ih =>
    intro n w hk h0 h1
    have IH := hide ih
    clear ih
    by_cases hn : 0 ≤ n
    · obtain ⟨m, rfl⟩ : ∃ m : Nat, n = m := ⟨n.toNat, by omega⟩
      by_cases hm : m < 10
      · exact num_small m w hm
      · have hs1 := num_size ((m : Int) / 10) (by omega) (by omega)
        have hs2 := num_size ((m : Int) % 10) (by omega) (by omega)
        have HF : Hid (num (m : Int) = num ((m : Int) / 10) ++ num ((m : Int) % 10)) := num_pos m hm
        have i1 := hide (fun w => IH.out ((m : Int) / 10) w (by omega) (by omega) (by omega))
        have i2 := hide (fun w => IH.out ((m : Int) % 10) w (by omega) (by omega) (by omega))
        generalize num ((m : Int) / 10) = X at *
        generalize num ((m : Int) % 10) = Y at *
        have d1 : decide ((m : Int) < 10) = false := by simp; omega
        go_enter Tryd.func36, Tryd.ntmps36
        go_wp2_with fail
        refine (i1.out _).mono ?_
        rintro e w1 ⟨rfl, hb1⟩
        have HB1 := hide hb1
        clear hb1
        go_wp2_with fail
        refine (i2.out _).mono ?_
        rintro e w2 ⟨rfl, hb2⟩
        have HB2 := hide (bl_trans HB1.out hb2)
        clear hb2
        go_wp2_with fail
        go_ret
        exact ⟨ret_str HF.out.symm, HB2.out⟩
    · by_cases hm : -10 < n
      · obtain ⟨m, rfl⟩ : ∃ m : Nat, n = -(m : Int) := ⟨n.natAbs, by omega⟩
        have hm10 : m < 10 := by omega
        have hs1 := num_size (m : Int) (by omega) (by omega)
        have HF := hide (num_neg m (by omega))
        have i1 := hide (fun w => num_small m w hm10)
        generalize num (m : Int) = X at *
        have hneg : -(-(m : Int)) = m := by omega
        have d1 : decide (0 ≤ -(m : Int)) = false := by simp; omega
        have d2 : decide (-(m : Int) < 0) = true := by simp; omega
        have d3 : decide ((-10 : Int) < -(m : Int)) = true := by simp; omega
        go_enter Tryd.func36, Tryd.ntmps36
        go_wp2_with fail
        refine (i1.out _).mono ?_
        rintro e w1 ⟨rfl, hb1⟩
        have HB1 := hide hb1
        clear hb1
        go_wp2_with fail
        go_ret
        exact ⟨ret_str HF.out.symm, HB1.out⟩
      · have e1 : ∃ m : Nat, ¬ m < 10 ∧ n = -(m : Int) ∧ n.tdiv 10 = -((m / 10 : Nat) : Int) ∧ -(n.tmod 10) = ((m % 10 : Nat) : Int) := by
          obtain ⟨m, rfl⟩ : ∃ m : Nat, n = -(m : Int) := ⟨n.natAbs, by omega⟩
          refine ⟨m, by omega, rfl, ?_, ?_⟩
          · rw [Int.neg_tdiv]; rfl
          · rw [Int.neg_tmod, Int.neg_neg]; rfl
        obtain ⟨m, hm10, hnm, ed, em⟩ := e1
        have HF : Hid (num n = num (n.tdiv 10) ++ num (-(n.tmod 10))) := by
          unfold Hid
          rw [ed, em, hnm]
          exact num_negs m hm10
        have hs1 := num_size (n.tdiv 10) (by omega) (by omega)
        have hs2 := num_size (-(n.tmod 10)) (by omega) (by omega)
        have hb1 : -9 ≤ n.tmod 10 := by omega
        have hb2 : n.tmod 10 ≤ 0 := by omega
        have i1 := hide (fun w => IH.out (n.tdiv 10) w (by omega) (by omega) (by omega))
        have i2 := hide (fun w => IH.out (-(n.tmod 10)) w (by omega) (by omega) (by omega))
        generalize num (n.tdiv 10) = X at *
        generalize num (-(n.tmod 10)) = Y at *
        have d1 : decide (0 ≤ n) = false := by simp; omega
        have d2 : decide (n < 0) = true := by simp; omega
        have d3 : decide ((-10 : Int) < n) = false := by simp; omega
        clear hnm ed em hn hm hk
        go_enter Tryd.func36, Tryd.ntmps36
        go_wp2_with fail
        refine (i1.out _).mono ?_
        rintro e w1 ⟨rfl, hb1⟩
        have HB1 := hide hb1
        clear hb1
        go_wp2_with fail
        refine (i2.out _).mono ?_
        rintro e w2 ⟨rfl, hb2⟩
        have HB2 := hide (bl_trans HB1.out hb2)
        clear hb2
        go_wp2_with fail
        go_ret
        exact ⟨ret_str HF.out.symm, HB2.out⟩
end Go.Proofs.YtcgiifcikcfdaaaDoor
