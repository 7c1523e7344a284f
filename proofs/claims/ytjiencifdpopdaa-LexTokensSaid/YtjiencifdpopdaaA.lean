/- Clean, by the program and by the document's own answer, and the bytes' classes: what each call answers. No conditions beyond the bounds that each statement names. -/
import Derived.Test.YtjiencifdpopdaaShelf
import Derived.Test.YtjiencifdpopdaaM3
import Derived.WalkKit
import Derived.WalkSpells
import Derived.WalkLawsBesides
import Derived.Below
import Derived.Lib.MinMax
namespace Go.Proofs.Ytjiencifdpopdaa
open Go.RowKit

theorem hide {p : Prop} (h : p) : Hid p := h
theorem ret_int {k : IntKind} {a b : Int} (h : a = b) : Ending.returned (.int k a) = .returned (.int k b) := by rw [h]
theorem ret_int2 {k k' : IntKind} {a b c d : Int} (h : a = b) (h' : c = d) : Ending.returned (.tuple #[.int k a, .int k' c]) = .returned (.tuple #[.int k b, .int k' d]) := by rw [h, h']
theorem ret_bool {a b : Bool} (h : a = b) : Ending.returned (.bool a) = .returned (.bool b) := by rw [h]
theorem ret_str {a b : ByteArray} (h : a = b) : Ending.returned (.string a) = .returned (.string b) := by rw [h]

def srcB (n : Int) : Bool := n == 9 || (n == 10 || (decide (32 ≤ n) && decide (n ≤ 126)))

theorem sourceByte_any (n : Int) (w : World) :
    Calls Try.prog 31 #[.int .u8 n] w fun e w' => e = .returned (.bool (srcB n)) ∧ w = w' := by
  go_enter Try.func31, Try.ntmps31
  go_wp2
  all_goals (go_ret; refine ⟨ret_bool ?_, rfl⟩; rw [Bool.eq_iff_iff]; simp [srcB]; try omega)

theorem right_any (n : Int) (w : World) :
    Calls Try.prog 41 #[.int .u8 n] w fun e w' => e = .returned (.bool (srcB n)) ∧ w = w' := by
  go_enter Try.func41, Try.ntmps41
  go_wp2
  all_goals (go_ret; refine ⟨ret_bool ?_, rfl⟩; rw [Bool.eq_iff_iff]; simp [srcB]; try omega)

/-- What is wrong with a source's bytes. -/
def cln (l : List UInt8) : Option Nat :=
  match (l.take 65536).findIdx? (fun c => !srcB c.toNat) with
  | some i => some i
  | none => if l.length > 65536 then some 65536 else none
def clnV (o : Option Nat) : Value := .agg #[.int .i64 (if o.isSome then 10 else 0), .int .i64 ((o.getD 0 : Nat) : Int)]

theorem cln_at (s : ByteArray) (k : Nat) (hk : k < s.size) (h6 : k < 65536) (hb : srcB s[k].toNat = false) (hp : ∀ j (h : j < s.size), j < k → srcB s[j].toNat = true) : cln s.data.toList = some k := by
  have hl : s.data.toList.length = s.size := by simp
  have : (s.data.toList.take 65536).findIdx? (fun c => !srcB c.toNat) = some k := by
    rw [List.findIdx?_eq_some_iff_getElem]
    refine ⟨by rw [List.length_take, hl]; omega, ?_, fun j hj => ?_⟩
    · rw [List.getElem_take]
      have e : s.data.toList[k]'(by omega) = s[k] := by simp; rfl
      rw [e, hb]; rfl
    · rw [List.getElem_take]
      have e : s.data.toList[j]'(by omega) = s[j] := by simp; rfl
      rw [e, hp j (by omega) hj]; simp
  unfold cln
  rw [this]
theorem cln_end (s : ByteArray) (hp : ∀ j (h : j < s.size), j < 65536 → srcB s[j].toNat = true) : cln s.data.toList = if s.size > 65536 then some 65536 else none := by
  have hl : s.data.toList.length = s.size := by simp
  have : (s.data.toList.take 65536).findIdx? (fun c => !srcB c.toNat) = none := by
    rw [List.findIdx?_eq_none_iff]
    intro c hc
    obtain ⟨j, hj, rfl⟩ := List.mem_iff_getElem.1 hc
    rw [List.length_take] at hj
    rw [List.getElem_take]
    have e : s.data.toList[j]'(by omega) = s[j]'(by omega) := by simp; rfl
    rw [e, hp j (by omega) (by omega)]; rfl
  unfold cln
  rw [this, hl]

theorem clnV_some (k : Nat) : clnV (some k) = .agg #[.int .i64 10, .int .i64 k] := rfl
theorem clnV_none : clnV none = .agg #[.int .i64 0, .int .i64 0] := rfl

theorem clean_any (s : ByteArray) (w : World) (hs : s.size ≤ 1000000) :
    Calls Try.prog 21 #[.string s] w fun e w' => e = .returned (clnV (cln s.data.toList)) ∧ Below w.heap.size w w' := by
  have HB := hide fun n w => sourceByte_any n w
  by_cases hb : s.size ≤ 65536
  · go_enter Try.func21, Try.ntmps21
    go_wp2
    go_loop [7] (fun i => ∃ k : Nat, k ≤ s.size ∧ i = .int .i64 k ∧ ∀ j (h : j < s.size), j < k → srcB s[j].toNat = true) (fun i => s.size - (intOf i).toNat)
    case atStart => exact ⟨0, Nat.zero_le _, rfl, fun j h hj => by omega⟩
    case round =>
      obtain ⟨k, hk, rfl, hp⟩ := hrel
      have HP := hide hp
      clear hp
      by_cases hlt : k < s.size
      · have hks : k < s.size := by omega
        by_cases hg : srcB s[k].toNat = true
        · have HG := hide hg
          clear hg
          go_wp2_with (go_at_call 31; refine (HB.out _ _).mono ?_; rw [HG.out]; rintro e w' ⟨rfl, rfl⟩)
          go_round
          case rel => exact ⟨k + 1, by omega, by go_num, fun j h hj => by
            by_cases e : j = k
            · subst e; exact HG.out
            · exact HP.out j h (by omega)⟩
          case measure => simp [intOf]; omega
        · have HG := hide (Bool.eq_false_iff.2 hg)
          clear hg
          have HF := hide (cln_at s k hks (by omega) HG.out HP.out)
          go_wp2_with (go_at_call 31; refine (HB.out _ _).mono ?_; rw [HG.out]; rintro e w' ⟨rfl, rfl⟩)
          refine bodyPost_ret (v := .agg #[.int .i64 10, .int .i64 k]) (by simp [results, Try.results21, go_sem]) rfl ?_
          exact ⟨by rw [HF.out]; rfl, (Below.refl _ _).alloc (Nat.le_refl _) _⟩
      · have HF := hide (cln_end s (fun j h hj => HP.out j h (by omega)))
        go_wp2
        refine bodyPost_ret (v := .agg #[.int .i64 0, .int .i64 0]) (by simp [results, Try.results21, go_sem]) rfl ?_
        refine ⟨by rw [HF.out, if_neg (by omega)]; rfl, ?_⟩
        exact (Below.refl _ _).alloc (Nat.le_refl _) _
  · go_enter Try.func21, Try.ntmps21
    go_wp2
    go_loop [7] (fun i => ∃ k : Nat, k ≤ 65536 ∧ i = .int .i64 k ∧ ∀ j (h : j < s.size), j < k → srcB s[j].toNat = true) (fun i => 65536 - (intOf i).toNat)
    case atStart => exact ⟨0, Nat.zero_le _, rfl, fun j h hj => by omega⟩
    case round =>
      obtain ⟨k, hk, rfl, hp⟩ := hrel
      have HP := hide hp
      clear hp
      by_cases hlt : k < 65536
      · have hks : k < s.size := by omega
        by_cases hg : srcB s[k].toNat = true
        · have HG := hide hg
          clear hg
          go_wp2_with (go_at_call 31; refine (HB.out _ _).mono ?_; rw [HG.out]; rintro e w' ⟨rfl, rfl⟩)
          go_round
          case rel => exact ⟨k + 1, by omega, by go_num, fun j h hj => by
            by_cases e : j = k
            · subst e; exact HG.out
            · exact HP.out j h (by omega)⟩
          case measure => simp [intOf]; omega
        · have HG := hide (Bool.eq_false_iff.2 hg)
          clear hg
          have HF := hide (cln_at s k hks (by omega) HG.out HP.out)
          go_wp2_with (go_at_call 31; refine (HB.out _ _).mono ?_; rw [HG.out]; rintro e w' ⟨rfl, rfl⟩)
          refine bodyPost_ret (v := .agg #[.int .i64 10, .int .i64 k]) (by simp [results, Try.results21, go_sem]) rfl ?_
          exact ⟨by rw [HF.out]; rfl, (Below.refl _ _).alloc (Nat.le_refl _) _⟩
      · have HF := hide (cln_end s (fun j h hj => HP.out j h (by omega)))
        go_wp2
        refine bodyPost_ret (v := .agg #[.int .i64 10, .int .i64 65536]) (by simp [results, Try.results21, go_sem]) rfl ?_
        refine ⟨by rw [HF.out, if_pos (by omega)]; rfl, ?_⟩
        exact (Below.refl _ _).alloc (Nat.le_refl _) _
theorem refClean_any (s : ByteArray) (w : World) (hs : s.size ≤ 1000000) :
    Calls Try.prog 23 #[.string s] w fun e w' => e = .returned (clnV (cln s.data.toList)) ∧ Below w.heap.size w w' := by
  have HB := hide fun n w => right_any n w
  go_enter Try.func23, Try.ntmps23
  go_wp2
  go_loop [3] (fun i => ∃ k : Nat, k ≤ s.size ∧ k ≤ 65536 ∧ i = .int .i64 k ∧ ∀ j (h : j < s.size), j < k → srcB s[j].toNat = true) (fun i => s.size - (intOf i).toNat)
  case atStart => exact ⟨0, Nat.zero_le _, Nat.zero_le _, rfl, fun j h hj => by omega⟩
  case round =>
    obtain ⟨k, hk, hk6, rfl, hp⟩ := hrel
    have HP := hide hp
    have HK := hide hk6
    clear hp hk6
    by_cases hlt : k < s.size
    · by_cases hl6 : k < 65536
      · have HL := hide hl6
        have hd : decide ((k : Int) < 65536) = true := by simp; omega
        clear hl6
        by_cases hg : srcB s[k].toNat = true
        · have HG := hide hg
          clear hg
          go_wp2_with (go_at_call 41; refine (HB.out _ _).mono ?_; rw [HG.out]; rintro e w' ⟨rfl, rfl⟩)
          go_round
          case rel => exact ⟨k + 1, by omega, by have := HL.out; omega, by go_num, fun j h hj => by
            by_cases e : j = k
            · subst e; exact HG.out
            · exact HP.out j h (by omega)⟩
          case measure => simp [intOf]; omega
        · have HG := hide (Bool.eq_false_iff.2 hg)
          clear hg
          have HF := hide (cln_at s k hlt HL.out HG.out HP.out)
          go_wp2_with (go_at_call 41; refine (HB.out _ _).mono ?_; rw [HG.out]; rintro e w' ⟨rfl, rfl⟩)
          refine bodyPost_ret (v := .agg #[.int .i64 10, .int .i64 k]) (by simp [results, Try.results23, go_sem]) rfl ?_
          exact ⟨by rw [HF.out]; rfl, (Below.refl _ _).alloc (Nat.le_refl _) _⟩
      · have HF := hide (cln_end s (fun j h hj => HP.out j h (by omega)))
        have hd : decide ((k : Int) < 65536) = false := by simp; omega
        have hd2 : decide ((65536 : Int) < (s.size : Int)) = true := by simp; omega
        have HL := hide hl6
        clear hl6
        go_wp2
        refine bodyPost_ret (v := .agg #[.int .i64 10, .int .i64 65536]) (by simp [results, Try.results23, go_sem]) rfl ?_
        refine ⟨by rw [HF.out, if_pos (by have := HL.out; omega)]; rfl, ?_⟩
        exact (Below.refl _ _).alloc (Nat.le_refl _) _
    · have HF := hide (cln_end s (fun j h hj => HP.out j h (by omega)))
      by_cases hb : s.size ≤ 65536
      · have hd : decide ((k : Int) < (s.size : Int)) = false := by simp; omega
        have HS := hide hb
        have hd2 : decide ((65536 : Int) < (s.size : Int)) = false := by simp; omega
        clear hb
        go_wp2
        refine bodyPost_ret (v := .agg #[.int .i64 0, .int .i64 0]) (by simp [results, Try.results23, go_sem]) rfl ?_
        refine ⟨by rw [HF.out, if_neg (by have := HS.out; omega)]; rfl, ?_⟩
        exact (Below.refl _ _).alloc (Nat.le_refl _) _
      · have := HK.out; omega


/-- New memory behind new memory. -/
theorem bl_trans {a b c : World} (h : Below a.heap.size a b) (k : Below b.heap.size b c) : Below a.heap.size a c := h.trans (k.mono h.size)
theorem bl_alloc {a b : World} (h : Below a.heap.size a b) (o : Obj) : Below a.heap.size a (b.alloc o) := h.alloc h.size o
theorem bl_drewN {a b : World} (h : Below a.heap.size a b) (n : Nat) : Below a.heap.size a (b.drewN n) := ⟨h.os, h.tape, h.output, h.size, h.block⟩

theorem isDigit_any (n : Nat) (w : World) : Calls Try.prog 35 #[.int .u8 n] w fun e w' => e = .returned (.bool (M.dgt n)) ∧ w = w' := by
  go_enter Try.func35, Try.ntmps35
  go_wp2
  all_goals (go_ret; refine ⟨ret_bool ?_, rfl⟩; rw [Bool.eq_iff_iff]; simp [M.dgt]; try omega)
theorem refDigit_any (n : Nat) (w : World) : Calls Try.prog 44 #[.int .u8 n] w fun e w' => e = .returned (.bool (M.dgt n)) ∧ w = w' := by
  go_enter Try.func44, Try.ntmps44
  go_wp2
  all_goals (go_ret; refine ⟨ret_bool ?_, rfl⟩; rw [Bool.eq_iff_iff]; simp [M.dgt]; try omega)
theorem isLetter_any (n : Nat) (w : World) : Calls Try.prog 37 #[.int .u8 n] w fun e w' => e = .returned (.bool (M.ltr n)) ∧ w = w' := by
  go_enter Try.func37, Try.ntmps37
  go_wp2
  all_goals (go_ret; refine ⟨ret_bool ?_, rfl⟩; rw [Bool.eq_iff_iff]; simp [M.ltr]; try omega)
theorem refLetter_any (n : Nat) (w : World) : Calls Try.prog 50 #[.int .u8 n] w fun e w' => e = .returned (.bool (M.ltr n)) ∧ w = w' := by
  go_enter Try.func50, Try.ntmps50
  go_wp2
  all_goals (go_ret; refine ⟨ret_bool ?_, rfl⟩; rw [Bool.eq_iff_iff]; simp [M.ltr]; try omega)
end Go.Proofs.Ytjiencifdpopdaa
