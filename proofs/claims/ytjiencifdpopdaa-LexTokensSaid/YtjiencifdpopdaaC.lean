/- What a text begins with, by the program: comments, regions, signs; then all of it. No conditions beyond the bounds that each statement names. -/
import Derived.Test.YtjiencifdpopdaaB
namespace Go.Proofs.Ytjiencifdpopdaa
open Go.RowKit

/-- The library's count of CPU words is a number. -/
def MaxOk (w : World) : Prop := ∃ m : Int, w.cell? ⟨0, 0, none⟩ = some (.int .i64 m)
theorem MaxOk.lt {w : World} (h : MaxOk w) : 0 < w.heap.size := by
  obtain ⟨m, hm⟩ := h
  exact World.block_lt_of_cell? _ _ hm
theorem MaxOk.below {w w' : World} (h : MaxOk w) (hb : Below w.heap.size w w') : MaxOk w' := by
  have hl := h.lt
  obtain ⟨m, hm⟩ := h
  exact ⟨m, (hb.cell (p := ⟨0, 0, none⟩) hl).trans hm⟩

theorem lineC_index : ∀ l : List UInt8, (Lib.indexByte l 10 = -1 ∧ M.lineC l = l.length) ∨ (Lib.indexByte l 10 = M.lineC l ∧ M.lineC l < l.length)
  | [] => .inl ⟨rfl, rfl⟩
  | c :: r => by
    unfold Lib.indexByte M.lineC
    rw [List.takeWhile_cons]
    by_cases hc : c = 10
    · subst hc; right; simp [M.notEnd]
    · have h1 : M.notEnd c = true := by simp [M.notEnd, hc]
      have h2 : ¬ (c == (10 : UInt8)) = true := by simp [hc]
      rw [if_pos h1, if_neg h2]
      rcases lineC_index r with ⟨a, b⟩ | ⟨a, b⟩
      · left; rw [a]; exact ⟨rfl, by unfold M.lineC at b; simp [b]⟩
      · right
        unfold M.lineC at a b
        rw [a, if_neg (by simp)]
        simp
        omega

theorem lineComment_any (s : ByteArray) (w : World) : Calls Try.prog 33 #[.string s] w fun e w' => e = .returned (.int .i64 (M.lineC s.data.toList)) ∧ w = w' := by
  have hc := Try.strings_IndexByte s 10
  rcases lineC_index s.data.toList with ⟨h1, h2⟩ | ⟨h1, h2⟩
  · rw [h2, len_of]
    have HC := hide fun w => (hc w)
    rw [show Lib.indexByte s.data.toList (10 : Int).toNat.toUInt8 = -1 from h1] at HC
    clear hc h1 h2
    go_enter Try.func33, Try.ntmps33
    go_wp2_with (go_at_call 47; refine (HC.out _).mono ?_; rintro e w' ⟨rfl, rfl⟩)
    go_ret
    exact ⟨rfl, rfl⟩
  · rw [len_of] at h2
    have HC := hide fun w => (hc w)
    rw [show Lib.indexByte s.data.toList (10 : Int).toNat.toUInt8 = M.lineC s.data.toList from h1] at HC
    generalize M.lineC s.data.toList = x at *
    clear hc h1
    go_enter Try.func33, Try.ntmps33
    go_wp2_with (go_at_call 47; refine (HC.out _).mono ?_; rintro e w' ⟨rfl, rfl⟩)
    go_ret
    exact ⟨rfl, rfl⟩

theorem endC_index : ∀ l : List UInt8, (Lib.index l [42, 47] = -1 ∧ M.endC l = none) ∨ (∃ e : Nat, Lib.index l [42, 47] = e ∧ M.endC l = some e)
  | [] => .inl ⟨rfl, rfl⟩
  | [c] => by left; refine ⟨?_, rfl⟩; unfold Lib.index; rw [if_neg (by simp)]; rfl
  | c :: d :: r => by
    unfold Lib.index M.endC
    by_cases hc : c = 42 ∧ d = 47
    · obtain ⟨rfl, rfl⟩ := hc
      right; exact ⟨0, by rw [if_pos (by simp)]; rfl, rfl⟩
    · rw [if_neg hc, if_neg (by
        intro h; simp at h; exact hc ⟨h.1.symm, h.2.symm⟩)]
      rcases endC_index (d :: r) with ⟨a, b⟩ | ⟨e, a, b⟩
      · left; rw [a, b]; exact ⟨rfl, rfl⟩
      · right; rw [a, b]; refine ⟨e + 1, ?_, rfl⟩; rw [if_neg (by simp)]; rfl

theorem drop_of (s : ByteArray) (k : Nat) : (s.extract k s.size).data.toList = s.data.toList.drop k := by
  rw [Lib.extract_data, List.take_of_length_le (by rw [List.length_drop, len_of]; omega)]

/-- What a comment that is closed begins with. -/
def endV (o : Option Nat) : Nat × Nat × Nat := match o with | none => (0, 0, 21) | some e => (0, e + 4, 0)

theorem closedComment_any (s : ByteArray) (w : World) (hs : s.size ≤ 1000000) (h2 : 2 ≤ s.size) (hm : MaxOk w) : Calls Try.prog 34 #[.string s] w fun e w' => e = .returned (v3 (endV (M.endC (s.data.toList.drop 2)))) ∧ w = w' := by
  obtain ⟨m, hm⟩ := hm
  have hc := Try.strings_Index (s.extract 2 s.size) ⟨#[42, 47]⟩ m w (by simp; omega) hm
  rw [drop_of] at hc
  rcases endC_index (s.data.toList.drop 2) with ⟨h1, h3⟩ | ⟨e, h1, h3⟩
  · rw [h3]
    rw [show Lib.index (s.data.toList.drop 2) (⟨#[42, 47]⟩ : ByteArray).data.toList = -1 from h1] at hc
    have HC := hide hc
    clear hc h1 h3
    go_enter Try.func34, Try.ntmps34
    go_wp2_with (go_at_call 48; refine HC.out.mono ?_; rintro e w' ⟨rfl, rfl⟩)
    go_ret3
    exact ⟨rfl, rfl⟩
  · rw [h3]
    have hle := M.endC_le _ _ h3
    rw [List.length_drop, len_of] at hle
    rw [show Lib.index (s.data.toList.drop 2) (⟨#[42, 47]⟩ : ByteArray).data.toList = (e : Int) from h1] at hc
    have HC := hide hc
    clear hc h1 h3
    go_enter Try.func34, Try.ntmps34
    go_wp2_with (go_at_call 48; refine HC.out.mono ?_; rintro e w' ⟨rfl, rfl⟩)
    go_ret3
    exact ⟨ret_three rfl (by show (2 + (e : Int) + 2) = ((e + 4 : Nat) : Int); omega) rfl, rfl⟩

theorem region_any (s : ByteArray) (w : World) (hs : s.size ≤ 1000000) (h1 : 1 ≤ s.size) :
    Calls Try.prog 39 #[.string s] w fun e w' => e = .returned (v3 (if M.word (s.data.toList.drop 1) = 0 then (3, 0, 20) else (3, M.word (s.data.toList.drop 1) + 1, 0))) ∧ w = w' := by
  have hw := fun w => word_any (s.extract 1 s.size) w (by simp; omega)
  rw [drop_of] at hw
  have hle := M.word_le (s.data.toList.drop 1)
  rw [List.length_drop, len_of] at hle
  generalize M.word (s.data.toList.drop 1) = x at *
  have HW := hide hw
  clear hw
  by_cases hx : x = 0
  · subst hx
    go_enter Try.func39, Try.ntmps39
    go_wp2_with (go_at_call 38; refine (HW.out _).mono ?_; rintro e w' ⟨rfl, rfl⟩)
    go_ret3
    exact ⟨rfl, rfl⟩
  · rw [if_neg hx]
    have hx2 : ¬ (x : Int) = 0 := by omega
    go_enter Try.func39, Try.ntmps39
    go_wp2_with (go_at_call 38; refine (HW.out _).mono ?_; rintro e w' ⟨rfl, rfl⟩)
    go_ret3
    exact ⟨ret_three rfl (by show (1 + (x : Int)) = ((x + 1 : Nat) : Int); omega) rfl, rfl⟩

def twoL (l : List UInt8) : Bool := l == [58, 58] || (l == [45, 62] || (l == [61, 62] || (l == [61, 61] || (l == [33, 61] || (l == [60, 61] || (l == [62, 61] || (l == [38, 38] || l == [124, 124])))))))
theorem twoBytes_any (s : ByteArray) (w : World) : Calls Try.prog 49 #[.string s] w fun e w' => e = .returned (.bool (twoL s.data.toList)) ∧ w = w' := by
  go_enter Try.func49, Try.ntmps49
  go_wp2
  all_goals (first | (exfalso; simp_all; done) | (go_ret; refine ⟨ret_bool ?_, rfl⟩; unfold twoL; rw [← ByteArray.toList_eq]; simp_all))

theorem twoL_two (l : List UInt8) (h : 2 ≤ l.length) : twoL (l.take 2) = M.two l := by
  match l, h with
  | a :: b :: r, _ => rw [Bool.eq_iff_iff]; simp [twoL, M.two]

theorem one_index (c : UInt8) : (0 ≤ Lib.indexByte [40, 41, 123, 125, 91, 93, 44, 59, 58, 46, 61, 60, 62, 43, 45, 42, 47, 37, 33, 38] c) ↔ M.one c = true := by
  have key : ∀ l : List UInt8, 0 ≤ Lib.indexByte l c ↔ l.contains c = true := by
    intro l
    induction l with
    | nil => simp [Lib.indexByte]
    | cons a l ih =>
      unfold Lib.indexByte
      by_cases h : (a == c) = true
      · rw [if_pos h]; simp at h; simp [h]
      · rw [if_neg h]
        have hne : ¬ c = a := by rintro rfl; simp at h
        have hg := Lib.indexByte_ge l c
        by_cases h1 : (Lib.indexByte l c == -1) = true
        · rw [if_pos h1]; simp at h1; rw [h1] at ih; simp at ih; simp [hne, ih]
        · rw [if_neg h1]; simp at h1; simp at ih; simp [hne, ← ih]; omega
  exact key _

/-- What a sign is, where nothing else begins. -/
def sign3 (l : List UInt8) : Nat × Nat × Nat := if M.two l = true then (4, 2, 0) else if M.one (l.headD 0) = true then (4, 1, 0) else (4, 0, 20)

theorem head_get : ∀ (l : List UInt8) (h : 0 < l.length), l.headD 0 = l[0]
  | _ :: _, _ => rfl
theorem head_of (s : ByteArray) (h : 0 < s.size) : s.data.toList.headD 0 = s[0] := by
  rw [← at_of s 0 h]; exact head_get _ _

theorem sign_any (s : ByteArray) (w : World) (hs : s.size ≤ 1000000) (h1 : 1 ≤ s.size) :
    Calls Try.prog 40 #[.string s] w fun e w' => e = .returned (v3 (sign3 s.data.toList)) ∧ w = w' := by
  have hi := one_index s[0]
  have hc := Try.strings_IndexByte ⟨#[40, 41, 123, 125, 91, 93, 44, 59, 58, 46, 61, 60, 62, 43, 45, 42, 47, 37, 33, 38]⟩ (s[0].toNat : Int)
  rw [show (s[0].toNat : Int).toNat.toUInt8 = s[0] by simp] at hc
  have hS : sign3 s.data.toList = if M.two s.data.toList = true then (4, 2, 0) else if M.one s[0] = true then (4, 1, 0) else (4, 0, 20) := by unfold sign3; rw [head_of s h1]
  obtain ⟨x, hx⟩ : ∃ x : Int, x = Lib.indexByte [40, 41, 123, 125, 91, 93, 44, 59, 58, 46, 61, 60, 62, 43, 45, 42, 47, 37, 33, 38] s[0] := ⟨_, rfl⟩
  rw [← hx] at hi
  have HC : Hid (∀ w, Calls Try.prog 47 #[.string ⟨#[40, 41, 123, 125, 91, 93, 44, 59, 58, 46, 61, 60, 62, 43, 45, 42, 47, 37, 33, 38]⟩, .int .u8 (s[0].toNat : Int)] w fun e w' => e = .returned (.int .i64 x) ∧ w' = w) := by rw [hx]; exact hc
  have HI := hide hi
  rw [hS]
  clear hc hx hi hS
  by_cases h2 : 2 ≤ s.size
  · have ht := fun w => twoBytes_any (s.extract 0 2) w
    rw [take_of, twoL_two _ (by rw [len_of]; exact h2)] at ht
    have HT := hide ht
    clear ht
    have hd : decide ((1 : Int) < (s.size : Int)) = true := by simp; omega
    by_cases hb : M.two s.data.toList = true
    · rw [if_pos hb]
      have HB := hide hb
      clear hb h2
      go_enter Try.func40, Try.ntmps40
      go_wp2_with fail
      case isFalse => have := of_decide_eq_true hd; omega
      refine (HT.out _).mono ?_
      rw [HB.out]
      rintro e w' ⟨rfl, rfl⟩
      go_wp2
      go_ret3
      exact ⟨rfl, rfl⟩
    · rw [if_neg hb]
      have HB := hide (Bool.eq_false_iff.2 hb)
      clear hb h2
      by_cases ho : M.one s[0] = true
      · rw [if_pos ho]
        have hx0 : 0 ≤ x := HI.out.2 ho
        clear ho
        go_enter Try.func40, Try.ntmps40
        go_wp2_with fail
        case isFalse => have := of_decide_eq_true hd; omega
        refine (HT.out _).mono ?_
        rw [HB.out]
        rintro e w' ⟨rfl, rfl⟩
        go_wp2_with (go_at_call 47; refine (HC.out _).mono ?_; rintro e w' ⟨rfl, rfl⟩)
        go_ret3
        exact ⟨rfl, rfl⟩
      · rw [if_neg ho]
        have hx0 : ¬ 0 ≤ x := fun h => ho (HI.out.1 h)
        clear ho
        go_enter Try.func40, Try.ntmps40
        go_wp2_with fail
        case isFalse => have := of_decide_eq_true hd; omega
        refine (HT.out _).mono ?_
        rw [HB.out]
        rintro e w' ⟨rfl, rfl⟩
        go_wp2_with (go_at_call 47; refine (HC.out _).mono ?_; rintro e w' ⟨rfl, rfl⟩)
        go_ret3
        exact ⟨rfl, rfl⟩
  · have hb : ¬ M.two s.data.toList = true := fun h => h2 (by have := M.two_len _ h; rwa [len_of] at this)
    rw [if_neg hb]
    have hsz : (s.size : Int) = 1 := by omega
    clear hb h2
    by_cases ho : M.one s[0] = true
    · rw [if_pos ho]
      have hx0 : 0 ≤ x := HI.out.2 ho
      clear ho
      go_enter Try.func40, Try.ntmps40
      go_wp2_with (go_at_call 47; refine (HC.out _).mono ?_; rintro e w' ⟨rfl, rfl⟩)
      go_ret3
      exact ⟨rfl, rfl⟩
    · rw [if_neg ho]
      have hx0 : ¬ 0 ≤ x := fun h => ho (HI.out.1 h)
      clear ho
      go_enter Try.func40, Try.ntmps40
      go_wp2_with (go_at_call 47; refine (HC.out _).mono ?_; rintro e w' ⟨rfl, rfl⟩)
      go_ret3
      exact ⟨rfl, rfl⟩
end Go.Proofs.Ytjiencifdpopdaa
