/- The small functions of layer 1: what each call answers; the world is as it was. No conditions beyond the bounds that each statement names. -/
import Derived.Test.YtcgiifcikcfdaaaDoorRows
import Derived.Test.YtcgiifcikcfdaaaDoorShelf
import Derived.Test.YtcgiifcikcfdaaaDoorM
import Derived.WalkKit
import Derived.WalkSpells
import Derived.WalkLawsBesides
namespace Go.Proofs.YtcgiifcikcfdaaaDoor
open Go.RowKit

theorem hide {p : Prop} (h : p) : Hid p := h
theorem ret_int {k : IntKind} {a b : Int} (h : a = b) : Ending.returned (.int k a) = .returned (.int k b) := by rw [h]
theorem ret_int2 {k k' : IntKind} {a b c d : Int} (h : a = b) (h' : c = d) : Ending.returned (.tuple #[.int k a, .int k' c]) = .returned (.tuple #[.int k b, .int k' d]) := by rw [h, h']
theorem ret_bool {a b : Bool} (h : a = b) : Ending.returned (.bool a) = .returned (.bool b) := by rw [h]
theorem ret_str {a b : ByteArray} (h : a = b) : Ending.returned (.string a) = .returned (.string b) := by rw [h]

def srcB (n : Int) : Bool := n == 9 || (n == 10 || (decide (32 ≤ n) && decide (n ≤ 126)))

theorem sourceByte_any (n : Int) (w : World) :
    Calls Tryd.prog 25 #[.int .u8 n] w fun e w' => e = .returned (.bool (srcB n)) ∧ w = w' := by
  go_enter Tryd.func25, Tryd.ntmps25
  go_wp2
  all_goals (go_ret; refine ⟨ret_bool ?_, rfl⟩; rw [Bool.eq_iff_iff]; simp [srcB]; try omega)

theorem right_any (n : Int) (w : World) :
    Calls Tryd.prog 26 #[.int .u8 n] w fun e w' => e = .returned (.bool (srcB n)) ∧ w = w' := by
  go_enter Tryd.func26, Tryd.ntmps26
  go_wp2
  all_goals (go_ret; refine ⟨ret_bool ?_, rfl⟩; rw [Bool.eq_iff_iff]; simp [srcB]; try omega)

theorem within_any (s : ByteArray) (n : Int) (w : World) :
    Calls Tryd.prog 28 #[.string s, .int .i64 n] w fun e w' => e = .returned (.int .i64 (min (max n 0) s.size)) ∧ w = w' := by
  by_cases h0 : n < 0
  all_goals
    go_enter Tryd.func28, Tryd.ntmps28
    go_wp2
    all_goals (go_ret; refine ⟨ret_int ?_, rfl⟩; omega)

theorem lineStart_any (s : ByteArray) (k : Nat) (w : World) (hk : k ≤ s.size) (hs : s.size ≤ 1000000) :
    Calls Tryd.prog 30 #[.string s, .int .i64 k] w fun e w' => e = .returned (.int .i64 ((k : Int) - (M.pos s.data.toList k).2)) ∧ w = w' := by
  have hp := M.pos_last s k hk
  have hle := M.pos_le s.data.toList k
  have hc : ∀ w, Calls Tryd.prog 42 #[.string (s.extract 0 k), .int .u8 10] w fun e w' => e = .returned (.int .i64 (Lib.lastIndexByte (s.extract 0 k) 10)) ∧ w' = w :=
    fun w => Tryd.strings_LastIndexByte _ _ (by simp; omega) w
  have hx : ∃ x : Int, x = Lib.lastIndexByte (s.extract 0 k) 10 ∧ -1 ≤ x ∧ x ≤ 1000000 := ⟨_, rfl, by omega, by omega⟩
  obtain ⟨x, hx, hx0, hx1⟩ := hx
  rw [← hx] at hc hp
  have HP := hide hp
  have HC := hide hc
  clear hp hc hx
  go_enter Tryd.func30, Tryd.ntmps30
  go_wp2_with (go_at_call 42; refine (HC.out _).mono ?_; rintro e w' ⟨rfl, rfl⟩)
  go_ret
  exact ⟨ret_int (by have := HP.out; omega), rfl⟩

/-- Where the line of a place ends. -/
def lend (l : List UInt8) (k : Nat) : Nat := if Lib.indexByte (l.drop k) 10 = -1 then l.length else k + (Lib.indexByte (l.drop k) 10).toNat

theorem lineEnd_any (s : ByteArray) (k : Nat) (w : World) (hk : k ≤ s.size) (hs : s.size ≤ 1000000) :
    Calls Tryd.prog 32 #[.string s, .int .i64 k] w fun e w' => e = .returned (.int .i64 (lend s.data.toList k)) ∧ w = w' := by
  have hd : (s.extract k s.size).data.toList = s.data.toList.drop k := Lib.extract_to_end s k
  have hc : ∀ w, Calls Tryd.prog 43 #[.string (s.extract k s.size), .int .u8 10] w fun e w' => e = .returned (.int .i64 (Lib.indexByte (s.data.toList.drop k) 10)) ∧ w' = w :=
    fun w => by have := Tryd.strings_IndexByte (s.extract k s.size) 10 w; rw [hd] at this; exact this
  have hge := Lib.indexByte_ge (s.data.toList.drop k) 10
  have hlt : Lib.indexByte (s.data.toList.drop k) 10 = -1 ∨ Lib.indexByte (s.data.toList.drop k) 10 < 1000000 := by
    by_cases hn : Lib.indexByte (s.data.toList.drop k) 10 = -1
    · exact .inl hn
    · obtain ⟨o, ho⟩ : ∃ o : Nat, Lib.indexByte (s.data.toList.drop k) 10 = o := ⟨(Lib.indexByte (s.data.toList.drop k) 10).toNat, by omega⟩
      have := (M.atR_some _ o ho).1
      rw [List.length_drop] at this
      have : s.data.toList.length = s.size := by simp
      right; omega
  unfold lend
  generalize Lib.indexByte (s.data.toList.drop k) 10 = x at *
  have HC := hide hc
  have HT := hide hlt
  clear hc hlt hd
  by_cases hx : x < 0
  · go_enter Tryd.func32, Tryd.ntmps32
    go_wp2_with (go_at_call 43; refine (HC.out _).mono ?_; rintro e w' ⟨rfl, rfl⟩)
    go_ret
    exact ⟨ret_int rfl, rfl⟩
  · have hx1 : x < 1000000 := by have := HT.out; omega
    go_enter Tryd.func32, Tryd.ntmps32
    go_wp2_with (go_at_call 43; refine (HC.out _).mono ?_; rintro e w' ⟨rfl, rfl⟩)
    go_ret
    exact ⟨ret_int (by omega), rfl⟩

/-- The line and column of a place, as numbers. -/
def line (s : ByteArray) (n : Int) : Int := ((M.pos s.data.toList (min (max n 0) s.size).toNat).1 : Int) + 1
def col (s : ByteArray) (n : Int) : Int := ((M.pos s.data.toList (min (max n 0) s.size).toNat).2 : Int) + 1

theorem where_any (s : ByteArray) (n : Int) (w : World) (hs : s.size ≤ 1000000) :
    Calls Tryd.prog 17 #[.string s, .int .i64 n] w fun e w' => e = .returned (.tuple #[.int .i64 (line s n), .int .i64 (col s n)]) ∧ w = w' := by
  obtain ⟨k, hk, hkn⟩ : ∃ k : Nat, k ≤ s.size ∧ min (max n 0) (s.size : Int) = k := ⟨(min (max n 0) (s.size : Int)).toNat, by omega, by omega⟩
  have hw : ∀ w, Calls Tryd.prog 28 #[.string s, .int .i64 n] w fun e w' => e = .returned (.int .i64 k) ∧ w = w' := fun w => by rw [← hkn]; exact within_any s n w
  have hcnt : ∀ w, Calls Tryd.prog 29 #[.string (s.extract 0 k), .string ⟨#[10]⟩] w fun e w' => e = .returned (.int .i64 ((M.pos s.data.toList k).1 : Nat)) ∧ w' = w := fun w => by
    have h := Tryd.strings_Count_one (s.extract 0 k) 10 w
    unfold Lib.countByte at h
    rw [Lib.extract_from_zero, M.pos_count _ _ (by simpa using hk)] at h
    exact h
  have hst := fun w => lineStart_any s k w hk hs
  have hle := M.pos_le s.data.toList k
  unfold line col
  rw [hkn, Int.toNat_natCast]
  generalize M.pos s.data.toList k = p at *
  have HW := hide hw
  have HC := hide hcnt
  have HS := hide hst
  clear hw hcnt hst hkn
  go_enter Tryd.func17, Tryd.ntmps17
  go_wp2_with (first
    | (go_at_call 28; refine (HW.out _).mono ?_; rintro e w' ⟨rfl, rfl⟩)
    | (go_at_call 29; refine (HC.out _).mono ?_; rintro e w' ⟨rfl, rfl⟩)
    | (go_at_call 30; refine (HS.out _).mono ?_; rintro e w' ⟨rfl, rfl⟩))
  go_ret2
  exact ⟨ret_int2 rfl (by omega), rfl⟩

/-- Where a line begins: nothing, if it isn't there. -/
def nth (s : ByteArray) (n : Int) : Option Nat := if n < 1 then none else M.atR s.data.toList (n - 1).toNat 0
def nthV (o : Option Nat) : Value := .tuple #[.int .i64 ((o.getD 0 : Nat) : Int), .bool o.isSome]

theorem nth_step (s : ByteArray) (r k : Nat) (h : M.atR s.data.toList r 0 = some k) :
    k ≤ s.size ∧ lend s.data.toList k ≤ s.size ∧ k ≤ lend s.data.toList k ∧ (lend s.data.toList k = s.size → ∀ m, M.atR s.data.toList (r + (m + 1)) 0 = none) ∧
      (lend s.data.toList k ≠ s.size → M.atR s.data.toList (r + 1) 0 = some (lend s.data.toList k + 1)) ∧
      ∀ j, M.atR s.data.toList r j = if k + j ≤ lend s.data.toList k then some (k + j) else none := by
  have hl : s.data.toList.length = s.size := by simp
  have hk : k ≤ s.size := by rw [← hl]; exact (M.pos_atR _ _ _ _ h).1
  have hsh := M.atR_shift _ r k h
  have hge := Lib.indexByte_ge (s.data.toList.drop k) 10
  have hdl : (s.data.toList.drop k).length = s.size - k := by rw [List.length_drop, hl]
  unfold lend
  by_cases hx : Lib.indexByte (s.data.toList.drop k) 10 = -1
  · obtain ⟨h1, h2⟩ := M.atR_none _ hx
    rw [if_pos hx, hl]
    refine ⟨hk, Nat.le_refl _, hk, fun _ m => ?_, fun e => absurd rfl e, fun j => ?_⟩
    · rw [hsh, h1]; rfl
    · have := hsh 0 j
      rw [Nat.add_zero] at this
      rw [this, h2, hdl]
      by_cases hj : j ≤ s.size - k
      · rw [if_pos hj, if_pos (by omega)]; simp; omega
      · rw [if_neg hj, if_neg (by omega)]; rfl
  · obtain ⟨o, ho⟩ : ∃ o : Nat, Lib.indexByte (s.data.toList.drop k) 10 = o := ⟨(Lib.indexByte (s.data.toList.drop k) 10).toNat, by omega⟩
    obtain ⟨h0, h1, h2⟩ := M.atR_some _ o ho
    rw [if_neg hx, ho, Int.toNat_natCast]
    refine ⟨hk, by omega, by omega, fun e => by omega, fun _ => ?_, fun j => ?_⟩
    · rw [hsh, h1]; simp; omega
    · have := hsh 0 j
      rw [Nat.add_zero] at this
      rw [this, h2]
      by_cases hj : j ≤ o
      · rw [if_pos hj, if_pos (by omega)]; simp; omega
      · rw [if_neg hj, if_neg (by omega)]; rfl

theorem nthLine_any (s : ByteArray) (n : Int) (w : World) (hs : s.size ≤ 1000000) (hn : n ≤ 9223372036854775807) :
    Calls Tryd.prog 31 #[.string s, .int .i64 n] w fun e w' => e = .returned (nthV (nth s n)) ∧ w = w' := by
  by_cases h0 : n < 1
  · have HF : Hid (nthV (nth s n) = .tuple #[.int .i64 0, .bool false]) := by unfold nth Hid; rw [if_pos h0]; rfl
    go_enter Tryd.func31, Tryd.ntmps31
    go_wp2
    go_ret2
    exact ⟨by rw [HF.out]; rfl, rfl⟩
  · have h1 : 1 ≤ n := by omega
    have HN : Hid (nth s n = M.atR s.data.toList (n - 1).toNat 0) := by unfold nth Hid; rw [if_neg h0]
    have HE := hide fun (k : Nat) (hk : k ≤ s.size) => lineEnd_any s k w hk hs
    clear h0
    go_enter Tryd.func31, Tryd.ntmps31
    go_wp2
    go_loop [1, 6, 7] (fun l t _ => ∃ r k : Nat, (r : Int) ≤ n - 1 ∧ M.atR s.data.toList r 0 = some k ∧ l = .int .i64 (n - r) ∧ t = .int .i64 k) (fun l _ _ => (intOf l).toNat)
    case atStart => exact ⟨0, 0, by omega, M.atR_zero _, by simp, rfl⟩
    case round =>
      obtain ⟨r, k, hr, hat, rfl, rfl⟩ := hrel
      obtain ⟨a1, a2, a3, a4, a5, a6⟩ := nth_step s r k hat
      have HA := hide hat
      have H4 := hide a4
      have H5 := hide a5
      clear hat a4 a5 a6
      have HE' := hide (HE.out k a1)
      generalize lend s.data.toList k = q at *
      by_cases hgo : (1 : Int) < n - r
      · by_cases hq : q = s.size
        · have HQ := hide hq
          have hq' : ((q : Int) == (s.size : Int)) = true := by simp [hq]
          clear hq
          go_wp2_with (go_at_call 32; refine HE'.out.mono ?_; rintro e w' ⟨rfl, rfl⟩)
          go_ret2
          refine ⟨?_, rfl⟩
          rw [HN.out, show (n - 1).toNat = r + (((n - 1).toNat - r - 1) + 1) by omega, H4.out HQ.out]
          rfl
        · have hq' : ((q : Int) == (s.size : Int)) = false := by rw [beq_eq_false_iff_ne]; omega
          have HQ := hide hq
          clear hq
          go_wp2_with (go_at_call 32; refine HE'.out.mono ?_; rintro e w' ⟨rfl, rfl⟩)
          go_round
          case rel => exact ⟨r + 1, q + 1, by omega, H5.out HQ.out, by rw [show n - (r : Int) - 1 = n - ((r + 1 : Nat) : Int) by omega], by go_num⟩
          case measure => simp [intOf]; omega
      · go_wp2
        go_ret2
        refine ⟨?_, rfl⟩
        rw [HN.out, show (n - 1).toNat = r by omega, HA.out]
        rfl

/-- The place of a line and a column: nothing, if it isn't there. -/
def plc (s : ByteArray) (n m : Int) : Option Nat := if n < 1 ∨ m < 1 then none else M.atR s.data.toList (n - 1).toNat (m - 1).toNat
def plcV (o : Option Nat) : Value := .tuple #[.int .i64 ((o.getD 0 : Nat) : Int), .int .i64 (if o.isSome then 0 else 11)]

theorem at_any (s : ByteArray) (n m : Int) (w : World) (hs : s.size ≤ 1000000) (hn : n ≤ 9223372036854775807) (hm : m ≤ 9223372036854775807) :
    Calls Tryd.prog 19 #[.string s, .int .i64 n, .int .i64 m] w fun e w' => e = .returned (plcV (plc s n m)) ∧ w = w' := by
  have HC := hide fun w => nthLine_any s n w hs hn
  cases ho : nth s n with
  | none =>
    have HF : Hid (plcV (plc s n m) = .tuple #[.int .i64 0, .int .i64 11]) := by
      have : plc s n m = none := by
        unfold plc; split
        · rfl
        · rename_i h
          unfold nth at ho
          rw [if_neg (by omega)] at ho
          cases hp : M.atR s.data.toList (n - 1).toNat (m - 1).toNat with
          | none => rfl
          | some k =>
            rw [M.atR_lns] at hp ho
            split at hp
            · rename_i h1; rw [if_pos ⟨h1.1, Nat.zero_le _⟩] at ho; cases ho
            · cases hp
      unfold Hid; rw [this]; rfl
    have HO := hide ho
    clear ho
    go_enter Tryd.func19, Tryd.ntmps19
    go_wp2_with (go_at_call 31; refine (HC.out _).mono ?_; rw [HO.out]; unfold nthV; rintro e w' ⟨rfl, rfl⟩)
    go_ret2
    exact ⟨by rw [HF.out]; rfl, rfl⟩
  | some k =>
    have hn1 : 1 ≤ n ∧ M.atR s.data.toList (n - 1).toNat 0 = some k := by
      unfold nth at ho
      by_cases h : n < 1
      · rw [if_pos h] at ho; cases ho
      · rw [if_neg h] at ho; exact ⟨by omega, ho⟩
    obtain ⟨h1, hat⟩ := hn1
    obtain ⟨a1, a2, a3, a4, a5, a6⟩ := nth_step s _ k hat
    have HE := hide fun w => lineEnd_any s k w a1 hs
    have HP : Hid (plc s n m = if m < 1 then none else if (k : Int) + (m - 1) ≤ lend s.data.toList k then some (k + (m - 1).toNat) else none) := by
      unfold plc Hid
      by_cases h : m < 1
      · rw [if_pos (Or.inr h), if_pos h]
      · rw [if_neg (by omega), if_neg h, a6]
        by_cases hj : k + (m - 1).toNat ≤ lend s.data.toList k
        · rw [if_pos hj, if_pos (by omega)]
        · rw [if_neg hj, if_neg (by omega)]
    have HO := hide ho
    generalize lend s.data.toList k = q at *
    clear ho hat a4 a5 a6
    by_cases hm1 : m < 1
    · go_enter Tryd.func19, Tryd.ntmps19
      go_wp2_with (first
        | (go_at_call 31; refine (HC.out _).mono ?_; rw [HO.out]; unfold nthV; rintro e w' ⟨rfl, rfl⟩)
        | (go_at_call 32; refine (HE.out _).mono ?_; rintro e w' ⟨rfl, rfl⟩))
      go_ret2
      exact ⟨by rw [HP.out, if_pos hm1]; rfl, rfl⟩
    · by_cases hle : (k : Int) + (m - 1) ≤ q
      · go_enter Tryd.func19, Tryd.ntmps19
        go_wp2_with (first
          | (go_at_call 31; refine (HC.out _).mono ?_; rw [HO.out]; unfold nthV; rintro e w' ⟨rfl, rfl⟩)
          | (go_at_call 32; refine (HE.out _).mono ?_; rintro e w' ⟨rfl, rfl⟩))
        go_ret2
        refine ⟨?_, rfl⟩
        rw [HP.out, if_neg (by omega), if_pos hle]
        exact ret_int2 (by simp; omega) rfl
      · go_enter Tryd.func19, Tryd.ntmps19
        go_wp2_with (first
          | (go_at_call 31; refine (HC.out _).mono ?_; rw [HO.out]; unfold nthV; rintro e w' ⟨rfl, rfl⟩)
          | (go_at_call 32; refine (HE.out _).mono ?_; rintro e w' ⟨rfl, rfl⟩))
        go_ret2
        exact ⟨by rw [HP.out, if_neg (by omega), if_neg (by omega)]; rfl, rfl⟩

/-- What is wrong with a source's bytes. -/
def cln (l : List UInt8) : Option Nat :=
  match (l.take 65536).findIdx? (fun c => !srcB c.toNat) with
  | some i => some i
  | none => if l.length > 65536 then some 65536 else none
def clnV (o : Option Nat) : Value := .agg #[.int .i64 (if o.isSome then 10 else 0), .int .i64 ((o.getD 0 : Nat) : Int)]

theorem cln_at (s : ByteArray) (k : Nat) (hk : k < s.size) (h6 : k < 65536) (hb : srcB s[k].toNat = false) (hp : ∀ j (h : j < s.size), j < k → srcB s[j].toNat = true) : cln s.data.toList = some k := by
  have hl : s.data.toList.length = s.size := by simp
  have : (s.data.toList.take 65536).findIdx? (fun c => !srcB c.toNat) = some k := by
    rw [List.findIdx?_eq_some_iff_getElem]
    refine ⟨by rw [List.length_take, hl]; omega, ?_, fun j hj => ?_⟩
    · rw [List.getElem_take]
      have e : s.data.toList[k]'(by omega) = s[k] := by simp; rfl
      rw [e, hb]; rfl
    · rw [List.getElem_take]
      have e : s.data.toList[j]'(by omega) = s[j] := by simp; rfl
      rw [e, hp j (by omega) hj]; simp
  unfold cln
  rw [this]
theorem cln_end (s : ByteArray) (hp : ∀ j (h : j < s.size), j < 65536 → srcB s[j].toNat = true) : cln s.data.toList = if s.size > 65536 then some 65536 else none := by
  have hl : s.data.toList.length = s.size := by simp
  have : (s.data.toList.take 65536).findIdx? (fun c => !srcB c.toNat) = none := by
    rw [List.findIdx?_eq_none_iff]
    intro c hc
    obtain ⟨j, hj, rfl⟩ := List.mem_iff_getElem.1 hc
    rw [List.length_take] at hj
    rw [List.getElem_take]
    have e : s.data.toList[j]'(by omega) = s[j]'(by omega) := by simp; rfl
    rw [e, hp j (by omega) (by omega)]; rfl
  unfold cln
  rw [this, hl]

theorem clnV_some (k : Nat) : clnV (some k) = .agg #[.int .i64 10, .int .i64 k] := rfl
theorem clnV_none : clnV none = .agg #[.int .i64 0, .int .i64 0] := rfl

theorem clean_any (s : ByteArray) (w : World) (hs : s.size ≤ 1000000) :
    Calls Tryd.prog 12 #[.string s] w fun e w' => e = .returned (clnV (cln s.data.toList)) ∧ Below w.heap.size w w' := by
  have HB := hide fun n w => sourceByte_any n w
  by_cases hb : s.size ≤ 65536
  · go_enter Tryd.func12, Tryd.ntmps12
    go_wp2
    go_loop [7] (fun i => ∃ k : Nat, k ≤ s.size ∧ i = .int .i64 k ∧ ∀ j (h : j < s.size), j < k → srcB s[j].toNat = true) (fun i => s.size - (intOf i).toNat)
    case atStart => exact ⟨0, Nat.zero_le _, rfl, fun j h hj => by omega⟩
    case round =>
      obtain ⟨k, hk, rfl, hp⟩ := hrel
      have HP := hide hp
      clear hp
      by_cases hlt : k < s.size
      · have hks : k < s.size := by omega
        by_cases hg : srcB s[k].toNat = true
        · have HG := hide hg
          clear hg
          go_wp2_with (go_at_call 25; refine (HB.out _ _).mono ?_; rw [HG.out]; rintro e w' ⟨rfl, rfl⟩)
          go_round
          case rel => exact ⟨k + 1, by omega, by go_num, fun j h hj => by
            by_cases e : j = k
            · subst e; exact HG.out
            · exact HP.out j h (by omega)⟩
          case measure => simp [intOf]; omega
        · have HG := hide (Bool.eq_false_iff.2 hg)
          clear hg
          have HF := hide (cln_at s k hks (by omega) HG.out HP.out)
          go_wp2_with (go_at_call 25; refine (HB.out _ _).mono ?_; rw [HG.out]; rintro e w' ⟨rfl, rfl⟩)
          refine bodyPost_ret (v := .agg #[.int .i64 10, .int .i64 k]) (by simp [results, Tryd.results12, go_sem]) rfl ?_
          exact ⟨by rw [HF.out]; rfl, (Below.refl _ _).alloc (Nat.le_refl _) _⟩
      · have HF := hide (cln_end s (fun j h hj => HP.out j h (by omega)))
        go_wp2
        refine bodyPost_ret (v := .agg #[.int .i64 0, .int .i64 0]) (by simp [results, Tryd.results12, go_sem]) rfl ?_
        refine ⟨by rw [HF.out, if_neg (by omega)]; rfl, ?_⟩
        exact (Below.refl _ _).alloc (Nat.le_refl _) _
  · go_enter Tryd.func12, Tryd.ntmps12
    go_wp2
    go_loop [7] (fun i => ∃ k : Nat, k ≤ 65536 ∧ i = .int .i64 k ∧ ∀ j (h : j < s.size), j < k → srcB s[j].toNat = true) (fun i => 65536 - (intOf i).toNat)
    case atStart => exact ⟨0, Nat.zero_le _, rfl, fun j h hj => by omega⟩
    case round =>
      obtain ⟨k, hk, rfl, hp⟩ := hrel
      have HP := hide hp
      clear hp
      by_cases hlt : k < 65536
      · have hks : k < s.size := by omega
        by_cases hg : srcB s[k].toNat = true
        · have HG := hide hg
          clear hg
          go_wp2_with (go_at_call 25; refine (HB.out _ _).mono ?_; rw [HG.out]; rintro e w' ⟨rfl, rfl⟩)
          go_round
          case rel => exact ⟨k + 1, by omega, by go_num, fun j h hj => by
            by_cases e : j = k
            · subst e; exact HG.out
            · exact HP.out j h (by omega)⟩
          case measure => simp [intOf]; omega
        · have HG := hide (Bool.eq_false_iff.2 hg)
          clear hg
          have HF := hide (cln_at s k hks (by omega) HG.out HP.out)
          go_wp2_with (go_at_call 25; refine (HB.out _ _).mono ?_; rw [HG.out]; rintro e w' ⟨rfl, rfl⟩)
          refine bodyPost_ret (v := .agg #[.int .i64 10, .int .i64 k]) (by simp [results, Tryd.results12, go_sem]) rfl ?_
          exact ⟨by rw [HF.out]; rfl, (Below.refl _ _).alloc (Nat.le_refl _) _⟩
      · have HF := hide (cln_end s (fun j h hj => HP.out j h (by omega)))
        go_wp2
        refine bodyPost_ret (v := .agg #[.int .i64 10, .int .i64 65536]) (by simp [results, Tryd.results12, go_sem]) rfl ?_
        refine ⟨by rw [HF.out, if_pos (by omega)]; rfl, ?_⟩
        exact (Below.refl _ _).alloc (Nat.le_refl _) _
end Go.Proofs.YtcgiifcikcfdaaaDoor
