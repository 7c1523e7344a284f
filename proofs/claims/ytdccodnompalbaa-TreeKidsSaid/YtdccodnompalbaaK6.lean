/- Texts and numbers of nodes by the program. No conditions beyond the bounds that each statement names. -/
import Derived.Test.YtdccodnompalbaaK5
namespace Go.Proofs.Ytdccodnompalbaa
open Go.RowKit Go.Shelf

/-- The variable that strings.Cut reads holds an int. -/
def MaxOk (w : World) : Prop := ∃ m : Int, w.cell? ⟨0, 0, none⟩ = some (.int .i64 m)
def bs (l : List UInt8) : ByteArray := ⟨l.toArray⟩
theorem bs_size (l : List UInt8) : (bs l).size = l.length := by simp [bs, ByteArray.size]
def regionM (s : ByteArray) : Bool := Lib.hasPrefix s.data.toList [39] && wordM (bs (Lib.trimPrefix s.data.toList [39]))
def caseM (s : ByteArray) : Bool := (Lib.cut s.data.toList [58, 58]).2.2 && (nameM (bs (Lib.cut s.data.toList [58, 58]).1) && nameM (bs (Lib.cut s.data.toList [58, 58]).2.1))
def binLs : List (List UInt8) := [[124, 124], [38, 38], [61, 61], [33, 61], [60], [60, 61], [62], [62, 61], [43], [45], [42], [47], [37]]
def binM (s : ByteArray) : Bool := binLs.any fun x => s.toList == x
theorem len_of (s : ByteArray) : s.data.toList.length = s.size := by simp
theorem trim_len (l p : List UInt8) : (Lib.trimPrefix l p).length ≤ l.length := by
  unfold Lib.trimPrefix
  split
  · simp
  · exact Nat.le_refl _
theorem cut_len (l p : List UInt8) : (Lib.cut l p).1.length ≤ l.length ∧ (Lib.cut l p).2.1.length ≤ l.length := by
  unfold Lib.cut
  split <;> simp <;> omega

theorem isRegion_any (s : ByteArray) (w : World) (hs : s.size ≤ maxLen) : Calls Try.prog 50 #[.string s] w fun e w' => e = .returned (.bool (regionM s)) ∧ w = w' := by
  have hc := fun w => Try.strings_CutPrefix s ⟨#[39]⟩ w
  have hw := fun w => isWord_any (bs (Lib.trimPrefix s.data.toList [39])) w (by rw [bs_size]; exact Nat.le_trans (trim_len _ _) (by rw [len_of]; exact hs))
  have HR := hide (show regionM s = (Lib.hasPrefix s.data.toList [39] && wordM (bs (Lib.trimPrefix s.data.toList [39]))) from rfl)
  generalize regionM s = R at *
  change ∀ w, Calls Try.prog 64 #[.string s, .string ⟨#[39]⟩] w fun e w' => e = .returned (.tuple #[.string (bs (Lib.trimPrefix s.data.toList [39])), .bool (Lib.hasPrefix s.data.toList [39])]) ∧ w' = w at hc
  generalize bs (Lib.trimPrefix s.data.toList [39]) = T at *
  generalize wordM T = A at *
  generalize Lib.hasPrefix s.data.toList [39] = B at *
  cases B
  · go_enter Try.func50, Try.ntmps50
    go_wp2_with (go_at_call 64; refine (hc _).mono ?_; rintro e w' ⟨rfl, rfl⟩)
    go_ret
    exact ⟨ret_bool (by rw [HR.out]; rfl), rfl⟩
  · go_enter Try.func50, Try.ntmps50
    go_wp2_with (first | (go_at_call 64; refine (hc _).mono ?_; rintro e w' ⟨rfl, rfl⟩) | (go_at_call 62; refine (hw _).mono ?_; rintro e w' ⟨rfl, rfl⟩))
    go_ret
    exact ⟨ret_bool (by rw [HR.out]; simp), rfl⟩

theorem isCase_any (s : ByteArray) (w : World) (hs : s.size < 4294967281) (hm : MaxOk w) : Calls Try.prog 65 #[.string s] w fun e w' => e = .returned (.bool (caseM s)) ∧ ∃ n, w' = w.drewN n := by
  obtain ⟨m, hm⟩ := hm
  have hc := Try.strings_Cut s ⟨#[58, 58]⟩ m w hs hm
  have hl := cut_len s.data.toList [58, 58]
  rw [len_of] at hl
  have hml : s.size ≤ maxLen := by unfold maxLen; omega
  have h1 := fun w => isName_any (bs (Lib.cut s.data.toList [58, 58]).1) w (by rw [bs_size]; exact Nat.le_trans hl.1 hml)
  have h2 := fun w => isName_any (bs (Lib.cut s.data.toList [58, 58]).2.1) w (by rw [bs_size]; exact Nat.le_trans hl.2 hml)
  have HR := hide (show caseM s = ((Lib.cut s.data.toList [58, 58]).2.2 && (nameM (bs (Lib.cut s.data.toList [58, 58]).1) && nameM (bs (Lib.cut s.data.toList [58, 58]).2.1))) from rfl)
  generalize caseM s = R at *
  change Calls Try.prog 73 #[.string s, .string ⟨#[58, 58]⟩] w fun e w' => e = .returned (.tuple #[.string (bs (Lib.cut s.data.toList [58, 58]).1), .string (bs (Lib.cut s.data.toList [58, 58]).2.1), .bool (Lib.cut s.data.toList [58, 58]).2.2]) ∧ ∃ n, w' = w.drewN n at hc
  clear hl hs hml
  generalize bs (Lib.cut s.data.toList [58, 58]).1 = T1 at *
  generalize bs (Lib.cut s.data.toList [58, 58]).2.1 = T2 at *
  generalize (Lib.cut s.data.toList [58, 58]).2.2 = B at *
  generalize nameM T1 = A1 at *
  generalize nameM T2 = A2 at *
  cases B
  · go_enter Try.func65, Try.ntmps65
    go_wp2_with (go_at_call 73; refine hc.mono ?_; clear hc; rintro e w' ⟨rfl, n, rfl⟩)
    go_ret
    exact ⟨ret_bool (by rw [HR.out]; rfl), n, rfl⟩
  · cases A1
    · go_enter Try.func65, Try.ntmps65
      go_wp2_with (first | (go_at_call 73; refine hc.mono ?_; clear hc; rintro e w' ⟨rfl, n, rfl⟩) | (go_at_call 49; refine (h1 _).mono ?_; clear h1; rintro e w' ⟨rfl, rfl⟩))
      go_ret
      exact ⟨ret_bool (by rw [HR.out]; rfl), n, rfl⟩
    · go_enter Try.func65, Try.ntmps65
      go_wp2_with (first | (go_at_call 73; refine hc.mono ?_; clear hc; rintro e w' ⟨rfl, n, rfl⟩) | (go_at_call 49; refine (h1 _).mono ?_; clear h1; rintro e w' ⟨rfl, rfl⟩) | (go_at_call 49; refine (h2 _).mono ?_; clear h2; rintro e w' ⟨rfl, rfl⟩))
      go_ret
      exact ⟨ret_bool (by rw [HR.out]; simp), n, rfl⟩

set_option maxHeartbeats 4000000 in
theorem isBinary_any (s : ByteArray) (w : World) : Calls Try.prog 66 #[.string s] w fun e w' => e = .returned (.bool (binM s)) ∧ w = w' := by
  unfold binM
  have HR : Hid ((binLs.any fun x => s.toList == x) = (s.toList == [124, 124] || (s.toList == [38, 38] || (s.toList == [61, 61] || (s.toList == [33, 61] || (s.toList == [60] || (s.toList == [60, 61] || (s.toList == [62] || (s.toList == [62, 61] || (s.toList == [43] || (s.toList == [45] || (s.toList == [42] || (s.toList == [47] || (s.toList == [37])))))))))))))) := by
    unfold Hid; simp only [binLs, List.any_cons, List.any_nil, Bool.or_false]
  generalize (binLs.any fun x => s.toList == x) = R at *
  go_enter Try.func66, Try.ntmps66
  go_wp2
  all_goals (first | (exfalso; simp_all; done) | (go_ret; refine ⟨ret_bool ?_, rfl⟩; rw [HR.out]; simp_all))

def nameKs : List Int := [2, 3, 4, 6, 7, 11, 12, 23, 30, 47, 48, 50, 51, 71]
def optKs : List Int := [24, 54, 55, 56, 57]
def mayTextM (k : Int) (s : ByteArray) : Bool :=
  if nameKs.contains k then nameM s else if k = 9 then regionM s else if optKs.contains k then (s.toList.isEmpty || regionM s) else if k = 52 ∨ k = 74 then caseM s
  else if k = 43 then (s.toList == [45] || s.toList == [33]) else if k = 44 then binM s else s.toList.isEmpty
def bitKs : List Int := [2, 3, 7, 24, 41, 45, 73]
def natKs : List Int := [30, 6, 40, 71]
def mayNumM (k n : Int) : Bool := if bitKs.contains k then (n == 0 || n == 1) else if natKs.contains k then decide (0 ≤ n) else if k = 72 then decide (-9223372036854775808 < n) else n == 0

set_option maxRecDepth 20000 in
set_option maxHeartbeats 8000000 in
theorem mayText_any (k : Int) (s : ByteArray) (w : World) (hs : s.size < 4294967281) (hm : MaxOk w) : Calls Try.prog 51 #[.int .i64 k, .string s] w fun e w' => e = .returned (.bool (mayTextM k s)) ∧ ∃ n, w' = w.drewN n := by
  have hml : s.size ≤ maxLen := by unfold maxLen; omega
  have hn := fun w => isName_any s w hml
  have hr := fun w => isRegion_any s w hml
  have hc := isCase_any s w hs hm
  have hb := fun w => isBinary_any s w
  clear hs hm hml
  by_cases k2 : k = 2
  · subst k2
    have e : mayTextM 2 s = nameM s := rfl
    rw [e]
    go_enter Try.func51, Try.ntmps51
    go_wp2_with (go_at_call 49; refine (hn _).mono ?_; rintro e w' ⟨rfl, rfl⟩)
    go_ret
    exact ⟨rfl, 0, rfl⟩
  by_cases k3 : k = 3
  · subst k3
    have e : mayTextM 3 s = nameM s := rfl
    rw [e]
    go_enter Try.func51, Try.ntmps51
    go_wp2_with (go_at_call 49; refine (hn _).mono ?_; rintro e w' ⟨rfl, rfl⟩)
    go_ret
    exact ⟨rfl, 0, rfl⟩
  by_cases k4 : k = 4
  · subst k4
    have e : mayTextM 4 s = nameM s := rfl
    rw [e]
    go_enter Try.func51, Try.ntmps51
    go_wp2_with (go_at_call 49; refine (hn _).mono ?_; rintro e w' ⟨rfl, rfl⟩)
    go_ret
    exact ⟨rfl, 0, rfl⟩
  by_cases k6 : k = 6
  · subst k6
    have e : mayTextM 6 s = nameM s := rfl
    rw [e]
    go_enter Try.func51, Try.ntmps51
    go_wp2_with (go_at_call 49; refine (hn _).mono ?_; rintro e w' ⟨rfl, rfl⟩)
    go_ret
    exact ⟨rfl, 0, rfl⟩
  by_cases k7 : k = 7
  · subst k7
    have e : mayTextM 7 s = nameM s := rfl
    rw [e]
    go_enter Try.func51, Try.ntmps51
    go_wp2_with (go_at_call 49; refine (hn _).mono ?_; rintro e w' ⟨rfl, rfl⟩)
    go_ret
    exact ⟨rfl, 0, rfl⟩
  by_cases k11 : k = 11
  · subst k11
    have e : mayTextM 11 s = nameM s := rfl
    rw [e]
    go_enter Try.func51, Try.ntmps51
    go_wp2_with (go_at_call 49; refine (hn _).mono ?_; rintro e w' ⟨rfl, rfl⟩)
    go_ret
    exact ⟨rfl, 0, rfl⟩
  by_cases k12 : k = 12
  · subst k12
    have e : mayTextM 12 s = nameM s := rfl
    rw [e]
    go_enter Try.func51, Try.ntmps51
    go_wp2_with (go_at_call 49; refine (hn _).mono ?_; rintro e w' ⟨rfl, rfl⟩)
    go_ret
    exact ⟨rfl, 0, rfl⟩
  by_cases k23 : k = 23
  · subst k23
    have e : mayTextM 23 s = nameM s := rfl
    rw [e]
    go_enter Try.func51, Try.ntmps51
    go_wp2_with (go_at_call 49; refine (hn _).mono ?_; rintro e w' ⟨rfl, rfl⟩)
    go_ret
    exact ⟨rfl, 0, rfl⟩
  by_cases k30 : k = 30
  · subst k30
    have e : mayTextM 30 s = nameM s := rfl
    rw [e]
    go_enter Try.func51, Try.ntmps51
    go_wp2_with (go_at_call 49; refine (hn _).mono ?_; rintro e w' ⟨rfl, rfl⟩)
    go_ret
    exact ⟨rfl, 0, rfl⟩
  by_cases k47 : k = 47
  · subst k47
    have e : mayTextM 47 s = nameM s := rfl
    rw [e]
    go_enter Try.func51, Try.ntmps51
    go_wp2_with (go_at_call 49; refine (hn _).mono ?_; rintro e w' ⟨rfl, rfl⟩)
    go_ret
    exact ⟨rfl, 0, rfl⟩
  by_cases k48 : k = 48
  · subst k48
    have e : mayTextM 48 s = nameM s := rfl
    rw [e]
    go_enter Try.func51, Try.ntmps51
    go_wp2_with (go_at_call 49; refine (hn _).mono ?_; rintro e w' ⟨rfl, rfl⟩)
    go_ret
    exact ⟨rfl, 0, rfl⟩
  by_cases k50 : k = 50
  · subst k50
    have e : mayTextM 50 s = nameM s := rfl
    rw [e]
    go_enter Try.func51, Try.ntmps51
    go_wp2_with (go_at_call 49; refine (hn _).mono ?_; rintro e w' ⟨rfl, rfl⟩)
    go_ret
    exact ⟨rfl, 0, rfl⟩
  by_cases k51 : k = 51
  · subst k51
    have e : mayTextM 51 s = nameM s := rfl
    rw [e]
    go_enter Try.func51, Try.ntmps51
    go_wp2_with (go_at_call 49; refine (hn _).mono ?_; rintro e w' ⟨rfl, rfl⟩)
    go_ret
    exact ⟨rfl, 0, rfl⟩
  by_cases k71 : k = 71
  · subst k71
    have e : mayTextM 71 s = nameM s := rfl
    rw [e]
    go_enter Try.func51, Try.ntmps51
    go_wp2_with (go_at_call 49; refine (hn _).mono ?_; rintro e w' ⟨rfl, rfl⟩)
    go_ret
    exact ⟨rfl, 0, rfl⟩
  by_cases k9 : k = 9
  · subst k9
    have e : mayTextM 9 s = regionM s := rfl
    rw [e]
    go_enter Try.func51, Try.ntmps51
    go_wp2_with (go_at_call 50; refine (hr _).mono ?_; rintro e w' ⟨rfl, rfl⟩)
    go_ret
    exact ⟨rfl, 0, rfl⟩
  by_cases k24 : k = 24
  · subst k24
    have e : mayTextM 24 s = (s.toList.isEmpty || regionM s) := rfl
    rw [e]
    by_cases he : s.toList = []
    · go_enter Try.func51, Try.ntmps51
      go_wp2
      go_ret
      exact ⟨ret_bool (by simp [he]), 0, rfl⟩
    · go_enter Try.func51, Try.ntmps51
      go_wp2_with (go_at_call 50; refine (hr _).mono ?_; rintro e w' ⟨rfl, rfl⟩)
      go_ret
      exact ⟨ret_bool (by simp), 0, rfl⟩
  by_cases k54 : k = 54
  · subst k54
    have e : mayTextM 54 s = (s.toList.isEmpty || regionM s) := rfl
    rw [e]
    by_cases he : s.toList = []
    · go_enter Try.func51, Try.ntmps51
      go_wp2
      go_ret
      exact ⟨ret_bool (by simp [he]), 0, rfl⟩
    · go_enter Try.func51, Try.ntmps51
      go_wp2_with (go_at_call 50; refine (hr _).mono ?_; rintro e w' ⟨rfl, rfl⟩)
      go_ret
      exact ⟨ret_bool (by simp), 0, rfl⟩
  by_cases k55 : k = 55
  · subst k55
    have e : mayTextM 55 s = (s.toList.isEmpty || regionM s) := rfl
    rw [e]
    by_cases he : s.toList = []
    · go_enter Try.func51, Try.ntmps51
      go_wp2
      go_ret
      exact ⟨ret_bool (by simp [he]), 0, rfl⟩
    · go_enter Try.func51, Try.ntmps51
      go_wp2_with (go_at_call 50; refine (hr _).mono ?_; rintro e w' ⟨rfl, rfl⟩)
      go_ret
      exact ⟨ret_bool (by simp), 0, rfl⟩
  by_cases k56 : k = 56
  · subst k56
    have e : mayTextM 56 s = (s.toList.isEmpty || regionM s) := rfl
    rw [e]
    by_cases he : s.toList = []
    · go_enter Try.func51, Try.ntmps51
      go_wp2
      go_ret
      exact ⟨ret_bool (by simp [he]), 0, rfl⟩
    · go_enter Try.func51, Try.ntmps51
      go_wp2_with (go_at_call 50; refine (hr _).mono ?_; rintro e w' ⟨rfl, rfl⟩)
      go_ret
      exact ⟨ret_bool (by simp), 0, rfl⟩
  by_cases k57 : k = 57
  · subst k57
    have e : mayTextM 57 s = (s.toList.isEmpty || regionM s) := rfl
    rw [e]
    by_cases he : s.toList = []
    · go_enter Try.func51, Try.ntmps51
      go_wp2
      go_ret
      exact ⟨ret_bool (by simp [he]), 0, rfl⟩
    · go_enter Try.func51, Try.ntmps51
      go_wp2_with (go_at_call 50; refine (hr _).mono ?_; rintro e w' ⟨rfl, rfl⟩)
      go_ret
      exact ⟨ret_bool (by simp), 0, rfl⟩
  by_cases k52 : k = 52
  · subst k52
    have e : mayTextM 52 s = caseM s := rfl
    rw [e]
    go_enter Try.func51, Try.ntmps51
    go_wp2_with (go_at_call 65; refine hc.mono ?_; rintro e w' ⟨rfl, n, rfl⟩)
    go_ret
    exact ⟨rfl, n, rfl⟩
  by_cases k74 : k = 74
  · subst k74
    have e : mayTextM 74 s = caseM s := rfl
    rw [e]
    go_enter Try.func51, Try.ntmps51
    go_wp2_with (go_at_call 65; refine hc.mono ?_; rintro e w' ⟨rfl, n, rfl⟩)
    go_ret
    exact ⟨rfl, n, rfl⟩
  by_cases k43 : k = 43
  · subst k43
    have e : mayTextM 43 s = (s.toList == [45] || s.toList == [33]) := rfl
    rw [e]
    by_cases he : s.toList = [45]
    · go_enter Try.func51, Try.ntmps51
      go_wp2
      go_ret
      exact ⟨ret_bool (by simp [he]), 0, rfl⟩
    · go_enter Try.func51, Try.ntmps51
      go_wp2
      go_ret
      exact ⟨ret_bool (by simp), 0, rfl⟩
  by_cases k44 : k = 44
  · subst k44
    have e : mayTextM 44 s = binM s := rfl
    rw [e]
    go_enter Try.func51, Try.ntmps51
    go_wp2_with (go_at_call 66; refine (hb _).mono ?_; rintro e w' ⟨rfl, rfl⟩)
    go_ret
    exact ⟨rfl, 0, rfl⟩
  have e : mayTextM k s = s.toList.isEmpty := by simp [mayTextM, nameKs, optKs, k2, k3, k4, k6, k7, k11, k12, k23, k30, k47, k48, k50, k51, k71, k9, k24, k54, k55, k56, k57, k52, k74, k43, k44]
  rw [e]
  clear e hn hr hc hb
  go_enter Try.func51, Try.ntmps51
  go_wp2
  go_ret
  exact ⟨ret_bool (by simp), 0, rfl⟩

set_option maxRecDepth 20000 in
set_option maxHeartbeats 8000000 in
theorem mayNum_any (k n : Int) (w : World) : Calls Try.prog 52 #[.int .i64 k, .int .i64 n] w fun e w' => e = .returned (.bool (mayNumM k n)) ∧ w = w' := by
  by_cases k2 : k = 2
  · subst k2
    have e : mayNumM 2 n = (n == 0 || n == 1) := rfl
    rw [e]
    by_cases he : n = 0
    · go_enter Try.func52, Try.ntmps52
      go_wp2
      go_ret
      exact ⟨ret_bool (by simp [he]), rfl⟩
    · go_enter Try.func52, Try.ntmps52
      go_wp2
      go_ret
      exact ⟨ret_bool (by simp), rfl⟩
  by_cases k3 : k = 3
  · subst k3
    have e : mayNumM 3 n = (n == 0 || n == 1) := rfl
    rw [e]
    by_cases he : n = 0
    · go_enter Try.func52, Try.ntmps52
      go_wp2
      go_ret
      exact ⟨ret_bool (by simp [he]), rfl⟩
    · go_enter Try.func52, Try.ntmps52
      go_wp2
      go_ret
      exact ⟨ret_bool (by simp), rfl⟩
  by_cases k7 : k = 7
  · subst k7
    have e : mayNumM 7 n = (n == 0 || n == 1) := rfl
    rw [e]
    by_cases he : n = 0
    · go_enter Try.func52, Try.ntmps52
      go_wp2
      go_ret
      exact ⟨ret_bool (by simp [he]), rfl⟩
    · go_enter Try.func52, Try.ntmps52
      go_wp2
      go_ret
      exact ⟨ret_bool (by simp), rfl⟩
  by_cases k24 : k = 24
  · subst k24
    have e : mayNumM 24 n = (n == 0 || n == 1) := rfl
    rw [e]
    by_cases he : n = 0
    · go_enter Try.func52, Try.ntmps52
      go_wp2
      go_ret
      exact ⟨ret_bool (by simp [he]), rfl⟩
    · go_enter Try.func52, Try.ntmps52
      go_wp2
      go_ret
      exact ⟨ret_bool (by simp), rfl⟩
  by_cases k41 : k = 41
  · subst k41
    have e : mayNumM 41 n = (n == 0 || n == 1) := rfl
    rw [e]
    by_cases he : n = 0
    · go_enter Try.func52, Try.ntmps52
      go_wp2
      go_ret
      exact ⟨ret_bool (by simp [he]), rfl⟩
    · go_enter Try.func52, Try.ntmps52
      go_wp2
      go_ret
      exact ⟨ret_bool (by simp), rfl⟩
  by_cases k45 : k = 45
  · subst k45
    have e : mayNumM 45 n = (n == 0 || n == 1) := rfl
    rw [e]
    by_cases he : n = 0
    · go_enter Try.func52, Try.ntmps52
      go_wp2
      go_ret
      exact ⟨ret_bool (by simp [he]), rfl⟩
    · go_enter Try.func52, Try.ntmps52
      go_wp2
      go_ret
      exact ⟨ret_bool (by simp), rfl⟩
  by_cases k73 : k = 73
  · subst k73
    have e : mayNumM 73 n = (n == 0 || n == 1) := rfl
    rw [e]
    by_cases he : n = 0
    · go_enter Try.func52, Try.ntmps52
      go_wp2
      go_ret
      exact ⟨ret_bool (by simp [he]), rfl⟩
    · go_enter Try.func52, Try.ntmps52
      go_wp2
      go_ret
      exact ⟨ret_bool (by simp), rfl⟩
  by_cases k30 : k = 30
  · subst k30
    have e : mayNumM 30 n = decide (0 ≤ n) := rfl
    rw [e]
    go_enter Try.func52, Try.ntmps52
    go_wp2
    go_ret
    exact ⟨ret_bool (by simp), rfl⟩
  by_cases k6 : k = 6
  · subst k6
    have e : mayNumM 6 n = decide (0 ≤ n) := rfl
    rw [e]
    go_enter Try.func52, Try.ntmps52
    go_wp2
    go_ret
    exact ⟨ret_bool (by simp), rfl⟩
  by_cases k40 : k = 40
  · subst k40
    have e : mayNumM 40 n = decide (0 ≤ n) := rfl
    rw [e]
    go_enter Try.func52, Try.ntmps52
    go_wp2
    go_ret
    exact ⟨ret_bool (by simp), rfl⟩
  by_cases k71 : k = 71
  · subst k71
    have e : mayNumM 71 n = decide (0 ≤ n) := rfl
    rw [e]
    go_enter Try.func52, Try.ntmps52
    go_wp2
    go_ret
    exact ⟨ret_bool (by simp), rfl⟩
  by_cases k72 : k = 72
  · subst k72
    have e : mayNumM 72 n = decide (-9223372036854775808 < n) := rfl
    rw [e]
    go_enter Try.func52, Try.ntmps52
    go_wp2
    go_ret
    exact ⟨ret_bool (by simp), rfl⟩
  have e : mayNumM k n = (n == 0) := by simp [mayNumM, bitKs, natKs, k2, k3, k7, k24, k41, k45, k73, k30, k6, k40, k71, k72]
  rw [e]
  clear e
  go_enter Try.func52, Try.ntmps52
  go_wp2
  go_ret
  exact ⟨ret_bool (by simp), rfl⟩
end Go.Proofs.Ytdccodnompalbaa
