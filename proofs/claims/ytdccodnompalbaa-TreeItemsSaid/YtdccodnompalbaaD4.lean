/- Texts and numbers of nodes by the document's own answer. No conditions beyond the bounds that each statement names. -/
import Derived.Test.YtdccodnompalbaaD3
import Derived.Test.YtdccodnompalbaaLs
import Derived.BigQuiet
namespace Go.Proofs.Ytdccodnompalbaa
open Go.RowKit Go.Shelf

def binB : List ByteArray := [⟨#[124, 124]⟩, ⟨#[38, 38]⟩, ⟨#[61, 61]⟩, ⟨#[33, 61]⟩, ⟨#[60]⟩, ⟨#[60, 61]⟩, ⟨#[62]⟩, ⟨#[62, 61]⟩, ⟨#[43]⟩, ⟨#[45]⟩, ⟨#[42]⟩, ⟨#[47]⟩, ⟨#[37]⟩]
theorem binB_lists : binB.map (·.data.toList) = binLs := by kernel_rfl
theorem hasB_bin (s : ByteArray) : hasB binB s = binM s := by
  have : ∀ (a : List ByteArray), hasB a s = (a.map (·.data.toList)).any fun x => s.toList == x := by
    intro a
    unfold hasB
    induction a with
    | nil => rfl
    | cons x r ih => rw [List.any_cons, List.map_cons, List.any_cons, ih, ByteArray.toList_eq x, Bool.beq_comm]
  rw [this, binB_lists]
  rfl

set_option maxRecDepth 20000 in
set_option maxHeartbeats 4000000 in
theorem refBin_v (t : ByteArray) (n a : Int) (p : Option Addr) (l c : Nat) (w : World) :
    Calls Try.prog 57 #[.agg #[.int .i64 44, .string t, .int .i64 n, .slice p l c, .int .i64 a]] w fun e w' => e = .returned (.bool (binM t)) ∧ Below w.heap.size w w' := by
  rw [← hasB_bin]
  have HR : Hid (hasB binB t = binB.any fun x => x.toList == t.toList) := rfl
  have HX := hide fun i x (h : binB[i]? = some x) => strs_new (w.alloc (Obj.cells #[.int .i64 44, .string t, .int .i64 n, .slice p l c, .int .i64 a] 24)) binB i x h
  have HB := hide (two_alloc w (Obj.cells #[.int .i64 44, .string t, .int .i64 n, .slice p l c, .int .i64 a] 24) (.cells (binB.map Value.string).toArray 9))
  have hq : ((w.alloc (Obj.cells #[.int .i64 44, .string t, .int .i64 n, .slice p l c, .int .i64 a] 24)).alloc (.cells (binB.map Value.string).toArray 9)).cell? ⟨w.heap.size, 1, none⟩ = some (.string t) := by simp
  generalize hasB binB t = R at *
  have hlen : binB.length = 13 := rfl
  have HQ := hide hq
  clear hq
  go_enter Try.func57, Try.ntmps57
  go_wp2
  generalize hW : (w.alloc _).alloc _ = W1
  have HX' : Hid (∀ i x, binB[i]? = some x → W1.cell? ⟨w.heap.size + 1, i, none⟩ = some (.string x)) := hide (by
    intro i x h; rw [← hW]; have := HX.out i x h; rw [World.size_alloc] at this; exact this)
  have HB' : Hid (Below w.heap.size w W1) := by rw [← hW]; exact HB
  have hq : W1.cell? ⟨w.heap.size, 1, none⟩ = some (.string t) := by rw [← hW]; exact HQ.out
  clear HX HB HQ hW
  go_loopw [4] (fun i wr => ∃ k m : Nat, k ≤ 13 ∧ i = .int .i64 k ∧ wr = W1.drewN m ∧ ∀ j (h : j < binB.length), j < k → (binB[j].toList == t.toList) = false) (fun i _ => 13 - (intOf i).toNat)
  case atStart => exact ⟨0, 0, Nat.zero_le _, rfl, rfl, fun j _ h => by omega⟩
  case round =>
    obtain ⟨k, m, hk, rfl, rfl, hp⟩ := hrel
    have HP := hide hp
    clear hp
    have HLen := hide hlen
    clear hlen
    rcases Nat.lt_or_ge k 13 with hlt | hge
    · have hkl : k < binB.length := by rw [HLen.out]; exact hlt
      have h1 := HX'.out k _ (List.getElem?_eq_getElem hkl)
      have hi' : (k : Int) < 13 := by omega
      obtain ⟨x, hxx⟩ : ∃ x, x = binB[k] := ⟨_, rfl⟩
      rw [← hxx] at h1
      have HXX := hide hxx
      clear hxx
      cases ht : (x.toList == t.toList)
      · have HT := hide ht
        go_wp2
        go_quiet (fail)
        go_wp2
        go_roundw
        case rel => exact ⟨k + 1, _, by omega, by go_num, rfl, fun j h hj => by
          by_cases e : j = k
          · subst e; rw [← HXX.out]; exact HT.out
          · exact HP.out j h (by omega)⟩
        case measure => simp [intOf]; omega
      · have HT := hide ht
        go_wp2
        go_quiet (fail)
        go_wp2
        go_ret
        refine ⟨ret_bool ?_, bl_drewN (bl_drewN HB'.out _) _⟩
        rw [HR.out, eq_comm, List.any_eq_true]
        exact ⟨x, by rw [HXX.out]; exact List.getElem_mem hkl, HT.out⟩
    · obtain rfl : k = 13 := by omega
      go_wp2
      go_ret
      refine ⟨ret_bool ?_, bl_drewN HB'.out _⟩
      rw [HR.out, eq_comm, List.any_eq_false]
      intro x hx
      obtain ⟨j, hj, rfl⟩ := List.mem_iff_getElem.1 hx
      rw [HP.out j hj (by rw [HLen.out] at hj; exact hj)]; decide


set_option maxRecDepth 20000 in
set_option maxHeartbeats 8000000 in
theorem refText_v (k : Int) (t : ByteArray) (n a : Int) (p : Option Addr) (l c : Nat) (w : World) (hs : t.size < 4294967281) :
    Calls Try.prog 57 #[.agg #[.int .i64 k, .string t, .int .i64 n, .slice p l c, .int .i64 a]] w fun e w' => e = .returned (.bool (mayTextM k t)) ∧ Below w.heap.size w w' := by
  have hml : t.size ≤ maxLen := by unfold maxLen; omega
  have hn := fun w => refName_any t w hml
  have hr := fun w => refRegion_any t w hml
  have hc := fun w => refCase_any t w hs
  have hB : ∀ o, Below w.heap.size w (w.alloc o) := fun o => bl_alloc (Below.refl _ _) o
  have HBB := hide hB
  clear hs hml hB
  by_cases k2 : k = 2
  · subst k2
    rw [show mayTextM 2 t = nameM t from rfl]
    go_enter Try.func57, Try.ntmps57
    go_wp2_with (go_at_call 55; refine (hn _).mono ?_; rintro e w' ⟨rfl, hb⟩; have HB := hide hb; clear hb)
    go_ret
    exact ⟨rfl, bl_trans (HBB.out _) HB.out⟩
  by_cases k3 : k = 3
  · subst k3
    rw [show mayTextM 3 t = nameM t from rfl]
    go_enter Try.func57, Try.ntmps57
    go_wp2_with (go_at_call 55; refine (hn _).mono ?_; rintro e w' ⟨rfl, hb⟩; have HB := hide hb; clear hb)
    go_ret
    exact ⟨rfl, bl_trans (HBB.out _) HB.out⟩
  by_cases k4 : k = 4
  · subst k4
    rw [show mayTextM 4 t = nameM t from rfl]
    go_enter Try.func57, Try.ntmps57
    go_wp2_with (go_at_call 55; refine (hn _).mono ?_; rintro e w' ⟨rfl, hb⟩; have HB := hide hb; clear hb)
    go_ret
    exact ⟨rfl, bl_trans (HBB.out _) HB.out⟩
  by_cases k6 : k = 6
  · subst k6
    rw [show mayTextM 6 t = nameM t from rfl]
    go_enter Try.func57, Try.ntmps57
    go_wp2_with (go_at_call 55; refine (hn _).mono ?_; rintro e w' ⟨rfl, hb⟩; have HB := hide hb; clear hb)
    go_ret
    exact ⟨rfl, bl_trans (HBB.out _) HB.out⟩
  by_cases k7 : k = 7
  · subst k7
    rw [show mayTextM 7 t = nameM t from rfl]
    go_enter Try.func57, Try.ntmps57
    go_wp2_with (go_at_call 55; refine (hn _).mono ?_; rintro e w' ⟨rfl, hb⟩; have HB := hide hb; clear hb)
    go_ret
    exact ⟨rfl, bl_trans (HBB.out _) HB.out⟩
  by_cases k11 : k = 11
  · subst k11
    rw [show mayTextM 11 t = nameM t from rfl]
    go_enter Try.func57, Try.ntmps57
    go_wp2_with (go_at_call 55; refine (hn _).mono ?_; rintro e w' ⟨rfl, hb⟩; have HB := hide hb; clear hb)
    go_ret
    exact ⟨rfl, bl_trans (HBB.out _) HB.out⟩
  by_cases k12 : k = 12
  · subst k12
    rw [show mayTextM 12 t = nameM t from rfl]
    go_enter Try.func57, Try.ntmps57
    go_wp2_with (go_at_call 55; refine (hn _).mono ?_; rintro e w' ⟨rfl, hb⟩; have HB := hide hb; clear hb)
    go_ret
    exact ⟨rfl, bl_trans (HBB.out _) HB.out⟩
  by_cases k23 : k = 23
  · subst k23
    rw [show mayTextM 23 t = nameM t from rfl]
    go_enter Try.func57, Try.ntmps57
    go_wp2_with (go_at_call 55; refine (hn _).mono ?_; rintro e w' ⟨rfl, hb⟩; have HB := hide hb; clear hb)
    go_ret
    exact ⟨rfl, bl_trans (HBB.out _) HB.out⟩
  by_cases k30 : k = 30
  · subst k30
    rw [show mayTextM 30 t = nameM t from rfl]
    go_enter Try.func57, Try.ntmps57
    go_wp2_with (go_at_call 55; refine (hn _).mono ?_; rintro e w' ⟨rfl, hb⟩; have HB := hide hb; clear hb)
    go_ret
    exact ⟨rfl, bl_trans (HBB.out _) HB.out⟩
  by_cases k47 : k = 47
  · subst k47
    rw [show mayTextM 47 t = nameM t from rfl]
    go_enter Try.func57, Try.ntmps57
    go_wp2_with (go_at_call 55; refine (hn _).mono ?_; rintro e w' ⟨rfl, hb⟩; have HB := hide hb; clear hb)
    go_ret
    exact ⟨rfl, bl_trans (HBB.out _) HB.out⟩
  by_cases k48 : k = 48
  · subst k48
    rw [show mayTextM 48 t = nameM t from rfl]
    go_enter Try.func57, Try.ntmps57
    go_wp2_with (go_at_call 55; refine (hn _).mono ?_; rintro e w' ⟨rfl, hb⟩; have HB := hide hb; clear hb)
    go_ret
    exact ⟨rfl, bl_trans (HBB.out _) HB.out⟩
  by_cases k50 : k = 50
  · subst k50
    rw [show mayTextM 50 t = nameM t from rfl]
    go_enter Try.func57, Try.ntmps57
    go_wp2_with (go_at_call 55; refine (hn _).mono ?_; rintro e w' ⟨rfl, hb⟩; have HB := hide hb; clear hb)
    go_ret
    exact ⟨rfl, bl_trans (HBB.out _) HB.out⟩
  by_cases k51 : k = 51
  · subst k51
    rw [show mayTextM 51 t = nameM t from rfl]
    go_enter Try.func57, Try.ntmps57
    go_wp2_with (go_at_call 55; refine (hn _).mono ?_; rintro e w' ⟨rfl, hb⟩; have HB := hide hb; clear hb)
    go_ret
    exact ⟨rfl, bl_trans (HBB.out _) HB.out⟩
  by_cases k71 : k = 71
  · subst k71
    rw [show mayTextM 71 t = nameM t from rfl]
    go_enter Try.func57, Try.ntmps57
    go_wp2_with (go_at_call 55; refine (hn _).mono ?_; rintro e w' ⟨rfl, hb⟩; have HB := hide hb; clear hb)
    go_ret
    exact ⟨rfl, bl_trans (HBB.out _) HB.out⟩
  by_cases k9 : k = 9
  · subst k9
    rw [show mayTextM 9 t = regionM t from rfl]
    go_enter Try.func57, Try.ntmps57
    go_wp2_with (go_at_call 56; refine (hr _).mono ?_; rintro e w' ⟨rfl, rfl⟩)
    go_ret
    exact ⟨rfl, HBB.out _⟩
  by_cases k24 : k = 24
  · subst k24
    rw [show mayTextM 24 t = (t.toList.isEmpty || regionM t) from rfl]
    by_cases he : t.toList = []
    · go_enter Try.func57, Try.ntmps57
      go_wp2
      go_ret
      exact ⟨ret_bool (by simp [he]), HBB.out _⟩
    · go_enter Try.func57, Try.ntmps57
      go_wp2_with (go_at_call 56; refine (hr _).mono ?_; rintro e w' ⟨rfl, rfl⟩)
      go_ret
      exact ⟨ret_bool (by simp), HBB.out _⟩
  by_cases k54 : k = 54
  · subst k54
    rw [show mayTextM 54 t = (t.toList.isEmpty || regionM t) from rfl]
    by_cases he : t.toList = []
    · go_enter Try.func57, Try.ntmps57
      go_wp2
      go_ret
      exact ⟨ret_bool (by simp [he]), HBB.out _⟩
    · go_enter Try.func57, Try.ntmps57
      go_wp2_with (go_at_call 56; refine (hr _).mono ?_; rintro e w' ⟨rfl, rfl⟩)
      go_ret
      exact ⟨ret_bool (by simp), HBB.out _⟩
  by_cases k55 : k = 55
  · subst k55
    rw [show mayTextM 55 t = (t.toList.isEmpty || regionM t) from rfl]
    by_cases he : t.toList = []
    · go_enter Try.func57, Try.ntmps57
      go_wp2
      go_ret
      exact ⟨ret_bool (by simp [he]), HBB.out _⟩
    · go_enter Try.func57, Try.ntmps57
      go_wp2_with (go_at_call 56; refine (hr _).mono ?_; rintro e w' ⟨rfl, rfl⟩)
      go_ret
      exact ⟨ret_bool (by simp), HBB.out _⟩
  by_cases k56 : k = 56
  · subst k56
    rw [show mayTextM 56 t = (t.toList.isEmpty || regionM t) from rfl]
    by_cases he : t.toList = []
    · go_enter Try.func57, Try.ntmps57
      go_wp2
      go_ret
      exact ⟨ret_bool (by simp [he]), HBB.out _⟩
    · go_enter Try.func57, Try.ntmps57
      go_wp2_with (go_at_call 56; refine (hr _).mono ?_; rintro e w' ⟨rfl, rfl⟩)
      go_ret
      exact ⟨ret_bool (by simp), HBB.out _⟩
  by_cases k57 : k = 57
  · subst k57
    rw [show mayTextM 57 t = (t.toList.isEmpty || regionM t) from rfl]
    by_cases he : t.toList = []
    · go_enter Try.func57, Try.ntmps57
      go_wp2
      go_ret
      exact ⟨ret_bool (by simp [he]), HBB.out _⟩
    · go_enter Try.func57, Try.ntmps57
      go_wp2_with (go_at_call 56; refine (hr _).mono ?_; rintro e w' ⟨rfl, rfl⟩)
      go_ret
      exact ⟨ret_bool (by simp), HBB.out _⟩
  by_cases k52 : k = 52
  · subst k52
    rw [show mayTextM 52 t = caseM t from rfl]
    go_enter Try.func57, Try.ntmps57
    go_wp2_with (go_at_call 70; refine (hc _).mono ?_; rintro e w' ⟨rfl, hb⟩; have HB := hide hb; clear hb)
    go_ret
    exact ⟨rfl, bl_trans (HBB.out _) HB.out⟩
  by_cases k74 : k = 74
  · subst k74
    rw [show mayTextM 74 t = caseM t from rfl]
    go_enter Try.func57, Try.ntmps57
    go_wp2_with (go_at_call 70; refine (hc _).mono ?_; rintro e w' ⟨rfl, hb⟩; have HB := hide hb; clear hb)
    go_ret
    exact ⟨rfl, bl_trans (HBB.out _) HB.out⟩
  by_cases k43 : k = 43
  · subst k43
    rw [show mayTextM 43 t = (t.toList == [45] || t.toList == [33]) from rfl]
    by_cases he : t.toList = [45]
    · go_enter Try.func57, Try.ntmps57
      go_wp2
      go_ret
      exact ⟨ret_bool (by simp [he]), HBB.out _⟩
    · go_enter Try.func57, Try.ntmps57
      go_wp2
      go_ret
      exact ⟨ret_bool (by simp), HBB.out _⟩
  by_cases k44 : k = 44
  · subst k44
    rw [show mayTextM 44 t = binM t from rfl]
    exact refBin_v t n a p l c w
  have e : mayTextM k t = t.toList.isEmpty := by simp [mayTextM, nameKs, optKs, k2, k3, k4, k6, k7, k11, k12, k23, k30, k47, k48, k50, k51, k71, k9, k24, k54, k55, k56, k57, k52, k74, k43, k44]
  rw [e]
  clear e hn hr hc
  go_enter Try.func57, Try.ntmps57
  go_wp2
  go_ret
  exact ⟨ret_bool (by simp), HBB.out _⟩

set_option maxRecDepth 20000 in
set_option maxHeartbeats 8000000 in
theorem refNum_v (k : Int) (t : ByteArray) (n a : Int) (p : Option Addr) (l c : Nat) (w : World) : Calls Try.prog 54 #[.agg #[.int .i64 k, .string t, .int .i64 n, .slice p l c, .int .i64 a]] w fun e w' => e = .returned (.bool (mayNumM k n)) ∧ Below w.heap.size w w' := by
  have hB : ∀ o, Below w.heap.size w (w.alloc o) := fun o => bl_alloc (Below.refl _ _) o
  have HBB := hide hB
  clear hB
  by_cases k2 : k = 2
  · subst k2
    rw [show mayNumM 2 n = (n == 0 || n == 1) from rfl]
    by_cases he : n = 0
    · go_enter Try.func54, Try.ntmps54
      go_wp2
      go_ret
      exact ⟨ret_bool (by simp [he]), HBB.out _⟩
    · go_enter Try.func54, Try.ntmps54
      go_wp2
      go_ret
      exact ⟨ret_bool (by simp), HBB.out _⟩
  by_cases k3 : k = 3
  · subst k3
    rw [show mayNumM 3 n = (n == 0 || n == 1) from rfl]
    by_cases he : n = 0
    · go_enter Try.func54, Try.ntmps54
      go_wp2
      go_ret
      exact ⟨ret_bool (by simp [he]), HBB.out _⟩
    · go_enter Try.func54, Try.ntmps54
      go_wp2
      go_ret
      exact ⟨ret_bool (by simp), HBB.out _⟩
  by_cases k7 : k = 7
  · subst k7
    rw [show mayNumM 7 n = (n == 0 || n == 1) from rfl]
    by_cases he : n = 0
    · go_enter Try.func54, Try.ntmps54
      go_wp2
      go_ret
      exact ⟨ret_bool (by simp [he]), HBB.out _⟩
    · go_enter Try.func54, Try.ntmps54
      go_wp2
      go_ret
      exact ⟨ret_bool (by simp), HBB.out _⟩
  by_cases k24 : k = 24
  · subst k24
    rw [show mayNumM 24 n = (n == 0 || n == 1) from rfl]
    by_cases he : n = 0
    · go_enter Try.func54, Try.ntmps54
      go_wp2
      go_ret
      exact ⟨ret_bool (by simp [he]), HBB.out _⟩
    · go_enter Try.func54, Try.ntmps54
      go_wp2
      go_ret
      exact ⟨ret_bool (by simp), HBB.out _⟩
  by_cases k41 : k = 41
  · subst k41
    rw [show mayNumM 41 n = (n == 0 || n == 1) from rfl]
    by_cases he : n = 0
    · go_enter Try.func54, Try.ntmps54
      go_wp2
      go_ret
      exact ⟨ret_bool (by simp [he]), HBB.out _⟩
    · go_enter Try.func54, Try.ntmps54
      go_wp2
      go_ret
      exact ⟨ret_bool (by simp), HBB.out _⟩
  by_cases k45 : k = 45
  · subst k45
    rw [show mayNumM 45 n = (n == 0 || n == 1) from rfl]
    by_cases he : n = 0
    · go_enter Try.func54, Try.ntmps54
      go_wp2
      go_ret
      exact ⟨ret_bool (by simp [he]), HBB.out _⟩
    · go_enter Try.func54, Try.ntmps54
      go_wp2
      go_ret
      exact ⟨ret_bool (by simp), HBB.out _⟩
  by_cases k73 : k = 73
  · subst k73
    rw [show mayNumM 73 n = (n == 0 || n == 1) from rfl]
    by_cases he : n = 0
    · go_enter Try.func54, Try.ntmps54
      go_wp2
      go_ret
      exact ⟨ret_bool (by simp [he]), HBB.out _⟩
    · go_enter Try.func54, Try.ntmps54
      go_wp2
      go_ret
      exact ⟨ret_bool (by simp), HBB.out _⟩
  by_cases k6 : k = 6
  · subst k6
    rw [show mayNumM 6 n = decide (0 ≤ n) from rfl]
    go_enter Try.func54, Try.ntmps54
    go_wp2
    go_ret
    exact ⟨ret_bool (by simp), HBB.out _⟩
  by_cases k30 : k = 30
  · subst k30
    rw [show mayNumM 30 n = decide (0 ≤ n) from rfl]
    go_enter Try.func54, Try.ntmps54
    go_wp2
    go_ret
    exact ⟨ret_bool (by simp), HBB.out _⟩
  by_cases k40 : k = 40
  · subst k40
    rw [show mayNumM 40 n = decide (0 ≤ n) from rfl]
    go_enter Try.func54, Try.ntmps54
    go_wp2
    go_ret
    exact ⟨ret_bool (by simp), HBB.out _⟩
  by_cases k71 : k = 71
  · subst k71
    rw [show mayNumM 71 n = decide (0 ≤ n) from rfl]
    go_enter Try.func54, Try.ntmps54
    go_wp2
    go_ret
    exact ⟨ret_bool (by simp), HBB.out _⟩
  by_cases k72 : k = 72
  · subst k72
    rw [show mayNumM 72 n = decide (-9223372036854775808 < n) from rfl]
    go_enter Try.func54, Try.ntmps54
    go_wp2
    go_ret
    exact ⟨ret_bool (by simp), HBB.out _⟩
  have e : mayNumM k n = (n == 0) := by simp [mayNumM, bitKs, natKs, k2, k3, k7, k24, k41, k45, k73, k6, k30, k40, k71, k72]
  rw [e]
  clear e
  go_enter Try.func54, Try.ntmps54
  go_wp2
  go_ret
  exact ⟨ret_bool (by simp), HBB.out _⟩
end Go.Proofs.Ytdccodnompalbaa
