/- Words, names, regions and cases by the document's own answer. No conditions beyond the bounds that each statement names. -/
import Derived.Test.YtdccodnompalbaaK6
namespace Go.Proofs.Ytdccodnompalbaa
open Go.RowKit Go.Shelf

theorem refLetter_any (n : Nat) (w : World) : Calls Try.prog 74 #[.int .u8 n] w fun e w' => e = .returned (.bool (ltr n)) ∧ w = w' := by
  go_enter Try.func74, Try.ntmps74
  go_wp2
  all_goals (go_ret; refine ⟨ret_bool ?_, rfl⟩; rw [Bool.eq_iff_iff]; simp [ltr]; try omega)

theorem pos_ne (n : Nat) : decide (0 < n) = (n != 0) := by rw [Bool.eq_iff_iff]; simp; omega

set_option maxHeartbeats 1000000 in
theorem refWord_any (s : ByteArray) (w : World) (hs : s.size ≤ maxLen) : Calls Try.prog 68 #[.string s] w fun e w' => e = .returned (.bool (wordM s)) ∧ w = w' := by
  have hs' : s.size ≤ 9223372036854775807 := hs
  have HR := hide (show wordM s = (s.size != 0 && allN (fun i => okByte (byteN s i) i) s.size) from rfl)
  generalize wordM s = R at *
  go_enter Try.func68, Try.ntmps68
  go_wp2
  go_loop [3] (fun i => ∃ k : Nat, k ≤ s.size ∧ i = .int .i64 k ∧ ∀ j, j < k → okByte (byteN s j) j = true) (fun i => s.size - (intOf i).toNat)
  case atStart => exact ⟨0, Nat.zero_le _, rfl, fun j h => by omega⟩
  case round =>
    obtain ⟨k, hk, rfl, hall⟩ := hrel
    have HALL := hide hall
    clear hall
    rcases Nat.lt_or_ge k s.size with hlt | hge
    · have hl := fun w => refLetter_any s[k].toNat w
      have hk1 : (k : Int) < (s.size : Int) := by omega
      have HN : Hid (okByte s[k].toNat k = false → false = R) := hide fun h => by
        rw [HR.out, allN_false hlt (by rw [byteN_of s hlt]; exact h)]; simp
      have HY : Hid (okByte s[k].toNat k = true → ∀ j, j < k + 1 → okByte (byteN s j) j = true) := hide fun h j hj => by
        by_cases e : j = k
        · subst e; rw [byteN_of s hlt]; exact h
        · exact HALL.out j (by omega)
      obtain ⟨n, hn⟩ : ∃ n, n = s[k].toNat := ⟨_, rfl⟩
      rw [← hn] at HN HY hl
      clear HALL
      have hn' : s[k].toNat = n := hn.symm
      clear hn
      cases hl1 : ltr n
      · rw [hl1] at hl
        rcases k with _ | k
        · have HN' := hide (HN.out (by simp [okByte, hl1]))
          clear HN HY hl1
          go_wp2_with (go_at_call 74; refine (hl _).mono ?_; rintro e w' ⟨rfl, rfl⟩)
          go_ret
          exact ⟨ret_bool HN'.out, rfl⟩
        · have hk0 : ((k : Int) + 1 == 0) = false := by simp; omega
          rcases Nat.lt_or_ge n 48 with d1 | d1
          · have HN' := hide (HN.out (by simp [okByte, hl1, dgt]; omega))
            clear HN HY hl1
            go_wp2_with (go_at_call 74; refine (hl _).mono ?_; rintro e w' ⟨rfl, rfl⟩)
            go_ret
            exact ⟨ret_bool HN'.out, rfl⟩
          · rcases Nat.lt_or_ge 57 n with d2 | d2
            · have HN' := hide (HN.out (by simp [okByte, hl1, dgt]; omega))
              clear HN HY hl1
              go_wp2_with (go_at_call 74; refine (hl _).mono ?_; rintro e w' ⟨rfl, rfl⟩)
              go_ret
              exact ⟨ret_bool HN'.out, rfl⟩
            · have HY' := hide (HY.out (by simp [okByte, dgt, d1, d2]))
              clear HN HY hl1
              go_wp2_with (go_at_call 74; refine (hl _).mono ?_; rintro e w' ⟨rfl, rfl⟩)
              go_round
              case rel => exact ⟨k + 1 + 1, by omega, by go_num, HY'.out⟩
              case measure => simp [intOf]; omega
      · have HY' := hide (HY.out (by simp [okByte, hl1]))
        rw [hl1] at hl
        clear HN HY hl1
        go_wp2_with (go_at_call 74; refine (hl _).mono ?_; rintro e w' ⟨rfl, rfl⟩)
        go_round
        case rel => exact ⟨k + 1, by omega, by go_num, HY'.out⟩
        case measure => simp [intOf]; omega
    · have he : k = s.size := by omega
      subst he
      have HA : Hid (allN (fun i => okByte (byteN s i) i) s.size = true) := hide (by rw [allN_iff]; exact HALL.out)
      clear HALL
      go_wp2
      all_goals (go_ret; refine ⟨ret_bool ?_, rfl⟩; rw [HR.out, HA.out]; simp)
      all_goals exact pos_ne s.size

def keyB : List ByteArray := [⟨#[115, 116, 114, 117, 99, 116]⟩, ⟨#[99, 104, 111, 105, 99, 101]⟩, ⟨#[99, 111, 112, 121]⟩, ⟨#[102, 110]⟩, ⟨#[108, 101, 116]⟩, ⟨#[109, 117, 116]⟩, ⟨#[105, 102]⟩, ⟨#[101, 108, 115, 101]⟩, ⟨#[119, 104, 105, 108, 101]⟩, ⟨#[108, 111, 111, 112]⟩, ⟨#[98, 114, 101, 97, 107]⟩, ⟨#[99, 111, 110, 116, 105, 110, 117, 101]⟩, ⟨#[114, 101, 116, 117, 114, 110]⟩, ⟨#[109, 97, 116, 99, 104]⟩, ⟨#[116, 114, 117, 101]⟩, ⟨#[102, 97, 108, 115, 101]⟩, ⟨#[119, 104, 101, 114, 101]⟩, ⟨#[66, 111, 120]⟩, ⟨#[86, 101, 99]⟩, ⟨#[105, 110, 116]⟩, ⟨#[98, 111, 111, 108]⟩, ⟨#[117, 110, 105, 116]⟩]
theorem keyB_lists : keyB.map (·.data.toList) = keyLs := by kernel_rfl
def hasB (ls : List ByteArray) (s : ByteArray) : Bool := ls.any fun x => x.toList == s.toList
theorem hasB_key (s : ByteArray) : hasB keyB s = keyM s := by
  have : ∀ (a : List ByteArray), hasB a s = (a.map (·.data.toList)).any fun x => s.toList == x := by
    intro a
    unfold hasB
    induction a with
    | nil => rfl
    | cons x r ih => rw [List.any_cons, List.map_cons, List.any_cons, ih, ByteArray.toList_eq x, Bool.beq_comm]
  rw [this, keyB_lists]
  rfl
theorem strs_new (W : World) (l : List ByteArray) (i : Nat) (x : ByteArray) (h : l[i]? = some x) : (W.alloc (.cells (l.map Value.string).toArray 9)).cell? ⟨W.heap.size, i, none⟩ = some (.string x) := by
  rw [cell_of_row _ W.heap.size i (l.map Value.string).toArray 9 (0, 0) (World.alloc_heap_new W _), List.getElem?_toArray, List.getElem?_map, h]
  rfl

set_option maxHeartbeats 2000000 in
theorem refKeyword_any (s : ByteArray) (w : World) : Calls Try.prog 69 #[.string s] w fun e w' => e = .returned (.bool (keyM s)) ∧ Below w.heap.size w w' := by
  rw [← hasB_key]
  have HX := hide fun i x (h : keyB[i]? = some x) => strs_new w keyB i x h
  have HR : Hid (hasB keyB s = keyB.any fun x => x.toList == s.toList) := rfl
  have HB := hide (show Below w.heap.size w (w.alloc (.cells (keyB.map Value.string).toArray 9)) from bl_alloc (Below.refl _ _) _)
  generalize hasB keyB s = R at *
  have hlen : keyB.length = 22 := rfl
  go_enter Try.func69, Try.ntmps69
  go_wp2
  generalize hW : w.alloc _ = W1
  have HX' : Hid (∀ i x, keyB[i]? = some x → W1.cell? ⟨w.heap.size, i, none⟩ = some (.string x)) := by rw [← hW]; exact HX
  have HB' : Hid (Below w.heap.size w W1) := by rw [← hW]; exact HB
  clear HX HB hW
  go_loop [4] (fun i => ∃ k : Nat, k ≤ 22 ∧ i = .int .i64 k ∧ ∀ j (h : j < keyB.length), j < k → (keyB[j].toList == s.toList) = false) (fun i => 22 - (intOf i).toNat)
  case atStart => exact ⟨0, Nat.zero_le _, rfl, fun j _ h => by omega⟩
  case round =>
    obtain ⟨k, hk, rfl, hp⟩ := hrel
    have HP := hide hp
    clear hp
    have HLen := hide hlen
    clear hlen
    rcases Nat.lt_or_ge k 22 with hlt | hge
    · have hkl : k < keyB.length := by rw [HLen.out]; exact hlt
      have h1 := HX'.out k _ (List.getElem?_eq_getElem hkl)
      have hi' : (k : Int) < 22 := by omega
      obtain ⟨x, hxx⟩ : ∃ x, x = keyB[k] := ⟨_, rfl⟩
      rw [← hxx] at h1
      have HXX := hide hxx
      clear hxx
      cases ht : (x.toList == s.toList)
      · have HT := hide ht
        go_wp2
        go_round
        case rel => exact ⟨k + 1, by omega, by go_num, fun j h hj => by
          by_cases e : j = k
          · subst e; rw [← HXX.out]; exact HT.out
          · exact HP.out j h (by omega)⟩
        case measure => simp [intOf]; omega
      · have HT := hide ht
        go_wp2
        go_ret
        refine ⟨ret_bool ?_, HB'.out⟩
        rw [HR.out, eq_comm, List.any_eq_true]
        exact ⟨x, by rw [HXX.out]; exact List.getElem_mem hkl, HT.out⟩
    · obtain rfl : k = 22 := by omega
      go_wp2
      go_ret
      refine ⟨ret_bool ?_, HB'.out⟩
      rw [HR.out, eq_comm, List.any_eq_false]
      intro x hx
      obtain ⟨j, hj, rfl⟩ := List.mem_iff_getElem.1 hx
      rw [HP.out j hj (by rw [HLen.out] at hj; exact hj)]; decide

theorem refName_any (s : ByteArray) (w : World) (hs : s.size ≤ maxLen) : Calls Try.prog 55 #[.string s] w fun e w' => e = .returned (.bool (nameM s)) ∧ Below w.heap.size w w' := by
  have hw := fun w => refWord_any s w hs
  have hk := fun w => refKeyword_any s w
  have HR := hide (show nameM s = (wordM s && (s.toList != [95] && !keyM s)) from rfl)
  generalize nameM s = R at *
  generalize wordM s = A at *
  generalize keyM s = K at *
  cases A
  · go_enter Try.func55, Try.ntmps55
    go_wp2_with (go_at_call 68; refine (hw _).mono ?_; rintro e w' ⟨rfl, rfl⟩)
    go_ret
    exact ⟨ret_bool (by rw [HR.out]; rfl), Below.refl _ _⟩
  · cases K
    · by_cases h : s.toList = [95]
      · rw [show (s.toList != [95]) = false by simp [h]] at HR
        go_enter Try.func55, Try.ntmps55
        go_wp2_with (first | (go_at_call 68; refine (hw _).mono ?_; rintro e w' ⟨rfl, rfl⟩) | (go_at_call 69; refine (hk _).mono ?_; rintro e w' ⟨rfl, hb⟩; have HB := hide hb; clear hb))
        go_ret
        exact ⟨ret_bool (by rw [HR.out]; rfl), HB.out⟩
      · rw [show (s.toList != [95]) = true by simp [h]] at HR
        go_enter Try.func55, Try.ntmps55
        go_wp2_with (first | (go_at_call 68; refine (hw _).mono ?_; rintro e w' ⟨rfl, rfl⟩) | (go_at_call 69; refine (hk _).mono ?_; rintro e w' ⟨rfl, hb⟩; have HB := hide hb; clear hb))
        go_ret
        exact ⟨ret_bool (by rw [HR.out]; simp [h]), HB.out⟩
    · go_enter Try.func55, Try.ntmps55
      go_wp2_with (first | (go_at_call 68; refine (hw _).mono ?_; rintro e w' ⟨rfl, rfl⟩) | (go_at_call 69; refine (hk _).mono ?_; rintro e w' ⟨rfl, hb⟩; have HB := hide hb; clear hb))
      go_ret
      exact ⟨ret_bool (by rw [HR.out]; simp), HB.out⟩

/-- A region, told by its bytes. -/
theorem region_of (s : ByteArray) (h : 0 < s.size) (h0 : s[0].toNat = 39) : regionM s = wordM (s.extract 1 s.size) := by
  have e : s.data.toList = 39 :: s.data.toList.drop 1 := by
    have hl : s.data.toList.length = s.size := by simp
    have h1 : s.data.toList[0]'(by omega) = 39 := by
      have : s.data.toList[0]'(by omega) = s[0] := by simp; rfl
      rw [this]; exact UInt8.toNat_inj.1 h0
    rw [← h1, ← List.drop_eq_getElem_cons (by omega)]
    rfl
  have hp : Lib.hasPrefix s.data.toList [39] = true := by rw [e]; rfl
  have ht : bs (Lib.trimPrefix s.data.toList [39]) = s.extract 1 s.size := by
    unfold Lib.trimPrefix
    rw [if_pos hp]
    refine ByteArray.ext (Array.toList_inj.1 ?_)
    have hl : s.data.toList.length = s.size := by simp
    simp only [bs, List.length_cons, List.length_nil, ByteArray.data_extract, Array.toList_extract, List.extract_eq_take_drop]
    rw [List.take_of_length_le (by simp)]
  rw [regionM, hp, ht, Bool.true_and]
theorem region_not (s : ByteArray) (h : ¬ (0 < s.size ∧ ∀ h : 0 < s.size, s[0].toNat = 39)) : regionM s = false := by
  have hp : Lib.hasPrefix s.data.toList [39] = false := by
    rw [Bool.eq_false_iff]
    intro hp
    unfold Lib.hasPrefix at hp
    have hl : s.data.toList.length = s.size := by simp
    cases hd : s.data.toList with
    | nil => rw [hd] at hp; simp at hp
    | cons x r =>
      rw [hd] at hp
      simp [List.isPrefixOf] at hp
      have h0 : 0 < s.size := by rw [← hl, hd]; simp
      refine h ⟨h0, fun _ => ?_⟩
      have : s.data.toList[0]'(by omega) = s[0] := by simp; rfl
      rw [← this]
      simp only [hd, List.getElem_cons_zero]
      rw [← hp]; rfl
  rw [regionM, hp, Bool.false_and]
theorem wordM_one (s : ByteArray) (h : s.size = 0) : wordM s = false := by simp [wordM, h]

theorem refRegion_any (s : ByteArray) (w : World) (hs : s.size ≤ maxLen) : Calls Try.prog 56 #[.string s] w fun e w' => e = .returned (.bool (regionM s)) ∧ w = w' := by
  have hs' : s.size ≤ 9223372036854775807 := hs
  have hw := fun w => refWord_any (s.extract 1 s.size) w (by simp; omega)
  obtain ⟨R, hR⟩ : ∃ R, regionM s = R := ⟨_, rfl⟩
  rw [hR]
  rcases Nat.lt_or_ge 1 s.size with h1 | h1
  · have h1' : (1 : Int) < (s.size : Int) := by omega
    by_cases h0 : s[0].toNat = 39
    · have e : R = wordM (s.extract 1 s.size) := by rw [← hR, region_of s (by omega) h0]
      have hb : ((s[0].toNat : Int) == 39) = true := by simp [h0]
      clear h0 hR
      rw [← e] at hw
      clear e
      go_enter Try.func56, Try.ntmps56
      go_wp2_with (go_at_call 68; refine (hw _).mono ?_; rintro e w' ⟨rfl, rfl⟩)
      go_ret
      exact ⟨ret_bool (by simp), rfl⟩
    · have e : R = false := by rw [← hR, region_not s (fun h => h0 (h.2 h.1))]
      have hb : ((s[0].toNat : Int) == 39) = false := by simp; omega
      clear h0 hR
      subst e
      go_enter Try.func56, Try.ntmps56
      go_wp2
      go_ret
      exact ⟨rfl, rfl⟩
  · have e : R = false := by
      rw [← hR]
      by_cases h0 : 0 < s.size ∧ ∀ h : 0 < s.size, s[0].toNat = 39
      · rw [region_of s h0.1 (h0.2 h0.1), wordM_one _ (by simp; omega)]
      · exact region_not s h0
    subst e
    clear hR
    go_enter Try.func56, Try.ntmps56
    go_wp2
    go_ret
    exact ⟨rfl, rfl⟩
end Go.Proofs.Ytdccodnompalbaa
