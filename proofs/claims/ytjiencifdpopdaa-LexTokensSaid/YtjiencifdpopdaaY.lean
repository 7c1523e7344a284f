/- Keywords and signs: whether a text is in a list, by the program and by the document's own answer. No conditions beyond the bounds that each statement names. -/
import Derived.Test.YtjiencifdpopdaaN
namespace Go.Proofs.Ytjiencifdpopdaa
open Go.RowKit

def keyLs : List (List UInt8) := [[115, 116, 114, 117, 99, 116], [99, 104, 111, 105, 99, 101], [99, 111, 112, 121], [102, 110], [108, 101, 116], [109, 117, 116], [105, 102], [101, 108, 115, 101], [119, 104, 105, 108, 101], [108, 111, 111, 112], [98, 114, 101, 97, 107], [99, 111, 110, 116, 105, 110, 117, 101], [114, 101, 116, 117, 114, 110], [109, 97, 116, 99, 104], [116, 114, 117, 101], [102, 97, 108, 115, 101], [119, 104, 101, 114, 101], [66, 111, 120], [86, 101, 99], [105, 110, 116], [98, 111, 111, 108], [117, 110, 105, 116]]
def keyB : List ByteArray := [⟨#[115, 116, 114, 117, 99, 116]⟩, ⟨#[99, 104, 111, 105, 99, 101]⟩, ⟨#[99, 111, 112, 121]⟩, ⟨#[102, 110]⟩, ⟨#[108, 101, 116]⟩, ⟨#[109, 117, 116]⟩, ⟨#[105, 102]⟩, ⟨#[101, 108, 115, 101]⟩, ⟨#[119, 104, 105, 108, 101]⟩, ⟨#[108, 111, 111, 112]⟩, ⟨#[98, 114, 101, 97, 107]⟩, ⟨#[99, 111, 110, 116, 105, 110, 117, 101]⟩, ⟨#[114, 101, 116, 117, 114, 110]⟩, ⟨#[109, 97, 116, 99, 104]⟩, ⟨#[116, 114, 117, 101]⟩, ⟨#[102, 97, 108, 115, 101]⟩, ⟨#[119, 104, 101, 114, 101]⟩, ⟨#[66, 111, 120]⟩, ⟨#[86, 101, 99]⟩, ⟨#[105, 110, 116]⟩, ⟨#[98, 111, 111, 108]⟩, ⟨#[117, 110, 105, 116]⟩]
def signB : List ByteArray := [⟨#[40]⟩, ⟨#[41]⟩, ⟨#[123]⟩, ⟨#[125]⟩, ⟨#[91]⟩, ⟨#[93]⟩, ⟨#[44]⟩, ⟨#[59]⟩, ⟨#[58]⟩, ⟨#[58, 58]⟩, ⟨#[46]⟩, ⟨#[45, 62]⟩, ⟨#[61, 62]⟩, ⟨#[61]⟩, ⟨#[61, 61]⟩, ⟨#[33, 61]⟩, ⟨#[60]⟩, ⟨#[60, 61]⟩, ⟨#[62]⟩, ⟨#[62, 61]⟩, ⟨#[43]⟩, ⟨#[45]⟩, ⟨#[42]⟩, ⟨#[47]⟩, ⟨#[37]⟩, ⟨#[33]⟩, ⟨#[38]⟩, ⟨#[38, 38]⟩, ⟨#[124, 124]⟩]
theorem keyB_lists : keyB.map (·.data.toList) = keyLs := by kernel_rfl
theorem signB_lists : signB.map (·.data.toList) = M.signs := by kernel_rfl

theorem below_new (w : World) (o : Obj) : Below w.heap.size w (w.alloc o) := (Below.refl _ _).alloc (Nat.le_refl _) _

theorem keywords_any (w : World) : Calls Try.prog 18 #[] w fun e w' => ∃ v, e = .returned v ∧ Txts w' v keyB ∧ Below w.heap.size w w' := by
  have HT := hide (Txts.of_new w keyB 9 22 22 rfl (by decide))
  go_enter Try.func18, Try.ntmps18
  go_wp2
  go_ret
  exact ⟨_, rfl, HT.out, below_new _ _⟩
theorem signs_any (w : World) : Calls Try.prog 43 #[] w fun e w' => ∃ v, e = .returned v ∧ Txts w' v signB ∧ Below w.heap.size w w' := by
  have HT := hide (Txts.of_new w signB 9 29 29 rfl (by decide))
  go_enter Try.func43, Try.ntmps43
  go_wp2
  go_ret
  exact ⟨_, rfl, HT.out, below_new _ _⟩

/-- Is a text in a list? -/
def hasB (ls : List ByteArray) (s : ByteArray) : Bool := ls.any fun x => x.toList == s.toList

theorem has_any (v : Value) (ls : List ByteArray) (s : ByteArray) (w : World) (h : Txts w v ls) (hl : ls.length ≤ 1000000) :
    Calls Try.prog 30 #[v, .string s] w fun e w' => e = .returned (.bool (hasB ls s)) ∧ w' = w := by
  obtain ⟨g, off, c, rfl, hc, hg, hx⟩ := h
  have HX := hide hx
  have HR : Hid (hasB ls s = ls.any fun x => x.toList == s.toList) := rfl
  generalize hasB ls s = R at *
  clear hx
  go_enter Try.func30, Try.ntmps30
  go_wp2
  go_loop [5] (fun i => ∃ k : Nat, k ≤ ls.length ∧ i = .int .i64 k ∧ ∀ j (h : j < ls.length), j < k → (ls[j].toList == s.toList) = false) (fun i => ls.length - (intOf i).toNat)
  case atStart => exact ⟨0, Nat.zero_le _, rfl, fun j _ h => by omega⟩
  case round =>
    obtain ⟨k, hk, rfl, hp⟩ := hrel
    have HP := hide hp
    clear hp
    by_cases hlt : k < ls.length
    · have h1 := HX.out k _ (List.getElem?_eq_getElem hlt)
      obtain ⟨x, hxx⟩ : ∃ x, x = ls[k] := ⟨_, rfl⟩
      rw [← hxx] at h1
      have HXX := hide hxx
      clear hxx
      cases ht : (x.toList == s.toList)
      · go_wp2
        go_round
        case rel => exact ⟨k + 1, hlt, by go_num, fun j h hj => by
          by_cases e : j = k
          · subst e; rw [← HXX.out]; exact ht
          · exact HP.out j h (by omega)⟩
        case measure => simp [intOf]; omega
      · have HT := hide ht
        go_wp2
        go_ret
        refine ⟨ret_bool ?_, rfl⟩
        rw [HR.out, eq_comm, List.any_eq_true]
        exact ⟨x, by rw [HXX.out]; exact List.getElem_mem hlt, HT.out⟩
    · obtain rfl : k = ls.length := by omega
      clear hlt
      go_wp2
      go_ret
      refine ⟨ret_bool ?_, rfl⟩
      rw [HR.out, eq_comm, List.any_eq_false]
      intro x hx
      obtain ⟨j, hj, rfl⟩ := List.mem_iff_getElem.1 hx
      rw [HP.out j hj hj]; decide

theorem refKeyword_any (s : ByteArray) (w : World) : Calls Try.prog 20 #[.string s] w fun e w' => e = .returned (.bool (hasB keyB s)) ∧ Below w.heap.size w w' := by
  have HK := hide keywords_any
  have HH := hide fun v w h => has_any v keyB s w h (by decide)
  generalize hasB keyB s = R at *
  go_enter Try.func20, Try.ntmps20
  go_wp2_with fail
  refine (HK.out _).mono ?_
  rintro e w1 ⟨v, rfl, ht, hb1⟩
  have HT := hide ht
  have HB := hide hb1
  clear ht hb1
  go_wp2_with fail
  refine (HH.out _ _ HT.out).mono ?_
  rintro e w2 ⟨rfl, rfl⟩
  go_wp2
  go_ret
  exact ⟨rfl, HB.out⟩

theorem hasB_key (s : ByteArray) : hasB keyB s = keyLs.any fun x => s.toList == x := by
  have : ∀ (a : List ByteArray), hasB a s = (a.map (·.data.toList)).any fun x => s.toList == x := by
    intro a
    unfold hasB
    induction a with
    | nil => rfl
    | cons x r ih => rw [List.any_cons, List.map_cons, List.any_cons, ih, ByteArray.toList_eq x, Bool.beq_comm]
  rw [this, keyB_lists]

set_option maxHeartbeats 4000000 in
theorem lexKeyword_any (s : ByteArray) (w : World) : Calls Try.prog 19 #[.string s] w fun e w' => e = .returned (.bool (hasB keyB s)) ∧ w = w' := by
  rw [hasB_key]
  have HR : Hid ((keyLs.any fun x => s.toList == x) = (s.toList == [115, 116, 114, 117, 99, 116] || (s.toList == [99, 104, 111, 105, 99, 101] || (s.toList == [99, 111, 112, 121] || (s.toList == [102, 110] || (s.toList == [108, 101, 116] || (s.toList == [109, 117, 116] || (s.toList == [105, 102] || (s.toList == [101, 108, 115, 101] || (s.toList == [119, 104, 105, 108, 101] || (s.toList == [108, 111, 111, 112] || (s.toList == [98, 114, 101, 97, 107] || (s.toList == [99, 111, 110, 116, 105, 110, 117, 101] || (s.toList == [114, 101, 116, 117, 114, 110] || (s.toList == [109, 97, 116, 99, 104] || (s.toList == [116, 114, 117, 101] || (s.toList == [102, 97, 108, 115, 101] || (s.toList == [119, 104, 101, 114, 101] || (s.toList == [66, 111, 120] || (s.toList == [86, 101, 99] || (s.toList == [105, 110, 116] || (s.toList == [98, 111, 111, 108] || (s.toList == [117, 110, 105, 116]))))))))))))))))))))))) := by unfold Hid keyLs; simp only [List.any_cons, List.any_nil, Bool.or_false]
  generalize (keyLs.any fun x => s.toList == x) = R at *
  go_enter Try.func19, Try.ntmps19
  go_wp2
  all_goals (first | (exfalso; simp_all; done) | (go_ret; refine ⟨ret_bool ?_, rfl⟩; rw [HR.out]; simp_all))

theorem key_token : ∀ x ∈ keyLs, ans x = ([⟨2, x, 0⟩], (0, 0)) := by
  intro x hx
  unfold keyLs at hx
  repeat (rcases List.mem_cons.1 hx with rfl | hx; kernel_rfl)
  exact absurd hx List.not_mem_nil
theorem key_has : ∀ x ∈ keyB, hasB keyB x = true := by
  intro x hx
  unfold hasB
  exact List.any_eq_true.2 ⟨x, hx, by simp⟩
end Go.Proofs.Ytjiencifdpopdaa
