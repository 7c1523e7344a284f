/- Excerpts, by the program and by the document's own answer. No conditions beyond the bounds that each statement names. -/
import Derived.Test.YtcgiifcikcfdaaaDoorE
import Derived.Test.YtcgiifcikcfdaaaDoorD
import Derived.Deep.RegionWith
namespace Go.Proofs.YtcgiifcikcfdaaaDoor
open Go.RowKit

/-- A place's line. -/
def lineOf (l : List UInt8) (k : Nat) : List UInt8 := (M.lns l).getD (M.pos l k).1 []
/-- The excerpt. -/
def exc (l : List UInt8) (k : Nat) : List UInt8 := lineOf l k ++ [10] ++ ((lineOf l k).take (M.pos l k).2).map ind ++ [94, 10]

/-- A place's line, cut out of the text. -/
theorem lineOf_cut (l : List UInt8) (k : Nat) (hk : k ≤ l.length) :
    lineOf l k = (l.take (lend l k)).drop (k - (M.pos l k).2) ∧ (lineOf l k).take (M.pos l k).2 = (l.take k).drop (k - (M.pos l k).2) ∧ k ≤ lend l k ∧ lend l k ≤ l.length ∧
      (M.pos l k).1 < (M.lns l).length := by
  obtain ⟨a, b, h1, h2, h3, x, h4⟩ := M.lns_last l k hk
  obtain ⟨t, ht⟩ := M.lns_head (l.drop k)
  have hall := M.lns_append (l.drop k) (l.take k) a b _ t h1 ht
  rw [List.take_append_drop] at hall
  have hkl : (l.take k).length = k := by rw [List.length_take]; omega
  have hxl : x.length + b.length = k := by rw [← hkl, h4, List.length_append]
  have hdl : (l.drop k).length = l.length - k := List.length_drop
  obtain ⟨o, ho⟩ : ∃ o, o = (if Lib.indexByte (l.drop k) 10 = -1 then (l.drop k).length else (Lib.indexByte (l.drop k) 10).toNat) := ⟨_, rfl⟩
  rw [← ho] at hall
  have hq : lend l k = k + o ∧ k + o ≤ l.length := by
    unfold lend
    by_cases hn : Lib.indexByte (l.drop k) 10 = -1
    · rw [if_pos hn] at ho ⊢; omega
    · rw [if_neg hn] at ho ⊢
      have hge := Lib.indexByte_ge (l.drop k) 10
      have := (M.atR_some (l.drop k) (Lib.indexByte (l.drop k) 10).toNat (by omega)).1
      omega
  have hline : lineOf l k = b ++ (l.drop k).take o := by
    unfold lineOf
    rw [hall, ← h2]
    simp
  have hcut : l.take (lend l k) = x ++ (b ++ (l.drop k).take o) := by
    rw [hq.1, ← List.append_assoc, ← h4]
    have e : l.take (k + o) = l.take k ++ (l.drop k).take o := List.take_add
    exact e
  have hb : k - (M.pos l k).2 = x.length := by omega
  refine ⟨?_, ?_, by omega, by omega, ?_⟩
  · rw [hb, hcut, hline, List.drop_left]
  · rw [hb, h4, hline, List.drop_left, ← h3, List.take_left]
  · rw [hall, ← h2]; simp

theorem ba_ext {a : ByteArray} {l : List UInt8} (h : a.data.toList = l) : a = ⟨l.toArray⟩ := by subst h; cases a; simp
theorem ba_app (a b : ByteArray) : (a ++ b).data.toList = a.data.toList ++ b.data.toList := by simp

set_option maxHeartbeats 1000000 in
theorem excerpt_any (s : ByteArray) (n : Int) (w : World) (hs : s.size ≤ 1000000) :
    Calls Tryd.prog 21 #[.string s, .int .i64 n] w fun e w' => e = .returned (.string ⟨(exc s.data.toList (min (max n 0) s.size).toNat).toArray⟩) ∧ Below w.heap.size w w' := by
  obtain ⟨k, hk, hkn⟩ : ∃ k : Nat, k ≤ s.size ∧ min (max n 0) (s.size : Int) = k := ⟨(min (max n 0) (s.size : Int)).toNat, by omega, by omega⟩
  have hw : ∀ w, Calls Tryd.prog 28 #[.string s, .int .i64 n] w fun e w' => e = .returned (.int .i64 k) ∧ w = w' := fun w => by rw [← hkn]; exact within_any s n w
  rw [hkn, Int.toNat_natCast]
  have hle := M.pos_le s.data.toList k
  obtain ⟨b, hb⟩ : ∃ b : Nat, b = k - (M.pos s.data.toList k).2 := ⟨_, rfl⟩
  have hst : ∀ w, Calls Tryd.prog 30 #[.string s, .int .i64 k] w fun e w' => e = .returned (.int .i64 b) ∧ w = w' := fun w => by
    have h := lineStart_any s k w hk hs
    rw [show ((k : Int) - (M.pos s.data.toList k).2) = (b : Int) by omega] at h
    exact h
  obtain ⟨q, hq⟩ : ∃ q : Nat, q = lend s.data.toList k := ⟨_, rfl⟩
  have hen : ∀ w, Calls Tryd.prog 32 #[.string s, .int .i64 k] w fun e w' => e = .returned (.int .i64 q) ∧ w = w' := fun w => by rw [hq]; exact lineEnd_any s k w hk hs
  have hbk : b ≤ k := by omega
  have hl : s.data.toList.length = s.size := by simp
  obtain ⟨e1, e2, e3, e4, _⟩ := lineOf_cut s.data.toList k (by omega)
  have hkq : k ≤ q := by omega
  have hqs : q ≤ s.size := by omega
  obtain ⟨z, hz⟩ : ∃ z : ByteArray, z = ⟨((s.extract b k).data.toList.map ind).toArray⟩ := ⟨_, rfl⟩
  have hzl : z.size ≤ 1000000 := by rw [hz]; show ((s.extract b k).data.toList.map ind).toArray.size ≤ _; simp; have : s.data.size = s.size := rfl; omega
  have HX : Hid (((s.extract b q ++ ⟨#[10]⟩) ++ z) ++ ⟨#[94, 10]⟩ = ⟨(exc s.data.toList k).toArray⟩) := by
    unfold Hid
    apply ba_ext
    unfold exc
    rw [ba_app, ba_app, ba_app, Laid.cut, hz, Laid.cut, e2, e1, ← hq, hb]
  have hid : ∀ w, Calls Tryd.prog 33 #[.string (s.extract b k)] w fun e w' => e = .returned (.string z) ∧ Below w.heap.size w w' := fun w => by rw [hz]; exact indent_any _ w (by simp; omega)
  have HW := hide hw
  have HS := hide hst
  have HE := hide hen
  have HI := hide hid
  clear hw hst hen hid hkn hb hq hle hl e1 e2 e3 e4 hz
  go_enter Tryd.func21, Tryd.ntmps21
  go_wp2_with (first
    | (go_at_call 28; refine (HW.out _).mono ?_; rintro e w' ⟨rfl, rfl⟩)
    | (go_at_call 30; refine (HS.out _).mono ?_; rintro e w' ⟨rfl, rfl⟩))
  go_region_with (first
    | (go_at_call 32; refine (HE.out _).mono ?_; rintro e w' ⟨rfl, rfl⟩)
    | (go_at_call 33; refine (HI.out _).mono ?_; rintro e w' ⟨rfl, hb1⟩))
  all_goals (go_wp2; go_ret; exact ⟨ret_str HX.out, (Below.refl _ _).drew.trans hb1⟩)
end Go.Proofs.YtcgiifcikcfdaaaDoor
