/- The laws SrcExcerpts, SrcPlaces and SrcAt, walked: each answers true. No conditions beyond what the library's variables hold, and that ints are ints. -/
import Derived.Test.YtcgiifcikcfdaaaDoorI
import Derived.Lib.MinMax
namespace Go.Proofs.YtcgiifcikcfdaaaDoor
open Go.RowKit

set_option maxHeartbeats 1000000 in
theorem srcExcerpts_walk (s : ByteArray) (n : Int) (w : World) (hr : Ready w) :
    Calls Tryd.prog 8 #[.string s, .int .i64 n] w fun e w' => e = .returned (.bool true) ∧ Below w.heap.size w w' := by
  have HA := hide awake_any
  have HR0 := hide hr
  have HBW := hide (Below.refl w.heap.size w)
  clear hr
  by_cases hs : (1000 : Int) < s.size
  · go_enter Tryd.func8, Tryd.ntmps8
    go_wp2_with fail
    refine (HA.out _ HR0.out).mono ?_
    rintro e w1 ⟨rfl, hb1⟩
    have HB1 := hide (HBW.out.trans (hb1.mono HBW.out.size))
    have HR1 := hide (HR0.out.below hb1)
    clear hb1
    go_wp2_with fail
    refine (HA.out _ HR1.out).mono ?_
    rintro e w2 ⟨rfl, hb2⟩
    have HB2 := hide (bl_trans HB1.out hb2)
    clear hb2
    go_wp2
    go_ret
    exact ⟨rfl, HB2.out⟩
  · obtain ⟨z, hz⟩ : ∃ z : ByteArray, z = ⟨(exc s.data.toList (min (max n 0) s.size).toNat).toArray⟩ := ⟨_, rfl⟩
    have h1 := fun w => excerpt_any s n w (by omega)
    have h2 := fun w => refExcerpt_any s n w (by omega)
    rw [← hz] at h1 h2
    have H1 := hide h1
    have H2 := hide h2
    clear h1 h2 hz
    go_enter Tryd.func8, Tryd.ntmps8
    go_wp2_with fail
    refine (HA.out _ HR0.out).mono ?_
    rintro e w1 ⟨rfl, hb1⟩
    have HB1 := hide (HBW.out.trans (hb1.mono HBW.out.size))
    have HR1 := hide (HR0.out.below hb1)
    clear hb1
    go_wp2_with fail
    refine (H1.out _).mono ?_
    rintro e w2 ⟨rfl, hb2⟩
    have HB2 := hide (bl_trans HB1.out hb2)
    clear hb2
    go_wp2_with fail
    refine (H2.out _).mono ?_
    rintro e w3 ⟨rfl, hb3⟩
    have HB3 := hide (bl_trans HB2.out hb3)
    clear hb3
    go_wp2
    go_ret
    exact ⟨rfl, HB3.out⟩

theorem clamp_lt (s : ByteArray) (n : Int) : (min (max n 0) (s.size : Int)).toNat ≤ s.size := by omega
theorem line_bd (s : ByteArray) (n : Int) : 1 ≤ line s n ∧ line s n ≤ s.size + 1 := by
  have := M.pos_le s.data.toList (min (max n 0) (s.size : Int)).toNat
  unfold line; omega
theorem col_bd (s : ByteArray) (n : Int) : 1 ≤ col s n ∧ col s n ≤ s.size + 1 := by
  have := M.pos_le s.data.toList (min (max n 0) (s.size : Int)).toNat
  unfold col; omega
theorem plc_where (s : ByteArray) (n : Int) : plc s (line s n) (col s n) = some (min (max n 0) (s.size : Int)).toNat := by
  have hl := line_bd s n
  have hc := col_bd s n
  unfold plc
  rw [if_neg (by omega)]
  have e1 : (line s n - 1).toNat = (M.pos s.data.toList (min (max n 0) (s.size : Int)).toNat).1 := by unfold line; omega
  have e2 : (col s n - 1).toNat = (M.pos s.data.toList (min (max n 0) (s.size : Int)).toNat).2 := by unfold col; omega
  rw [e1, e2]
  exact M.atR_pos _ _ (by have := clamp_lt s n; simpa using this)

set_option maxHeartbeats 1000000 in
theorem srcPlaces_walk (s : ByteArray) (n : Int) (w : World) (hr : Ready w) :
    Calls Tryd.prog 5 #[.string s, .int .i64 n] w fun e w' => e = .returned (.bool true) ∧ Below w.heap.size w w' := by
  have HA := hide awake_any
  have HR0 := hide hr
  have HBW := hide (Below.refl w.heap.size w)
  clear hr
  by_cases hs : (1000 : Int) < s.size
  · have hd : decide ((1000 : Int) < (s.size : Int)) = true := by simpa using hs
    clear hs
    go_enter Tryd.func5, Tryd.ntmps5
    go_wp2_with fail
    refine (HA.out _ HR0.out).mono ?_
    rintro e w1 ⟨rfl, hb1⟩
    have HB1 := hide (HBW.out.trans (hb1.mono HBW.out.size))
    have HR1 := hide (HR0.out.below hb1)
    clear hb1
    go_wp2_with fail
    refine (HA.out _ HR1.out).mono ?_
    rintro e w2 ⟨rfl, hb2⟩
    have HB2 := hide (bl_trans HB1.out hb2)
    clear hb2
    go_wp2
    go_ret
    exact ⟨rfl, HB2.out⟩
  · have hd : decide ((1000 : Int) < (s.size : Int)) = false := by simpa using hs
    have h1 := fun w => where_any s n w (by omega)
    have h2 := fun w => refWhere_any s n w (by omega)
    have hl := line_bd s n
    have hc := col_bd s n
    have h3 : ∀ w, Calls Tryd.prog 19 #[.string s, .int .i64 (line s n), .int .i64 (col s n)] w fun e w' => e = .returned (.tuple #[.int .i64 (min (max n 0) (s.size : Int)), .int .i64 0]) ∧ w = w' := fun w => by
      have h := at_any s (line s n) (col s n) w (by omega) (by omega) (by omega)
      rw [plc_where] at h
      have e : plcV (some (min (max n 0) (s.size : Int)).toNat) = .tuple #[.int .i64 (min (max n 0) (s.size : Int)), .int .i64 0] := by
        show Value.tuple #[.int .i64 (((min (max n 0) (s.size : Int)).toNat : Nat) : Int), .int .i64 0] = _
        rw [show (((min (max n 0) (s.size : Int)).toNat : Nat) : Int) = min (max n 0) (s.size : Int) by omega]
      rw [e] at h
      exact h
    generalize line s n = x at *
    generalize col s n = y at *
    have H1 := hide h1
    have H2 := hide h2
    have H3 := hide h3
    clear h1 h2 h3 hl hc hs
    go_enter Tryd.func5, Tryd.ntmps5
    go_wp2_with fail
    refine (HA.out _ HR0.out).mono ?_
    rintro e w1 ⟨rfl, hb1⟩
    have HB1 := hide (HBW.out.trans (hb1.mono HBW.out.size))
    have HR1 := hide (HR0.out.below hb1)
    clear hb1
    go_wp2_with fail
    refine (H1.out _).mono ?_
    rintro e w2 ⟨rfl, rfl⟩
    go_wp2_with fail
    refine (H2.out _).mono ?_
    rintro e w2 ⟨rfl, rfl⟩
    go_wp2_with fail
    refine (H3.out _).mono ?_
    rintro e w2 ⟨rfl, rfl⟩
    go_wp2
    go_ret
    exact ⟨rfl, HB1.out⟩

theorem where_plc (s : ByteArray) (n m : Int) (k : Nat) (h : plc s n m = some k) : line s k = n ∧ col s k = m := by
  unfold plc at h
  by_cases hx : n < 1 ∨ m < 1
  · rw [if_pos hx] at h; cases h
  · rw [if_neg hx] at h
    obtain ⟨h1, h2⟩ := M.pos_atR _ _ _ _ h
    have hk : k ≤ s.size := by simpa using h1
    have e : (min (max (k : Int) 0) (s.size : Int)).toNat = k := by omega
    unfold line col
    rw [e, h2]
    omega

set_option maxHeartbeats 1000000 in
theorem srcAt_walk (s : ByteArray) (n m : Int) (w : World) (hn : n ≤ 9223372036854775807) (hm : m ≤ 9223372036854775807) (hr : Ready w) :
    Calls Tryd.prog 6 #[.string s, .int .i64 n, .int .i64 m] w fun e w' => e = .returned (.bool true) ∧ Below w.heap.size w w' := by
  have HA := hide awake_any
  have HR0 := hide hr
  have HBW := hide (Below.refl w.heap.size w)
  clear hr
  by_cases hs : (1000 : Int) < s.size
  · have hd : decide ((1000 : Int) < (s.size : Int)) = true := by simpa using hs
    clear hs hn hm
    go_enter Tryd.func6, Tryd.ntmps6
    go_wp2_with fail
    refine (HA.out _ HR0.out).mono ?_
    rintro e w1 ⟨rfl, hb1⟩
    have HB1 := hide (HBW.out.trans (hb1.mono HBW.out.size))
    have HR1 := hide (HR0.out.below hb1)
    clear hb1
    go_wp2_with fail
    refine (HA.out _ HR1.out).mono ?_
    rintro e w2 ⟨rfl, hb2⟩
    have HB2 := hide (bl_trans HB1.out hb2)
    clear hb2
    go_wp2
    go_ret
    exact ⟨rfl, HB2.out⟩
  · have hd : decide ((1000 : Int) < (s.size : Int)) = false := by simpa using hs
    have h1 := fun w => at_any s n m w (by omega) hn hm
    have h2 := fun w => refAt_any s n m w (by omega) hn hm
    cases hp : plc s n m with
    | none =>
      have h3 := fun w => where_any s 0 w (by omega)
      rw [hp] at h1 h2
      generalize line s 0 = x at *
      generalize col s 0 = y at *
      have H1 : Hid (∀ w, Calls Tryd.prog 19 #[.string s, .int .i64 n, .int .i64 m] w fun e w' => e = .returned (.tuple #[.int .i64 0, .int .i64 11]) ∧ w = w') := h1
      have H2 : Hid (∀ w, Calls Tryd.prog 20 #[.string s, .int .i64 n, .int .i64 m] w fun e w' => e = .returned (.tuple #[.int .i64 0, .int .i64 11]) ∧ Below w.heap.size w w') := h2
      have H3 := hide h3
      clear h1 h2 h3 hs hp hn hm
      go_enter Tryd.func6, Tryd.ntmps6
      go_wp2_with fail
      refine (HA.out _ HR0.out).mono ?_
      rintro e w1 ⟨rfl, hb1⟩
      have HB1 := hide (HBW.out.trans (hb1.mono HBW.out.size))
      have HR1 := hide (HR0.out.below hb1)
      clear hb1
      go_wp2_with fail
      refine (H1.out _).mono ?_
      rintro e w2 ⟨rfl, rfl⟩
      go_wp2_with fail
      refine (H2.out _).mono ?_
      rintro e w2 ⟨rfl, hb2⟩
      have HB2 := hide (bl_trans HB1.out hb2)
      clear hb2
      go_wp2_with fail
      refine (H3.out _).mono ?_
      rintro e w3 ⟨rfl, rfl⟩
      go_wp2
      go_ret
      exact ⟨rfl, HB2.out⟩
    | some k =>
      have h3 := fun w => where_any s k w (by omega)
      obtain ⟨e1, e2⟩ := where_plc s n m k hp
      rw [e1, e2] at h3
      rw [hp] at h1 h2
      have H1 : Hid (∀ w, Calls Tryd.prog 19 #[.string s, .int .i64 n, .int .i64 m] w fun e w' => e = .returned (.tuple #[.int .i64 k, .int .i64 0]) ∧ w = w') := h1
      have H2 : Hid (∀ w, Calls Tryd.prog 20 #[.string s, .int .i64 n, .int .i64 m] w fun e w' => e = .returned (.tuple #[.int .i64 k, .int .i64 0]) ∧ Below w.heap.size w w') := h2
      have H3 := hide h3
      clear h1 h2 h3 hs hp hn hm e1 e2
      go_enter Tryd.func6, Tryd.ntmps6
      go_wp2_with fail
      refine (HA.out _ HR0.out).mono ?_
      rintro e w1 ⟨rfl, hb1⟩
      have HB1 := hide (HBW.out.trans (hb1.mono HBW.out.size))
      have HR1 := hide (HR0.out.below hb1)
      clear hb1
      go_wp2_with fail
      refine (H1.out _).mono ?_
      rintro e w2 ⟨rfl, rfl⟩
      go_wp2_with fail
      refine (H2.out _).mono ?_
      rintro e w2 ⟨rfl, hb2⟩
      have HB2 := hide (bl_trans HB1.out hb2)
      clear hb2
      go_wp2_with fail
      refine (H3.out _).mono ?_
      rintro e w3 ⟨rfl, rfl⟩
      go_wp2
      go_ret
      exact ⟨rfl, HB2.out⟩
end Go.Proofs.YtcgiifcikcfdaaaDoor
