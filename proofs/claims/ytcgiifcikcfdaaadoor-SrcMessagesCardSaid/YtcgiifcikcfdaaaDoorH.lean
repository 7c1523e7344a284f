/- Numbers as texts, and a message out of its parts. No conditions beyond those that each statement names. -/
import Derived.Test.YtcgiifcikcfdaaaDoorG
import Derived.Lib.ItoaLen
import Derived.Lib.LaidTab
import Derived.WalkSmall
import Derived.Laws.Concat
import Derived.Deep.RegionHeld3
namespace Go.Proofs.YtcgiifcikcfdaaaDoor
open Go.RowKit Go.Sort

theorem gPow : Tryd.prog.globalNamed "internal/strconv.uint64pow10" = some 1 := by kernel_rfl

/-- What the library's variables hold, as far as the calls read them. -/
structure Ready (w : World) : Prop where
  max : MaxOk w
  tab : Lib.TabIs Tryd.prog w "internal/strconv.uint64pow10" .u64 Lib.pow10Tab
  two : 1 < w.heap.size

theorem Ready.below {w w' : World} (h : Ready w) (hb : Below w.heap.size w w') : Ready w' :=
  ⟨h.max.below hb, var?_below hb gPow h.two h.tab, Nat.lt_of_lt_of_le h.two hb.size⟩

theorem below_grow (w : World) (k : Nat) (os : Array Obj) : Below w.heap.size w (grow (w.drewN k) os) := by
  refine ⟨rfl, rfl, rfl, ?_, fun j hj => ?_⟩
  · show w.heap.size ≤ (w.heap ++ os).size; simp
  · show (w.heap ++ os)[j]? = _
    rw [Array.getElem?_append_left hj]

/-- A number's text. -/
def num (n : Int) : ByteArray := ⟨(Lib.itoa n).toArray⟩
theorem num_size (n : Int) (h0 : -9223372036854775808 ≤ n) (h1 : n ≤ 9223372036854775807) : (num n).size ≤ 21 := by
  have := Lib.itoa_length_le n h0 h1
  show (Lib.itoa n).toArray.size ≤ 21
  simpa using this

theorem itoa_any (n : Int) (w : World) (h0 : -9223372036854775808 ≤ n) (h1 : n ≤ 9223372036854775807) (hr : Ready w) :
    Calls Tryd.prog 34 #[.int .i64 n] w fun e w' => e = .returned (.string (num n)) ∧ Below w.heap.size w w' :=
  (Tryd.strconv_Itoa n h0 h1 w hr.tab).mono fun e w' ⟨he, k, os, hw⟩ => ⟨he, by rw [hw]; exact below_grow w k os⟩

/-- A message out of its parts. -/
def msg (s : ByteArray) (at_ : Int) (b : ByteArray) : ByteArray :=
  ((((((⟨#[108, 105, 110, 101, 32]⟩ ++ num (line s at_)) ++ ⟨#[44, 32, 99, 111, 108, 117, 109, 110, 32]⟩) ++ num (col s at_)) ++ ⟨#[58, 32]⟩) ++ b) ++ ⟨#[10]⟩) ++ ⟨(exc s.data.toList (min (max at_ 0) s.size).toNat).toArray⟩

set_option maxHeartbeats 1000000 in
theorem message_of (s : ByteArray) (kind at_ : Int) (b : ByteArray) (w : World) (hs : s.size ≤ 1000) (hbl : b.size ≤ 1000) (hr : Ready w)
    (hsays : ∀ w, Ready w → Calls Tryd.prog 35 #[.int .i64 kind] w fun e w' => e = .returned (.string b) ∧ Below w.heap.size w w') :
    Calls Tryd.prog 23 #[.string s, .agg #[.int .i64 kind, .int .i64 at_]] w fun e w' => e = .returned (.string (msg s at_ b)) ∧ Below w.heap.size w w' := by
  have hwh := fun w => where_any s at_ w (by omega)
  have hex := fun w => excerpt_any s at_ w (by omega)
  have hle := M.pos_le s.data.toList (min (max at_ 0) s.size).toNat
  have hx : 1 ≤ line s at_ ∧ line s at_ ≤ 1001 := by unfold line; omega
  have hy : 1 ≤ col s at_ ∧ col s at_ ≤ 1001 := by unfold col; omega
  have hE : (⟨(exc s.data.toList (min (max at_ 0) s.size).toNat).toArray⟩ : ByteArray).size ≤ 3000 := by
    obtain ⟨e1, e2, e3, e4, _⟩ := lineOf_cut s.data.toList (min (max at_ 0) s.size).toNat (by simp; omega)
    show (exc s.data.toList (min (max at_ 0) s.size).toNat).toArray.size ≤ 3000
    unfold exc
    rw [e2, e1]
    simp
    have : s.data.size = s.size := rfl
    omega
  have HM : Hid (msg s at_ b = ((((((⟨#[108, 105, 110, 101, 32]⟩ ++ num (line s at_)) ++ ⟨#[44, 32, 99, 111, 108, 117, 109, 110, 32]⟩) ++ num (col s at_)) ++ ⟨#[58, 32]⟩) ++ b) ++ ⟨#[10]⟩) ++ ⟨(exc s.data.toList (min (max at_ 0) s.size).toNat).toArray⟩) := rfl
  generalize (⟨(exc s.data.toList (min (max at_ 0) s.size).toNat).toArray⟩ : ByteArray) = E at *
  generalize line s at_ = x at *
  generalize col s at_ = y at *
  obtain ⟨hx0, hx1⟩ := hx
  obtain ⟨hy0, hy1⟩ := hy
  have hXs := num_size x (by omega) (by omega)
  have hYs := num_size y (by omega) (by omega)
  have hix : ∀ w, Ready w → Calls Tryd.prog 34 #[.int .i64 x] w fun e w' => e = .returned (.string (num x)) ∧ Below w.heap.size w w' := fun w h => itoa_any x w (by omega) (by omega) h
  have hiy : ∀ w, Ready w → Calls Tryd.prog 34 #[.int .i64 y] w fun e w' => e = .returned (.string (num y)) ∧ Below w.heap.size w w' := fun w h => itoa_any y w (by omega) (by omega) h
  generalize num x = X at *
  generalize num y = Y at *
  generalize msg s at_ b = res at *
  have add : ∀ (p q : ByteArray), p.size + q.size ≤ 100000 → ∃ r, r = p ++ q ∧ r.size = p.size + q.size ∧ ∀ W, (Op.stringOp .add p q).run Tryd.prog W = .ok (.string r) W :=
    fun p q h => ⟨_, rfl, ByteArray.size_append, fun W => run_string_add_sum W p q (by omega)⟩
  have z1 : (⟨#[108, 105, 110, 101, 32]⟩ : ByteArray).size = 5 := rfl
  have z2 : (⟨#[44, 32, 99, 111, 108, 117, 109, 110, 32]⟩ : ByteArray).size = 9 := rfl
  have z3 : (⟨#[58, 32]⟩ : ByteArray).size = 2 := rfl
  have z4 : (⟨#[10]⟩ : ByteArray).size = 1 := rfl
  obtain ⟨L1, e1, s1, a1⟩ := add ⟨#[108, 105, 110, 101, 32]⟩ X (by omega)
  obtain ⟨L2, e2, s2, a2⟩ := add L1 ⟨#[44, 32, 99, 111, 108, 117, 109, 110, 32]⟩ (by omega)
  obtain ⟨L3, e3, s3, a3⟩ := add L2 Y (by omega)
  obtain ⟨L4, e4, s4, a4⟩ := add L3 ⟨#[58, 32]⟩ (by omega)
  obtain ⟨L5, e5, s5, a5⟩ := add L4 b (by omega)
  obtain ⟨L6, e6, s6, a6⟩ := add L5 ⟨#[10]⟩ (by omega)
  obtain ⟨L7, e7, s7, a7⟩ := add L6 E (by omega)
  have HM2 : Hid (res = L7) := by unfold Hid; rw [HM.out, e7, e6, e5, e4, e3, e2, e1]
  clear e1 e2 e3 e4 e5 e6 e7 s1 s2 s3 s4 s5 s6 s7 z1 z2 z3 z4 add HM
  have HWH := hide hwh
  have HEX := hide hex
  have HIX := hide hix
  have HIY := hide hiy
  have HSA := hide hsays
  have HR := hide hr
  clear hwh hex hix hiy hsays hr hle
  have HR0 := hide (HR.out.below ((Below.refl _ w).alloc (Nat.le_refl _) (Obj.cells #[.int .i64 kind, .int .i64 at_] 25)))
  have hb0 : Below w.heap.size w (w.alloc (Obj.cells #[.int .i64 kind, .int .i64 at_] 25)) := (Below.refl _ w).alloc (Nat.le_refl _) _
  have HB0 := hide hb0
  clear hb0
  go_enter Tryd.func23, Tryd.ntmps23
  go_wp2_with fail
  refine (HWH.out _).mono ?_
  rintro e w' ⟨rfl, rfl⟩
  go_wp2_with fail
  refine (HIX.out _ HR0.out).mono ?_
  rintro e w1 ⟨rfl, hb1⟩
  have HR1 := hide (HR0.out.below hb1)
  have HB1 := hide hb1
  clear hb1
  go_wp2_with fail
  refine (HIY.out _ HR1.out).mono ?_
  rintro e w2 ⟨rfl, hb2⟩
  have HR2 := hide (HR1.out.below hb2)
  have HB2 := hide (bl_trans HB1.out hb2)
  clear hb2
  have hlt : w.heap.size < (w.alloc (Obj.cells #[.int .i64 kind, .int .i64 at_] 25)).heap.size := by simp
  have HC := hide (fun (w' : World) (hb : Below w2.heap.size w2 w') => (⟨(bl_trans HB2.out hb).cell (p := ⟨w.heap.size, 0, none⟩) hlt, (bl_trans HB2.out hb).cell (p := ⟨w.heap.size, 1, none⟩) hlt⟩ : _ ∧ _))
  have c2 := HC.out w2 (Below.refl _ _)
  simp at c2
  obtain ⟨c20, c21⟩ := c2
  have HBW := hide (HB0.out.trans (HB2.out.mono HB0.out.size))
  go_wp2_with fail
  have HRD : Hid (Ready w2.drew) := ⟨HR2.out.max, HR2.out.tab, HR2.out.two⟩
  go_region_held3 (fun w' => w'.cell? ⟨w.heap.size, 0, none⟩ = some (.int .i64 kind) ∧ w'.cell? ⟨w.heap.size, 1, none⟩ = some (.int .i64 at_)) (first | exact ⟨c20, c21⟩ | exact ⟨c30, c31⟩ | exact ⟨c40, c41⟩ | go_keep | trivial) (first
    | (go_at_call 35; refine (HSA.out _ HRD.out).mono ?_; rintro e w3 ⟨rfl, hb3⟩; have c3 := HC.out w3 ((Below.refl _ _).drew.trans hb3); have HB3 := hide ((Below.refl w2.heap.size w2).drew.trans hb3); clear hb3; simp at c3; obtain ⟨c30, c31⟩ := c3)
    | (go_at_call 21; refine (HEX.out _).mono ?_; rintro e w4 ⟨rfl, hb4⟩; have HB4 := hide (bl_trans HB3.out hb4); clear hb4; have c4 := HC.out w4 HB4.out; simp at c4; obtain ⟨c40, c41⟩ := c4))
  go_wp2
  go_ret
  exact ⟨ret_str HM2.out.symm, HBW.out.trans (HB4.out.mono HBW.out.size)⟩
end Go.Proofs.YtcgiifcikcfdaaaDoor
