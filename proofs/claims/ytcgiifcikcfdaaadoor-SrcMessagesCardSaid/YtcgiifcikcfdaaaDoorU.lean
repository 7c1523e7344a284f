/- The document's own message out of its parts. No conditions beyond those that each statement names. -/
import Derived.Test.YtcgiifcikcfdaaaDoorR
import Derived.Deep.RegionHeld3
namespace Go.Proofs.YtcgiifcikcfdaaaDoor
open Go.RowKit

/-- The box of a fault is there still, and nothing old has turned. -/
structure Box (w : World) (k a : Int) (w' : World) : Prop where
  kind : w'.cell? ⟨w.heap.size, 0, none⟩ = some (.int .i64 k)
  at_ : w'.cell? ⟨w.heap.size, 1, none⟩ = some (.int .i64 a)
  below : Below w.heap.size w w'
  lt : w.heap.size < w'.heap.size
theorem Box.step {w : World} {k a : Int} {w' w'' : World} (h : Box w k a w') (hb : Below w'.heap.size w' w'') : Box w k a w'' :=
  ⟨(hb.cell (p := ⟨w.heap.size, 0, none⟩) h.lt).trans h.kind, (hb.cell (p := ⟨w.heap.size, 1, none⟩) h.lt).trans h.at_, h.below.trans (hb.mono h.below.size), Nat.lt_of_lt_of_le h.lt hb.size⟩
theorem Box.drew {w : World} {k a : Int} {w' : World} (h : Box w k a w') : Box w k a w'.drew := ⟨h.kind, h.at_, h.below.drew, h.lt⟩

set_option maxHeartbeats 2000000 in
theorem refMessage_of (s : ByteArray) (kind at_ : Int) (b : ByteArray) (w : World) (hs : s.size ≤ 1000) (hbl : b.size ≤ 1000)
    (hwords : ∀ w, Calls Tryd.prog 37 #[.int .i64 kind] w fun e w' => e = .returned (.string b) ∧ Below w.heap.size w w') :
    Calls Tryd.prog 24 #[.string s, .agg #[.int .i64 kind, .int .i64 at_]] w fun e w' => e = .returned (.string (msg s at_ b)) ∧ Below w.heap.size w w' := by
  have hwh := fun w => refWhere_any s at_ w (by omega)
  have hex := fun w => refExcerpt_any s at_ w (by omega)
  have hle := M.pos_le s.data.toList (min (max at_ 0) s.size).toNat
  have hx : 1 ≤ line s at_ ∧ line s at_ ≤ 1001 := by unfold line; omega
  have hy : 1 ≤ col s at_ ∧ col s at_ ≤ 1001 := by unfold col; omega
  have hE : (⟨(exc s.data.toList (min (max at_ 0) s.size).toNat).toArray⟩ : ByteArray).size ≤ 3000 := by
    obtain ⟨e1, e2, e3, e4, _⟩ := lineOf_cut s.data.toList (min (max at_ 0) s.size).toNat (by simp; omega)
    show (exc s.data.toList (min (max at_ 0) s.size).toNat).toArray.size ≤ 3000
    unfold exc
    rw [e2, e1]
    simp
    have : s.data.size = s.size := rfl
    omega
  have HM : Hid (msg s at_ b = ((((((⟨#[108, 105, 110, 101, 32]⟩ ++ num (line s at_)) ++ ⟨#[44, 32, 99, 111, 108, 117, 109, 110, 32]⟩) ++ num (col s at_)) ++ ⟨#[58, 32]⟩) ++ b) ++ ⟨#[10]⟩) ++ ⟨(exc s.data.toList (min (max at_ 0) s.size).toNat).toArray⟩) := rfl
  generalize (⟨(exc s.data.toList (min (max at_ 0) s.size).toNat).toArray⟩ : ByteArray) = E at *
  generalize line s at_ = x at *
  generalize col s at_ = y at *
  obtain ⟨hx0, hx1⟩ := hx
  obtain ⟨hy0, hy1⟩ := hy
  have hXs := num_size x (by omega) (by omega)
  have hYs := num_size y (by omega) (by omega)
  have hix : ∀ w, Calls Tryd.prog 36 #[.int .i64 x] w fun e w' => e = .returned (.string (num x)) ∧ Below w.heap.size w w' := fun w => num_calls x.natAbs x w (Nat.le_refl _) (by omega) (by omega)
  have hiy : ∀ w, Calls Tryd.prog 36 #[.int .i64 y] w fun e w' => e = .returned (.string (num y)) ∧ Below w.heap.size w w' := fun w => num_calls y.natAbs y w (Nat.le_refl _) (by omega) (by omega)
  generalize num x = X at *
  generalize num y = Y at *
  generalize msg s at_ b = res at *
  have add : ∀ (p q : ByteArray), p.size + q.size ≤ 100000 → ∃ r, r = p ++ q ∧ r.size = p.size + q.size ∧ ∀ W, (Op.stringOp .add p q).run Tryd.prog W = .ok (.string r) W :=
    fun p q h => ⟨_, rfl, ByteArray.size_append, fun W => run_string_add_sum W p q (by omega)⟩
  have z1 : (⟨#[108, 105, 110, 101, 32]⟩ : ByteArray).size = 5 := rfl
  have z2 : (⟨#[44, 32, 99, 111, 108, 117, 109, 110, 32]⟩ : ByteArray).size = 9 := rfl
  have z3 : (⟨#[58, 32]⟩ : ByteArray).size = 2 := rfl
  have z4 : (⟨#[10]⟩ : ByteArray).size = 1 := rfl
  obtain ⟨L1, e1, s1, a1⟩ := add ⟨#[108, 105, 110, 101, 32]⟩ X (by omega)
  obtain ⟨L2, e2, s2, a2⟩ := add L1 ⟨#[44, 32, 99, 111, 108, 117, 109, 110, 32]⟩ (by omega)
  obtain ⟨L3, e3, s3, a3⟩ := add L2 Y (by omega)
  obtain ⟨L4, e4, s4, a4⟩ := add L3 ⟨#[58, 32]⟩ (by omega)
  obtain ⟨L5, e5, s5, a5⟩ := add L4 b (by omega)
  obtain ⟨L6, e6, s6, a6⟩ := add L5 ⟨#[10]⟩ (by omega)
  obtain ⟨L7, e7, s7, a7⟩ := add L6 E (by omega)
  have HM2 : Hid (res = L7) := by unfold Hid; rw [HM.out, e7, e6, e5, e4, e3, e2, e1]
  clear e1 e2 e3 e4 e5 e6 e7 s1 s2 s3 s4 s5 s6 s7 z1 z2 z3 z4 add HM
  have HWH := hide hwh
  have HEX := hide hex
  have HIX := hide hix
  have HIY := hide hiy
  have HWD := hide hwords
  clear hwh hex hix hiy hwords hle
  have hbox : Box w kind at_ (w.alloc (Obj.cells #[.int .i64 kind, .int .i64 at_] 25)) := ⟨by simp, by simp, (Below.refl _ w).alloc (Nat.le_refl _) _, by simp⟩
  have hbox1 := hbox.drew
  have c0 := hbox.kind
  have c1 := hbox.at_
  go_enter Tryd.func24, Tryd.ntmps24
  go_wp2_with fail
  refine (HWH.out _).mono ?_
  rintro e w' ⟨rfl, rfl⟩
  go_wp2_with fail
  go_region_held3 (fun w' => w'.cell? ⟨w.heap.size, 0, none⟩ = some (.int .i64 kind) ∧ w'.cell? ⟨w.heap.size, 1, none⟩ = some (.int .i64 at_)) (first | exact ⟨by assumption, by assumption⟩ | go_keep | trivial) (first
    | (go_at_call_of 36 x; refine (HIX.out _).mono ?_; rintro e w1 ⟨rfl, hb1⟩; have hq := Box.step (by assumption) hb1; clear hb1; have k0 := hq.kind; have k1 := hq.at_)
    | (go_at_call_of 36 y; refine (HIY.out _).mono ?_; rintro e w1 ⟨rfl, hb1⟩; have hq := Box.step (by assumption) hb1; clear hb1; have k0 := hq.kind; have k1 := hq.at_)
    | (go_at_call 37; refine (HWD.out _).mono ?_; rintro e w1 ⟨rfl, hb1⟩; have hq := Box.step (by assumption) hb1; clear hb1; have k0 := hq.kind; have k1 := hq.at_)
    | (go_at_call 22; refine (HEX.out _).mono ?_; rintro e w1 ⟨rfl, hb1⟩; have hq := Box.step (by assumption) hb1; clear hb1; have k0 := hq.kind; have k1 := hq.at_))
  go_wp2
  go_ret
  exact ⟨ret_str HM2.out.symm, Box.below (k := kind) (a := at_) (by assumption)⟩
end Go.Proofs.YtcgiifcikcfdaaaDoor
