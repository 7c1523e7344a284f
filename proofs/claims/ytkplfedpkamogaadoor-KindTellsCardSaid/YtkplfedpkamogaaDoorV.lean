/- From a law's walk to its row: types that came in. Conditions: those that each statement names. -/
import Derived.Test.YtkplfedpkamogaaDoorKa
import Derived.Test.YtkplfedpkamogaaDoorDd
import Derived.Test.YtkplfedpkamogaaDoorRows
import Derived.Test.YtkplfedpkamogaaDoorCards
import Derived.Test.YtkplfedpkamogaaDoorTie
import Derived.ProofKit
import Derived.OpenShut
import Derived.Deep.DeepHandedRow
import Derived.Deep.Slices
import Derived.ChangeArms
import Derived.Carry
import Derived.LaidSub
import Derived.LaidMore
import Derived.Lay
import Derived.SevenTiedAt

namespace Go.Proofs.YtkplfedpkamogaaDoor
open Go.ChangeShapes Go.WideShapes Go.ChangeAt Go.RowKit Go.Deep Go.Proofs.Kd Go.Proofs.De
set_option maxRecDepth 100000

theorem own : ownKnob Tryd.prog.godebug = none := by kernel_rfl
/-- What each row lists. -/
def laidAll : List (String × DataW Unit) := Rows.kindRightRow.laid
/-- The witness's world: all that the rows list is laid. -/
noncomputable def laidW (os : Os) : World := World.laidAll Tryd.prog os laidAll
theorem laidW_met (os : Os) (args : Array Value) : laidMetH Tryd.prog laidAll ((laidW os).forCall (fun _ _ => 0) ⟨#[], args, []⟩).memory := by
  rw [MakeChecks.laidMetH_plain _ _ _ (by kernel_rfl)]
  exact laidMet_laidAll _ (by kernel_rfl) (by kernel_rfl)

section
variable {H : Type} {enc : TypeId × Value → H} {P : Program}
/-- The row's last step, where the call has made new memory alone, whatever is read. -/
theorem post_below {f : Func} {s : ChangeSpec} {fresh handsOn again : Bool} {W W' : World} {args : Array Value} {v : Value} {ds gs : List (DataW H)} {before : List MemPlace}
    (hW : DataW.Whole enc P f.params.toList s.vars false W args.toList ds gs before)
    (hres : ∀ (b : Nat) (sp : Nat → Bool) (hd : Bool), DataW.TrodAll enc P W' b sp hd f.resultTypes.toList (v.resultList f.resultTypes.size) (s.fn H (ds ++ gs)).results [])
    (hargs : ∀ sp : Nat → Bool, (∀ p ∈ before, sp p.block = true) → DataW.TrodAll enc P W' 0 sp true f.params.toList args.toList (s.fn H (ds ++ gs)).args before)
    (hvars : ∀ sp : Nat → Bool, DataW.TrodVars enc P W' sp s.vars (s.fn H (ds ++ gs)).vars [])
    (hb : Below W.heap.size W W')
    (hok : ∀ (j : Nat) (t : TypeId) (r : Value), f.resultTypes[j]? = some t → (v.resultList f.resultTypes.size)[j]? = some r → Value.okWide P W' .any 0 t r) :
    s.post enc P f false fresh handsOn again W args v W' := by
  have hlt := hW.lt
  have hold : ∀ p ∈ before, (fun b => decide (b < W.heap.size)) p.block = true := fun p hp => by simpa using hlt p hp
  refine ⟨ds, gs, before, [], before, [], hW, hres _ _ _, hargs _ hold, hvars _, hb.frame _, fun _ => ?_⟩
  obtain ⟨_, _, _, _, _, hz, hn⟩ := hW
  refine ⟨hok, _, _, ([] ++ before) ++ [], ⟨[] ++ before, [], trodAll_append (hargs _ (fun _ _ => rfl)) (hres _ _ _), hvars _, rfl, ?_, ?_⟩, ?_⟩
  · intro b off hp
    have hp' : MemPlace.cell b off ∈ before := by simpa using hp
    rw [hb.frozen (p := ⟨b, off, none⟩) (hlt _ hp')]
    exact hz b off hp'
  · intro ha
    exact absurd ha Bool.false_ne_true
  · intro p hp _
    simpa using hp
end

instance : Inhabited TT := ⟨.nul⟩
def noOwn : Nat → Prop := fun _ => False
/-- A slice's parts, told by what each cell tells. -/
theorem rslc_mk {W : World} {wd len cap : Nat} {ad : Addr} {row : Nat → List AV} (hlc : len ≤ cap) (hw : 0 < wd) (hlen : ∀ i, i < len → (row i).length = wd)
    (h : ∀ i, i < len → ∃ us : Nat → Value, (∀ j, j < wd → W.cell? (ad.add (i * wd + j)) = some (us j)) ∧ ∀ j c, (row i)[j]? = some c → RepI W noOwn c (us j)) :
    RepI W noOwn (.rslc wd len row) (.slice (some ad) len cap) := by
  obtain ⟨us, hus⟩ := choose_lt (α := Nat → Value) (n := len) (p := fun i us => (∀ j, j < wd → W.cell? (ad.add (i * wd + j)) = some (us j)) ∧ ∀ j c, (row i)[j]? = some c → RepI W noOwn c (us j)) h
  obtain ⟨ab, ao, spot⟩ := ad
  by_cases h0 : len = 0
  · subst h0
    exact .rslc wd 0 row _ cap 0 0 us hlc (fun e => by cases e) (fun e => absurd rfl e) (fun i hi => absurd hi (Nat.not_lt_zero _)) (fun i j hi => absurd hi (Nat.not_lt_zero _)) (fun i j c hi => absurd hi (Nat.not_lt_zero _))
  · have hp : 0 < len := Nat.pos_of_ne_zero h0
    have hc0 := (hus 0 hp).1 0 hw
    have hsp : spot = none := by simpa [Addr.add] using World.cell?_spot hc0
    subst hsp
    refine .rslc wd len row _ cap ab ao us hlc (fun e => by cases e) (fun _ => ⟨rfl, by simpa [Addr.add] using World.block_lt_of_cell? _ _ hc0, fun e => e⟩) hlen (fun i j hi hj => ?_) (fun i j c hi hc => (hus i hi).2 j c hc)
    have := (hus i hi).1 j hj
    rw [Addr.add_lit] at this
    rw [Nat.add_assoc]; exact this

/-- A list of ints that came in. -/
theorem trod_ints {H : Type} {enc : TypeId × Value → H} {W : World} {n : Nat} {d : Value} {x : DataW H × List MemPlace}
    (h : DataW.trod enc Tryd.prog W 0 (fun _ => true) true n 22 [d] = some x) : ∃ (m : Nat) (regs : Nat → Int), m ≤ maxLen ∧ RepI W noOwn (.rslc 1 m (regRow regs)) d := by
  rcases DataW.trod_slice Tryd.underlying22 h with ⟨hc, _⟩ | ⟨ad, len, cap, elems, rest, m, rfl, hc, _, _, hlc, hcm, hel, hx, _⟩
  · simp at hc
    subst hc
    exact ⟨0, fun _ => 0, Nat.zero_le _, .rslc 1 0 _ none 0 0 0 (fun _ _ => .bool true) (Nat.le_refl _) (fun _ => rfl) (fun e => absurd rfl e) (fun i hi => absurd hi (Nat.not_lt_zero _)) (fun i j hi => absurd hi (Nat.not_lt_zero _)) (fun i j c hi => absurd hi (Nat.not_lt_zero _))⟩
  · simp at hc
    subst hc
    have each : ∀ i, i < len → ∃ z : Int, W.cell? (ad.add (i * 1)) = some (.int .i64 z) := by
      intro i hi
      have key := hx i hi
      rw [List.getElem?_eq_getElem (by omega)] at key
      obtain ⟨cs', g1, g2⟩ := Option.bind_eq_some_iff.1 key
      rw [show Tryd.prog.cellsOf 3 = 1 by kernel_rfl] at g1
      obtain ⟨_, hlen, hcell⟩ := World.cells?_some g1
      obtain ⟨z, rfl, _⟩ := DataW.trod_int Tryd.underlying3 g2
      have c0 := hcell 0 (by omega)
      rw [add_add] at c0
      exact ⟨z, by simpa using c0⟩
    obtain ⟨regs, hr⟩ := choose_lt each
    refine ⟨len, regs, by omega, rslc_mk hlc (by decide) (fun _ _ => rfl) fun i hi => ⟨fun _ => .int .i64 (regs i), fun j hj => ?_, fun j c hc => ?_⟩⟩
    · obtain rfl : j = 0 := by omega
      exact hr i hi
    · cases j with
      | zero => cases hc; exact .lit _ rfl
      | succ j => cases hc

/-- Six cells that read as a type are a type's. -/
theorem trod_type {H : Type} {enc : TypeId × Value → H} {W : World} : ∀ (fuel : Nat) (cs : List Value) (x : DataW H × List MemPlace), cs.length = 6 →
    DataW.trod enc Tryd.prog W 0 (fun _ => true) true fuel 25 cs = some x → ∃ T : TT, T.ok ∧ ∃ v4 v5, cs = [.int .i64 T.k, .string T.nm, .int .i64 T.r, .bool T.u, v4, v5] ∧ RepI W noOwn (.rslc 1 T.m (regRow T.regs)) v4 ∧ RepI W noOwn (.rslc 6 T.n T.rows) v5 := by
  intro fuel
  induction fuel using Nat.strongRecOn with
  | _ fuel ih =>
    intro cs x hl h
    obtain ⟨xs, n, rfl, _, _, hxl, hf⟩ := DataW.trod_struct Tryd.underlying25 h
    match cs, hl with
    | [a, b, c, d, e, f], _ =>
      match xs, hxl with
      | [x0, x1, x2, x3, x4, x5], _ =>
        have f0 : DataW.trod enc Tryd.prog W 0 (fun _ => true) true n 3 ((List.drop 0 [a, b, c, d, e, f]).take (Tryd.prog.cellsOf 3)) = some x0 := hf 0 _ rfl
        have f1 : DataW.trod enc Tryd.prog W 0 (fun _ => true) true n 9 ((List.drop 1 [a, b, c, d, e, f]).take (Tryd.prog.cellsOf 9)) = some x1 := hf 1 _ rfl
        have f2 : DataW.trod enc Tryd.prog W 0 (fun _ => true) true n 3 ((List.drop 2 [a, b, c, d, e, f]).take (Tryd.prog.cellsOf 3)) = some x2 := hf 2 _ rfl
        have f3 : DataW.trod enc Tryd.prog W 0 (fun _ => true) true n 4 ((List.drop 3 [a, b, c, d, e, f]).take (Tryd.prog.cellsOf 4)) = some x3 := hf 3 _ rfl
        have f4 : DataW.trod enc Tryd.prog W 0 (fun _ => true) true n 22 ((List.drop 4 [a, b, c, d, e, f]).take (Tryd.prog.cellsOf 22)) = some x4 := hf 4 _ rfl
        have f5 : DataW.trod enc Tryd.prog W 0 (fun _ => true) true n 23 ((List.drop 5 [a, b, c, d, e, f]).take (Tryd.prog.cellsOf 23)) = some x5 := hf 5 _ rfl
        rw [show Tryd.prog.cellsOf 3 = 1 by kernel_rfl] at f0 f2
        rw [show Tryd.prog.cellsOf 9 = 1 by kernel_rfl] at f1
        rw [show Tryd.prog.cellsOf 4 = 1 by kernel_rfl] at f3
        rw [show Tryd.prog.cellsOf 22 = 1 by kernel_rfl] at f4
        rw [show Tryd.prog.cellsOf 23 = 1 by kernel_rfl] at f5
        obtain ⟨k0, e0, _⟩ := DataW.trod_int Tryd.underlying3 f0
        obtain ⟨k1, e1, _, hs⟩ := DataW.trod_string Tryd.underlying9 f1
        obtain ⟨k2, e2, _⟩ := DataW.trod_int Tryd.underlying3 f2
        obtain ⟨k3, e3, _⟩ := DataW.trod_bool Tryd.underlying4 f3
        simp at e0 e1 e2 e3
        subst e0 e1 e2 e3
        simp only [List.drop_succ_cons, List.drop_zero, List.take_succ_cons, List.take_zero] at f4 f5
        obtain ⟨m, regs, hm, hregs⟩ := trod_ints f4
        have hmax : maxLen ≤ 9223372036854775807 := by unfold maxLen; decide
        rcases DataW.trod_slice Tryd.underlying23 f5 with ⟨hc, _⟩ | ⟨ad, len, cap, elems, rest, q, rfl, hc, _, _, hlc, hcm, hel, hx, _⟩
        · simp at hc
          subst hc
          refine ⟨.mk k0 k1 k2 k3 m regs 0 (fun _ => .nul), ⟨by omega, by omega, by omega, fun i hi => absurd hi (Nat.not_lt_zero _)⟩, _, _, rfl, hregs, ?_⟩
          exact .rslc 6 0 _ none 0 0 0 (fun _ _ => .bool true) (Nat.le_refl _) (fun _ => rfl) (fun e => absurd rfl e) (fun i hi => absurd hi (Nat.not_lt_zero _)) (fun i j hi => absurd hi (Nat.not_lt_zero _)) (fun i j c hi => absurd hi (Nat.not_lt_zero _))
        · simp at hc
          subst hc
          have each : ∀ i, i < len → ∃ T : TT, T.ok ∧ ∃ us : Nat → Value, (∀ j, j < 6 → W.cell? (ad.add (i * 6 + j)) = some (us j)) ∧ ∀ j c, T.cells[j]? = some c → RepI W noOwn c (us j) := by
            intro i hi
            have key := hx i hi
            rw [List.getElem?_eq_getElem (by omega)] at key
            obtain ⟨cs', g1, g2⟩ := Option.bind_eq_some_iff.1 key
            rw [show Tryd.prog.cellsOf 25 = 6 by kernel_rfl] at g1
            obtain ⟨_, hlen, hcell⟩ := World.cells?_some g1
            obtain ⟨T, hT, v4, v5, rfl, h4, h5⟩ := ih q (by omega) cs' _ hlen g2
            refine ⟨T, hT, fun j => [.int .i64 T.k, .string T.nm, .int .i64 T.r, .bool T.u, v4, v5].getD j (.bool true), fun j hj => ?_, fun j c hc => ?_⟩
            · have := hcell j (by omega)
              rw [add_add] at this
              rw [this]
              match j, hj with
              | 0, _ => rfl
              | 1, _ => rfl
              | 2, _ => rfl
              | 3, _ => rfl
              | 4, _ => rfl
              | 5, _ => rfl
            · match j, hc with
              | 0, hc => cases hc; exact .lit _ rfl
              | 1, hc => cases hc; exact .lit _ rfl
              | 2, hc => cases hc; exact .lit _ rfl
              | 3, hc => cases hc; exact .lit _ rfl
              | 4, hc => cases hc; exact h4
              | 5, hc => cases hc; exact h5
              | j + 6, hc => cases hc
          obtain ⟨Tf, hT⟩ := choose_lt each
          refine ⟨.mk k0 k1 k2 k3 m regs len Tf, ⟨by omega, by omega, by omega, fun i hi => (hT i hi).1⟩, _, _, rfl, hregs, ?_⟩
          exact rslc_mk hlc (by decide) (fun _ _ => rfl) fun i hi => (hT i hi).2

theorem open_type {H : Type} {enc : TypeId × Value → H} {W : World} {base : Nat} {v : Value} {d : DataW H} {ps : List MemPlace} (hval : Value.okWide Tryd.prog W .any base 25 v)
    (h : DataW.Trod enc Tryd.prog W 0 (fun _ => true) true 25 v d ps) : ∃ T : TT, T.ok ∧ RepV W noOwn (fun _ => none) (.agg T.cells) v := by
  obtain ⟨cs, rfl, hsz⟩ := okWide_struct Tryd.underlying25 hval
  obtain ⟨fuel, hf⟩ := h
  have hlen : (Value.agg cs).cells.toList.length = 6 := by
    rw [show (Value.agg cs).cells = cs from rfl, Array.length_toList, hsz]
    kernel_rfl
  obtain ⟨T, hT, v4, v5, e, h4, h5⟩ := trod_type fuel _ _ hlen hf
  have e' : cs.toList = [.int .i64 T.k, .string T.nm, .int .i64 T.r, .bool T.u, v4, v5] := e
  have ec : cs = #[.int .i64 T.k, .string T.nm, .int .i64 T.r, .bool T.u, v4, v5] := by rw [← Array.toArray_toList (xs := cs), e']
  refine ⟨T, hT, cs, rfl, by rw [ec]; rfl, fun j c hc => ?_⟩
  rw [ec]
  match j, hc with
  | 0, hc => cases hc; exact ⟨_, rfl, RepI_RepC (.lit _ rfl)⟩
  | 1, hc => cases hc; exact ⟨_, rfl, RepI_RepC (.lit _ rfl)⟩
  | 2, hc => cases hc; exact ⟨_, rfl, RepI_RepC (.lit _ rfl)⟩
  | 3, hc => cases hc; exact ⟨_, rfl, RepI_RepC (.lit _ rfl)⟩
  | 4, hc => cases hc; exact ⟨_, rfl, RepI_RepC h4⟩
  | 5, hc => cases hc; exact ⟨_, rfl, RepI_RepC h5⟩
  | j + 6, hc => cases hc

/-- A type that came in reads as it did. -/
theorem type_stay {H : Type} {enc : TypeId × Value → H} {W W' : World} {v : Value} {d : DataW H} {ps : List MemPlace} {sp : Nat → Bool}
    (h : DataW.Trod enc Tryd.prog W 0 (fun _ => true) true 25 v d ps) (hb : Below W.heap.size W W') (hlt : ∀ x ∈ ps, x.block < W.heap.size) (hsp : ∀ x ∈ ps, sp x.block = true) :
    DataW.Trod enc Tryd.prog W' 0 sp true 25 v d ps :=
  WideElems.Trod_stays (by kernel_rfl) (by kernel_rfl) (of_decide_eq_true (by kernel_rfl)) h (fun x hx => hb.same (hlt x hx)) hsp
end Go.Proofs.YtkplfedpkamogaaDoor
