/- From a law's walk to its row: trees that came in. No conditions beyond those that each statement names. -/
import Derived.Test.YtdccodnompalbaaK6
import Derived.Test.YtdccodnompalbaaRows
import Derived.ProofKit
import Derived.OpenShut
import Derived.Deep.DeepHandedRow
import Derived.Deep.Slices
import Derived.ChangeArms
import Derived.Carry
import Derived.LaidSub
import Derived.LaidMore
import Derived.Lay
import Derived.SevenTiedAt
namespace Go.Proofs.Ytdccodnompalbaa
open Go.ChangeShapes Go.WideShapes Go.ChangeAt Go.RowKit Go.Deep

theorem own : ownKnob Try.prog.godebug = none := by kernel_rfl

theorem ready_of {W : World} (hS : W.ShapedOpen Try.prog) : MaxOk W := Try.laysM219.s1_3 W hS

section
variable {H : Type} {enc : TypeId × Value → H} {P : Program}
/-- The row's last step, where nothing that is read lies in memory, and the call has made new memory alone. -/
theorem post_new {f : Func} {s : ChangeSpec} {fresh handsOn again : Bool} {W W' : World} {args : Array Value} {v : Value} {ds gs : List (DataW H)}
    (hW : DataW.Whole enc P f.params.toList s.vars false W args.toList ds gs [])
    (hres : ∀ (b : Nat) (sp : Nat → Bool) (hd : Bool), DataW.TrodAll enc P W' b sp hd f.resultTypes.toList (v.resultList f.resultTypes.size) (s.fn H (ds ++ gs)).results [])
    (hargs : ∀ sp : Nat → Bool, DataW.TrodAll enc P W' 0 sp true f.params.toList args.toList (s.fn H (ds ++ gs)).args [])
    (hvars : ∀ sp : Nat → Bool, DataW.TrodVars enc P W' sp s.vars (s.fn H (ds ++ gs)).vars [])
    (hb : Below W.heap.size W W')
    (hok : ∀ (j : Nat) (t : TypeId) (r : Value), f.resultTypes[j]? = some t → (v.resultList f.resultTypes.size)[j]? = some r → Value.okWide P W' .any 0 t r) :
    s.post enc P f false fresh handsOn again W args v W' := by
  refine ⟨ds, gs, [], [], [], [], hW, hres _ _ _, hargs _, hvars _, hb.frame _, fun _ => ?_⟩
  exact ⟨hok, _, _, [], ⟨[], [], trodAll_append (hargs _) (hres _ _ _), hvars _, rfl, ⟨fun b off hp => absurd hp List.not_mem_nil, fun ha => absurd ha Bool.false_ne_true⟩⟩, fun p hp _ => absurd hp List.not_mem_nil⟩
end


/-- The witness's world. -/
noncomputable def laidW (os : Os) : World := World.laidAll Try.prog os []
theorem laidW_met (os : Os) (args : Array Value) : laidMetH Try.prog [] ((laidW os).forCall (fun _ _ => 0) ⟨#[], args, []⟩).memory := by
  rw [MakeChecks.laidMetH_plain _ _ _ (by kernel_rfl)]
  exact laidMet_laidAll _ (by kernel_rfl) (by kernel_rfl)

section
variable {H : Type} {enc : TypeId × Value → H} {P : Program}
/-- The row's last step, where the call has made new memory alone, whatever is read. -/
theorem post_below {f : Func} {s : ChangeSpec} {fresh handsOn again : Bool} {W W' : World} {args : Array Value} {v : Value} {ds gs : List (DataW H)} {before : List MemPlace}
    (hW : DataW.Whole enc P f.params.toList s.vars false W args.toList ds gs before)
    (hres : ∀ (b : Nat) (sp : Nat → Bool) (hd : Bool), DataW.TrodAll enc P W' b sp hd f.resultTypes.toList (v.resultList f.resultTypes.size) (s.fn H (ds ++ gs)).results [])
    (hargs : ∀ sp : Nat → Bool, (∀ p ∈ before, sp p.block = true) → DataW.TrodAll enc P W' 0 sp true f.params.toList args.toList (s.fn H (ds ++ gs)).args before)
    (hvars : ∀ sp : Nat → Bool, DataW.TrodVars enc P W' sp s.vars (s.fn H (ds ++ gs)).vars [])
    (hb : Below W.heap.size W W')
    (hok : ∀ (j : Nat) (t : TypeId) (r : Value), f.resultTypes[j]? = some t → (v.resultList f.resultTypes.size)[j]? = some r → Value.okWide P W' .any 0 t r) :
    s.post enc P f false fresh handsOn again W args v W' := by
  have hlt := hW.lt
  have hold : ∀ p ∈ before, (fun b => decide (b < W.heap.size)) p.block = true := fun p hp => by simpa using hlt p hp
  refine ⟨ds, gs, before, [], before, [], hW, hres _ _ _, hargs _ hold, hvars _, hb.frame _, fun _ => ?_⟩
  obtain ⟨_, _, _, _, _, hz, hn⟩ := hW
  refine ⟨hok, _, _, ([] ++ before) ++ [], ⟨[] ++ before, [], trodAll_append (hargs _ (fun _ _ => rfl)) (hres _ _ _), hvars _, rfl, ?_, ?_⟩, ?_⟩
  · intro b off hp
    have hp' : MemPlace.cell b off ∈ before := by simpa using hp
    rw [hb.frozen (p := ⟨b, off, none⟩) (hlt _ hp')]
    exact hz b off hp'
  · intro ha
    exact absurd ha Bool.false_ne_true
  · intro p hp _
    simpa using hp
end


instance : Inhabited NT := ⟨.nul⟩

/-- Five cells that read as a node are a node's. -/
theorem trod_node {H : Type} {enc : TypeId × Value → H} {W : World} : ∀ (fuel : Nat) (cs : List Value) (x : DataW H × List MemPlace), cs.length = 5 →
    DataW.trod enc Try.prog W 0 (fun _ => true) true fuel 24 cs = some x → ∃ T : NT, cs = [.int .i64 T.k, .string T.t, .int .i64 T.n, T.s, .int .i64 T.a] ∧ Lies W.heap.size W T ∧ T.sized maxLen := by
  intro fuel
  induction fuel using Nat.strongRecOn with
  | _ fuel ih =>
    intro cs x hl h
    obtain ⟨xs, n, rfl, _, _, hxl, hf⟩ := DataW.trod_struct Try.underlying24 h
    match cs, hl with
    | [a, b, c, d, e], _ =>
      match xs, hxl with
      | [x0, x1, x2, x3, x4], _ =>
        have f0 : DataW.trod enc Try.prog W 0 (fun _ => true) true n 3 ((List.drop 0 [a, b, c, d, e]).take (Try.prog.cellsOf 3)) = some x0 := hf 0 _ rfl
        have f1 : DataW.trod enc Try.prog W 0 (fun _ => true) true n 9 ((List.drop 1 [a, b, c, d, e]).take (Try.prog.cellsOf 9)) = some x1 := hf 1 _ rfl
        have f2 : DataW.trod enc Try.prog W 0 (fun _ => true) true n 2 ((List.drop 2 [a, b, c, d, e]).take (Try.prog.cellsOf 2)) = some x2 := hf 2 _ rfl
        have f3 : DataW.trod enc Try.prog W 0 (fun _ => true) true n 22 ((List.drop 3 [a, b, c, d, e]).take (Try.prog.cellsOf 22)) = some x3 := hf 3 _ rfl
        have f4 : DataW.trod enc Try.prog W 0 (fun _ => true) true n 3 ((List.drop 4 [a, b, c, d, e]).take (Try.prog.cellsOf 3)) = some x4 := hf 4 _ rfl
        rw [show Try.prog.cellsOf 3 = 1 by kernel_rfl] at f0 f4
        rw [show Try.prog.cellsOf 9 = 1 by kernel_rfl] at f1
        rw [show Try.prog.cellsOf 2 = 1 by kernel_rfl] at f2
        rw [show Try.prog.cellsOf 22 = 1 by kernel_rfl] at f3
        obtain ⟨k0, e0, _⟩ := DataW.trod_int Try.underlying3 f0
        obtain ⟨k1, e1, _, hs⟩ := DataW.trod_string Try.underlying9 f1
        obtain ⟨k2, e2, _⟩ := DataW.trod_int Try.underlying2 f2
        obtain ⟨k4, e4, _⟩ := DataW.trod_int Try.underlying3 f4
        simp at e0 e1 e2 e4
        subst e0 e1 e2 e4
        simp only [List.drop_succ_cons, List.drop_zero, List.take_succ_cons, List.take_zero] at f3
        rcases DataW.trod_slice Try.underlying22 f3 with ⟨hc, _⟩ | ⟨ad, len, cap, elems, rest, m, rfl, hc, _, _, hlc, hcm, hel, hx, _⟩
        · simp at hc
          subst hc
          exact ⟨.mk k0 k1 k2 (.slice none 0 0) 0 (fun _ => .nul) k4, rfl, ⟨none, 0, rfl, ⟨Nat.le_refl _, fun _ => rfl⟩, fun h => absurd rfl h⟩, hs, Nat.zero_le _, fun i hi => absurd hi (Nat.not_lt_zero _)⟩
        · simp at hc
          subst hc
          have each : ∀ i, i < len → ∃ T : NT, W.cell? (ad.add (i * 5)) = some (.int .i64 T.k) ∧ W.cell? (ad.add (i * 5 + 1)) = some (.string T.t) ∧ W.cell? (ad.add (i * 5 + 2)) = some (.int .i64 T.n) ∧ W.cell? (ad.add (i * 5 + 3)) = some T.s ∧ W.cell? (ad.add (i * 5 + 4)) = some (.int .i64 T.a) ∧ Lies W.heap.size W T ∧ T.sized maxLen := by
            intro i hi
            have key := hx i hi
            rw [List.getElem?_eq_getElem (by omega)] at key
            obtain ⟨cs', g1, g2⟩ := Option.bind_eq_some_iff.1 key
            rw [show Try.prog.cellsOf 24 = 5 by kernel_rfl] at g1
            obtain ⟨_, hlen, hcell⟩ := World.cells?_some g1
            obtain ⟨T, rfl, hT, hS⟩ := ih m (by omega) cs' _ hlen g2
            have c0 := hcell 0 (by omega)
            have c1 := hcell 1 (by omega)
            have c2 := hcell 2 (by omega)
            have c3 := hcell 3 (by omega)
            have c4 := hcell 4 (by omega)
            rw [add_add] at c0 c1 c2 c3 c4
            exact ⟨T, by simpa using c0, by simpa using c1, by simpa using c2, by simpa using c3, by simpa using c4, hT, hS⟩
          obtain ⟨Tf, hT⟩ := choose_lt each
          refine ⟨.mk k0 k1 k2 (.slice (some ad) len cap) len Tf k4, rfl, ⟨some ad, cap, rfl, ⟨hlc, fun h => (by cases h)⟩, fun hne => ?_⟩, hs, by omega, fun i hi => (hT i hi).2.2.2.2.2.2⟩
          have h0 : 0 < len := Nat.pos_of_ne_zero hne
          obtain ⟨ab, ao, spot⟩ := ad
          have hsp : spot = none := by simpa [Addr.add] using World.cell?_spot (hT 0 h0).1
          subst hsp
          refine ⟨ab, ao, rfl, World.block_lt_of_cell? _ _ (hT 0 h0).1, fun i hi => ⟨?_, (hT i hi).2.2.2.2.2.1⟩⟩
          have q := hT i hi
          simp only [Addr.add_lit] at q
          exact ⟨q.1, q.2.1, q.2.2.1, q.2.2.2.1, q.2.2.2.2.1⟩

theorem open_node {H : Type} {enc : TypeId × Value → H} {W : World} {base : Nat} {v : Value} {d : DataW H} {ps : List MemPlace} (hval : Value.okWide Try.prog W .any base 24 v)
    (h : DataW.Trod enc Try.prog W 0 (fun _ => true) true 24 v d ps) : ∃ T : NT, v = T.val ∧ Lies W.heap.size W T ∧ T.sized maxLen := by
  obtain ⟨cs, rfl, hsz⟩ := okWide_struct Try.underlying24 hval
  obtain ⟨fuel, hf⟩ := h
  have hlen : (Value.agg cs).cells.toList.length = 5 := by
    rw [show (Value.agg cs).cells = cs from rfl, Array.length_toList, hsz]
    kernel_rfl
  obtain ⟨T, e, hL, hS⟩ := trod_node fuel _ _ hlen hf
  refine ⟨T, ?_, hL, hS⟩
  have e' : cs.toList = [.int .i64 T.k, .string T.t, .int .i64 T.n, T.s, .int .i64 T.a] := e
  have : cs = #[.int .i64 T.k, .string T.t, .int .i64 T.n, T.s, .int .i64 T.a] := by rw [← Array.toArray_toList (xs := cs), e']
  rw [this]
  rfl

/-- A node that came in reads as it did. -/
theorem node_stay {H : Type} {enc : TypeId × Value → H} {W W' : World} {v : Value} {d : DataW H} {ps : List MemPlace} {sp : Nat → Bool}
    (h : DataW.Trod enc Try.prog W 0 (fun _ => true) true 24 v d ps) (hb : Below W.heap.size W W') (hlt : ∀ x ∈ ps, x.block < W.heap.size) (hsp : ∀ x ∈ ps, sp x.block = true) :
    DataW.Trod enc Try.prog W' 0 sp true 24 v d ps :=
  WideElems.Trod_stays (by kernel_rfl) (by kernel_rfl) (of_decide_eq_true (by kernel_rfl)) h (fun x hx => hb.same (hlt x hx)) hsp
end Go.Proofs.Ytdccodnompalbaa
