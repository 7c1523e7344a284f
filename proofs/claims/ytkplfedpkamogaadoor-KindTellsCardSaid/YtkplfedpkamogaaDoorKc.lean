/- The document's example. Conditions: those that each statement names. -/
import Derived.Test.YtkplfedpkamogaaDoorKa
import Derived.Test.YtkplfedpkamogaaDoorDd
import Derived.Test.YtkplfedpkamogaaDoorKb

namespace Go.Proofs.Kd
open Go Go.Proofs.De Go.Proofs.Tryd
set_option maxRecDepth 100000
set_option maxHeartbeats 4000000

def x0 : ByteArray := ⟨⟨[38, 39, 51, 32, 109, 117, 116, 32, 66, 111, 120, 91, 76, 105, 115, 116, 60, 39, 49, 44, 32, 39, 50, 62, 93]⟩⟩
def x1 : ByteArray := ⟨⟨[39, 51, 32, 109, 117, 116, 32, 66, 111, 120, 91, 76, 105, 115, 116, 60, 39, 49, 44, 32, 39, 50, 62, 93]⟩⟩
def x1r : ByteArray := ⟨⟨[32, 109, 117, 116, 32, 66, 111, 120, 91, 76, 105, 115, 116, 60, 39, 49, 44, 32, 39, 50, 62, 93]⟩⟩
def x2 : ByteArray := ⟨⟨[39, 49, 44, 32, 39, 50, 62, 93]⟩⟩
def x2r : ByteArray := ⟨⟨[44, 32, 39, 50, 62, 93]⟩⟩
def x3 : ByteArray := ⟨⟨[39, 50, 62, 93]⟩⟩
def x3r : ByteArray := ⟨⟨[62, 93]⟩⟩
def y3 : ByteArray := ⟨⟨[76, 105, 115, 116, 60, 39, 49, 44, 32, 39, 50, 62, 93]⟩⟩
def yn : ByteArray := ⟨⟨[76, 105, 115, 116]⟩⟩
def yr : ByteArray := ⟨⟨[60, 39, 49, 44, 32, 39, 50, 62, 93]⟩⟩
def y2 : ByteArray := ⟨⟨[66, 111, 120, 91, 76, 105, 115, 116, 60, 39, 49, 44, 32, 39, 50, 62, 93]⟩⟩
def yb : ByteArray := ⟨⟨[93]⟩⟩
def ye : ByteArray := ⟨⟨[]⟩⟩
def regs12 (i : Nat) : Int := match i with | 0 => 1 | _ => 2
/-- A list of types. -/
def T3 (d : TT) : TT := .mk 7 yn 0 false 2 regs12 0 fun _ => d
def T2 (d : TT) : TT := .mk 5 ye 0 false 0 (fun _ => 0) 1 fun _ => T3 d
def T1 (d : TT) : TT := .mk 4 ye 3 true 0 (fun _ => 0) 1 fun _ => T2 d
theorem rowsL {wd n : Nat} {row row' : Nat → List AV} (h : ∀ i, i < n → leI (row i) (row' i)) (hl : ∀ i, i < n → (row i).length = wd) : AVle (.rslc wd n row) (.rslc wd n row') := by
  refine .rows wd n row row' hl (fun i hi => (leI_at (h i hi)).1.trans (hl i hi)) fun i j hi hj => ?_
  obtain ⟨e1, e2⟩ := leI_at (h i hi)
  have hj' : j < (row' i).length := by rw [e1, hl i hi]; exact hj
  obtain ⟨c, q1, q2⟩ := e2 j _ (List.getElem?_eq_getElem hj')
  rw [nth_at q1, nth_at (List.getElem?_eq_getElem hj')]
  exact q2
theorem rows1 {wd : Nat} {row row' : Nat → List AV} (h : leI (row 0) (row' 0)) (hl : (row 0).length = wd) : AVle (.rslc wd 1 row) (.rslc wd 1 row') :=
  rowsL (fun i hi => by obtain rfl : i = 0 := by omega
                        exact h) (fun i hi => by obtain rfl : i = 0 := by omega
                                                 exact hl)
theorem region1_ok (g : Gl) : PureCall (XX g) 72 [.lit (.string x1)] (.tup [.lit (.int .i64 3), .lit (.string x1r), .lit (.bool true)]) := by
  intro M
  refine SimCall.closed (fn := f72) func72 (by decide) ?_
  conv => whnf
  repeat (first | (refine Need.mk rfl ?_; conv => whnf) | (refine Need.mk (by decide) ?_; conv => whnf) | (refine Need.mk (of_decide_eq_true rfl) ?_; conv => whnf) | (refine SimCall.closed rfl rfl ?_; conv => whnf) | (refine LoopK.closed 1000 ?_; conv => whnf) | (refine DrawK.run 20 (show prog.follows .mixedOrders = true by decide) ?_; conv => whnf) | (apply HopK.full; intro M; conv => whnf) | exact ⟨rfl, [], congrArg (List.cons _) (List.append_nil _).symm⟩ | (refine CellsK.mk ⟨_, rfl, ?_⟩; conv => whnf) | (refine Need.mk ⟨rfl, rfl⟩ ?_; conv => whnf) | (refine Need.mk ⟨rfl, rfl, rfl, Nat.le_refl _⟩ ?_; conv => whnf) | (refine Need.mk ⟨rfl, of_decide_eq_true rfl⟩ ?_; conv => whnf) | (refine Need.mk ⟨rfl, of_decide_eq_true rfl, of_decide_eq_true rfl⟩ ?_; conv => whnf) | (refine Need.mk ⟨rfl, rfl, of_decide_eq_true rfl⟩ ?_; conv => whnf) | (refine BytesK.told ?_; conv => whnf))
  exact ⟨rfl, rfl⟩
theorem region2_ok (g : Gl) : PureCall (XX g) 72 [.lit (.string x2)] (.tup [.lit (.int .i64 1), .lit (.string x2r), .lit (.bool true)]) := by
  intro M
  refine SimCall.closed (fn := f72) func72 (by decide) ?_
  conv => whnf
  repeat (first | (refine Need.mk rfl ?_; conv => whnf) | (refine Need.mk (by decide) ?_; conv => whnf) | (refine Need.mk (of_decide_eq_true rfl) ?_; conv => whnf) | (refine SimCall.closed rfl rfl ?_; conv => whnf) | (refine LoopK.closed 1000 ?_; conv => whnf) | (refine DrawK.run 20 (show prog.follows .mixedOrders = true by decide) ?_; conv => whnf) | (apply HopK.full; intro M; conv => whnf) | exact ⟨rfl, [], congrArg (List.cons _) (List.append_nil _).symm⟩ | (refine CellsK.mk ⟨_, rfl, ?_⟩; conv => whnf) | (refine Need.mk ⟨rfl, rfl⟩ ?_; conv => whnf) | (refine Need.mk ⟨rfl, rfl, rfl, Nat.le_refl _⟩ ?_; conv => whnf) | (refine Need.mk ⟨rfl, of_decide_eq_true rfl⟩ ?_; conv => whnf) | (refine Need.mk ⟨rfl, of_decide_eq_true rfl, of_decide_eq_true rfl⟩ ?_; conv => whnf) | (refine Need.mk ⟨rfl, rfl, of_decide_eq_true rfl⟩ ?_; conv => whnf) | (refine BytesK.told ?_; conv => whnf))
  exact ⟨rfl, rfl⟩
theorem region3_ok (g : Gl) : PureCall (XX g) 72 [.lit (.string x3)] (.tup [.lit (.int .i64 2), .lit (.string x3r), .lit (.bool true)]) := by
  intro M
  refine SimCall.closed (fn := f72) func72 (by decide) ?_
  conv => whnf
  repeat (first | (refine Need.mk rfl ?_; conv => whnf) | (refine Need.mk (by decide) ?_; conv => whnf) | (refine Need.mk (of_decide_eq_true rfl) ?_; conv => whnf) | (refine SimCall.closed rfl rfl ?_; conv => whnf) | (refine LoopK.closed 1000 ?_; conv => whnf) | (refine DrawK.run 20 (show prog.follows .mixedOrders = true by decide) ?_; conv => whnf) | (apply HopK.full; intro M; conv => whnf) | exact ⟨rfl, [], congrArg (List.cons _) (List.append_nil _).symm⟩ | (refine CellsK.mk ⟨_, rfl, ?_⟩; conv => whnf) | (refine Need.mk ⟨rfl, rfl⟩ ?_; conv => whnf) | (refine Need.mk ⟨rfl, rfl, rfl, Nat.le_refl _⟩ ?_; conv => whnf) | (refine Need.mk ⟨rfl, of_decide_eq_true rfl⟩ ?_; conv => whnf) | (refine Need.mk ⟨rfl, of_decide_eq_true rfl, of_decide_eq_true rfl⟩ ?_; conv => whnf) | (refine Need.mk ⟨rfl, rfl, of_decide_eq_true rfl⟩ ?_; conv => whnf) | (refine BytesK.told ?_; conv => whnf))
  exact ⟨rfl, rfl⟩
theorem name3_ok (g : Gl) : PureCall (XX g) 63 [.lit (.string y3)] (.tup [.lit (.string yn), .lit (.string yr)]) := by
  intro M
  refine SimCall.closed (fn := f63) func63 (by decide) ?_
  conv => whnf
  repeat (first | (refine Need.mk rfl ?_; conv => whnf) | (refine Need.mk (by decide) ?_; conv => whnf) | (refine Need.mk (of_decide_eq_true rfl) ?_; conv => whnf) | (refine (isLetter_ok g _).use rfl rfl ?_; conv => whnf) | (refine SimCall.closed rfl rfl ?_; conv => whnf) | (refine LoopK.closed 1000 ?_; conv => whnf) | (refine DrawK.run 20 (show prog.follows .mixedOrders = true by decide) ?_; conv => whnf) | (apply HopK.full; intro M; conv => whnf) | exact ⟨rfl, [], congrArg (List.cons _) (List.append_nil _).symm⟩ | (refine CellsK.mk ⟨_, rfl, ?_⟩; conv => whnf) | (refine Need.mk ⟨rfl, rfl⟩ ?_; conv => whnf) | (refine Need.mk ⟨rfl, rfl, rfl, Nat.le_refl _⟩ ?_; conv => whnf) | (refine Need.mk ⟨rfl, of_decide_eq_true rfl⟩ ?_; conv => whnf) | (refine Need.mk ⟨rfl, of_decide_eq_true rfl, of_decide_eq_true rfl⟩ ?_; conv => whnf) | (refine Need.mk ⟨rfl, rfl, of_decide_eq_true rfl⟩ ?_; conv => whnf) | (refine BytesK.told ?_; conv => whnf))
  exact ⟨rfl, rfl⟩
theorem regs3_ok (g : Gl) : PureCall (XX g) 64 [.lit (.string yr)] (.tup [.rslc 1 2 (regRow regs12), .lit (.string yb), .lit (.bool true)]) := by
  refine PureCall.frz fun M => ?_
  refine SimCall.closed (fn := f64) func64 (by decide) ?_
  conv => whnf
  repeat (first | (refine Need.mk rfl ?_; conv => whnf) | (refine Need.mk (by decide) ?_; conv => whnf) | (refine Need.mk (of_decide_eq_true rfl) ?_; conv => whnf) | (refine (region2_ok g).use rfl rfl ?_; conv => whnf) | (refine (region3_ok g).use rfl rfl ?_; conv => whnf) | (refine SimCall.closed rfl rfl ?_; conv => whnf) | (refine LoopK.closed 1000 ?_; conv => whnf) | (refine DrawK.run 20 (show prog.follows .mixedOrders = true by decide) ?_; conv => whnf) | (apply HopK.full; intro M; conv => whnf) | exact ⟨rfl, [], congrArg (List.cons _) (List.append_nil _).symm⟩ | (refine CellsK.mk ⟨_, rfl, ?_⟩; conv => whnf) | (refine Need.mk ⟨rfl, rfl⟩ ?_; conv => whnf) | (refine Need.mk ⟨rfl, rfl, rfl, Nat.le_refl _⟩ ?_; conv => whnf) | (refine Need.mk ⟨rfl, of_decide_eq_true rfl⟩ ?_; conv => whnf) | (refine Need.mk ⟨rfl, of_decide_eq_true rfl, of_decide_eq_true rfl⟩ ?_; conv => whnf) | (refine Need.mk ⟨rfl, rfl, of_decide_eq_true rfl⟩ ?_; conv => whnf) | (refine BytesK.told ?_; conv => whnf))
  refine ⟨rfl, ?_⟩
  conv => whnf
  repeat (first | (refine Need.mk (of_decide_eq_true rfl) ?_; conv => whnf))
  refine ⟨rowsL (fun i hi => ?_) (fun i hi => ?_), ?_⟩
  · match i, hi with
    | 0, _ => exact ⟨.refl _, trivial⟩
    | 1, _ => exact ⟨.refl _, trivial⟩
  · match i, hi with
    | 0, _ => rfl
    | 1, _ => rfl
  · conv => whnf
    repeat (first | (refine And.intro (AVle.refl _) ?_; conv => whnf))
    rfl
theorem read3_ok (g : Gl) (d : TT) : PureCall (XX g) 43 [.lit (.string y3), .lit (.int .i64 3)] (.tup [.agg (T3 d).cells, .lit (.string yb), .lit (.bool true)]) := by
  refine PureCall.frz fun M => ?_
  refine SimCall.closed (fn := f43) func43 (by decide) ?_
  conv => whnf
  repeat (first | (refine Need.mk rfl ?_; conv => whnf) | (refine Need.mk (by decide) ?_; conv => whnf) | (refine Need.mk (of_decide_eq_true rfl) ?_; conv => whnf) | (refine (name3_ok g).use rfl rfl ?_; conv => whnf) | (refine (regs3_ok g).use rfl rfl ?_; conv => whnf) | (refine SimCall.closed rfl rfl ?_; conv => whnf) | (refine LoopK.closed 1000 ?_; conv => whnf) | (refine DrawK.run 20 (show prog.follows .mixedOrders = true by decide) ?_; conv => whnf) | (apply HopK.full; intro M; conv => whnf) | exact ⟨rfl, [], congrArg (List.cons _) (List.append_nil _).symm⟩ | (refine CellsK.mk ⟨_, rfl, ?_⟩; conv => whnf) | (refine Need.mk ⟨rfl, rfl⟩ ?_; conv => whnf) | (refine Need.mk ⟨rfl, rfl, rfl, Nat.le_refl _⟩ ?_; conv => whnf) | (refine Need.mk ⟨rfl, of_decide_eq_true rfl⟩ ?_; conv => whnf) | (refine Need.mk ⟨rfl, of_decide_eq_true rfl, of_decide_eq_true rfl⟩ ?_; conv => whnf) | (refine Need.mk ⟨rfl, rfl, of_decide_eq_true rfl⟩ ?_; conv => whnf) | (refine BytesK.told ?_; conv => whnf))
  refine ⟨rfl, ?_⟩
  conv => whnf
  repeat (first | (refine Need.mk (of_decide_eq_true rfl) ?_; conv => whnf))
  refine And.intro ⟨.refl _, .refl _, .refl _, .refl _, .refl _, .nil _ _, trivial⟩ ?_
  conv => whnf
  repeat (first | (refine And.intro (AVle.refl _) ?_; conv => whnf))
  rfl
theorem in2_ok (g : Gl) (d : TT) : PureCall (XX g) 62 [.lit (.int .i64 5), .lit (.string y3), .lit (.int .i64 2)] (.tup [.agg (T2 d).cells, .lit (.string ye), .lit (.bool true)]) := by
  refine PureCall.frz fun M => ?_
  refine SimCall.closed (fn := f62) func62 (by decide) ?_
  conv => whnf
  repeat (first | (refine Need.mk rfl ?_; conv => whnf) | (refine Need.mk (by decide) ?_; conv => whnf) | (refine Need.mk (of_decide_eq_true rfl) ?_; conv => whnf) | (refine (read3_ok g d).use rfl rfl ?_; conv => whnf) | (refine SimCall.closed rfl rfl ?_; conv => whnf) | (refine LoopK.closed 1000 ?_; conv => whnf) | (refine DrawK.run 20 (show prog.follows .mixedOrders = true by decide) ?_; conv => whnf) | (apply HopK.full; intro M; conv => whnf) | exact ⟨rfl, [], congrArg (List.cons _) (List.append_nil _).symm⟩ | (refine CellsK.mk ⟨_, rfl, ?_⟩; conv => whnf) | (refine Need.mk ⟨rfl, rfl⟩ ?_; conv => whnf) | (refine Need.mk ⟨rfl, rfl, rfl, Nat.le_refl _⟩ ?_; conv => whnf) | (refine Need.mk ⟨rfl, of_decide_eq_true rfl⟩ ?_; conv => whnf) | (refine Need.mk ⟨rfl, of_decide_eq_true rfl, of_decide_eq_true rfl⟩ ?_; conv => whnf) | (refine Need.mk ⟨rfl, rfl, of_decide_eq_true rfl⟩ ?_; conv => whnf) | (refine BytesK.told ?_; conv => whnf))
  refine ⟨rfl, ?_⟩
  conv => whnf
  repeat (first | (refine Need.mk (of_decide_eq_true rfl) ?_; conv => whnf))
  refine And.intro ⟨.refl _, .refl _, .refl _, .refl _, .nil _ _, rows1 ⟨.refl _, .refl _, .refl _, .refl _, .refl _, .refl _, trivial⟩ rfl, trivial⟩ ?_
  conv => whnf
  repeat (first | (refine And.intro (AVle.refl _) ?_; conv => whnf))
  rfl
theorem read2_ok (g : Gl) (d : TT) : PureCall (XX g) 43 [.lit (.string y2), .lit (.int .i64 2)] (.tup [.agg (T2 d).cells, .lit (.string ye), .lit (.bool true)]) := by
  refine PureCall.frz fun M => ?_
  refine SimCall.closed (fn := f43) func43 (by decide) ?_
  conv => whnf
  repeat (first | (refine Need.mk rfl ?_; conv => whnf) | (refine Need.mk (by decide) ?_; conv => whnf) | (refine Need.mk (of_decide_eq_true rfl) ?_; conv => whnf) | (refine (in2_ok g d).use rfl rfl ?_; conv => whnf) | (refine SimCall.closed rfl rfl ?_; conv => whnf) | (refine LoopK.closed 1000 ?_; conv => whnf) | (refine DrawK.run 20 (show prog.follows .mixedOrders = true by decide) ?_; conv => whnf) | (apply HopK.full; intro M; conv => whnf) | exact ⟨rfl, [], congrArg (List.cons _) (List.append_nil _).symm⟩ | (refine CellsK.mk ⟨_, rfl, ?_⟩; conv => whnf) | (refine Need.mk ⟨rfl, rfl⟩ ?_; conv => whnf) | (refine Need.mk ⟨rfl, rfl, rfl, Nat.le_refl _⟩ ?_; conv => whnf) | (refine Need.mk ⟨rfl, of_decide_eq_true rfl⟩ ?_; conv => whnf) | (refine Need.mk ⟨rfl, of_decide_eq_true rfl, of_decide_eq_true rfl⟩ ?_; conv => whnf) | (refine Need.mk ⟨rfl, rfl, of_decide_eq_true rfl⟩ ?_; conv => whnf) | (refine BytesK.told ?_; conv => whnf))
  refine ⟨rfl, ?_⟩
  conv => whnf
  repeat (first | (refine Need.mk (of_decide_eq_true rfl) ?_; conv => whnf))
  refine And.intro ⟨.refl _, .refl _, .refl _, .refl _, .refl _, .refl _, trivial⟩ ?_
  conv => whnf
  repeat (first | (refine And.intro (AVle.refl _) ?_; conv => whnf))
  rfl
theorem ref1_ok (g : Gl) (d : TT) : PureCall (XX g) 61 [.lit (.string x1), .lit (.int .i64 1)] (.tup [.agg (T1 d).cells, .lit (.string ye), .lit (.bool true)]) := by
  refine PureCall.frz fun M => ?_
  refine SimCall.closed (fn := f61) func61 (by decide) ?_
  conv => whnf
  repeat (first | (refine Need.mk rfl ?_; conv => whnf) | (refine Need.mk (by decide) ?_; conv => whnf) | (refine Need.mk (of_decide_eq_true rfl) ?_; conv => whnf) | (refine (region1_ok g).use rfl rfl ?_; conv => whnf) | (refine (read2_ok g d).use rfl rfl ?_; conv => whnf) | (refine SimCall.closed rfl rfl ?_; conv => whnf) | (refine LoopK.closed 1000 ?_; conv => whnf) | (refine DrawK.run 20 (show prog.follows .mixedOrders = true by decide) ?_; conv => whnf) | (apply HopK.full; intro M; conv => whnf) | exact ⟨rfl, [], congrArg (List.cons _) (List.append_nil _).symm⟩ | (refine CellsK.mk ⟨_, rfl, ?_⟩; conv => whnf) | (refine Need.mk ⟨rfl, rfl⟩ ?_; conv => whnf) | (refine Need.mk ⟨rfl, rfl, rfl, Nat.le_refl _⟩ ?_; conv => whnf) | (refine Need.mk ⟨rfl, of_decide_eq_true rfl⟩ ?_; conv => whnf) | (refine Need.mk ⟨rfl, of_decide_eq_true rfl, of_decide_eq_true rfl⟩ ?_; conv => whnf) | (refine Need.mk ⟨rfl, rfl, of_decide_eq_true rfl⟩ ?_; conv => whnf) | (refine BytesK.told ?_; conv => whnf))
  refine ⟨rfl, ?_⟩
  conv => whnf
  repeat (first | (refine Need.mk (of_decide_eq_true rfl) ?_; conv => whnf))
  refine And.intro ⟨.refl _, .refl _, .refl _, .refl _, .nil _ _, rows1 ⟨.refl _, .refl _, .refl _, .refl _, .refl _, .refl _, trivial⟩ rfl, trivial⟩ ?_
  conv => whnf
  repeat (first | (refine And.intro (AVle.refl _) ?_; conv => whnf))
  rfl
theorem read1_ok (g : Gl) (d : TT) : PureCall (XX g) 43 [.lit (.string x0), .lit (.int .i64 1)] (.tup [.agg (T1 d).cells, .lit (.string ye), .lit (.bool true)]) := by
  refine PureCall.frz fun M => ?_
  refine SimCall.closed (fn := f43) func43 (by decide) ?_
  conv => whnf
  repeat (first | (refine Need.mk rfl ?_; conv => whnf) | (refine Need.mk (by decide) ?_; conv => whnf) | (refine Need.mk (of_decide_eq_true rfl) ?_; conv => whnf) | (refine (ref1_ok g d).use rfl rfl ?_; conv => whnf) | (refine SimCall.closed rfl rfl ?_; conv => whnf) | (refine LoopK.closed 1000 ?_; conv => whnf) | (refine DrawK.run 20 (show prog.follows .mixedOrders = true by decide) ?_; conv => whnf) | (apply HopK.full; intro M; conv => whnf) | exact ⟨rfl, [], congrArg (List.cons _) (List.append_nil _).symm⟩ | (refine CellsK.mk ⟨_, rfl, ?_⟩; conv => whnf) | (refine Need.mk ⟨rfl, rfl⟩ ?_; conv => whnf) | (refine Need.mk ⟨rfl, rfl, rfl, Nat.le_refl _⟩ ?_; conv => whnf) | (refine Need.mk ⟨rfl, of_decide_eq_true rfl⟩ ?_; conv => whnf) | (refine Need.mk ⟨rfl, of_decide_eq_true rfl, of_decide_eq_true rfl⟩ ?_; conv => whnf) | (refine Need.mk ⟨rfl, rfl, of_decide_eq_true rfl⟩ ?_; conv => whnf) | (refine BytesK.told ?_; conv => whnf))
  refine ⟨rfl, ?_⟩
  conv => whnf
  repeat (first | (refine Need.mk (of_decide_eq_true rfl) ?_; conv => whnf))
  refine And.intro ⟨.refl _, .refl _, .refl _, .refl _, .refl _, .refl _, trivial⟩ ?_
  conv => whnf
  repeat (first | (refine And.intro (AVle.refl _) ?_; conv => whnf))
  rfl
end Go.Proofs.Kd

namespace Go.Proofs.Kd
open Go Go.Proofs.De Go.Proofs.Tryd
set_option maxRecDepth 100000
set_option maxHeartbeats 4000000
theorem depth1_ok (g : Gl) (d : TT) : PureCall (XX g) 20 [.agg (T1 d).cells] (.lit (.int .i64 3)) := by
  intro M
  refine SimCall.closed (fn := f20) func20 (by decide) ?_
  conv => whnf
  repeat (first | (refine Need.mk rfl ?_; conv => whnf) | (refine Need.mk (by decide) ?_; conv => whnf) | (refine Need.mk (of_decide_eq_true rfl) ?_; conv => whnf) | (refine SimCall.closed rfl rfl ?_; conv => whnf) | (refine LoopK.closed 1000 ?_; conv => whnf) | (refine DrawK.run 20 (show prog.follows .mixedOrders = true by decide) ?_; conv => whnf) | (apply HopK.full; intro M; conv => whnf) | exact ⟨rfl, [], congrArg (List.cons _) (List.append_nil _).symm⟩ | (refine CellsK.mk ⟨_, rfl, ?_⟩; conv => whnf) | (refine Need.mk ⟨rfl, rfl⟩ ?_; conv => whnf) | (refine Need.mk ⟨rfl, rfl, rfl, Nat.le_refl _⟩ ?_; conv => whnf) | (refine Need.mk ⟨rfl, of_decide_eq_true rfl⟩ ?_; conv => whnf) | (refine Need.mk ⟨rfl, of_decide_eq_true rfl, of_decide_eq_true rfl⟩ ?_; conv => whnf) | (refine Need.mk ⟨rfl, rfl, of_decide_eq_true rfl⟩ ?_; conv => whnf) | (refine BytesK.told ?_; conv => whnf))
  exact ⟨rfl, rfl⟩
theorem ends1_ok (g : Gl) (d : TT) : PureCall (XX g) 41 [.agg (T1 d).cells] (.lit (.bool true)) := by
  intro M
  refine SimCall.closed (fn := f41) func41 (by decide) ?_
  conv => whnf
  repeat (first | (refine Need.mk rfl ?_; conv => whnf) | (refine Need.mk (by decide) ?_; conv => whnf) | (refine Need.mk (of_decide_eq_true rfl) ?_; conv => whnf) | (refine SimCall.closed rfl rfl ?_; conv => whnf) | (refine LoopK.closed 1000 ?_; conv => whnf) | (refine DrawK.run 20 (show prog.follows .mixedOrders = true by decide) ?_; conv => whnf) | (apply HopK.full; intro M; conv => whnf) | exact ⟨rfl, [], congrArg (List.cons _) (List.append_nil _).symm⟩ | (refine CellsK.mk ⟨_, rfl, ?_⟩; conv => whnf) | (refine Need.mk ⟨rfl, rfl⟩ ?_; conv => whnf) | (refine Need.mk ⟨rfl, rfl, rfl, Nat.le_refl _⟩ ?_; conv => whnf) | (refine Need.mk ⟨rfl, of_decide_eq_true rfl⟩ ?_; conv => whnf) | (refine Need.mk ⟨rfl, of_decide_eq_true rfl, of_decide_eq_true rfl⟩ ?_; conv => whnf) | (refine Need.mk ⟨rfl, rfl, of_decide_eq_true rfl⟩ ?_; conv => whnf) | (refine BytesK.told ?_; conv => whnf))
  exact ⟨rfl, rfl⟩
def regs312 (i : Nat) : Int := match i with | 0 => 3 | 1 => 1 | _ => 2
theorem regions1_ok (g : Gl) (d : TT) : PureCall (XX g) 18 [.agg (T1 d).cells] (.rslc 1 3 (regRow regs312)) := by
  refine PureCall.frz fun M => ?_
  refine SimCall.closed (fn := f18) func18 (by decide) ?_
  conv => whnf
  repeat (first | (refine Need.mk rfl ?_; conv => whnf) | (refine Need.mk (by decide) ?_; conv => whnf) | (refine Need.mk (of_decide_eq_true rfl) ?_; conv => whnf) | (refine (ends1_ok g d).use rfl rfl ?_; conv => whnf) | (refine SimCall.closed rfl rfl ?_; conv => whnf) | (refine LoopK.closed 1000 ?_; conv => whnf) | (refine DrawK.run 20 (show prog.follows .mixedOrders = true by decide) ?_; conv => whnf) | (apply HopK.full; intro M; conv => whnf) | exact ⟨rfl, [], congrArg (List.cons _) (List.append_nil _).symm⟩ | (refine CellsK.mk ⟨_, rfl, ?_⟩; conv => whnf) | (refine Need.mk ⟨rfl, rfl⟩ ?_; conv => whnf) | (refine Need.mk ⟨rfl, rfl, rfl, Nat.le_refl _⟩ ?_; conv => whnf) | (refine Need.mk ⟨rfl, of_decide_eq_true rfl⟩ ?_; conv => whnf) | (refine Need.mk ⟨rfl, of_decide_eq_true rfl, of_decide_eq_true rfl⟩ ?_; conv => whnf) | (refine Need.mk ⟨rfl, rfl, of_decide_eq_true rfl⟩ ?_; conv => whnf) | (refine BytesK.told ?_; conv => whnf))
  refine ⟨rfl, ?_⟩
  conv => whnf
  repeat (first | (refine Need.mk (of_decide_eq_true rfl) ?_; conv => whnf))
  refine ⟨rowsL (fun i hi => ?_) (fun i hi => ?_), ?_⟩
  · match i, hi with
    | 0, _ => exact ⟨.refl _, trivial⟩
    | 1, _ => exact ⟨.refl _, trivial⟩
    | 2, _ => exact ⟨.refl _, trivial⟩
  · match i, hi with
    | 0, _ => rfl
    | 1, _ => rfl
    | 2, _ => rfl
  · rfl
end Go.Proofs.Kd

namespace Go.Proofs.Kd
open Go Go.Proofs.De Go.Proofs.Tryd
set_option maxRecDepth 100000
set_option maxHeartbeats 4000000
/-- So many bytes of the text, as a row. -/
def xrow (n : Nat) : Ob := .row 5 1 ((x0.data.toList.take n).map fun b => [.lit (.int .u8 b.toNat)])
theorem sregs (g : Gl) (_d : TT) : HeapCall (XX g) 59 [.slc 1 1 0 16, .rslc 1 2 (regRow regs12)] [xrow 16] (.slc 2 1 0 24) [.none, xrow 24] := by
  intro M
  refine SimCall.pick [(0, true), (1, false), (11, true)] rfl rfl ?_
  refine SimCall.closedR (fn := f59) func59 (by decide) ?_
  conv => whnf
  repeat (first | (refine Need.mk rfl ?_; conv => whnf) | (refine Need.mk (by decide) ?_; conv => whnf) | (refine Need.mk (of_decide_eq_true rfl) ?_; conv => whnf) | (refine SimCall.closedR rfl rfl ?_; conv => whnf) | (refine LoopK.closed 1000 ?_; conv => whnf) | (refine DrawK.run 30 (show prog.follows .mixedOrders = true by decide) ?_; conv => whnf) | (apply HopK.told; intro M; conv => whnf) | exact ⟨rfl, [], congrArg (List.cons _) (List.append_nil _).symm⟩ | (refine CellsK.mk ⟨_, rfl, ?_⟩; conv => whnf) | (refine Need.mk ⟨rfl, rfl⟩ ?_; conv => whnf) | (refine Need.mk ⟨rfl, rfl, rfl, Nat.le_refl _⟩ ?_; conv => whnf) | (refine Need.mk ⟨rfl, of_decide_eq_true rfl⟩ ?_; conv => whnf) | (refine Need.mk ⟨rfl, of_decide_eq_true rfl, of_decide_eq_true rfl⟩ ?_; conv => whnf) | (refine Need.mk ⟨rfl, rfl, of_decide_eq_true rfl⟩ ?_; conv => whnf) | (refine BytesK.told ?_; conv => whnf))
  all_goals exact ⟨rfl, [], rfl⟩
theorem sT3 (g : Gl) (d : TT) : HeapCall (XX g) 42 [.slc 1 1 0 12, .agg (T3 d).cells] [xrow 12] (.slc 2 1 0 24) [.none, xrow 24] := by
  intro M
  refine SimCall.pick [(0, true), (1, false), (4, true)] rfl rfl ?_
  refine SimCall.closedR (fn := f42) func42 (by decide) ?_
  conv => whnf
  repeat (first | (refine Need.mk rfl ?_; conv => whnf) | (refine Need.mk (by decide) ?_; conv => whnf) | (refine Need.mk (of_decide_eq_true rfl) ?_; conv => whnf) | (refine HeapCall.use [1] (sregs g d) rfl rfl (by decide) ?_; conv => whnf) | (refine SimCall.closedR rfl rfl ?_; conv => whnf) | (refine LoopK.closed 1000 ?_; conv => whnf) | (refine DrawK.run 30 (show prog.follows .mixedOrders = true by decide) ?_; conv => whnf) | (apply HopK.told; intro M; conv => whnf) | exact ⟨rfl, [], congrArg (List.cons _) (List.append_nil _).symm⟩ | (refine CellsK.mk ⟨_, rfl, ?_⟩; conv => whnf) | (refine Need.mk ⟨rfl, rfl⟩ ?_; conv => whnf) | (refine Need.mk ⟨rfl, rfl, rfl, Nat.le_refl _⟩ ?_; conv => whnf) | (refine Need.mk ⟨rfl, of_decide_eq_true rfl⟩ ?_; conv => whnf) | (refine Need.mk ⟨rfl, of_decide_eq_true rfl, of_decide_eq_true rfl⟩ ?_; conv => whnf) | (refine Need.mk ⟨rfl, rfl, of_decide_eq_true rfl⟩ ?_; conv => whnf) | (refine BytesK.told ?_; conv => whnf))
  all_goals exact ⟨rfl, [], rfl⟩
theorem sH2 (g : Gl) (d : TT) : HeapCall (XX g) 57 [.slc 1 1 0 12, .agg (T2 d).cells] [xrow 12] (.slc 2 1 0 24) [.none, xrow 24] := by
  intro M
  refine SimCall.pick [(0, true), (1, false), (4, true)] rfl rfl ?_
  refine SimCall.closedR (fn := f57) func57 (by decide) ?_
  conv => whnf
  repeat (first | (refine Need.mk rfl ?_; conv => whnf) | (refine Need.mk (by decide) ?_; conv => whnf) | (refine Need.mk (of_decide_eq_true rfl) ?_; conv => whnf) | (refine HeapCall.use [1] (sT3 g d) rfl rfl (by decide) ?_; conv => whnf) | (refine SimCall.closedR rfl rfl ?_; conv => whnf) | (refine LoopK.closed 1000 ?_; conv => whnf) | (refine DrawK.run 30 (show prog.follows .mixedOrders = true by decide) ?_; conv => whnf) | (apply HopK.told; intro M; conv => whnf) | exact ⟨rfl, [], congrArg (List.cons _) (List.append_nil _).symm⟩ | (refine CellsK.mk ⟨_, rfl, ?_⟩; conv => whnf) | (refine Need.mk ⟨rfl, rfl⟩ ?_; conv => whnf) | (refine Need.mk ⟨rfl, rfl, rfl, Nat.le_refl _⟩ ?_; conv => whnf) | (refine Need.mk ⟨rfl, of_decide_eq_true rfl⟩ ?_; conv => whnf) | (refine Need.mk ⟨rfl, of_decide_eq_true rfl, of_decide_eq_true rfl⟩ ?_; conv => whnf) | (refine Need.mk ⟨rfl, rfl, of_decide_eq_true rfl⟩ ?_; conv => whnf) | (refine BytesK.told ?_; conv => whnf))
  all_goals exact ⟨rfl, [], rfl⟩
theorem sT2 (g : Gl) (d : TT) : HeapCall (XX g) 42 [.slc 1 1 0 8, .agg (T2 d).cells] [xrow 8] (.slc 2 1 0 25) [.none, xrow 25] := by
  intro M
  refine SimCall.pick [(0, true), (1, false), (6, true)] rfl rfl ?_
  refine SimCall.closedR (fn := f42) func42 (by decide) ?_
  conv => whnf
  repeat (first | (refine Need.mk rfl ?_; conv => whnf) | (refine Need.mk (by decide) ?_; conv => whnf) | (refine Need.mk (of_decide_eq_true rfl) ?_; conv => whnf) | (refine HeapCall.use [1] (sH2 g d) rfl rfl (by decide) ?_; conv => whnf) | (refine SimCall.closedR rfl rfl ?_; conv => whnf) | (refine LoopK.closed 1000 ?_; conv => whnf) | (refine DrawK.run 30 (show prog.follows .mixedOrders = true by decide) ?_; conv => whnf) | (apply HopK.told; intro M; conv => whnf) | exact ⟨rfl, [], congrArg (List.cons _) (List.append_nil _).symm⟩ | (refine CellsK.mk ⟨_, rfl, ?_⟩; conv => whnf) | (refine Need.mk ⟨rfl, rfl⟩ ?_; conv => whnf) | (refine Need.mk ⟨rfl, rfl, rfl, Nat.le_refl _⟩ ?_; conv => whnf) | (refine Need.mk ⟨rfl, of_decide_eq_true rfl⟩ ?_; conv => whnf) | (refine Need.mk ⟨rfl, of_decide_eq_true rfl, of_decide_eq_true rfl⟩ ?_; conv => whnf) | (refine Need.mk ⟨rfl, rfl, of_decide_eq_true rfl⟩ ?_; conv => whnf) | (refine BytesK.told ?_; conv => whnf))
  all_goals exact ⟨rfl, [], rfl⟩
theorem sH1 (g : Gl) (d : TT) : HeapCall (XX g) 57 [.slc 1 1 0 8, .agg (T1 d).cells] [xrow 8] (.slc 2 1 0 25) [.none, xrow 25] := by
  intro M
  refine SimCall.pick [(0, true), (1, false), (4, true)] rfl rfl ?_
  refine SimCall.closedR (fn := f57) func57 (by decide) ?_
  conv => whnf
  repeat (first | (refine Need.mk rfl ?_; conv => whnf) | (refine Need.mk (by decide) ?_; conv => whnf) | (refine Need.mk (of_decide_eq_true rfl) ?_; conv => whnf) | (refine HeapCall.use [1] (sT2 g d) rfl rfl (by decide) ?_; conv => whnf) | (refine SimCall.closedR rfl rfl ?_; conv => whnf) | (refine LoopK.closed 1000 ?_; conv => whnf) | (refine DrawK.run 30 (show prog.follows .mixedOrders = true by decide) ?_; conv => whnf) | (apply HopK.told; intro M; conv => whnf) | exact ⟨rfl, [], congrArg (List.cons _) (List.append_nil _).symm⟩ | (refine CellsK.mk ⟨_, rfl, ?_⟩; conv => whnf) | (refine Need.mk ⟨rfl, rfl⟩ ?_; conv => whnf) | (refine Need.mk ⟨rfl, rfl, rfl, Nat.le_refl _⟩ ?_; conv => whnf) | (refine Need.mk ⟨rfl, of_decide_eq_true rfl⟩ ?_; conv => whnf) | (refine Need.mk ⟨rfl, of_decide_eq_true rfl, of_decide_eq_true rfl⟩ ?_; conv => whnf) | (refine Need.mk ⟨rfl, rfl, of_decide_eq_true rfl⟩ ?_; conv => whnf) | (refine BytesK.told ?_; conv => whnf))
  all_goals exact ⟨rfl, [], rfl⟩
theorem sF1 (g : Gl) (d : TT) : HeapCall (XX g) 58 [.lit (.slice none 0 0), .agg (T1 d).cells] [] (.slc 1 1 0 8) [xrow 8] := by
  intro M
  refine SimCall.pick [(0, true), (9, true)] rfl rfl ?_
  refine SimCall.closedR (fn := f58) func58 (by decide) ?_
  conv => whnf
  repeat (first | (refine Need.mk rfl ?_; conv => whnf) | (refine Need.mk (by decide) ?_; conv => whnf) | (refine Need.mk (of_decide_eq_true rfl) ?_; conv => whnf) | (refine SimCall.closedR rfl rfl ?_; conv => whnf) | (refine LoopK.closed 1000 ?_; conv => whnf) | (refine DrawK.run 30 (show prog.follows .mixedOrders = true by decide) ?_; conv => whnf) | (apply HopK.told; intro M; conv => whnf) | exact ⟨rfl, [], congrArg (List.cons _) (List.append_nil _).symm⟩ | (refine CellsK.mk ⟨_, rfl, ?_⟩; conv => whnf) | (refine Need.mk ⟨rfl, rfl⟩ ?_; conv => whnf) | (refine Need.mk ⟨rfl, rfl, rfl, Nat.le_refl _⟩ ?_; conv => whnf) | (refine Need.mk ⟨rfl, of_decide_eq_true rfl⟩ ?_; conv => whnf) | (refine Need.mk ⟨rfl, of_decide_eq_true rfl, of_decide_eq_true rfl⟩ ?_; conv => whnf) | (refine Need.mk ⟨rfl, rfl, of_decide_eq_true rfl⟩ ?_; conv => whnf) | (refine BytesK.told ?_; conv => whnf))
  all_goals exact ⟨rfl, [], rfl⟩
theorem sT1 (g : Gl) (d : TT) : HeapCall (XX g) 42 [.lit (.slice none 0 0), .agg (T1 d).cells] [] (.slc 1 1 0 25) [xrow 25] := by
  intro M
  refine SimCall.pick [(0, true), (3, true)] rfl rfl ?_
  refine SimCall.closedR (fn := f42) func42 (by decide) ?_
  conv => whnf
  repeat (first | (refine Need.mk rfl ?_; conv => whnf) | (refine Need.mk (by decide) ?_; conv => whnf) | (refine Need.mk (of_decide_eq_true rfl) ?_; conv => whnf) | (refine HeapCall.use [] (sF1 g d) rfl rfl (by decide) ?_; conv => whnf) | (refine HeapCall.use [1] (sH1 g d) rfl rfl (by decide) ?_; conv => whnf) | (refine SimCall.closedR rfl rfl ?_; conv => whnf) | (refine LoopK.closed 1000 ?_; conv => whnf) | (refine DrawK.run 30 (show prog.follows .mixedOrders = true by decide) ?_; conv => whnf) | (apply HopK.told; intro M; conv => whnf) | exact ⟨rfl, [], congrArg (List.cons _) (List.append_nil _).symm⟩ | (refine CellsK.mk ⟨_, rfl, ?_⟩; conv => whnf) | (refine Need.mk ⟨rfl, rfl⟩ ?_; conv => whnf) | (refine Need.mk ⟨rfl, rfl, rfl, Nat.le_refl _⟩ ?_; conv => whnf) | (refine Need.mk ⟨rfl, of_decide_eq_true rfl⟩ ?_; conv => whnf) | (refine Need.mk ⟨rfl, of_decide_eq_true rfl, of_decide_eq_true rfl⟩ ?_; conv => whnf) | (refine Need.mk ⟨rfl, rfl, of_decide_eq_true rfl⟩ ?_; conv => whnf) | (refine BytesK.told ?_; conv => whnf))
  all_goals exact ⟨rfl, [], rfl⟩
theorem text1_ok (g : Gl) (d : TT) : PureCall (XX g) 28 [.agg (T1 d).cells] (.lit (.string x0)) := by
  intro M
  refine SimCall.closedR (fn := f28) func28 (by decide) ?_
  conv => whnf
  repeat (first | (refine Need.mk rfl ?_; conv => whnf) | (refine Need.mk (by decide) ?_; conv => whnf) | (refine Need.mk (of_decide_eq_true rfl) ?_; conv => whnf) | (refine (ends1_ok g d).use rfl rfl ?_; conv => whnf) | (refine HeapCall.use [] (sT1 g d) rfl rfl (by decide) ?_; conv => whnf) | (refine SimCall.closedR rfl rfl ?_; conv => whnf) | (refine LoopK.closed 1000 ?_; conv => whnf) | (refine DrawK.run 30 (show prog.follows .mixedOrders = true by decide) ?_; conv => whnf) | (apply HopK.told; intro M; conv => whnf) | exact ⟨rfl, [], congrArg (List.cons _) (List.append_nil _).symm⟩ | (refine CellsK.mk ⟨_, rfl, ?_⟩; conv => whnf) | (refine Need.mk ⟨rfl, rfl⟩ ?_; conv => whnf) | (refine Need.mk ⟨rfl, rfl, rfl, Nat.le_refl _⟩ ?_; conv => whnf) | (refine Need.mk ⟨rfl, of_decide_eq_true rfl⟩ ?_; conv => whnf) | (refine Need.mk ⟨rfl, of_decide_eq_true rfl, of_decide_eq_true rfl⟩ ?_; conv => whnf) | (refine Need.mk ⟨rfl, rfl, of_decide_eq_true rfl⟩ ?_; conv => whnf) | (refine BytesK.told ?_; conv => whnf))
  exact ⟨rfl, rfl⟩
end Go.Proofs.Kd

namespace Go.Proofs.Kd
open Go Go.Proofs.De Go.Proofs.Tryd
set_option maxRecDepth 100000
set_option maxHeartbeats 4000000
theorem T3_ok (d : TT) : (T3 d).ok := ⟨by decide, by decide, by decide, fun i hi => absurd hi (by omega)⟩
theorem T1_ok (d : TT) : (T1 d).ok := ⟨by decide, by decide, by decide, fun i _ => ⟨by decide, by decide, by decide, fun i _ => T3_ok d⟩⟩
theorem T1_right (d : TT) : rright (T1 d) = true := rfl
theorem parse1_ok (g : Gl) (d : TT) : PureCall (XX g) 29 [.lit (.string x0)] (.tup [.agg (T1 d).cells, .lit (.int .i64 0)]) := by
  have hr : PureCall (XX g) 12 [.agg (T1 d).cells] (.lit (.bool true)) := by
    have := right_ok g (T1 d) (T1_ok d)
    rw [T1_right] at this; exact this
  intro M
  refine SimCall.closed (fn := f29) func29 (by decide) ?_
  conv => whnf
  repeat (first | (refine Need.mk rfl ?_; conv => whnf) | (refine Need.mk (by decide) ?_; conv => whnf) | (refine Need.mk (of_decide_eq_true rfl) ?_; conv => whnf) | (refine (read1_ok g d).use rfl rfl ?_; conv => whnf) | (refine hr.use rfl rfl ?_; conv => whnf) | (refine (text1_ok g d).use rfl rfl ?_; conv => whnf) | (refine SimCall.closed rfl rfl ?_; conv => whnf) | (refine LoopK.closed 1000 ?_; conv => whnf) | (refine DrawK.run 20 (show prog.follows .mixedOrders = true by decide) ?_; conv => whnf) | (apply HopK.full; intro M; conv => whnf) | exact ⟨rfl, [], congrArg (List.cons _) (List.append_nil _).symm⟩ | (refine CellsK.mk ⟨_, rfl, ?_⟩; conv => whnf) | (refine Need.mk ⟨rfl, rfl⟩ ?_; conv => whnf) | (refine Need.mk ⟨rfl, rfl, rfl, Nat.le_refl _⟩ ?_; conv => whnf) | (refine Need.mk ⟨rfl, of_decide_eq_true rfl⟩ ?_; conv => whnf) | (refine Need.mk ⟨rfl, of_decide_eq_true rfl, of_decide_eq_true rfl⟩ ?_; conv => whnf) | (refine Need.mk ⟨rfl, rfl, of_decide_eq_true rfl⟩ ?_; conv => whnf) | (refine BytesK.told ?_; conv => whnf))
  exact ⟨rfl, rfl⟩
theorem awake_ok (g : Gl) : PureCall (XX g) 11 [] (.lit (.bool true)) := by
  intro M
  refine SimCall.closed (fn := f11) func11 (by decide) ?_
  conv => whnf
  repeat (first | (refine Need.mk rfl ?_; conv => whnf) | (refine Need.mk (by decide) ?_; conv => whnf) | (refine Need.mk (of_decide_eq_true rfl) ?_; conv => whnf) | (refine (parse1_ok g .nul).use rfl rfl ?_; conv => whnf) | (refine (regions1_ok g .nul).use rfl rfl ?_; conv => whnf) | (refine (depth1_ok g .nul).use rfl rfl ?_; conv => whnf) | (refine SimCall.closed rfl rfl ?_; conv => whnf) | (refine LoopK.closed 1000 ?_; conv => whnf) | (refine DrawK.run 20 (show prog.follows .mixedOrders = true by decide) ?_; conv => whnf) | (apply HopK.full; intro M; conv => whnf) | exact ⟨rfl, [], congrArg (List.cons _) (List.append_nil _).symm⟩ | (refine CellsK.mk ⟨_, rfl, ?_⟩; conv => whnf) | (refine Need.mk ⟨rfl, rfl⟩ ?_; conv => whnf) | (refine Need.mk ⟨rfl, rfl, rfl, Nat.le_refl _⟩ ?_; conv => whnf) | (refine Need.mk ⟨rfl, of_decide_eq_true rfl⟩ ?_; conv => whnf) | (refine Need.mk ⟨rfl, of_decide_eq_true rfl, of_decide_eq_true rfl⟩ ?_; conv => whnf) | (refine Need.mk ⟨rfl, rfl, of_decide_eq_true rfl⟩ ?_; conv => whnf) | (refine BytesK.told ?_; conv => whnf))
  exact ⟨rfl, rfl⟩

/-- The law KindRight. -/
theorem lawRight_ok (g : Gl) (T : TT) (hok : T.ok) : PureCall (XX g) 3 [.agg T.cells] (.lit (.bool true)) := by
  intro M
  refine SimCall.of_body (fn := f3) func3 (by decide) ?_
  conv => whnf
  refine (great_ok g T 90 hok (by decide) (by decide)).use rfl rfl ?_
  conv => whnf
  refine Br.intro (fun h => ?_) (fun h => ?_)
  · conv => whnf
    refine (awake_ok g).use rfl rfl ?_
    conv => whnf
    exact ⟨rfl, rfl⟩
  · have hd := great_depth T 90 h
    have hrr := rright_ok g T hok (by omega)
    conv => whnf
    repeat' (first | (refine Need.mk rfl ?_; conv => whnf) | (refine Need.mk (by decide) ?_; conv => whnf) | (refine Need.mk (of_decide_eq_true rfl) ?_; conv => whnf) | (refine Need.mk (by omega) ?_; conv => whnf) | (refine Need.mk ⟨rfl, by omega, by omega⟩ ?_; conv => whnf) | (refine Need.mk ⟨rfl, rfl⟩ ?_; conv => whnf) | (refine Need.mk ⟨rfl, rfl, rfl, by simp⟩ ?_; conv => whnf) | (refine Need.mk ⟨rfl, rfl, Nat.le_refl _⟩ ?_; conv => whnf) | (refine Need.mk ⟨by omega, by omega⟩ ?_; conv => whnf) | (refine Need.mk ⟨rfl, rfl, by omega⟩ ?_; conv => whnf) | (refine Need.mk ⟨rfl, by omega⟩ ?_; conv => whnf) | (refine DrawK.run 0 (show prog.follows .mixedOrders = true by decide) ?_; conv => whnf) | (refine HopK.intro _ [] (fun M => (right_ok g T hok).use rfl rfl ⟨rfl, [], rfl⟩) rfl ?_; conv => whnf) | (refine HopK.intro _ [] (fun M => hrr.use rfl rfl ⟨rfl, [], rfl⟩) rfl ?_; conv => whnf) | (refine HopK.intro _ [] (fun M => (awake_ok g).use rfl rfl ⟨rfl, [], rfl⟩) rfl ?_; conv => whnf) | (refine Br.intro (fun h => ?_) (fun h => ?_) <;> ((try simp at h) <;> (conv => whnf))))
    all_goals exact ⟨rfl, rfl⟩
end Go.Proofs.Kd
