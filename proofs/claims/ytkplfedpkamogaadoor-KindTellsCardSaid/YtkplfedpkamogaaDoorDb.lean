/- The evaluator's operations, and a whole body. Of no program; conditions: those that each statement names. -/
import Derived.Test.YtkplfedpkamogaaDoorDa
import Derived.RangeFuncRecord
import Derived.Laws.StructEq
import Derived.ChangeKeysEq
import Derived.Laws.MakeOwn
import Derived.Lib.MinMax
import Derived.Lib.AppendStr
import Derived.Laws.IdiomStrings

namespace Go.Proofs.De
open Go.RowKit

/-- The next rune of a string. -/
def nextK (s : St) (x : Operand) (K : AV → List Ob → Prop) : Prop :=
  match opv s x with
  | .bptr id 0 => match s.hp[id]? with
    | some (.iter b p) => Br (decide (p < b.size)) (K (.tup [.lit (.bool true), .lit (.int .i64 p), .lit (.int .i32 (Utf8.decode b p).1)]) (setN s.hp id (.iter b (p + (Utf8.decode b p).2)))) (K (.tup [.lit (.bool false)]) s.hp)
    | _ => Stuck "next of"
  | _ => Stuck "next"

section
variable {X : Cx} {B : Base} {ρ : Rho} {s : St} {a : Act} {w : World}

theorem blk_iter {id : Nat} {v : Value} {x : ByteArray} {p b : Nat} (h : Blk (ρ.upd id v) id b (.iter x p)) : blockOf v = some b := by
  obtain ⟨u, h1, h2⟩ := h
  rw [Rho.upd_same] at h1; cases h1; exact h2
theorem range_ok (h : RelAt X B ρ s a w) {o : Oper} {t : TypeId} {x : Operand} (ho : o.op = .range t x) {b : ByteArray} (hx : opv s x = .lit (.string b)) (ht : strT X.P t = true) {K : AV → List Ob → Prop} (hk : K (.bptr s.hp.length 0) (s.hp ++ [.iter b 0])) : Eff X B s a w o K := by
  have he := lit_at h hx
  refine .value ⟨_, _, ρ.upd s.hp.length (.pointer (some ⟨w.heap.size, 0, none⟩)), .pointer (some ⟨w.heap.size, 0, none⟩), w.alloc (.stringIter b 0), hk, ?_, ?_, ⟨_, Rho.upd_same _ _ _, rfl⟩⟩
  · simp [execOp, ho, he, Instr.range, run_underlyingD (strT_eq ht)]
  · have hg : w.grownBy (w.alloc (.stringIter b 0)) none := World.grownBy_alloc w _ none
    exact (h.grow (w' := w.alloc (.stringIter b 0)) (row := none) (old := none) (fun b e => by cases e) (fun j e => by cases e) hg (v := .pointer (some ⟨w.heap.size, 0, none⟩)) (fun b e => by cases e; exact ⟨.inr (Nat.le_refl _), by simp⟩) (ob := .iter b 0) (fun b => blk_iter) (fun O' ht => by
      exact ⟨w.heap.size, Rho.upd_same _ _ _, heap_alloc_new w _⟩)).1
theorem next_ok (h : RelAt X B ρ s a w) {o : Oper} {x : Operand} (ho : o.op = .next x true) {K : AV → List Ob → Prop} (hk : nextK s x K) : Eff X B s a w o K := by
  unfold nextK at hk
  split at hk
  · rename_i id hx
    split at hk
    · rename_i b p hb
      have hr := h.opv x
      rw [hx] at hr
      obtain ⟨g, e1, e2⟩ := hr
      obtain ⟨g', e3, e4⟩ := h.hp.has id _ hb
      rw [e1] at e3
      simp only [Option.some.injEq, Value.pointer.injEq, Addr.mk.injEq, and_true] at e3
      subst e3
      have hget : (getObj g).run X.P w = .ok (.stringIter b p) w := by simp [getObj, Sem.run, e4]
      have hset : ∀ o', (setObj g o').run X.P w = .ok () (w.putObj g o') := fun o' => by simp [setObj, Sem.run, e4, World.putObj]
      have hlt : g < w.heap.size := (Array.getElem?_eq_some_iff.1 e4).1
      by_cases hp : p < b.size
      · rw [decide_eq_true hp] at hk
        have hg : w.grownBy (w.putObj g (.stringIter b (p + (Utf8.decode b p).2))) (some g) := ⟨rfl, rfl, rfl, by simp, fun k _ hk => World.putObj_heap_other (fun e => hk (by rw [e]))⟩
        have ht := h.hp.write_tr (ob := .iter b (p + (Utf8.decode b p).2)) hb (fun b => Iff.rfl) ⟨_, e1, rfl⟩ hg
        have hh := h.hp.write (ob := .iter b (p + (Utf8.decode b p).2)) hb (fun b => Iff.rfl) ⟨_, e1, rfl⟩ hg ⟨g, e1, World.putObj_heap_same hlt⟩
        have hk' : K (.tup [.lit (.bool true), .lit (.int .i64 p), .lit (.int .i32 (Utf8.decode b p).1)]) (setN s.hp id (.iter b (p + (Utf8.decode b p).2))) := hk
        rw [setN_eq] at hk'
        refine .value ⟨_, _, ρ, .tuple #[.bool true, .int .i64 p, .int .i32 (Utf8.decode b p).1], _, hk', ?_, h.step hh ht (Rho.le.refl ρ), ?_⟩
        · simp [execOp, ho, e2, Instr.next, hget, hset, hp, goInt]
        · refine ⟨_, rfl, rfl, fun j c hc => ?_⟩
          match j, hc with
          | 0, hc => cases hc; exact ⟨_, rfl, RepI.lit _ rfl⟩
          | 1, hc => cases hc; exact ⟨_, rfl, RepI.lit _ rfl⟩
          | 2, hc => cases hc; exact ⟨_, rfl, RepI.lit _ rfl⟩
          | j + 3, hc => cases hc
      · rw [decide_eq_false hp] at hk
        refine .value ⟨_, _, ρ, .tuple #[.bool false], w, (show K (.tup [.lit (.bool false)]) s.hp from hk), ?_, h, ?_⟩
        · simp [execOp, ho, e2, Instr.next, hget, hp]
        · refine ⟨_, rfl, rfl, fun j c hc => ?_⟩
          match j, hc with
          | 0, hc => cases hc; exact ⟨_, rfl, RepI.lit _ rfl⟩
          | j + 1, hc => cases hc
    · exact hk.x.elim
  · exact hk.x.elim
end
end Go.Proofs.De

namespace Go.Proofs.De
open Go.RowKit

def eqLit : AV → AV → Option Bool
  | .lit (.int k a), .lit (.int k' b) => if k = k' then some (a == b) else none
  | .lit (.string a), .lit (.string b) => some (a.data.toList == b.data.toList)
  | .lit (.bool a), .lit (.bool b) => some (a == b)
  | _, _ => none
def basicT (P : Program) (t : TypeId) (c : AV) : Bool :=
  match P.underlying t, c with
  | some (.int _), .lit (.int _ _) => true
  | some .string, .lit (.string _) => true
  | some .bool, .lit (.bool _) => true
  | _, _ => false
def okFs (P : Program) (cs : List AV) : List Field → Bool
  | [] => true
  | f :: fs => f.name != "_" && P.plainKey f.type && basicT P f.type (nth cs f.offset) && okFs P cs fs
def eqFs (cs ds : List AV) : List Field → Option Bool
  | [] => some true
  | f :: fs => match eqLit (nth cs f.offset) (nth ds f.offset), eqFs cs ds fs with
    | some b, some r => some (b && r)
    | _, _ => none
def eqStructK (P : Program) (t : TypeId) (op : BinOp) (cs ds : List AV) (K : AV → Prop) : Prop :=
  match P.underlying t with
  | some (.struct fs) => match eqFs cs ds fs.toList, op with
    | some r, .eql => Need (okFs P cs fs.toList = true ∧ P.eqGuardType P.depth t = false ∧ P.stoodInHeld t = false) (K (.lit (.bool r)))
    | some r, .neq => Need (okFs P cs fs.toList = true ∧ P.eqGuardType P.depth t = false ∧ P.stoodInHeld t = false) (K (.lit (.bool (!r))))
    | _, _ => Stuck "struct =="
  | _ => Stuck "struct == type"

section
variable {X : Cx} {B : Base} {ρ : Rho} {s : St} {a : Act} {w : World}

theorem nth_lit {cs : List AV} {j : Nat} {v : Value} (h : nth cs j = .lit v) : cs[j]? = some (.lit v) := by
  rw [nth_eq] at h
  cases e : cs[j]? with
  | none => rw [e] at h; cases h
  | some c => rw [e] at h; simp only [Option.getD_some] at h; rw [h]
theorem eqLit_run {P : Program} {t : TypeId} {c d : AV} {r : Bool} (h : eqLit c d = some r) (hb : basicT P t c = true) (n : Nat) :
    ∃ x y, c = .lit x ∧ d = .lit y ∧ ∀ w, (Op.equalIn (n + 1) t x y).run P w = .ok r w := by
  unfold eqLit at h
  split at h
  · rename_i k a k' b
    split at h
    · rename_i e
      subst e
      cases h
      unfold basicT at hb
      split at hb
      · rename_i e1 e2; exact ⟨_, _, rfl, rfl, fun w => run_equalIn_int w n t k _ a b e1⟩
      · rename_i e1 e2; cases e2
      · rename_i e1 e2; cases e2
      · cases hb
    · cases h
  · cases h
    unfold basicT at hb
    split at hb
    · rename_i e1 e2; cases e2
    · rename_i e1 e2; exact ⟨_, _, rfl, rfl, fun w => by rw [← ByteArray.toList_eq, ← ByteArray.toList_eq]; exact run_equalIn_string w n t _ _ e1⟩
    · rename_i e1 e2; cases e2
    · cases hb
  · cases h
    unfold basicT at hb
    split at hb
    · rename_i e1 e2; cases e2
    · rename_i e1 e2; cases e2
    · rename_i e1 e2; exact ⟨_, _, rfl, rfl, fun w => run_equalIn_bool' w n t _ _ e1⟩
    · cases hb
  · cases h
theorem eqFs_run {O : Nat → Prop} {P : Program} {cs ds : List AV} {xs ys : Array Value} (hx : ∀ (j : Nat) (c : AV), cs[j]? = some c → ∃ u : Value, xs[j]? = some u ∧ RepC w O ρ c u)
    (hy : ∀ (j : Nat) (c : AV), ds[j]? = some c → ∃ u : Value, ys[j]? = some u ∧ RepC w O ρ c u) (n : Nat) : ∀ (fs : List Field) (r : Bool), eqFs cs ds fs = some r → okFs P cs fs = true →
    (Op.eqFields (n + 1) xs ys fs).run P w = .ok r w
  | [], r, h, _ => by cases h; rfl
  | f :: fs, r, h, ho => by
    simp only [okFs, Bool.and_eq_true, bne_iff_ne] at ho
    obtain ⟨⟨⟨h1, h2⟩, h3⟩, h4⟩ := ho
    simp only [eqFs] at h
    split at h
    · rename_i b r' e1 e2
      cases h
      obtain ⟨x, y, c1, c2, hr⟩ := eqLit_run (P := P) e1 h3 n
      obtain ⟨u, k1, k2⟩ := hx _ _ (nth_lit c1)
      obtain ⟨v, k3, k4⟩ := hy _ _ (nth_lit c2)
      rw [(RepC_lit.1 k2).1] at k1
      rw [(RepC_lit.1 k4).1] at k3
      have ih := eqFs_run hx hy n fs r' e2 h4
      simp only [Op.eqFields]
      rw [if_pos h1]
      simp only [Sem.run_bind, run_part_plain w h2 k1, run_part_plain w h2 k3, Result.andThen_ok, hr, Sem.run_ite]
      cases b
      · simp
      · simpa using ih
    · cases h
theorem struct_ok (h : RelAt X B ρ s a w) {o : Oper} {t t' : TypeId} {op : BinOp} {x y : Operand} (ho : o.op = .binOp op t x y t') {cs ds : List AV} (hx : opv s x = .agg cs) (hy : opv s y = .agg ds) {K : AV → Prop} (hk : eqStructK X.P t op cs ds K) : Val X ρ s a w o K := by
  have rx := h.opv x
  have ry := h.opv y
  rw [hx] at rx
  rw [hy] at ry
  obtain ⟨us, e1, _, e3⟩ := rx
  obtain ⟨vs, d1, _, d3⟩ := ry
  unfold eqStructK at hk
  split at hk
  · rename_i fs hu
    have hf : X.P.fieldsOf t = fs := by unfold Program.fieldsOf; rw [hu]
    have key : ∀ r, eqFs cs ds fs.toList = some r → okFs X.P cs fs.toList = true → X.P.stoodInHeld t = false → (Op.equalIn 10000 t (.agg us) (.agg vs)).run X.P w = .ok r w := by
      intro r h1 h2 h3
      rw [run_equalIn_struct w 9999 t us vs (by rw [hf]; exact hu) h3, hf]
      exact eqFs_run e3 d3 9998 _ r h1 h2
    split at hk
    · rename_i r h1
      obtain ⟨⟨h2, h3, h4⟩, hk⟩ := hk
      refine ⟨_, _, hk, ?_, RepV_lit.2 ⟨rfl, rfl⟩⟩
      simp [execOp, ho, e1, d1, run_eqGuard_agg w _ t x y us vs h3, run_eql_struct, key r h1 h2 h4]
    · rename_i r h1
      obtain ⟨⟨h2, h3, h4⟩, hk⟩ := hk
      refine ⟨_, _, hk, ?_, RepV_lit.2 ⟨rfl, rfl⟩⟩
      simp [execOp, ho, e1, d1, run_eqGuard_agg w _ t x y us vs h3, run_neq_struct, key r h1 h2 h4]
    · exact hk.x.elim
  · exact hk.x.elim
end
end Go.Proofs.De

namespace Go.Proofs.De
open Go.RowKit

def makeK (P : Program) (s : St) (t : TypeId) (l c : Operand) (K : AV → List Ob → Prop) : Prop :=
  match elemT P t with
  | some e => match sizeT P e, zeroC P e, bytesT P e, opv s l, opv s c with
    | some (wd + 1), some z, some bytes, .lit (.int _ n), .lit (.int _ m) =>
      Need (z.length = wd + 1 ∧ 0 ≤ n ∧ n ≤ m ∧ (bytes : Int) * m ≤ 281474976710656 ∧ m ≤ 9223372036854775807)
        (fN s.hp.length fun id => fN (wd + 1) fun wd' => K (.slc id wd' 0 n.toNat) (s.hp ++ [.row e wd' (List.replicate n.toNat z)]))
    | _, _, _, _, _ => Stuck "make"
  | none => Stuck "make type"

section
variable {X : Cx} {B : Base} {ρ : Rho} {s : St} {a : Act} {w : World}

theorem zeroC_all {P : Program} {t : TypeId} {z : List AV} (h : zeroC P t = some z) : ∃ i v, P.info? t = some i ∧ i.zero = some v ∧ z = v.cells.toList.map .lit ∧ ∀ u ∈ v.cells.toList, u.oneCell' = true := by
  unfold zeroC at h
  split at h
  · rename_i i e1
    split at h
    · rename_i v e2
      split at h
      · rename_i hall
        cases h
        exact ⟨i, v, e1, e2, rfl, List.all_eq_true.1 hall⟩
      · cases h
    · cases h
  · cases h
theorem made_at {z : Array Value} {n j : Nat} (hj : j < n) (hz : 0 < z.size) : (madeCells z n)[j]? = z[j % z.size]? := by
  have hlt := Nat.mod_lt j hz
  simp only [madeCells, Array.getElem?_map, Array.getElem?_range, hj, if_true, Option.map_some]
  rw [getElem!_pos z _ hlt, Array.getElem?_eq_getElem hlt]
theorem make_ok (h : RelAt X B ρ s a w) {o : Oper} {t : TypeId} {x y : Operand} (ho : o.op = .makeSlice t x y) {K : AV → List Ob → Prop} (hk : makeK X.P s t x y K) : Eff X B s a w o K := by
  unfold makeK at hk
  split at hk
  · rename_i e e1
    split at hk
    · rename_i wd z bytes kl n kc m e2 e3 e4 e5 e6
      obtain ⟨⟨c1, c2, c3, c4, c5⟩, hk⟩ := hk
      rw [fN_eq, fN_eq] at hk
      obtain ⟨i, v, i1, i2, rfl, i3⟩ := zeroC_all e3
      have hsz : i.size = wd + 1 := by unfold sizeT at e2; rw [i1] at e2; exact Option.some.inj e2
      have hby : i.bytes = bytes := by unfold bytesT at e4; rw [i1] at e4; exact Option.some.inj e4
      have hvs : v.cells.size = wd + 1 := by simpa using c1
      obtain ⟨N, rfl⟩ : ∃ N : Nat, n = N := ⟨n.toNat, by omega⟩
      obtain ⟨C, rfl⟩ : ∃ C : Nat, m = C := ⟨m.toNat, by omega⟩
      have hNC : N ≤ C := by omega
      simp only [Int.toNat_natCast] at hk
      have hrun := run_make (P := X.P) w t e i v (elemT_eq e1) i1 i2 kl kc (N : Int) (C : Int) c2 c3 (by rw [hby]; exact c4) c5
      simp only [Int.toNat_natCast, hsz] at hrun
      have hle : N * (wd + 1) ≤ C * (wd + 1) := Nat.mul_le_mul_right _ hNC
      have hat : ∀ j, j < N * (wd + 1) → ((madeCells v.cells (C * (wd + 1))).toList.take (N * (wd + 1)))[j]? = v.cells[j % (wd + 1)]? := by
        intro j hj
        rw [List.getElem?_take, if_pos hj, Array.getElem?_toList, made_at (by omega) (by omega), hvs]
      have hone : ∀ u ∈ (madeCells v.cells (C * (wd + 1))).toList.take (N * (wd + 1)), u.oneCell' = true := by
        intro u hu
        obtain ⟨j, hj, e⟩ := List.mem_iff_getElem.1 hu
        have hj' : j < N * (wd + 1) := by rw [List.length_take] at hj; omega
        have := hat j hj'
        rw [List.getElem?_eq_getElem hj, e] at this
        exact i3 u (by rw [← Array.getElem?_toList] at this; exact List.mem_of_getElem? this.symm)
      have hnew := row_new h (et := e) (wd := wd + 1) (rows := List.replicate N (v.cells.toList.map .lit)) (v := .slice (some ⟨w.heap.size, 0, none⟩) N C) (xs := (madeCells v.cells (C * (wd + 1))).toList.take (N * (wd + 1))) (w' := w.alloc (.cells (madeCells v.cells (C * (wd + 1))) e)) (World.grownBy_alloc w _ none) (fun b e => by cases e; exact ⟨Nat.le_refl _, by simp⟩)
        (by
          rw [List.length_replicate]
          refine ⟨by rw [List.length_take, Array.length_toList, size_madeCells]; omega, .inr ⟨w.heap.size, C, _, rfl, Nat.zero_le _, heap_alloc_new w _, hNC, by simp only [maxLen]; omega, size_madeCells _ _, rfl⟩⟩)
        (by
          intro k r hr
          have hk' : k < N ∧ r = v.cells.toList.map .lit := by
            rw [List.getElem?_replicate] at hr
            split at hr
            · cases hr; exact ⟨by assumption, rfl⟩
            · cases hr
          obtain ⟨hkN, rfl⟩ := hk'
          refine ⟨by simpa using c1, fun j c hj => ?_⟩
          rw [List.getElem?_map] at hj
          cases hx : v.cells.toList[j]? with
          | none => rw [hx] at hj; cases hj
          | some u =>
            rw [hx] at hj; cases hj
            have hjw : j < wd + 1 := by
              have := (List.getElem?_eq_some_iff.1 hx).1
              rw [Array.length_toList, hvs] at this
              exact this
            have hlt : k * (wd + 1) + j < N * (wd + 1) := by
              have := Nat.mul_le_mul_right (wd + 1) (show k + 1 ≤ N from hkN)
              rw [Nat.add_mul, Nat.one_mul] at this
              omega
            refine ⟨u, ?_, .lit u (i3 u (List.mem_of_getElem? hx))⟩
            rw [hat _ hlt, Nat.mul_comm, Nat.mul_add_mod, Nat.mod_eq_of_lt hjw, ← Array.getElem?_toList]
            exact hx) hone
      refine .value ⟨_, _, _, .slice (some ⟨w.heap.size, 0, none⟩) N C, _, hk, ?_, hnew, ?_⟩
      · simp only [execOp, ho, lit_at h e5, lit_at h e6, Sem.run_bind, hrun, Result.andThen_ok, Sem.run_pure]
      · refine ⟨some ⟨w.heap.size, 0, none⟩, N, C, some ⟨w.heap.size, 0, none⟩, Rho.upd_same _ _ _, rfl, by omega, fun _ => rfl, fun _ => ?_, fun e => ?_, fun y e => ?_⟩
        · simp [Addr.add_lit]
        · cases e
        · cases e; exact ⟨_, rfl⟩
    · exact hk.x.elim
  · exact hk.x.elim
end
end Go.Proofs.De

namespace Go.Proofs.De
open Go.RowKit

def maxK (s : St) (args : List Operand) (up : Bool) (K : AV → Prop) : Prop :=
  match args with
  | [x, y] => match opv s x, opv s y with
    | .lit (.int k a), .lit (.int _ b) => K (.lit (.int k (match up with | true => max a b | false => min a b)))
    | _, _ => Stuck "max"
  | _ => Stuck "max of"

section
variable {X : Cx} {B : Base} {ρ : Rho} {s : St} {a : Act} {w : World}
theorem max_ok (h : RelAt X B ρ s a w) {o : Oper} {args : Array Operand} {ts : Array TypeId} (ho : o.op = .call { callee := .builtin .max, args := args, argTypes := ts }) {K : AV → Prop} (hk : maxK s args.toList true K) : Val X ρ s a w o K := by
  unfold maxK at hk
  split at hk
  · rename_i x y e
    have e' : args = #[x, y] := by cases args; simpa using e
    subst e'
    split at hk
    · rename_i k p k' q e1 e2
      refine ⟨_, _, hk, ?_, RepV_lit.2 ⟨rfl, rfl⟩⟩
      simp [execOp, ho, lit_at h e1, lit_at h e2, resolve, invoke, builtin, Lib.run_max_ints]
    · exact hk.x.elim
  · exact hk.x.elim
theorem min_ok (h : RelAt X B ρ s a w) {o : Oper} {args : Array Operand} {ts : Array TypeId} (ho : o.op = .call { callee := .builtin .min, args := args, argTypes := ts }) {K : AV → Prop} (hk : maxK s args.toList false K) : Val X ρ s a w o K := by
  unfold maxK at hk
  split at hk
  · rename_i x y e
    have e' : args = #[x, y] := by cases args; simpa using e
    subst e'
    split at hk
    · rename_i k p k' q e1 e2
      refine ⟨_, _, hk, ?_, RepV_lit.2 ⟨rfl, rfl⟩⟩
      simp [execOp, ho, lit_at h e1, lit_at h e2, resolve, invoke, builtin, Lib.run_min_ints]
    · exact hk.x.elim
  · exact hk.x.elim
end
end Go.Proofs.De

namespace Go.Proofs.De
open Go.RowKit

def indexArrK (P : Program) (s : St) (t : TypeId) (x i : Operand) (K : AV → Prop) : Prop :=
  match arrT P t with
  | some (n, e) => match sizeT P e, opv s x, opv s i with
    | some sz, .agg cs, .lit (.int _ z) => Need (0 ≤ z ∧ z < n) (match loadC P e cs (z.toNat * sz) with | some c => K c | none => Stuck "index array")
    | _, _, _ => Stuck "index of"
  | none => Stuck "index type"

section
variable {X : Cx} {B : Base} {ρ : Rho} {s : St} {a : Act} {w : World}
theorem part_ok {P : Program} {O : Nat → Prop} {t : TypeId} {cs : List AV} {us : Array Value} (e3 : ∀ (j : Nat) (c : AV), cs[j]? = some c → ∃ x : Value, us[j]? = some x ∧ RepC w O ρ c x) (e2 : us.size = cs.length) {f : Nat} {c : AV} (hc : loadC P t cs f = some c) :
    ∃ u, (part t us f).run P w = .ok u w ∧ RepV w O ρ c u := by
  unfold loadC at hc
  split at hc
  · rename_i n m1 m2
    split at hc
    · rename_i hn
      cases hc
      refine ⟨.agg (us.extract f (f + n)), ?_, ⟨_, rfl, by simp; omega, fun j c hj => ?_⟩⟩
      · simp [part, run_isAgg m1, run_sizeOf m2]
      · rw [List.getElem?_take] at hj
        split at hj
        · rw [List.getElem?_drop] at hj
          obtain ⟨y, q1, q2⟩ := e3 (f + j) c hj
          refine ⟨y, ?_, q2⟩
          have hlt := (Array.getElem?_eq_some_iff.1 q1).1
          rw [Array.getElem?_extract, if_pos (by omega)]
          exact q1
        · cases hj
    · cases hc
  · rename_i m1 _
    obtain ⟨y, q1, q2⟩ := e3 f c hc
    exact ⟨y, by simp [part, run_isAgg m1, q1], RepA_RepV (RepC_RepA q2)⟩
  · cases hc
theorem index_arr_ok (h : RelAt X B ρ s a w) {o : Oper} {t : TypeId} {x i : Operand} (ho : o.op = .index t x i) {K : AV → Prop} (hk : indexArrK X.P s t x i K) : Val X ρ s a w o K := by
  unfold indexArrK at hk
  split at hk
  · rename_i n e e1
    split at hk
    · rename_i sz cs k z e2 e3 e4
      obtain ⟨⟨h0, h1⟩, hk⟩ := hk
      split at hk
      · rename_i c e5
        have hr := h.opv x
        rw [e3] at hr
        obtain ⟨us, d1, d2, d3⟩ := hr
        obtain ⟨u, k1, k2⟩ := part_ok d3 d2 e5
        refine ⟨_, u, hk, ?_, k2⟩
        have hu : X.P.underlying t = some (.array n e) := by
          unfold arrT at e1
          split at e1
          · rename_i q; cases e1; exact q
          · cases e1
        simp [execOp, ho, d1, lit_at h e4, Instr.index, asIntOf, run_underlyingD hu, h0, h1, run_sizeOf e2, k1]
      · exact hk.x.elim
    · exact hk.x.elim
  · exact hk.x.elim
end
end Go.Proofs.De

namespace Go.Proofs.De
open Go.RowKit Go.Lib

/-- The text's bytes, appended to a row of bytes. -/
theorem append_row_str {P : Program} {w : World} {t u ty e : TypeId} {i : TypeInfo} (ht : P.underlying t = some (.slice e)) (hu : P.underlying u = some .string) (hi : P.info? e = some i) (hz : i.zero = some (.int .u8 0))
    (hsize : i.size = 1) (hby : i.bytes = 1) {y : Option Addr} {N cap n : Nat} {xs : List Value} (hown0 : w.ownsRow 0 e 1 (.slice y N cap) N xs) (hn : n ≤ N)
    (s : ByteArray) (h63 : n + s.size ≤ maxLen) (hbytes : n + s.size ≤ 140737488355328) :
    ∃ y' cap' w', (Builtin.append_ #[t, u] ty #[.slice y n cap, .string s]).run P w = .ok (.slice y' (n + s.size) cap') w' ∧ w'.ownsRow 0 e 1 (.slice y' (n + s.size) cap') (n + s.size) (xs.take (n * 1) ++ strCells s) ∧ w.grownBy w' (blockOf (.slice y N cap)) ∧
      (∀ b, blockOf (.slice y' (n + s.size) cap') = some b → (blockOf (.slice y N cap) = some b ∨ w.heap.size ≤ b) ∧ b < w'.heap.size) := by
  have hown := own_prefix hown0 hn
  have hsmall : n + s.size ≤ 9223372036854775807 := by simp only [maxLen] at h63; omega
  have hxl : (xs.take (n * 1)).length = n := by rw [hown.1]; omega
  have hlen : (xs.take (n * 1) ++ strCells s).length = (n + s.size) * 1 := by rw [List.length_append, hxl, strCells_length, Nat.mul_one]
  have hlt : ∀ (w : World) (y : Option Addr) (n cap : Nat) (xs : List Value), w.ownsRow 0 e 1 (.slice y n cap) n xs → ∀ b, blockOf (.slice y n cap) = some b → b < w.heap.size := by
    intro w y n cap xs h b hb
    rcases h.2 with ⟨e1, _⟩ | ⟨g, cap', cur, e1, _, e3, _⟩
    · cases e1; cases hb
    · cases e1; cases hb; exact (Array.getElem?_eq_some_iff.1 e3).1
  have grown : ∀ (old : Nat), old < n + s.size → (row : Option Nat) →
      (w.drew.alloc (.cells ((xs.take (n * 1)).toArray ++ (strCells s).toArray ++ Builtin.zeroCells (Value.int .u8 0).cells (grownCap w (n + s.size) old e - (n + s.size))) e)).ownsRow 0 e 1
        (.slice (some ⟨w.heap.size, 0, none⟩) (n + s.size) (grownCap w (n + s.size) old e)) (n + s.size) (xs.take (n * 1) ++ strCells s) ∧
      w.grownBy (w.drew.alloc (.cells ((xs.take (n * 1)).toArray ++ (strCells s).toArray ++ Builtin.zeroCells (Value.int .u8 0).cells (grownCap w (n + s.size) old e - (n + s.size))) e)) row := by
    intro old ho row
    have hge := grownCap_ge w (n + s.size) old e
    have hcm : grownCap w (n + s.size) old e ≤ maxLen := grownCap_le_maxLen w (n + s.size) old e h63
    refine ⟨⟨hlen, .inr ⟨w.heap.size, _, _, rfl, Nat.zero_le _, heap_alloc_new w.drew _, hge, hcm, ?_, ?_⟩⟩, ⟨rfl, rfl, rfl, by simp, fun k hk _ => heap_alloc_old w.drew _ k hk⟩⟩
    · have hz1 : (Value.int IntKind.u8 0).cells.size = 1 := rfl
      simp only [Array.size_append, List.size_toArray, size_zeroCells, hz1, hxl, strCells_length]
      omega
    · simp only [Array.toList_append, List.append_assoc]
      rw [← List.append_assoc, ← hlen]
      exact List.take_left
  rcases hown.2 with ⟨hv, hn0⟩ | ⟨g, cap', cur, hv, _, hg, hnc, hcm, hcs, htake⟩
  · cases hv
    have hx : xs.take (0 * 1) = [] := by simp
    by_cases hm : s.size = 0
    · have hs : strCells s = [] := List.eq_nil_of_length_eq_zero (by rw [strCells_length, hm])
      rw [hs, hm]
      refine ⟨none, 0, w, ?_, by simpa using hown, ⟨rfl, rfl, rfl, Nat.le_refl _, fun _ _ _ => rfl⟩, fun b hb => by cases hb⟩
      have hdata : (s.extract 0 0).data = #[] := by simp
      simp [Builtin.append_, run_underlying ht, run_underlying hu, sizeOf, typeInfo, hi, Builtin.lenOf, hm, Builtin.firstCells]
    · have hr := run_append_nil_string (P := P) w t u ty e i _ ht hu hi hz s (by omega) (by omega) (by rw [hby]; omega)
      have hgr := grown 0 (by omega) (blockOf (.slice none N 0))
      rw [hx] at hgr ⊢
      simp only [Nat.zero_add, List.nil_append, Array.empty_append] at hgr ⊢
      have he : Array.map (fun b : UInt8 => Value.int IntKind.u8 (b.toNat : Int)) s.data = (strCells s).toArray := by
        apply Array.ext'
        simp [strCells]
      rw [he] at hr
      exact ⟨_, _, _, hr, hgr.1, hgr.2, fun b hb => by cases hb; exact ⟨.inr (Nat.le_refl _), by simp⟩⟩
  · cases hv
    by_cases hroom : n + s.size ≤ cap
    · have hr := run_append_room_string (P := P) w t u ty e i ht hu hi hsize g n cap cur hg s hroom (by omega)
      have ho : (w.setRow g (cur.toList.take n ++ strCells s ++ cur.toList.drop (n + s.size)).toArray).ownsRow 0 e 1 (.slice (some ⟨g, 0, none⟩) (n + s.size) cap) (n + s.size) (xs.take (n * 1) ++ strCells s) := by
        refine ⟨hlen, .inr ⟨g, cap, _, rfl, Nat.zero_le _, setRow_heap w g cur _ e _ hg, hroom, hcm, ?_, ?_⟩⟩
        · simp only [List.size_toArray, List.length_append, List.length_take, List.length_drop, Array.length_toList, strCells_length]
          omega
        · have e1 : List.take n cur.toList = xs.take (n * 1) := by rw [← htake, Nat.mul_one]
          show List.take ((n + s.size) * 1) (List.take n cur.toList ++ strCells s ++ List.drop (n + s.size) cur.toList) = _
          rw [e1, ← hlen]
          exact List.take_left
      exact ⟨_, _, _, hr, ho, ⟨rfl, rfl, rfl, by simp, fun k _ hk => setRow_other w g k _ (fun e => hk (by rw [e]; rfl))⟩, fun b hb => ⟨.inl (by cases hb; rfl), hlt _ _ _ _ _ ho b hb⟩⟩
    · have holds : ∀ j u, (xs.take (n * 1))[j]? = some u → w.cell? ((⟨g, 0, none⟩ : Addr).add j) = some u := hown.cells (g := g) rfl
      have hr := run_append_grow_string (P := P) w t u ty e i _ ht hu hi hz ⟨g, 0, none⟩ n cap (xs.take (n * 1)) (by rw [hsize]; exact hown.1) holds s (by omega) (by omega) (growslice_fits (by omega) (by rw [hby]; omega))
      have hgr := grown cap (by omega) (blockOf (.slice (some ⟨g, 0, none⟩) N cap))
      exact ⟨_, _, _, hr, hgr.1, hgr.2, fun b hb => by cases hb; exact ⟨.inr (Nat.le_refl _), by simp⟩⟩

/-- The rows of a text's bytes. -/
def rowsOf (s : ByteArray) : List (List AV) := s.data.toList.map fun b => [.lit (.int .u8 b.toNat)]
theorem rowsOf_len (s : ByteArray) : (rowsOf s).length = s.size := by simp [rowsOf]
def zero8 (P : Program) (e : TypeId) : Bool := match P.info? e with | some i => (match i.zero with | some (.int .u8 z) => z == 0 | _ => false) && i.size == 1 && i.bytes == 1 | none => false
def appendStrK (P : Program) (s : St) (t u : TypeId) (x y : Operand) (K : AV → List Ob → Prop) : Prop :=
  match elemT P t, opv s y with
  | some e, .lit (.string b) => Need (strT P u = true ∧ zero8 P e = true) (dstK s.hp e 1 (opv s x) fun old n rows =>
      Need (n + b.size ≤ maxLen ∧ n + b.size ≤ 140737488355328) (fN s.hp.length fun id => K (.slc id 1 0 (n + b.size)) (gone s.hp old ++ [.row e 1 (rows ++ rowsOf b)])))
  | _, _ => Stuck "append text"

section
variable {X : Cx} {B : Base} {ρ : Rho} {s : St} {a : Act} {w : World}
theorem flat_str (w : World) (O : Nat → Prop) (b : ByteArray) : FlatRep w O 1 (rowsOf b) (strCells b) := by
  intro i r hr
  simp only [rowsOf, List.getElem?_map] at hr
  cases hx : b.data.toList[i]? with
  | none => rw [hx] at hr; cases hr
  | some v =>
    rw [hx] at hr; cases hr
    refine ⟨rfl, fun j c hc => ?_⟩
    cases j with
    | zero =>
      cases hc
      exact ⟨_, by simp only [strCells, Nat.mul_one, Nat.add_zero, List.getElem?_map, hx]; rfl, .lit _ rfl⟩
    | succ j => cases hc
theorem append_str_ok (h : RelAt X B ρ s a w) {o : Oper} {t u : TypeId} {x y : Operand} (ho : o.op = .call { callee := .builtin .append, args := #[x, y], argTypes := #[t, u] }) {K : AV → List Ob → Prop} (hk : appendStrK X.P s t u x y K) : Eff X B s a w o K := by
  unfold appendStrK at hk
  split at hk
  · rename_i e b e1 hy
    obtain ⟨⟨c1, c2⟩, hk⟩ := hk
    obtain ⟨old, n, rows, yd, N, cap, xs, hk, hn, hnN, hx, ho1, hf1, h1, hrow, hold⟩ := dst_ok h hk
    obtain ⟨⟨hb1, hb2⟩, hk⟩ := hk
    rw [fN_eq] at hk
    obtain ⟨i, i1, i2, i3, i4⟩ : ∃ i, X.P.info? e = some i ∧ i.zero = some (.int .u8 0) ∧ i.size = 1 ∧ i.bytes = 1 := by
      unfold zero8 at c2
      split at c2
      · rename_i i e2
        simp only [Bool.and_eq_true, beq_iff_eq] at c2
        obtain ⟨⟨c3, c4⟩, c5⟩ := c2
        refine ⟨i, e2, ?_, c4, c5⟩
        split at c3
        · rename_i z e3
          rw [e3, of_decide_eq_true (p := z = 0) (by simpa using c3)]
        · cases c3
      · cases c2
    obtain ⟨y', cap', w', r1, r2, r3, r4⟩ := append_row_str (P := X.P) (ty := o.type) (elemT_eq e1) (strT_eq c1) i1 i2 i3 i4 ho1 hnN b hb1 hb2
    have hlen : (xs.take (n * 1)).length = rows.length * 1 := by rw [(own_prefix ho1 hnN).1, hn]
    have hq := h.grow (w' := w') (row := blockOf (.slice yd N cap)) (old := old) hrow hold r3 (v := .slice y' (n + b.size) cap') r4 (ob := .row e 1 (rows ++ rowsOf b)) (fun b => blk_row) (fun O' ht => by
      refine ⟨_, _, Rho.upd_same _ _ _, ?_, (flat_append hlen hf1 (flat_str w _ b)).mono ht, ?_⟩
      · rw [List.length_append, hn, rowsOf_len]; exact r2
      · intro u hu
        rcases List.mem_append.1 hu with hu | hu
        · exact h1 u (List.mem_of_mem_take hu)
        · exact strCells_oneCell b u hu)
    refine .value ⟨_, _, _, .slice y' (n + b.size) cap', w', hk, ?_, hq.1, ?_⟩
    · simp [execOp, ho, resolve, invoke, builtin, hx, lit_at h hy, r1]
    · refine ⟨y', n + b.size, cap', y', Rho.upd_same _ _ _, by simp, ?_, fun _ => rfl, fun hn0 => ?_, fun e => ?_, fun q e => ?_⟩
      all_goals rcases r2.2 with ⟨z1, z2⟩ | ⟨g, c, cur, z1, _, _, z4, _⟩
      all_goals simp only [Value.slice.injEq, true_and] at z1
      · omega
      · omega
      · omega
      · obtain ⟨rfl, rfl⟩ := z1; simp [Addr.add_lit]
      · exact z1.2.2
      · rw [z1.1] at e; cases e
      · rw [z1.1] at e; cases e
      · rw [z1.1] at e; cases e; exact ⟨_, rfl⟩
  · exact hk.x.elim

/-- New memory that isn't ours. -/
theorem RelAt.beside (h : RelAt X B ρ s a w) {w' : World} (hg : w.grownBy w' none) : RelAt X B ρ s a w' ∧ Tr w (Own ρ s.hp) w' (Own ρ s.hp) := by
  have hsame : ∀ b, b < w.heap.size → w'.heap[b]? = w.heap[b]? := fun b hb => hg.block b hb (by simp)
  have ht : Tr w (Own ρ s.hp) w' (Own ρ s.hp) := ⟨hg.os, hg.tape, hg.output, hg.size, fun b hb hn => ⟨hsame b hb, hn⟩⟩
  have hh : Hp X w' ρ s.hp := ⟨glob_keep h.hp fun b hb _ => hsame b hb, Nat.le_trans h.hp.ng hg.size, fun i v b h1 h2 => Nat.lt_of_lt_of_le (h.hp.lt i v b h1 h2) hg.size, h.hp.low, h.hp.inj,
    fun i x hi => ObRep.mono ht (Rho.le.refl ρ) (fun b hb => hsame b (Blk_lt h.hp hi hb)) (fun v b h1 h2 => h.hp.lt i v b h1 h2) (h.hp.has i x hi), h.hp.free⟩
  exact ⟨h.step hh ht (Rho.le.refl ρ), ht⟩

/-- The bytes of a text, in memory that never turns again. -/
def byteRow (b : ByteArray) (i : Nat) : List AV := [.lit (.int .u8 ((b.data.toList.getD i 0).toNat))]
def strBytesK (P : Program) (src dst : TypeId) (b : ByteArray) (K : AV → Prop) : Prop :=
  match elemT P dst with
  | some e => Need (strT P src = true ∧ u8T P e = true) (K (.rslc 1 b.size (byteRow b)))
  | none => Stuck "bytes of a text"
theorem str_bytes_ok (h : RelAt X B ρ s a w) {o : Oper} {src dst : TypeId} {x : Operand} (ho : o.op = .convert src dst x) {b : ByteArray} (hx : opv s x = .lit (.string b)) {K : AV → List Ob → Prop} (hk : strBytesK X.P src dst b fun c => K c s.hp) : Eff X B s a w o K := by
  unfold strBytesK at hk
  split at hk
  · rename_i e e1
    obtain ⟨⟨c1, c2⟩, hk⟩ := hk
    have hu8 : X.P.underlying e = some (.int .u8) := by
      unfold u8T at c2
      split at c2
      · assumption
      · cases c2
    have hrun := run_bytes_of_string (P := X.P) w src dst e b (strT_eq c1) (elemT_eq e1) hu8
    have hg : w.grownBy (w.drew.alloc (.cells (bytesRow b (grownCap w b.size 0 e)) e ((bytesRow b (grownCap w b.size 0 e)).size, (bytesRow b (grownCap w b.size 0 e)).size + 1))) none :=
      ⟨rfl, rfl, rfl, by simp, fun k hk _ => heap_alloc_old w.drew _ k hk⟩
    obtain ⟨hr, _⟩ := h.beside hg
    refine .value ⟨_, _, ρ, .slice (some ⟨w.heap.size, 0, none⟩) b.size (grownCap w b.size 0 e), _, hk, ?_, hr, ?_⟩
    · simp [execOp, ho, lit_at h hx, hrun]
    · simp only [RepV, RepA, RepC, RepB]
      refine .rslc 1 b.size (byteRow b) (some ⟨w.heap.size, 0, none⟩) _ w.heap.size 0 (fun i _ => .int .u8 ((b.data.toList.getD i 0).toNat)) (grownCap_ge w _ _ e) (fun e => by cases e) (fun _ => ⟨rfl, by simp, fun k => absurd (own_size h.hp k) (Nat.lt_irrefl _)⟩) (fun _ _ => rfl) (fun i j hi hj => ?_) (fun i j c hi hc => ?_)
      · have hj0 : j = 0 := by omega
        subst hj0
        have hnew := heap_alloc_new w.drew (.cells (bytesRow b (grownCap w b.size 0 e)) e ((bytesRow b (grownCap w b.size 0 e)).size, (bytesRow b (grownCap w b.size 0 e)).size + 1))
        have hnew' : (w.drew.alloc (.cells (bytesRow b (grownCap w b.size 0 e)) e ((bytesRow b (grownCap w b.size 0 e)).size, (bytesRow b (grownCap w b.size 0 e)).size + 1))).heap[w.heap.size]? = some (.cells (bytesRow b (grownCap w b.size 0 e)) e ((bytesRow b (grownCap w b.size 0 e)).size, (bytesRow b (grownCap w b.size 0 e)).size + 1)) := hnew
        simp only [World.cell?, hnew']
        have hi' : i < b.data.size := hi
        simp [bytesRow, Array.getElem?_append, hi, List.getD_eq_getElem?_getD]
      · cases j with
        | zero => cases hc; exact .lit _ rfl
        | succ j => cases hc
  · exact hk.x.elim
end
end Go.Proofs.De

namespace Go.Proofs.De
open Go.RowKit

/-! A value, a state, by their outsides: the same, but reckoned. -/
def fV (v : Value) (K : Value → Prop) : Prop :=
  match v with
  | .bool b => K (.bool b) | .int k n => K (.int k n) | .float k n => K (.float k n) | .complex k a b => K (.complex k a b) | .string s => K (.string s)
  | .pointer a => K (.pointer a) | .slice a n c => K (.slice a n c) | .map r => K (.map r) | .chan r => K (.chan r) | .func f a b => K (.func f a b)
  | .nilFunc => K .nilFunc | .iface t v => K (.iface t v) | .nilIface => K .nilIface | .agg c => K (.agg c) | .tuple c => K (.tuple c)
theorem fV_eq (v : Value) (K : Value → Prop) : fV v K = K v := by cases v <;> rfl
def f0 (c : AV) (K : AV → Prop) : Prop :=
  match c with
  | .lit v => fV v fun v => K (.lit v)
  | .any => K .any
  | .agg cs => K (.agg cs)
  | .tup vs => K (.tup vs)
  | .bptr id f => K (.bptr id f)
  | .eptr id wd i f => K (.eptr id wd i f)
  | .slc id wd i n => K (.slc id wd i n)
  | .fn f caps => K (.fn f caps)
  | .rptr cs f => K (.rptr cs f)
  | .rslc wd n row => K (.rslc wd n row)
theorem f0_eq (c : AV) (K : AV → Prop) : f0 c K = K c := by cases c <;> simp [f0, fV_eq]
def fL : List AV → (List AV → Prop) → Prop
  | [], K => K []
  | c :: l, K => f0 c fun c => fL l fun l => K (c :: l)
theorem fL_eq : ∀ (l : List AV) (K : List AV → Prop), fL l K = K l
  | [], _ => rfl
  | c :: l, K => by simp only [fL, f0_eq, fL_eq l]
def f1 (c : AV) (K : AV → Prop) : Prop :=
  match c with
  | .agg cs => fL cs fun cs => K (.agg cs)
  | .fn f caps => fL caps fun caps => K (.fn f caps)
  | .rptr cs f => fL cs fun cs => K (.rptr cs f)
  | c => f0 c K
theorem f1_eq (c : AV) (K : AV → Prop) : f1 c K = K c := by cases c <;> simp [f1, f0_eq, fL_eq]
def fL1 : List AV → (List AV → Prop) → Prop
  | [], K => K []
  | c :: l, K => f1 c fun c => fL1 l fun l => K (c :: l)
theorem fL1_eq : ∀ (l : List AV) (K : List AV → Prop), fL1 l K = K l
  | [], _ => rfl
  | c :: l, K => by simp only [fL1, f1_eq, fL1_eq l]
def f2 (c : AV) (K : AV → Prop) : Prop :=
  match c with
  | .tup vs => fL1 vs fun vs => K (.tup vs)
  | c => f1 c K
theorem f2_eq (c : AV) (K : AV → Prop) : f2 c K = K c := by cases c <;> simp [f2, f1_eq, fL1_eq]
def fOb (o : Ob) (K : Ob → Prop) : Prop :=
  match o with
  | .none => K .none
  | .box cs => fL cs fun cs => K (.box cs)
  | .row et wd rows => K (.row et wd rows)
  | .fz et wd rows => K (.fz et wd rows)
  | .ext M => K (.ext M)
  | .iter s p => K (.iter s p)
theorem fOb_eq (o : Ob) (K : Ob → Prop) : fOb o K = K o := by cases o <;> simp [fOb, fL_eq]
def fH : List Ob → (List Ob → Prop) → Prop
  | [], K => K []
  | c :: l, K => fOb c fun c => fH l fun l => K (c :: l)
theorem fH_eq : ∀ (l : List Ob) (K : List Ob → Prop), fH l K = K l
  | [], _ => rfl
  | c :: l, K => by simp only [fH, fOb_eq, fH_eq l]
/-- Slots: their spine alone. -/
def fE : List AV → (List AV → Prop) → Prop
  | [], K => K []
  | c :: l, K => fE l fun l => K (c :: l)
theorem fE_eq : ∀ (l : List AV) (K : List AV → Prop), fE l K = K l
  | [], _ => rfl
  | c :: l, K => by simp only [fE, fE_eq l]
/-- A value into a slot, beside new own blocks. -/
def St.putK (s : St) (hp : List Ob) (d : Option Tmp) (c : AV) (K : St → Prop) : Prop :=
  match s with
  | ⟨env, _, b⟩ => f2 c fun c => fH hp fun hp => match d with
    | some d => fE (setN env d c) fun env => K ⟨env, hp, b⟩
    | none => K ⟨env, hp, b⟩
theorem St.putK_eq (s : St) (hp : List Ob) (d : Option Tmp) (c : AV) (K : St → Prop) : s.putK hp d c K = K (({ s with hp := hp } : St).put d c) := by
  cases d <;> simp [St.putK, f2_eq, fH_eq, fE_eq, St.put]

/-- What a call of a function does, of these values and own blocks. -/
structure SimCall (X : Cx) (f : FuncId) (args : List AV) (hp : List Ob) (R : AV → List Ob → Prop) : Prop where
  fn : ∃ fn, X.P.funcs[f]? = some fn ∧ (fn.name == "runtime.NumGoroutine") = false ∧ fn.body.isNone = false
  sim : ∀ (ρ : Rho) (w : World) (vs : Array Value), Hp X w ρ hp → vs.size = args.length → (∀ (j : Nat) (c : AV), args[j]? = some c → ∃ u : Value, vs[j]? = some u ∧ RepV w (Own ρ hp) ρ c u) →
    Calls X.P f vs w fun e w' => ∃ v c hp' ρ', e = .returned v ∧ R c hp' ∧ Hp X w' ρ' hp' ∧ Tr w (Own ρ hp) w' (Own ρ' hp') ∧ ρ.le ρ' ∧ RepV w' (Own ρ' hp') ρ' c v

def aop (X : Cx) (s : St) (o : Oper) (K : AV → List Ob → Prop) : Prop :=
  match o.op with
  | .box _ x => match cellsOf (opv s x) with
    | some l => fN s.hp.length fun n => K (.bptr n 0) (s.hp ++ [.box l])
    | none => Stuck "box"
  | .alloc t => match zeroC X.P t with
    | some z => fN s.hp.length fun n => K (.bptr n 0) (s.hp ++ [.box z])
    | none => Stuck "alloc"
  | .store t x y => match sizeT X.P t, cellsOf (opv s y) with
    | some sz, some l => match opv s x with
      | .bptr id f => match s.hp[id]? with
        | some (.box cs) => if l.length = sz ∧ f + sz ≤ cs.length then K .any (setN s.hp id (.box (setAll cs f l))) else Stuck "store size"
        | _ => Stuck "store box"
      | .eptr id wd i f => storeRowK s.hp sz id wd i f l K
      | _ => Stuck "store address"
    | _, _ => Stuck "store"
  | .buildSlice t len ps => buildK X.P s t len ps.toList K
  | .call { callee := .builtin .append, args, argTypes } => match args.toList, argTypes.toList with
    | [x, y], [t, u] => if t = u then appendK X.P s t x y K else appendStrK X.P s t u x y K
    | _, _ => Stuck "append"
  | .call { callee := .value f, args, .. } => match opv s f with
    | .fn g caps => SimCall X g (opvs s args.toList ++ caps) s.hp K
    | _ => Stuck "call"
  | .convert src dst x => match opv s x with
    | .slc _ _ _ _ => bytesK X.P s src dst x fun c => K c s.hp
    | .rslc _ _ _ => bytesK X.P s src dst x fun c => K c s.hp
    | .lit (.string b) => match elemT X.P dst with
      | some _ => strBytesK X.P src dst b fun c => K c s.hp
      | none => vopK X.P s o fun c => K c s.hp
    | _ => vopK X.P s o fun c => K c s.hp
  | .range t x => match opv s x with
    | .lit (.string b) => if strT X.P t then fN s.hp.length fun n => K (.bptr n 0) (s.hp ++ [.iter b 0]) else Stuck "range type"
    | _ => Stuck "range"
  | .next x true => nextK s x K
  | .makeSlice t x y => makeK X.P s t x y K
  | .index t x i => match opv s x with
    | .agg _ => indexArrK X.P s t x i fun c => K c s.hp
    | _ => vopK X.P s o fun c => K c s.hp
  | .call { callee := .builtin .max, args, .. } => maxK s args.toList true fun c => K c s.hp
  | .call { callee := .builtin .min, args, .. } => maxK s args.toList false fun c => K c s.hp
  | .binOp op t x y _ => match opv s x, opv s y with
    | .agg cs, .agg ds => eqStructK X.P t op cs ds fun c => K c s.hp
    | _, _ => vopK X.P s o fun c => K c s.hp
  | _ => vopK X.P s o fun c => K c s.hp

section
variable {X : Cx} {B : Base} {ρ : Rho} {s : St} {a : Act} {w : World}

theorem Eff.of_val {o : Oper} {K : AV → List Ob → Prop} (h : RelAt X B ρ s a w) (hv : Val X ρ s a w o fun c => K c s.hp) : Eff X B s a w o K := by
  obtain ⟨c, u, h1, h2, h3⟩ := hv
  exact .value ⟨c, s.hp, ρ, u, w, h1, h2, h, h3⟩

theorem RepV_caps {O : Nat → Prop} {caps : List AV} {us : Array Value} (hs : us.size = caps.length) (h : ∀ (j : Nat) (c : AV), caps[j]? = some c → ∃ x : Value, us[j]? = some x ∧ RepB w O ρ c x) : ∀ (j : Nat) (c : AV), caps[j]? = some c → ∃ x : Value, us[j]? = some x ∧ RepV w O ρ c x := by
  have _ := hs
  intro j c hj
  obtain ⟨x, k1, k2⟩ := h j c hj
  refine ⟨x, k1, RepA_RepV (RepC_RepA ?_)⟩
  cases c <;> simp only [RepC] <;> first | exact k2 | (simp only [RepB] at k2; cases k2)

theorem call_ok (h : RelAt X B ρ s a w) {o : Oper} {f : Operand} {args : Array Operand} {ts : Array TypeId} (ho : o.op = .call { callee := .value f, args := args, argTypes := ts }) {g : FuncId} {caps : List AV} (hf : opv s f = .fn g caps) {K : AV → List Ob → Prop}
    (hk : SimCall X g (opvs s args.toList ++ caps) s.hp K) : Eff X B s a w o K := by
  obtain ⟨⟨fn, f1, f2, f3⟩, hk⟩ := hk
  have hr := h.opv f
  rw [hf] at hr
  obtain ⟨us, e1, e2, e3⟩ := hr
  intro next Q hn
  unfold Oper.wp
  have hrun : (execOp a.eval o).run X.P w = .ok (.enter g (args.map a.eval ++ us)) w := by
    simp only [execOp, ho, resolve, e1, Deferred.ofValue, Sem.run_bind, Sem.run_pure, Result.andThen_ok, invoke, callFunc, run_program, f1]
    simp [f2, f3]
  rw [hrun]
  refine (hk ρ w (args.map a.eval ++ us) h.hp (by simp [opvs_len, e2]) (fun j c hj => ?_)).mono ?_
  · rw [List.getElem?_append] at hj
    rw [Array.getElem?_append]
    simp only [opvs_len, Array.length_toList] at hj
    simp only [Array.size_map]
    split at hj
    · rename_i hlt
      rw [if_pos hlt]
      obtain ⟨x, k1, rfl⟩ := opvs_at hj
      exact ⟨a.eval x, by rw [Array.getElem?_map]; rw [Array.getElem?_toList] at k1; rw [k1]; rfl, h.opv x⟩
    · rename_i hlt
      rw [if_neg hlt]
      exact RepV_caps e2 e3 _ c hj
  · rintro e w' ⟨v, c, hp', ρ', rfl, k1, k2, k3, k4, k5⟩
    exact hn c hp' ρ' v w' k1 (h.step k2 k3 k4) k5

theorem aop_sound (h : RelAt X B ρ s a w) (o : Oper) {K : AV → List Ob → Prop} (hk : aop X s o K) : Eff X B s a w o K := by
  unfold aop at hk
  split at hk
  · rename_i ho
    split at hk
    · rename_i l e; rw [fN_eq] at hk; exact box_ok h ho e hk
    · exact hk.x.elim
  · rename_i ho
    split at hk
    · rename_i z e; rw [fN_eq] at hk; exact alloc_ok h ho e hk
    · exact hk.x.elim
  · rename_i ho
    split at hk
    · rename_i sz l e1 e2
      split at hk
      · rename_i id f e3
        split at hk
        · rename_i cs e4
          split at hk
          · rename_i hc; exact store_box h ho e1 e2 e3 e4 hc.1 hc.2 hk
          · exact hk.x.elim
        · exact hk.x.elim
      · rename_i id wd i f e3; exact store_row h ho e1 e2 e3 hk
      · exact hk.x.elim
    · exact hk.x.elim
  · rename_i ho; exact build_slice_ok h ho hk
  · rename_i args argTypes ho
    split at hk
    · rename_i x y t u e1 e2
      split at hk
      · rename_i e3
        subst e3
        have e4 : args = #[x, y] := by cases args; simpa using e1
        have e5 : argTypes = #[t, t] := by cases argTypes; simpa using e2
        subst e4; subst e5
        exact append_ok h ho hk
      · have e4 : args = #[x, y] := by cases args; simpa using e1
        have e5 : argTypes = #[t, u] := by cases argTypes; simpa using e2
        subst e4; subst e5
        exact append_str_ok h ho hk
    · exact hk.x.elim
  · rename_i ho
    split at hk
    · rename_i g caps e; exact call_ok h ho e hk
    · exact hk.x.elim
  · rename_i ho
    split at hk
    · exact .of_val h (bytes_ok h ho hk)
    · exact .of_val h (bytes_ok h ho hk)
    · rename_i b hx
      split at hk
      · exact str_bytes_ok h ho hx hk
      · exact .of_val h (vop_sound h o hk)
    · exact .of_val h (vop_sound h o hk)
  · rename_i ho
    split at hk
    · rename_i b e
      split at hk
      · rename_i ht; rw [fN_eq] at hk; exact range_ok h ho e ht hk
      · exact hk.x.elim
    · exact hk.x.elim
  · rename_i ho; exact next_ok h ho hk
  · rename_i ho; exact make_ok h ho hk
  · rename_i ho
    split at hk
    · exact .of_val h (index_arr_ok h ho hk)
    · exact .of_val h (vop_sound h o hk)
  · rename_i ho; exact .of_val h (max_ok h ho hk)
  · rename_i ho; exact .of_val h (min_ok h ho hk)
  · rename_i ho
    split at hk
    · rename_i cs ds e1 e2; exact .of_val h (struct_ok h ho e1 e2 hk)
    · exact .of_val h (vop_sound h o hk)
  · exact .of_val h (vop_sound h o hk)
end
end Go.Proofs.De

namespace Go.Proofs.De
open Go.RowKit

/-- A slot's literal, once it is known. -/
def St.knK (s : St) (d : Tmp) (b : Bool) (K : St → Prop) : Prop :=
  match s with
  | ⟨env, hp, base⟩ => fE (setN env d (.lit (.bool b))) fun env => K ⟨env, hp, base⟩
theorem setN_nth : ∀ {l : List AV} {d : Nat} {v : Value}, nth l d = .lit v → setN l d (.lit v) = l
  | [], d, v, h => by cases h
  | x :: l, 0, v, h => by simp only [nth] at h; rw [h]; rfl
  | x :: l, d + 1, v, h => by simp only [setN]; rw [setN_nth (l := l) h]
theorem St.knK_eq {s : St} {d : Tmp} {b : Bool} {K : St → Prop} (h : nth s.env d = .lit (.bool b)) : s.knK d b K = K s := by
  obtain ⟨env, hp, base⟩ := s
  simp only [St.knK, fE_eq]
  rw [setN_nth h]
def guardK (ops : Array Oper) (s : St) (o : Oper) (yes : St → Prop) (no : St → Prop) : Prop :=
  match o.guard with
  | none => yes s
  | some (j, want) => match ops.toList[j]? with
    | some oj => match oj.dst with
      | some d => match nth s.env d with
        | .lit (.bool b) => Br (b == want) (s.knK d want yes) (s.knK d (!want) no)
        | .tup [] => no s
        | _ => Stuck "guard"
      | none => Stuck "guard slot"
    | none => Stuck "guard operation"
/-- By the recursor itself: so Lean's two ways of reckoning leave the same term. -/
noncomputable def aops (X : Cx) (ops : Array Oper) (l : List Oper) : St → (St → Prop) → Prop :=
  @List.rec Oper (fun _ => St → (St → Prop) → Prop) (fun s K => K s)
    (fun o _ ih s K => guardK ops s o (fun s => aop X s o fun c hp => s.putK hp o.dst c fun s' => ih s' K) (fun s => s.putK s.hp o.dst (.tup []) fun s' => ih s' K)) l
theorem aops_nil (X : Cx) (ops : Array Oper) (s : St) (K : St → Prop) : aops X ops [] s K = K s := rfl
theorem aops_cons (X : Cx) (ops : Array Oper) (o : Oper) (r : List Oper) (s : St) (K : St → Prop) : aops X ops (o :: r) s K =
    guardK ops s o (fun s => aop X s o fun c hp => s.putK hp o.dst c fun s' => aops X ops r s' K) (fun s => s.putK s.hp o.dst (.tup []) fun s' => aops X ops r s' K) := rfl

/-- A piece of code from one state on: it comes to an end of which Q tells. -/
def CodeOK (X : Cx) (c : Code) (Q : Exit → St → Prop) (s : St) : Prop :=
  ∀ B a w, Rel X B s a w → c.wp X.P (fun e a' w' => ∃ s', Q e s' ∧ Rel X B s' a' w') a w
structure LoopK (X : Cx) (c : Code) (Q : Exit → St → Prop) (s : St) : Prop where
  x : CodeOK X (.loop c) Q s
structure DrawK (X : Cx) (id : Nat) (ops : Array Oper) (Q : Exit → St → Prop) (s : St) : Prop where
  x : CodeOK X (.region id ops true) Q s

def seqQ (K : St → Prop) (Q : Exit → St → Prop) (e : Exit) (s' : St) : Prop := match e with | .normal => K s' | e => Q e s'
def blockQ (id : Nat) (Q : Exit → St → Prop) (e : Exit) (s' : St) : Prop := match e with | .exit j => if j = id then Q .normal s' else Q (.exit j) s' | e => Q e s'
def condK (c : Operand) (A B : St → Prop) (s : St) : Prop :=
  match opv s c with
  | .lit (.bool x) => match c with
    | .tmp t => Br x (s.knK t true A) (s.knK t false B)
    | _ => Br x (A s) (B s)
  | _ => Stuck "cond"
noncomputable def aev (X : Cx) (c : Code) : (Exit → St → Prop) → St → Prop :=
  @Code.rec (fun _ => (Exit → St → Prop) → St → Prop)
    (fun Q s => Q .normal s)
    (fun id ops draw Q s => @Bool.rec (fun _ => Prop) (aops X ops ops.toList s (Q .normal)) (DrawK X id ops Q s) draw)
    (fun _ _ iha ihb Q s => iha (seqQ (ihb Q) Q) s)
    (fun c _ _ iha ihb Q s => condK c (iha Q) (ihb Q) s)
    (fun id _ ih Q s => ih (blockQ id Q) s)
    (fun b _ Q s => LoopK X b Q s)
    (fun _ _ _ _ _ _ _ _ => Stuck "code")
    (fun id Q s => Q (.exit id) s)
    (fun _ _ _ _ => Stuck "code")
    (fun _ _ _ => Stuck "code")
    (fun _ _ _ => Stuck "code")
    (fun Q s => Q .ret s)
    (fun _ _ _ => Stuck "code") c

section
variable {X : Cx} {B : Base}

theorem guard_ok {ρ : Rho} {s : St} {a : Act} {w : World} (h : RelAt X B ρ s a w) {ops : Array Oper} {o : Oper} {yes no : St → Prop} (hk : guardK ops s o yes no) : (Region.wanted o (yielded ops a.tmps) = true ∧ yes s) ∨ (Region.wanted o (yielded ops a.tmps) = false ∧ no s) := by
  unfold guardK at hk
  unfold Region.wanted
  cases hg : o.guard with
  | none => rw [hg] at hk; exact .inl ⟨rfl, hk⟩
  | some p =>
    obtain ⟨j, want⟩ := p
    rw [hg] at hk
    simp only at hk ⊢
    split at hk
    · rename_i oj e1
      split at hk
      · rename_i d e2
        split at hk
        · rename_i b e3
          have hy : yielded ops a.tmps j = some b := by
            have hj : ops[j]? = some oj := by simpa using e1
            have hd : (ops[j]?).bind (·.dst) = some d := by rw [hj]; exact e2
            have hv := h.opv (.tmp d)
            simp only [opv, e3] at hv
            have h2 := (RepV_lit.1 hv).1
            unfold yielded
            rw [hd]
            simp only [Option.bind_some]
            simp only [Act.eval, Array.getD_eq_getD_getElem?] at h2
            cases ht : a.tmps[d]? with
            | none => rw [ht] at h2; cases h2
            | some x => rw [ht] at h2; simp only [Option.getD_some] at h2; subst h2; rfl
          rw [hy]
          cases hb : (b == want) with
          | true =>
            have hbw : b = want := by simpa using hb
            have := hk.t hb
            rw [St.knK_eq (by rw [e3, hbw])] at this
            exact .inl ⟨by simpa using hb, this⟩
          | false =>
            have hbw : b = !want := by revert hb; cases b <;> cases want <;> simp
            have := hk.f hb
            rw [St.knK_eq (by rw [e3, hbw])] at this
            exact .inr ⟨by simpa using hb, this⟩
        · rename_i e3
          have hy : yielded ops a.tmps j = none := by
            have hj : ops[j]? = some oj := by simpa using e1
            have hd : (ops[j]?).bind (·.dst) = some d := by rw [hj]; exact e2
            have hv := h.opv (.tmp d)
            simp only [opv, e3] at hv
            obtain ⟨us, h2, _, _⟩ := hv
            unfold yielded
            rw [hd]
            simp only [Option.bind_some]
            simp only [Act.eval, Array.getD_eq_getD_getElem?] at h2
            cases ht : a.tmps[d]? with
            | none => rfl
            | some x => rw [ht] at h2; simp only [Option.getD_some] at h2; subst h2; rfl
          rw [hy]
          exact .inr ⟨rfl, hk⟩
        · exact hk.x.elim
      · exact hk.x.elim
    · exact hk.x.elim

theorem RelAt.putK {ρ : Rho} {s : St} {a : Act} {w : World} {hp : List Ob} (h : RelAt X B ρ { s with hp := hp } a w) {d : Option Tmp} {c : AV} {u : Value} (hr : RepV w (Own ρ hp) ρ c u) {K : St → Prop} (hk : s.putK hp d c K) : ∃ s', K s' ∧ RelAt X B ρ s' (a.put d u) w := by
  rw [St.putK_eq] at hk
  exact ⟨_, hk, h.put d hr⟩

theorem aops_sound {ops : Array Oper} {Q : Exit → Act → World → Prop} : ∀ (l : List Oper) {s : St} {a : Act} {w : World}, Rel X B s a w → ∀ {K : St → Prop}, (∀ s' a' w', K s' → Rel X B s' a' w' → Q .normal a' w') → aops X ops l s K → wpList X.P ops Q l a w
  | [], s, a, w, hr, K, hq, hk => hq s a w hk hr
  | o :: r, s, a, w, ⟨ρ, h⟩, K, hq, hk => by
    refine wpList_step fun K' hK' => ?_
    rw [aops_cons] at hk
    rcases guard_ok h hk with ⟨e, hk⟩ | ⟨e, hk⟩
    · rw [if_pos e]
      refine aop_sound h o hk K' Q fun c hp' ρ' u w' k1 k2 k3 => ?_
      obtain ⟨s', q1, q2⟩ := k2.putK k3 k1
      exact hK' _ _ (aops_sound r ⟨ρ', q2⟩ hq q1)
    · rw [if_neg (by rw [e]; decide)]
      obtain ⟨s', q1, q2⟩ := RelAt.putK (s := s) (hp := s.hp) h (d := o.dst) (c := .tup []) (u := undef) ⟨#[], rfl, rfl, fun j c hc => by cases hc⟩ hk
      exact hK' _ _ (aops_sound r ⟨ρ, q2⟩ hq q1)

theorem aev_sound : ∀ (c : Code) {Q : Exit → St → Prop} {s : St}, aev X c Q s → CodeOK X c Q s
  | .skip, Q, s, hk => fun B a w hr => wp_skip ⟨s, hk, hr⟩
  | .region id ops false, Q, s, hk => fun B a w hr => wp_region_list (aops_sound ops.toList hr (fun s' a' w' k r => ⟨s', k, r⟩) hk)
  | .region id ops true, Q, s, hk => hk.x
  | .seq x y, Q, s, hk => fun B a w hr => by
    refine wp_seq (wp_mono (aev_sound x hk B a w hr) fun e a' w' ⟨s', k, r⟩ => ?_)
    cases e with
    | normal => exact aev_sound y k B a' w' r
    | _ => exact ⟨s', k, r⟩
  | .cond c x y, Q, s, hk => fun B a w hr => by
    obtain ⟨ρ, h⟩ := hr
    have hk : condK c (aev X x Q) (aev X y Q) s := hk
    unfold condK at hk
    split at hk
    · rename_i b e
      refine wp_cond (t := b) (lit_at h e) ?_
      split at hk
      · cases b with
        | true => have := hk.t rfl; rw [St.knK_eq e] at this; exact aev_sound x this B a w ⟨ρ, h⟩
        | false => have := hk.f rfl; rw [St.knK_eq e] at this; exact aev_sound y this B a w ⟨ρ, h⟩
      · cases b with
        | true => exact aev_sound x (hk.t rfl) B a w ⟨ρ, h⟩
        | false => exact aev_sound y (hk.f rfl) B a w ⟨ρ, h⟩
    · exact hk.x.elim
  | .block id b, Q, s, hk => fun B a w hr => by
    refine wp_block (wp_mono (aev_sound b hk B a w hr) fun e a' w' ⟨s', k, r⟩ => ?_)
    cases e with
    | exit j =>
      simp only [Exit.inBlock]
      simp only [blockQ] at k
      split
      · rename_i e; rw [if_pos e] at k; exact ⟨s', k, r⟩
      · rename_i e; rw [if_neg e] at k; exact ⟨s', k, r⟩
    | _ => exact ⟨s', k, r⟩
  | .exit id, Q, s, hk => fun B a w hr => wp_exit ⟨s, hk, hr⟩
  | .ret, Q, s, hk => fun B a w hr => wp_ret ⟨s, hk, hr⟩
  | .loop b, Q, s, hk => hk.x
  | .rangeFunc _ _ _ _, _, _, hk => hk.x.elim
  | .scope _, _, _, hk => hk.x.elim
  | .label _, _, _, hk => hk.x.elim
  | .goto _, _, _, hk => hk.x.elim
  | .refuse _, _, _, hk => hk.x.elim
end

/-! Whole functions. -/
def isA : AV → Bool
  | .any => false
  | .tup _ => false
  | _ => true
def resK (X : Cx) (s : St) : List ResultVar → (List AV → Prop) → Prop
  | [], K => K []
  | .tmp t :: l, K => match isA (nth s.env t) with
    | true => f1 (nth s.env t) fun c => resK X s l fun r => K (c :: r)
    | false => Stuck "result"
  | .cell d t :: l, K => match nth s.env d with
    | .bptr id f => match s.hp[id]? with
      | some (.box cs) => match loadC X.P t cs f with
        | some c => f1 c fun c => resK X s l fun r => K (c :: r)
        | none => Stuck "result cell"
      | _ => Stuck "result box"
    | _ => Stuck "result address"
def endK (X : Cx) (fn : Func) (R : AV → List Ob → Prop) (s : St) : Prop :=
  match s with
  | ⟨env, hp, b⟩ => resK X ⟨env, hp, b⟩ fn.results.toList fun l => match l with
    | [c] => R c hp
    | l => R (.tup l) hp
def enterSt (fn : Func) (args : List AV) (hp : List Ob) : St := ⟨args ++ List.replicate (fn.ntmps - args.length) .any, hp, hp.length⟩
def finK (X : Cx) (fn : Func) (R : AV → List Ob → Prop) : Exit → St → Prop
  | .normal, s => endK X fn R s
  | .ret, s => endK X fn R s
  | _, _ => Stuck "end"
def afun (X : Cx) (fn : Func) (args : List AV) (hp : List Ob) (R : AV → List Ob → Prop) : Prop :=
  match fn.body with
  | some c => fE (enterSt fn args hp).env fun env => aev X c (finK X fn R) ⟨env, hp, hp.length⟩
  | none => Stuck "body"

section
variable {X : Cx} {B : Base} {ρ : Rho} {s : St} {a : Act} {w : World}

def resF (tmps : Array Value) (r : ResultVar) : Sem Value :=
  match r with
  | .tmp t => pure (tmps.getD t undef)
  | .cell d t => do loadVar t (← asAddr (tmps.getD d undef))
theorem results_eq (fn : Func) (tmps : Array Value) : results fn tmps = (do let vs ← fn.results.mapM (resF tmps); pure (if h : vs.size = 1 then vs[0] else .tuple vs)) := by
  unfold results
  congr 1
theorem resK_ok (h : RelAt X B ρ s a w) : ∀ (l : List ResultVar) {K : List AV → Prop}, resK X s l K → ∃ cs us, K cs ∧ us.length = l.length ∧ cs.length = l.length ∧
    (l.mapM (resF a.tmps)).run X.P w = .ok us w ∧ ∀ (j : Nat) (c : AV), cs[j]? = some c → ∃ u : Value, us[j]? = some u ∧ RepA w (Own ρ s.hp) ρ c u
  | [], K, hk => ⟨[], [], hk, rfl, rfl, rfl, fun j c e => by cases e⟩
  | .tmp t :: l, K, hk => by
    simp only [resK] at hk
    split at hk
    · rename_i e
      rw [f1_eq] at hk
      obtain ⟨cs, us, k1, k2, k3, k4, k5⟩ := resK_ok h l hk
      refine ⟨_, a.tmps.getD t undef :: us, k1, by simp [k2], by simp [k3], ?_, fun j c hj => ?_⟩
      · simp only [List.mapM_cons, Sem.run_bind, resF, Sem.run_pure, Result.andThen_ok]
        rw [k4]; rfl
      · cases j with
        | zero =>
          cases hj
          refine ⟨_, rfl, ?_⟩
          have := h.opv (.tmp t)
          simp only [opv, Act.eval] at this
          cases hc : nth s.env t <;> rw [hc] at e this <;> first | (cases e; done) | (simp only [RepV] at this; exact this)
        | succ j => exact k5 j c hj
    · exact hk.x.elim
  | .cell d t :: l, K, hk => by
    simp only [resK] at hk
    split at hk
    · rename_i id f e1
      split at hk
      · rename_i cs0 e2
        split at hk
        · rename_i c0 e3
          rw [f1_eq] at hk
          obtain ⟨cs, us, k1, k2, k3, k4, k5⟩ := resK_ok h l hk
          have hr := h.opv (.tmp d)
          simp only [opv, e1, Act.eval] at hr
          obtain ⟨g, q1, q2⟩ := cells_box h hr e2
          obtain ⟨u, p1, p2⟩ := run_loadAt (P := X.P) q2 e3
          refine ⟨_, u :: us, k1, by simp [k2], by simp [k3], ?_, fun j c hj => ?_⟩
          · have p3 : (loadVar t ⟨g, 0 + f, none⟩).run X.P w = .ok u w := by simpa [Instr.loadAt, Instr.sureAddr] using p1
            have p4 : (resF a.tmps (.cell d t)).run X.P w = .ok u w := by
              simp only [resF, q1, asAddr, Sem.run_bind, Sem.run_pure, Result.andThen_ok]
              exact p3
            simp only [List.mapM_cons, Sem.run_bind, p4, Result.andThen_ok, Sem.run_pure]
            rw [k4]; rfl
          · cases j with
            | zero => cases hj; exact ⟨u, rfl, p2⟩
            | succ j => exact k5 j c hj
        · exact hk.x.elim
      · exact hk.x.elim
    · exact hk.x.elim

theorem end_ok {fn : Func} (h : RelAt X B ρ s a w) {R : AV → List Ob → Prop} (hk : endK X fn R s) : ∃ v c, (results fn a.tmps).run X.P w = .ok v w ∧ R c s.hp ∧ RepV w (Own ρ s.hp) ρ c v := by
  obtain ⟨cs, us, k1, k2, k3, k4, k5⟩ := resK_ok h fn.results.toList hk
  have hrun : (results fn a.tmps).run X.P w = .ok (if h : us.toArray.size = 1 then us.toArray[0] else .tuple us.toArray) w := by
    rw [results_eq, Array.mapM_eq_mapM_toList]
    simp only [Sem.run_bind, Sem.run_map, k4]
    rfl
  by_cases h1 : fn.results.toList.length = 1
  · have l1 : cs.length = 1 := k3.trans h1
    have l2 : us.length = 1 := k2.trans h1
    obtain ⟨c, rfl⟩ := List.length_eq_one_iff.1 l1
    obtain ⟨u, rfl⟩ := List.length_eq_one_iff.1 l2
    obtain ⟨u', e1, e2⟩ := k5 0 c rfl
    cases e1
    exact ⟨u, c, hrun, k1, RepA_RepV e2⟩
  · refine ⟨.tuple us.toArray, .tup cs, ?_, ?_, ⟨us.toArray, rfl, by rw [List.size_toArray, k2, k3], fun j c hj => let ⟨u, e1, e2⟩ := k5 j c hj; ⟨u, by simpa using e1, e2⟩⟩⟩
    · rw [hrun, dif_neg (by rw [List.size_toArray, k2]; exact h1)]
    · split at k1
      · exact absurd k3.symm h1
      · exact k1

theorem SimCall.of_body {f : FuncId} {fn : Func} (hf : X.P.funcs[f]? = some fn) (hn : (fn.name == "runtime.NumGoroutine") = false) {args : List AV} {hp : List Ob} {R : AV → List Ob → Prop} (hk : afun X fn args hp R) : SimCall X f args hp R := by
  unfold afun at hk
  split at hk
  · rename_i c hb
    rw [fE_eq] at hk
    refine ⟨⟨fn, hf, hn, by rw [hb]; rfl⟩, fun ρ w vs hh hs hv => ?_⟩
    refine calls_of_wp hf hb ?_
    let B : Base := ⟨w, ρ, hp⟩
    have h0 : RelAt X B ρ (enterSt fn args hp) { tmps := vs ++ Array.replicate (fn.ntmps - vs.size) undef, defers := [] } w := by
      refine ⟨hh, by simp [enterSt, hs], fun t c hc => ?_, rfl, Tr.refl _ _, Rho.le.refl ρ, rfl, hh.free⟩
      simp only [enterSt] at hc
      rw [List.getElem?_append] at hc
      rw [Array.getElem?_append, hs]
      split at hc
      · rename_i hlt
        rw [if_pos hlt]
        exact hv t c hc
      · rename_i hlt
        rw [if_neg hlt]
        have hlt2 := (List.getElem?_eq_some_iff.1 hc).1
        simp only [List.length_replicate] at hlt2
        have hcc : c = .any := by
          have := List.mem_of_getElem? hc
          exact (List.mem_replicate.1 this).2
        subst hcc
        exact ⟨undef, by simp [hlt2], trivial⟩
    refine wp_mono (aev_sound c hk B _ w ⟨ρ, h0⟩) fun e a' w' ⟨s', k, ρ', r⟩ => ?_
    have fin : endK X fn R s' → bodyPost X.P fn (fun e w' => ∃ v c hp' ρ', e = .returned v ∧ R c hp' ∧ Hp X w' ρ' hp' ∧ Tr w (Own ρ hp) w' (Own ρ' hp') ∧ ρ.le ρ' ∧ RepV w' (Own ρ' hp') ρ' c v) .ret a' w' := fun k => by
      obtain ⟨v, c, q1, q2, q3⟩ := end_ok r k
      exact ⟨r.defers, v, q1, v, c, s'.hp, ρ', rfl, q2, r.hp, r.tr, r.ext, q3⟩
    cases e with
    | normal => exact fin k
    | ret => exact fin k
    | exit j => exact k.x.elim
    | goto l => exact k.x.elim
    | panic ch => exact k.x.elim
    | outgrown => exact k.x.elim
  · exact hk.x.elim
end
end Go.Proofs.De

namespace Go.Proofs.De
open Go.RowKit

/-! Values without numbers of own blocks. -/
def noB : AV → Bool
  | .lit _ => true
  | .any => true
  | .rptr .. => true
  | .rslc .. => true
  | _ => false
def noBs : List AV → Bool
  | [] => true
  | c :: l => noB c && noBs l
def noC : AV → Bool
  | .fn _ caps => noBs caps
  | c => noB c
def noCs : List AV → Bool
  | [] => true
  | c :: l => noC c && noCs l
def noA : AV → Bool
  | .agg cs => noCs cs
  | c => noC c
def noAs : List AV → Bool
  | [] => true
  | c :: l => noA c && noAs l
def noV : AV → Bool
  | .tup vs => noAs vs
  | c => noA c
def noVs : List AV → Bool
  | [] => true
  | c :: l => noV c && noVs l
theorem noBs_at : ∀ {l : List AV} {j : Nat} {c : AV}, noBs l = true → l[j]? = some c → noB c = true
  | [], j, c, _, h => by cases h
  | y :: l, 0, c, h1, h => by cases h; simp only [noBs, Bool.and_eq_true] at h1; exact h1.1
  | y :: l, j + 1, c, h1, h => by simp only [noBs, Bool.and_eq_true] at h1; exact noBs_at h1.2 h
theorem noCs_at : ∀ {l : List AV} {j : Nat} {c : AV}, noCs l = true → l[j]? = some c → noC c = true
  | [], j, c, _, h => by cases h
  | y :: l, 0, c, h1, h => by cases h; simp only [noCs, Bool.and_eq_true] at h1; exact h1.1
  | y :: l, j + 1, c, h1, h => by simp only [noCs, Bool.and_eq_true] at h1; exact noCs_at h1.2 h
theorem noAs_at : ∀ {l : List AV} {j : Nat} {c : AV}, noAs l = true → l[j]? = some c → noA c = true
  | [], j, c, _, h => by cases h
  | y :: l, 0, c, h1, h => by cases h; simp only [noAs, Bool.and_eq_true] at h1; exact h1.1
  | y :: l, j + 1, c, h1, h => by simp only [noAs, Bool.and_eq_true] at h1; exact noAs_at h1.2 h
theorem noVs_at : ∀ {l : List AV} {j : Nat} {c : AV}, noVs l = true → l[j]? = some c → noV c = true
  | [], j, c, _, h => by cases h
  | y :: l, 0, c, h1, h => by cases h; simp only [noVs, Bool.and_eq_true] at h1; exact h1.1
  | y :: l, j + 1, c, h1, h => by simp only [noVs, Bool.and_eq_true] at h1; exact noVs_at h1.2 h

theorem RepI.sub {w : World} {O O' : Nat → Prop} (hs : ∀ b, O' b → O b) {c : AV} {u : Value} (h : RepI w O c u) : RepI w O' c u := by
  induction h with
  | lit v h => exact .lit v h
  | any v h => exact .any v h
  | rptr cs f g o us h1 h2 h3 h4 ih => exact .rptr cs f g o us h1 (fun k => h2 (hs g k)) h3 ih
  | rslc wd n row base cap g o us h0 hb h1 h2 h3 h4 ih => exact .rslc wd n row base cap g o us h0 hb (fun hn => ⟨(h1 hn).1, (h1 hn).2.1, fun k => (h1 hn).2.2 (hs g k)⟩) h2 h3 ih
section
variable {w : World} {O O' : Nat → Prop} {ρ ρ' : Rho}
theorem noB_rep (hs : ∀ b, O' b → O b) {c : AV} {u : Value} (hn : noB c = true) (h : RepB w O ρ c u) : RepB w O' ρ' c u := by
  cases c <;> simp only [noB] at hn <;> first | (simp only [RepB] at h ⊢; exact h.sub hs) | cases hn
theorem noC_rep (hs : ∀ b, O' b → O b) {c : AV} {u : Value} (hn : noC c = true) (h : RepC w O ρ c u) : RepC w O' ρ' c u := by
  cases c
  case fn f caps =>
    obtain ⟨us, h1, h2, h3⟩ := h
    exact ⟨us, h1, h2, fun j c hc => let ⟨x, e, r⟩ := h3 j c hc; ⟨x, e, noB_rep hs (noBs_at hn hc) r⟩⟩
  all_goals (simp only [RepC] at h ⊢; exact noB_rep hs hn h)
theorem noA_rep (hs : ∀ b, O' b → O b) {c : AV} {u : Value} (hn : noA c = true) (h : RepA w O ρ c u) : RepA w O' ρ' c u := by
  cases c
  case agg cs =>
    obtain ⟨us, h1, h2, h3⟩ := h
    exact ⟨us, h1, h2, fun j c hc => let ⟨x, e, r⟩ := h3 j c hc; ⟨x, e, noC_rep hs (noCs_at hn hc) r⟩⟩
  all_goals (simp only [RepA] at h ⊢; exact noC_rep hs hn h)
theorem noV_rep (hs : ∀ b, O' b → O b) {c : AV} {u : Value} (hn : noV c = true) (h : RepV w O ρ c u) : RepV w O' ρ' c u := by
  cases c
  case any => trivial
  case tup cs =>
    obtain ⟨us, h1, h2, h3⟩ := h
    exact ⟨us, h1, h2, fun j c hc => let ⟨x, e, r⟩ := h3 j c hc; ⟨x, e, noA_rep hs (noAs_at hn hc) r⟩⟩
  all_goals (simp only [RepV] at h ⊢; exact noA_rep hs hn h)
end

/-! Values that are literals through and through. -/
def litCs : List AV → Bool
  | [] => true
  | c :: l => (litOf c).isSome && litCs l
def litA : AV → Bool
  | .agg cs => litCs cs
  | c => (litOf c).isSome
def litAs : List AV → Bool
  | [] => true
  | c :: l => litA c && litAs l
def litV : AV → Bool
  | .tup vs => litAs vs
  | c => litA c
theorem litCs_at : ∀ {l : List AV} {j : Nat} {c : AV}, litCs l = true → l[j]? = some c → (litOf c).isSome = true
  | [], j, c, _, h => by cases h
  | y :: l, 0, c, h1, h => by cases h; simp only [litCs, Bool.and_eq_true] at h1; exact h1.1
  | y :: l, j + 1, c, h1, h => by simp only [litCs, Bool.and_eq_true] at h1; exact litCs_at h1.2 h
theorem litAs_at : ∀ {l : List AV} {j : Nat} {c : AV}, litAs l = true → l[j]? = some c → litA c = true
  | [], j, c, _, h => by cases h
  | y :: l, 0, c, h1, h => by cases h; simp only [litAs, Bool.and_eq_true] at h1; exact h1.1
  | y :: l, j + 1, c, h1, h => by simp only [litAs, Bool.and_eq_true] at h1; exact litAs_at h1.2 h
section
variable {w w' : World} {O O' : Nat → Prop} {ρ ρ' : Rho}
theorem litC_rep {c : AV} {u : Value} (hn : (litOf c).isSome = true) (h : RepC w O ρ c u) : RepC w' O' ρ' c u := by
  cases c <;> simp only [litOf] at hn <;> first | exact RepC_lit.2 (RepC_lit.1 h) | cases hn
theorem litA_rep {c : AV} {u : Value} (hn : litA c = true) (h : RepA w O ρ c u) : RepA w' O' ρ' c u := by
  cases c
  case agg cs =>
    obtain ⟨us, h1, h2, h3⟩ := h
    exact ⟨us, h1, h2, fun j c hc => let ⟨x, e, r⟩ := h3 j c hc; ⟨x, e, litC_rep (litCs_at hn hc) r⟩⟩
  all_goals (simp only [RepA] at h ⊢; exact litC_rep hn h)
theorem litV_rep {c : AV} {u : Value} (hn : litV c = true) (h : RepV w O ρ c u) : RepV w' O' ρ' c u := by
  cases c
  case any => trivial
  case tup cs =>
    obtain ⟨us, h1, h2, h3⟩ := h
    exact ⟨us, h1, h2, fun j c hc => let ⟨x, e, r⟩ := h3 j c hc; ⟨x, e, litA_rep (litAs_at hn hc) r⟩⟩
  all_goals (simp only [RepV] at h ⊢; exact litA_rep hn h)
end

/-- A call that needs none of its caller's blocks: of these values it gives that one. -/
def PureCall (X : Cx) (f : FuncId) (args : List AV) (r : AV) : Prop :=
  ∀ M : Nat → Option Obj, SimCall X f args [.ext M] fun c hp' => c = r ∧ hp'[0]? = some (.ext M)

section
variable {X : Cx} {w w' : World} {ρ : Rho} {hp : List Ob}

open Classical in
/-- What the caller has, but for what P leaves out: as the callee sees it. -/
noncomputable def others (w : World) (ρ : Rho) (hp : List Ob) (P : Nat → Prop) (b : Nat) : Option Obj := if Own ρ hp b ∧ P b then w.heap[b]? else none
theorem others_some {P : Nat → Prop} {b : Nat} {o : Obj} (h : others w ρ hp P b = some o) : (Own ρ hp b ∧ P b) ∧ w.heap[b]? = some o := by
  unfold others at h
  split at h
  · exact ⟨by assumption, h⟩
  · cases h
theorem others_own (hh : Hp X w ρ hp) {P : Nat → Prop} {b : Nat} : Own (fun _ => none) [Ob.ext (others w ρ hp P)] b ↔ Own ρ hp b ∧ P b := by
  constructor
  · rintro ⟨i, x, h1, h2⟩
    cases i with
    | zero =>
      cases h1
      simp only [Blk, Option.isSome_iff_exists] at h2
      obtain ⟨o, ho⟩ := h2
      exact (others_some ho).1
    | succ i => cases h1
  · intro h
    refine ⟨0, _, rfl, ?_⟩
    have hlt := own_size hh h.1
    simp only [Blk, others, if_pos h, Array.getElem?_eq_getElem hlt]
    rfl
theorem Hp.others (hh : Hp X w ρ hp) (P : Nat → Prop) : Hp X w (fun _ => none) [Ob.ext (others w ρ hp P)] := by
  refine ⟨hh.glob, hh.ng, fun i v b h => (by cases h), fun b h => hh.low b ((others_own hh).1 h).1, ?_, ?_, fun _ _ => rfl⟩
  · intro i j x y b a1 _ b1 _
    cases i with
    | zero => cases j with
      | zero => rfl
      | succ j => cases b1
    | succ i => cases a1
  · intro i x hi
    cases i with
    | zero => cases hi; exact fun b o e => (others_some e).2
    | succ i => cases hi

/-- Behind such a call the caller's blocks are as they were. -/
theorem Hp.after (hh : Hp X w ρ hp) {P : Nat → Prop} {ρ1 : Rho} {hp1 : List Ob} (h1 : Hp X w' ρ1 hp1) (he : hp1[0]? = some (Ob.ext (De.others w ρ hp P))) (ht : Tr w (Own (fun _ => none) [Ob.ext (De.others w ρ hp P)]) w' (Own ρ1 hp1)) :
    Hp X w' ρ hp ∧ Tr w (Own ρ hp) w' (Own ρ hp) ∧ ∀ b, Own ρ hp b ∧ P b → Own ρ1 hp1 b := by
  have hsub : ∀ b, Own ρ hp b ∧ P b → Own ρ1 hp1 b := fun b hb => by
    obtain ⟨i, x, e1, e2⟩ := (others_own (P := P) hh).2 hb
    cases i with
    | zero => cases e1; exact ⟨0, _, he, e2⟩
    | succ i => cases e1
  have ht' : Tr w (Own ρ hp) w' (Own ρ hp) := ⟨ht.os, ht.tape, ht.output, ht.size, fun b hb hn => ⟨(ht.keep b hb fun k => hn ((others_own hh).1 k).1).1, hn⟩⟩
  have hsame : ∀ b, Own ρ hp b → w'.heap[b]? = w.heap[b]? := fun b hb => by
    by_cases hp' : P b
    · have hlt := own_size hh hb
      have hm : De.others w ρ hp P b = some w.heap[b] := by unfold De.others; rw [if_pos ⟨hb, hp'⟩, Array.getElem?_eq_getElem hlt]
      rw [h1.has 0 _ he b _ hm, Array.getElem?_eq_getElem hlt]
    · exact (ht.keep b (own_size hh hb) fun k => hp' ((others_own hh).1 k).2).1
  refine ⟨⟨glob_keep hh fun b hb hn => (ht'.keep b hb hn).1, Nat.le_trans hh.ng ht.size, fun i v b e1 e2 => Nat.lt_of_lt_of_le (hh.lt i v b e1 e2) ht.size, hh.low, hh.inj, fun i x hi => ?_, hh.free⟩, ht', hsub⟩
  exact ObRep.mono ht' (Rho.le.refl ρ) (fun b hb => hsame b ⟨i, x, hi, hb⟩) (fun v b e1 e2 => hh.lt i v b e1 e2) (hh.has i x hi)

theorem PureCall.use {f : FuncId} {args : List AV} {r : AV} (h : PureCall X f args r) (ha : noVs args = true) (hr : noV r = true) {K : AV → List Ob → Prop} (hk : K r hp) : SimCall X f args hp K := by
  refine ⟨(h fun _ => none).fn, fun ρ w vs hh hs hv => ?_⟩
  refine ((h (others w ρ hp fun _ => True)).sim (fun _ => none) w vs (hh.others _) hs (fun j c hc => ?_)).mono ?_
  · obtain ⟨u, e1, e2⟩ := hv j c hc
    exact ⟨u, e1, noV_rep (fun b hb => ((others_own hh).1 hb).1) (noVs_at ha hc) e2⟩
  · rintro e w' ⟨v, c, hp1, ρ1, rfl, ⟨rfl, he⟩, h1, ht, _, hrep⟩
    obtain ⟨k1, k2, k3⟩ := hh.after h1 he ht
    exact ⟨v, _, hp, ρ, rfl, hk, k1, k2, Rho.le.refl ρ, noV_rep (fun b hb => k3 b ⟨hb, trivial⟩) hr hrep⟩

/-- A value as a callee sees it: an own row is a row that doesn't turn. -/
def Seen (hp : List Ob) (c c' : AV) : Prop :=
  (noV c = true ∧ c' = c) ∨ (∃ id wd i n et rows, c = .slc id wd i n ∧ (hp[id]? = some (.row et wd rows) ∨ hp[id]? = some (.fz et wd rows)) ∧ i + n ≤ rows.length ∧ c' = .rslc wd n fun k => rows.getD (i + k) [])
def Seens (hp : List Ob) : List AV → List AV → Prop
  | [], [] => True
  | c :: l, c' :: l' => Seen hp c c' ∧ Seens hp l l'
  | _, _ => False
theorem Seens_at {hp : List Ob} : ∀ {l l' : List AV}, Seens hp l l' → l'.length = l.length ∧ ∀ (j : Nat) (c' : AV), l'[j]? = some c' → ∃ c : AV, l[j]? = some c ∧ Seen hp c c'
  | [], [], _ => ⟨rfl, fun j c h => by cases h⟩
  | c :: l, c' :: l', h => by
    obtain ⟨h1, h2⟩ := Seens_at h.2
    refine ⟨by simp [h1], fun j d hd => ?_⟩
    cases j with
    | zero => cases hd; exact ⟨c, rfl, h.1⟩
    | succ j => exact h2 j d hd
  | [], _ :: _, h => h.elim
  | _ :: _, [], h => h.elim

/-- What isn't a row's own block. -/
def notRow (ρ : Rho) (hp : List Ob) (b : Nat) : Prop := ∀ id et wd rows, hp[id]? = some (.row et wd rows) → ∀ v, ρ id = some v → blockOf v ≠ some b

theorem seen_rep (hh : Hp X w ρ hp) {O' : Nat → Prop} (hO : ∀ b, O' b → Own ρ hp b ∧ notRow ρ hp b) {c c' : AV} {u : Value} (hs : Seen hp c c') (hr : RepV w (Own ρ hp) ρ c u) : RepV w O' (fun _ => none) c' u := by
  rcases hs with ⟨h1, rfl⟩ | ⟨id, wd, i, n, et, rows, rfl, h2, h3, rfl⟩
  · exact noV_rep (fun b hb => (hO b hb).1) h1 hr
  · rcases h2 with h2 | h2
    · have ht := frz_tr (w := w) (ρ := ρ) h2
      have hf := hh.frz h2
      have := rep_fz hf (by rw [List.getElem?_set, if_pos rfl, if_pos (List.getElem?_eq_some_iff.1 h2).1]) (RepB.mono ht (Rho.le.refl ρ) hr) h3
      simp only [RepV, RepA, RepC, RepB]
      refine this.sub fun b hb => ?_
      obtain ⟨⟨j, x, k1, k2⟩, k3⟩ := hO b hb
      refine ⟨j, x, ?_, k2⟩
      rw [List.getElem?_set, if_neg ?_]
      · exact k1
      · rintro rfl
        rw [h2] at k1; cases k1
        obtain ⟨v, e1, e2⟩ := k2
        exact k3 _ _ _ _ h2 v e1 e2
    · have := rep_fz hh h2 hr h3
      simp only [RepV, RepA, RepC, RepB]
      exact this.sub fun b hb => (hO b hb).1

/-- The same where own rows are looked at, and what is given is a literal. -/
theorem PureCall.see {f : FuncId} {args args' : List AV} {r : AV} (h : PureCall X f args' r) (ha : Seens hp args args') (hr : litV r = true) {K : AV → List Ob → Prop} (hk : K r hp) : SimCall X f args hp K := by
  obtain ⟨hl, hat⟩ := Seens_at ha
  refine ⟨(h fun _ => none).fn, fun ρ w vs hh hs hv => ?_⟩
  refine ((h (others w ρ hp (notRow ρ hp))).sim (fun _ => none) w vs (hh.others _) (by rw [hs, hl]) (fun j c' hc => ?_)).mono ?_
  · obtain ⟨c, hc1, hc2⟩ := hat j c' hc
    obtain ⟨u, e1, e2⟩ := hv j c hc1
    exact ⟨u, e1, seen_rep hh (fun b hb => (others_own hh).1 hb) hc2 e2⟩
  · rintro e w' ⟨v, c, hp1, ρ1, rfl, ⟨rfl, he⟩, h1, ht, _, hrep⟩
    obtain ⟨k1, k2, _⟩ := hh.after h1 he ht
    exact ⟨v, _, hp, ρ, rfl, hk, k1, k2, Rho.le.refl ρ, litV_rep hr hrep⟩
end
end Go.Proofs.De

namespace Go.Proofs.De
open Go.RowKit

/-- The second state tells less of the same. -/
def Weak (X : Cx) (s s' : St) : Prop := ∀ B a w, Rel X B s a w → Rel X B s' a w
theorem Weak.refl (X : Cx) (s : St) : Weak X s s := fun _ _ _ h => h
theorem Weak.trans {X : Cx} {a b c : St} (h : Weak X a b) (k : Weak X b c) : Weak X a c := fun B x w r => k B x w (h B x w r)
theorem CodeOK.weak {X : Cx} {c : Code} {Q : Exit → St → Prop} {s s' : St} (hw : Weak X s s') (h : CodeOK X c Q s') : CodeOK X c Q s := fun B a w r => h B a w (hw B a w r)
theorem CodeOK.mono {X : Cx} {c : Code} {Q Q' : Exit → St → Prop} {s : St} (hq : ∀ e s, Q e s → Q' e s) (h : CodeOK X c Q s) : CodeOK X c Q' s := fun B a w r => wp_mono (h B a w r) fun e _ _ ⟨s', k, r'⟩ => ⟨s', hq e s' k, r'⟩

/-- Rounds, counted by something beside memory. -/
theorem wp_loop_by {P : Program} {c : Code} {Q : Exit → Act → World → Prop} {a : Act} {w : World} {ι : Type} (I : ι → Act → World → Prop) (μ : ι → Nat) (j : ι) (h₀ : I j a w)
    (round : ∀ j a w, I j a w → c.wp P (Exit.then (fun a' w' => ∃ j', μ j' < μ j ∧ I j' a' w') Q) a w) : (Code.loop c).wp P Q a w := by
  intro b k cs
  have rounds : ∀ n j a w, μ j = n → I j a w → ∃ e a' w', Q e a' w' ∧ Arrives P (lone (b.at a (.code c :: .inLoop c :: k)) cs w) b k cs e a' w' := by
    intro n
    induction n using Nat.strongRecOn with
    | _ n ih =>
      intro j a w hn hI
      obtain ⟨e, a1, w1, hq, harr⟩ := round j a w hI b (.inLoop c :: k) cs
      cases e with
      | normal =>
        obtain ⟨j', hlt, hI'⟩ := hq
        obtain ⟨e2, a2, w2, hq2, harr2⟩ := ih (μ j') (by omega) j' a1 w1 rfl hI'
        exact ⟨e2, a2, w2, hq2, .of_steps (Steps.trans harr (.one step_inLoop)) harr2⟩
      | exit id => exact ⟨_, a1, w1, hq, .pass (x := .inLoop c) rfl (fun _ _ => .inl (by simp)) harr⟩
      | goto l => exact ⟨_, a1, w1, hq, .pass (x := .inLoop c) rfl (fun _ _ => .inl (by simp)) harr⟩
      | ret => exact ⟨_, a1, w1, hq, .pass (x := .inLoop c) rfl (fun _ _ => .inl (by simp)) harr⟩
      | panic ch => exact ⟨_, a1, w1, hq, .pass (x := .inLoop c) rfl (fun _ _ => .inl (by simp)) harr⟩
      | outgrown => exact ⟨_, a1, w1, hq, .pass (x := .inLoop c) rfl (fun _ _ => .inl (by simp)) harr⟩
  obtain ⟨e, a', w', hq, harr⟩ := rounds _ j a w rfl h₀
  exact ⟨e, a', w', hq, .of_steps (.one step_loop) harr⟩

/-- A loop by its states. -/
def roundQ {ι : Type} (X : Cx) (E : ι → St) (P : ι → Prop) (μ : ι → Nat) (j : ι) (Q : Exit → St → Prop) (e : Exit) (s' : St) : Prop :=
  match e with
  | .normal => ∃ j', P j' ∧ μ j' < μ j ∧ Weak X s' (E j')
  | e => Q e s'
theorem LoopK.ix {X : Cx} {c : Code} {Q : Exit → St → Prop} {s : St} {ι : Type} (E : ι → St) (P : ι → Prop) (μ : ι → Nat) (j0 : ι) (hw : Weak X s (E j0)) (hp : P j0)
    (hr : ∀ j, P j → aev X c (roundQ X E P μ j Q) (E j)) : LoopK X c Q s := by
  refine ⟨fun B a w r => wp_loop_by (fun j a w => P j ∧ Rel X B (E j) a w) μ j0 ⟨hp, hw B a w r⟩ fun j a w ⟨h1, h2⟩ => ?_⟩
  refine wp_mono (aev_sound c (hr j h1) B a w h2) fun e a' w' ⟨s', k, r'⟩ => ?_
  cases e with
  | normal => obtain ⟨j', k1, k2, k3⟩ := k; exact ⟨j', k2, k1, k3 B a' w' r'⟩
  | _ => exact ⟨s', k, r'⟩

/-! Slots forgotten. -/
def leE : List AV → List AV → Prop
  | [], [] => True
  | c :: l, c' :: l' => (c' = .any ∨ c = c') ∧ leE l l'
  | _, _ => False
theorem leE_at : ∀ {l l' : List AV}, leE l l' → l'.length = l.length ∧ ∀ (j : Nat) (c' : AV), l'[j]? = some c' → ∃ c : AV, l[j]? = some c ∧ (c' = .any ∨ c = c')
  | [], [], _ => ⟨rfl, fun j c h => by cases h⟩
  | c :: l, c' :: l', h => by
    obtain ⟨h1, h2⟩ := leE_at h.2
    refine ⟨by simp [h1], fun j d hd => ?_⟩
    cases j with
    | zero => cases hd; exact ⟨c, rfl, h.1⟩
    | succ j => exact h2 j d hd
  | [], _ :: _, h => h.elim
  | _ :: _, [], h => h.elim
structure LeSt (s s' : St) : Prop where
  env : leE s.env s'.env
  hp : s.hp = s'.hp
  base : s.base = s'.base
theorem Weak.le {X : Cx} {s s' : St} (h : LeSt s s') : Weak X s s' := by
  rintro B a w ⟨ρ, r⟩
  obtain ⟨env, hp, base⟩ := s
  obtain ⟨env', hp', base'⟩ := s'
  obtain ⟨h1, h2, h3⟩ := h
  simp only at h1 h2 h3
  subst h2; subst h3
  obtain ⟨k1, k2⟩ := leE_at h1
  refine ⟨ρ, r.hp, k1.trans r.len, fun t c hc => ?_, r.defers, r.tr, r.ext, r.base, r.bfree⟩
  obtain ⟨c0, e1, e2⟩ := k2 t c hc
  obtain ⟨u, e3, e4⟩ := r.env t c0 e1
  rcases e2 with rfl | rfl
  · exact ⟨u, e3, trivial⟩
  · exact ⟨u, e3, e4⟩

/-! Own blocks counted anew. -/
def idx : List Nat → Nat → Option Nat
  | [], _ => none
  | x :: l, i => if x = i then some 0 else match idx l i with | some k => some (k + 1) | none => none
theorem idx_at : ∀ {l : List Nat} {i k : Nat}, idx l i = some k → l[k]? = some i
  | [], i, k, h => by cases h
  | x :: l, i, k, h => by
    simp only [idx] at h
    split at h
    · rename_i e; cases h; rw [e]; rfl
    · split at h
      · rename_i k' e; cases h; exact idx_at (l := l) (k := k') e
      · cases h
def renB (m : Nat → Option Nat) : AV → AV
  | .bptr id f => match m id with | some k => .bptr k f | none => .any
  | .eptr id wd i f => match m id with | some k => .eptr k wd i f | none => .any
  | .slc id wd i n => match m id with | some k => .slc k wd i n | none => .any
  | c => c
def renBs (m : Nat → Option Nat) : List AV → List AV
  | [] => []
  | c :: l => renB m c :: renBs m l
def renC (m : Nat → Option Nat) : AV → AV
  | .fn f caps => .fn f (renBs m caps)
  | c => renB m c
def renCs (m : Nat → Option Nat) : List AV → List AV
  | [] => []
  | c :: l => renC m c :: renCs m l
def renA (m : Nat → Option Nat) : AV → AV
  | .agg cs => .agg (renCs m cs)
  | c => renC m c
def renAs (m : Nat → Option Nat) : List AV → List AV
  | [] => []
  | c :: l => renA m c :: renAs m l
def renV (m : Nat → Option Nat) : AV → AV
  | .tup vs => .tup (renAs m vs)
  | c => renA m c
def renVs (m : Nat → Option Nat) : List AV → List AV
  | [] => []
  | c :: l => renV m c :: renVs m l
def renO (m : Nat → Option Nat) : Ob → Ob
  | .box cs => .box (renCs m cs)
  | o => o
def renOs (m : Nat → Option Nat) (hp : List Ob) : List Nat → List Ob
  | [] => []
  | i :: l => (match hp[i]? with | some o => renO m o | none => .none) :: renOs m hp l
def St.ren (ids : List Nat) (s : St) : St := ⟨renVs (idx ids) s.env, renOs (idx ids) s.hp ids, s.base⟩
def Rho.ren (ρ : Rho) (ids : List Nat) : Rho := fun k => match ids[k]? with | some i => ρ i | none => none
def fixes : List Nat → Nat → Nat → Bool
  | _, _, 0 => true
  | [], _, _ + 1 => false
  | x :: l, k, n + 1 => (x == k) && fixes l (k + 1) n
def distinct : List Nat → Bool
  | [] => true
  | x :: l => (idx l x).isNone && distinct l

section
variable {X : Cx} {w : World} {O O' : Nat → Prop} {ρ ρ' : Rho} {ids : List Nat} {m : Nat → Option Nat}
/-- The second telling tells under new numbers what the first one tells. -/
def Carries (m : Nat → Option Nat) (ρ ρ' : Rho) : Prop := ∀ i k v, m i = some k → ρ i = some v → ρ' k = some v
theorem carries_ren (ρ : Rho) (ids : List Nat) : Carries (idx ids) ρ (ρ.ren ids) := by
  intro i k v h hv
  unfold Rho.ren
  rw [idx_at h]; exact hv
theorem renB_rep (hm : Carries m ρ ρ') (hs : ∀ b, O' b → O b) {c : AV} {u : Value} (h : RepB w O ρ c u) : RepB w O' ρ' (renB m c) u := by
  have h1 := h.one
  cases c <;> simp only [renB]
  case bptr id f =>
    obtain ⟨g, k1, k2⟩ := h
    split
    · rename_i k e; exact ⟨g, hm _ _ _ e k1, k2⟩
    · simp only [RepB]; exact .any _ h1
  case eptr id wd i f =>
    obtain ⟨g, n, cap, k1, k2⟩ := h
    split
    · rename_i k e; exact ⟨g, n, cap, hm _ _ _ e k1, k2⟩
    · simp only [RepB]; exact .any _ h1
  case slc id wd i n =>
    obtain ⟨y, m, cap, b, k1, k2⟩ := h
    split
    · rename_i k e; exact ⟨y, m, cap, b, hm _ _ _ e k1, k2⟩
    · simp only [RepB]; exact .any _ h1
  all_goals (simp only [RepB] at h ⊢; exact h.sub hs)
theorem renBs_at : ∀ {l : List AV} {j : Nat} {c : AV}, (renBs m l)[j]? = some c → ∃ d, l[j]? = some d ∧ c = renB m d
  | [], j, c, h => by cases h
  | y :: l, 0, c, h => by cases h; exact ⟨y, rfl, rfl⟩
  | y :: l, j + 1, c, h => renBs_at (l := l) h
theorem renCs_at : ∀ {l : List AV} {j : Nat} {c : AV}, (renCs m l)[j]? = some c → ∃ d, l[j]? = some d ∧ c = renC m d
  | [], j, c, h => by cases h
  | y :: l, 0, c, h => by cases h; exact ⟨y, rfl, rfl⟩
  | y :: l, j + 1, c, h => renCs_at (l := l) h
theorem renAs_at : ∀ {l : List AV} {j : Nat} {c : AV}, (renAs m l)[j]? = some c → ∃ d, l[j]? = some d ∧ c = renA m d
  | [], j, c, h => by cases h
  | y :: l, 0, c, h => by cases h; exact ⟨y, rfl, rfl⟩
  | y :: l, j + 1, c, h => renAs_at (l := l) h
theorem renVs_at : ∀ {l : List AV} {j : Nat} {c : AV}, (renVs m l)[j]? = some c → ∃ d, l[j]? = some d ∧ c = renV m d
  | [], j, c, h => by cases h
  | y :: l, 0, c, h => by cases h; exact ⟨y, rfl, rfl⟩
  | y :: l, j + 1, c, h => renVs_at (l := l) h
theorem renOs_at {hp : List Ob} : ∀ {l : List Nat} {j : Nat} {o : Ob}, (renOs m hp l)[j]? = some o → ∃ i, l[j]? = some i ∧ ((∃ x, hp[i]? = some x ∧ o = renO m x) ∨ o = .none)
  | [], j, c, h => by cases h
  | y :: l, 0, c, h => by
    simp only [renOs, List.getElem?_cons_zero, Option.some.injEq] at h
    refine ⟨y, rfl, ?_⟩
    split at h
    · rename_i x e; exact .inl ⟨x, e, h.symm⟩
    · exact .inr h.symm
  | y :: l, j + 1, c, h => renOs_at (l := l) h
theorem renBs_len : ∀ (l : List AV), (renBs m l).length = l.length
  | [] => rfl
  | _ :: l => congrArg (· + 1) (renBs_len l)
theorem renCs_len : ∀ (l : List AV), (renCs m l).length = l.length
  | [] => rfl
  | _ :: l => congrArg (· + 1) (renCs_len l)
theorem renAs_len : ∀ (l : List AV), (renAs m l).length = l.length
  | [] => rfl
  | _ :: l => congrArg (· + 1) (renAs_len l)
theorem renVs_len : ∀ (l : List AV), (renVs m l).length = l.length
  | [] => rfl
  | _ :: l => congrArg (· + 1) (renVs_len l)
theorem renOs_len {hp : List Ob} : ∀ (l : List Nat), (renOs m hp l).length = l.length
  | [] => rfl
  | _ :: l => congrArg (· + 1) (renOs_len l)
theorem renC_rep (hm : Carries m ρ ρ') (hs : ∀ b, O' b → O b) {c : AV} {u : Value} (h : RepC w O ρ c u) : RepC w O' ρ' (renC m c) u := by
  cases c
  case fn f caps =>
    obtain ⟨us, h1, h2, h3⟩ := h
    refine ⟨us, h1, by rw [renBs_len]; exact h2, fun j c hc => ?_⟩
    obtain ⟨d, e1, rfl⟩ := renBs_at hc
    obtain ⟨x, e2, e3⟩ := h3 j d e1
    exact ⟨x, e2, renB_rep hm hs e3⟩
  all_goals
    simp only [RepC] at h
    have h2 := renB_rep hm hs h
    simp only [renC]
    revert h2
    generalize hd : renB m _ = d
    intro h2
    cases d <;> simp only [RepC] <;> first | exact h2 | (simp only [RepB] at h2; cases h2)
theorem renA_rep (hm : Carries m ρ ρ') (hs : ∀ b, O' b → O b) {c : AV} {u : Value} (h : RepA w O ρ c u) : RepA w O' ρ' (renA m c) u := by
  cases c
  case agg cs =>
    obtain ⟨us, h1, h2, h3⟩ := h
    refine ⟨us, h1, by rw [renCs_len]; exact h2, fun j c hc => ?_⟩
    obtain ⟨d, e1, rfl⟩ := renCs_at hc
    obtain ⟨x, e2, e3⟩ := h3 j d e1
    exact ⟨x, e2, renC_rep hm hs e3⟩
  all_goals
    simp only [RepA] at h
    exact RepC_RepA (renC_rep hm hs h)
theorem renV_rep (hm : Carries m ρ ρ') (hs : ∀ b, O' b → O b) {c : AV} {u : Value} (h : RepV w O ρ c u) : RepV w O' ρ' (renV m c) u := by
  cases c
  case any => trivial
  case tup cs =>
    obtain ⟨us, h1, h2, h3⟩ := h
    refine ⟨us, h1, by rw [renAs_len]; exact h2, fun j c hc => ?_⟩
    obtain ⟨d, e1, rfl⟩ := renAs_at hc
    obtain ⟨x, e2, e3⟩ := h3 j d e1
    exact ⟨x, e2, renA_rep hm hs e3⟩
  all_goals
    simp only [RepV] at h
    exact RepA_RepV (renA_rep hm hs h)

theorem Blk_ren {hp : List Ob} {j b : Nat} {o : Ob} (h1 : (renOs (idx ids) hp ids)[j]? = some o) (h2 : Blk (ρ.ren ids) j b o) : ∃ i x, ids[j]? = some i ∧ hp[i]? = some x ∧ o = renO (idx ids) x ∧ Blk ρ i b x := by
  obtain ⟨i, e1, e2⟩ := renOs_at h1
  rcases e2 with ⟨x, e3, rfl⟩ | rfl
  · refine ⟨i, x, e1, e3, rfl, ?_⟩
    have hr : ρ.ren ids j = ρ i := by unfold Rho.ren; rw [e1]
    cases x <;> simp only [renO, Blk, hr] at h2 ⊢ <;> exact h2
  · exact h2.elim
theorem distinct_at : ∀ {l : List Nat} {i j x : Nat}, distinct l = true → l[i]? = some x → l[j]? = some x → i = j
  | [], i, j, x, _, h, _ => by cases h
  | y :: l, i, j, x, hd, h1, h2 => by
    simp only [distinct, Bool.and_eq_true] at hd
    have hno : ∀ (k : Nat), l[k]? ≠ some y := by
      have : ∀ (l : List Nat) (k : Nat), l[k]? = some y → (idx l y).isSome = true := by
        intro l
        induction l with
        | nil => intro k h; cases h
        | cons z l ih =>
          intro k h
          simp only [idx]
          split
          · rfl
          · rename_i hne
            cases k with
            | zero => cases h; exact absurd rfl hne
            | succ k =>
              have := ih k h
              cases hi : idx l y with
              | none => rw [hi] at this; cases this
              | some q => rfl
      intro k hk
      have := this l k hk
      cases hi : idx l y with
      | none => rw [hi] at this; cases this
      | some q => rw [hi] at hd; cases hd.1
    cases i with
    | zero =>
      cases j with
      | zero => rfl
      | succ j => cases h1; exact absurd h2 (hno j)
    | succ i =>
      cases j with
      | zero => cases h2; exact absurd h1 (hno i)
      | succ j => exact congrArg (· + 1) (distinct_at hd.2 h1 h2)
theorem fixes_at : ∀ {l : List Nat} {k n : Nat}, fixes l k n = true → ∀ i, i < n → l[i]? = some (k + i)
  | _, _, 0, _, i, hi => absurd hi (Nat.not_lt_zero _)
  | [], _, n + 1, h, _, _ => by cases h
  | x :: l, k, n + 1, h, i, hi => by
    simp only [fixes, Bool.and_eq_true, beq_iff_eq] at h
    cases i with
    | zero => rw [h.1]; rfl
    | succ i => rw [List.getElem?_cons_succ, fixes_at h.2 i (by omega)]; congr 1; omega

theorem Weak.ren {s : St} (ids : List Nat) (hf : fixes ids 0 s.base = true) (hd : distinct ids = true) : Weak X s (s.ren ids) := by
  rintro B a w ⟨ρ, r⟩
  have hsub : ∀ b, Own (ρ.ren ids) (renOs (idx ids) s.hp ids) b → Own ρ s.hp b := by
    rintro b ⟨j, o, h1, h2⟩
    obtain ⟨i, x, _, k1, _, k2⟩ := Blk_ren h1 h2
    exact ⟨i, x, k1, k2⟩
  have ht : Tr w (Own ρ s.hp) w (Own (ρ.ren ids) (renOs (idx ids) s.hp ids)) := ⟨rfl, rfl, rfl, Nat.le_refl _, fun b _ hn => ⟨rfl, fun k => hn (hsub b k)⟩⟩
  have hval : ∀ k v, ρ.ren ids k = some v → ∃ i, ids[k]? = some i ∧ ρ i = some v := by
    intro k v h
    unfold Rho.ren at h
    split at h
    · rename_i i e; exact ⟨i, e, h⟩
    · cases h
  refine ⟨ρ.ren ids, ⟨r.hp.glob, r.hp.ng, fun k v b h1 h2 => let ⟨i, _, e⟩ := hval k v h1; r.hp.lt i v b e h2, fun b k => r.hp.low b (hsub b k), ?_, ?_, ?_⟩, ?_, ?_, r.defers, r.tr.trans ht, ?_, r.base, r.bfree⟩
  · intro i j x y b a1 a2 b1 b2
    obtain ⟨i', x', c0, c1, _, c2⟩ := Blk_ren a1 a2
    obtain ⟨j', y', d0, d1, _, d2⟩ := Blk_ren b1 b2
    have := r.hp.inj i' j' x' y' b c1 c2 d1 d2
    subst this
    exact distinct_at hd c0 d0
  · intro k o hk
    obtain ⟨i, e1, e2⟩ := renOs_at hk
    rcases e2 with ⟨x, e3, rfl⟩ | rfl
    · have hr : ρ.ren ids k = ρ i := by unfold Rho.ren; rw [e1]
      have hh := r.hp.has i x e3
      cases x with
      | none => trivial
      | box cs =>
        obtain ⟨g, et, vs, q1, q2, q3, q4⟩ := hh
        refine ⟨g, et, vs, hr.trans q1, q2, by rw [renCs_len]; exact q3, fun j c hc => ?_⟩
        obtain ⟨d, p1, rfl⟩ := renCs_at hc
        obtain ⟨u, p2, p3⟩ := q4 j d p1
        exact ⟨u, p2, renC_rep (carries_ren ρ ids) hsub p3⟩
      | row et wd rows =>
        obtain ⟨v, xs, q1, q2, q3, q4⟩ := hh
        exact ⟨v, xs, hr.trans q1, q2, q3.mono ht, q4⟩
      | fz et wd rows =>
        obtain ⟨v, xs, q1, q2, q3, q4, q5⟩ := hh
        exact ⟨v, xs, hr.trans q1, q2, q3.mono ht, q4, fun b hb k => q5 b hb (hsub b k)⟩
      | ext M => exact hh
      | iter s p => obtain ⟨g, q1, q2⟩ := hh; exact ⟨g, hr.trans q1, q2⟩
    · trivial
  · intro k hk
    have hk' : (renOs (idx ids) s.hp ids).length ≤ k := hk
    rw [renOs_len] at hk'
    unfold Rho.ren
    rw [List.getElem?_eq_none hk']
  · simp only [St.ren, renVs_len]; exact r.len
  · intro t c hc
    obtain ⟨d, p1, rfl⟩ := renVs_at hc
    obtain ⟨u, p2, p3⟩ := r.env t d p1
    exact ⟨u, p2, renV_rep (carries_ren ρ ids) hsub p3⟩
  · intro id v hv
    have hlt : id < B.hp.length := by
      rcases Nat.lt_or_ge id B.hp.length with h | h
      · exact h
      · rw [r.bfree id h] at hv; cases hv
    have := fixes_at hf id (by rw [r.base]; exact hlt)
    unfold Rho.ren
    rw [this]
    simpa using r.ext id v hv
/-- Both: blocks counted anew, then slots forgotten. -/
theorem Weak.norm {s s' : St} (ids : List Nat) (hf : fixes ids 0 s.base = true) (hd : distinct ids = true) (h : LeSt (s.ren ids) s') : Weak X s s' := (Weak.ren ids hf hd).trans (Weak.le h)
end

/-- Slots by number, the others whatever. -/
def mkE (n : Nat) : List (Nat × AV) → List AV
  | [] => List.replicate n .any
  | (t, c) :: l => setN (mkE n l) t c

/-! int's numbers. -/
theorem wrap_id {z : Int} (h1 : -9223372036854775808 ≤ z) (h2 : z ≤ 9223372036854775807) : IntKind.i64.wrap z = z := by
  have h3 : IntKind.i64.bits = 64 := rfl
  have h4 : IntKind.i64.signed = true := rfl
  simp only [IntKind.wrap, h3, h4, Bool.true_and, decide_eq_true_eq]
  have e1 : (2 ^ 64 : Int) = 18446744073709551616 := rfl
  have e2 : (2 ^ (64 - 1) : Int) = 9223372036854775808 := rfl
  rw [e1, e2]
  split <;> omega
end Go.Proofs.De
