/- A region that draws its order, shown by what holds between two operations: the slots that it writes by a function of their numbers, what was done by then by another. No conditions beyond those that each statement names. -/
import Derived.Test.YtdccodnompalbaaIv
import Derived.Test.YtdccodnompalbaaKa
import Derived.Maps.AppendAt
namespace Go.Proofs.Ytdccodnompalbaa
open Go.RowKit

/-- Slots, some of them anew. -/
def over (T : Array Value) (ks : List Nat) (f : Nat → Value) : Array Value := ks.foldl (fun T k => T.setIfInBounds k (f k)) T
theorem over_get (f : Nat → Value) (j : Nat) : ∀ (ks : List Nat) (T : Array Value), (over T ks f)[j]? = if j ∈ ks ∧ j < T.size then some (f j) else T[j]?
  | [], T => by simp [over]
  | k :: ks, T => by
    have ih := over_get f j ks (T.setIfInBounds k (f k))
    show (over (T.setIfInBounds k (f k)) ks f)[j]? = _
    rw [ih, Array.size_setIfInBounds, Array.getElem?_setIfInBounds]
    by_cases h1 : j ∈ ks ∧ j < T.size
    · rw [if_pos h1, if_pos ⟨List.mem_cons_of_mem _ h1.1, h1.2⟩]
    · rw [if_neg h1]
      by_cases h2 : k = j
      · subst h2
        by_cases h3 : k < T.size
        · simp [h3]
        · have : T[k]? = none := by simp; omega
          simp [h3]
      · rw [if_neg h2]
        have : ¬ (j ∈ k :: ks ∧ j < T.size) := fun h => h1 ⟨(List.mem_cons.1 h.1).resolve_left (fun e => h2 e.symm), h.2⟩
        rw [if_neg this]
theorem over_size (f : Nat → Value) : ∀ (ks : List Nat) (T : Array Value), (over T ks f).size = T.size
  | [], _ => rfl
  | k :: ks, T => by show (over (T.setIfInBounds k (f k)) ks f).size = _; rw [over_size f ks, Array.size_setIfInBounds]
/-- A function, anew at one place. -/
def upd {α : Type} (f : Nat → α) (k : Nat) (v : α) : Nat → α := fun j => if j = k then v else f j
theorem over_set {T : Array Value} {ks : List Nat} {f : Nat → Value} {k : Nat} (hk : k ∈ ks) (v : Value) : (over T ks f).setIfInBounds k v = over T ks (upd f k v) := by
  apply Array.ext_getElem?
  intro j
  rw [Array.getElem?_setIfInBounds, over_get, over_get, over_size]
  by_cases h : k = j
  · subst h
    by_cases hs : k < T.size
    · simp [hs, hk, upd]
    · have : T[k]? = none := by simp; omega
      simp [hs]
  · simp only [h, if_false, upd]
    by_cases h2 : j ∈ ks ∧ j < T.size
    · rw [if_pos h2, if_pos h2, if_neg (fun e => h e.symm)]
    · rw [if_neg h2, if_neg h2]
theorem over_same (T : Array Value) (ks : List Nat) : over T ks (fun k => T.getD k undef) = T := by
  apply Array.ext_getElem?
  intro j
  rw [over_get]
  by_cases h : j ∈ ks ∧ j < T.size
  · rw [if_pos h, Array.getD_eq_getD_getElem?, Array.getElem?_eq_getElem h.2]
    rfl
  · rw [if_neg h]
theorem over_eval {T : Array Value} {D : List Deferred} {ks : List Nat} {f : Nat → Value} (hks : ∀ k ∈ ks, k < T.size) (k : Nat) : (Act.mk (over T ks f) D).eval (.tmp k) = if k ∈ ks then f k else T.getD k undef := by
  show (over T ks f).getD k undef = _
  rw [Array.getD_eq_getD_getElem?, over_get]
  by_cases h : k ∈ ks
  · rw [if_pos ⟨h, hks k h⟩, if_pos h]
    rfl
  · rw [if_neg (fun e => h e.1), if_neg h, Array.getD_eq_getD_getElem?]

/-- All operations run, and write where they may. -/
def plainB (ops : Array Oper) (ks : List Nat) : Bool := ops.all fun o => o.guard.isNone && (match o.dst with | some d => ks.contains d | none => true)
/-- Where an operation's value goes. -/
def putF (f : Nat → Value) : Option Tmp → Value → Nat → Value
  | some d, v => upd f d v
  | none, _ => f

theorem wp_region_over {P : Program} {ops : Array Oper} {Q : Exit → Act → World → Prop} {id : Nat} {T : Array Value} {D : List Deferred} {w : World} (ks : List Nat)
    (St : (Nat → Bool) → (Nat → Value) → World → Prop) (hm : P.follows .mixedOrders = true) (hback : backB .any ops = true) (hp : plainB ops ks = true) (hks : (ks.all fun k => decide (k < T.size)) = true)
    (h0 : St (fun _ => false) (fun k => T.getD k undef) w.drew)
    (hstep : ∀ (l : Nat → Bool) (f : Nat → Value) (w : World) (i : Nat) (o : Oper), ops[i]? = some o → l i = false → (∀ e ∈ o.after, Region.binds .any e = true → l e.on = true) → St l f w →
      ∀ a : Act, (∀ k, a.tmps[k]?.getD undef = if k ∈ ks then f k else T.getD k undef) → Oper.wp P o a w (fun a' w' => ∃ v, a' = a.put o.dst v ∧ St (upd l i true) (putF f o.dst v) w') Q)
    (hend : ∀ (l : Nat → Bool) (f : Nat → Value) (w : World), (∀ i, i < ops.size → l i = true) → St l f w → Q .normal ⟨over T ks f, D⟩ w) : (Code.region id ops true).wp P Q ⟨T, D⟩ w := by
  have hks' : ∀ k ∈ ks, k < T.size := fun k hk => by have := List.all_eq_true.1 hks k hk; simpa using this
  refine wp_region_inv (fun listed a w => ∃ f, listed.size = ops.size ∧ a = ⟨over T ks f, D⟩ ∧ St (fun j => listed.getD j false) f w) hm hback ⟨_, by simp, (by rw [over_same]), ?_⟩ ?_ ?_
  · refine cast (congrArg (fun l => St l (fun k => T.getD k undef) w.drew) ?_) h0
    funext j
    by_cases h : j < ops.size <;> simp [Array.getD_eq_getD_getElem?, h]
  · rintro listed a w i o ho hsz hli hdep ⟨f, _, rfl, hst⟩
    have hi : i < ops.size := (Array.getElem?_eq_some_iff.1 ho).1
    have hgo : o.guard.isNone = true ∧ (match o.dst with | some d => ks.contains d | none => true) = true := by
      have h := (Array.all_eq_true.1 hp) i hi
      have e : ops[i] = o := by have := (Array.getElem?_eq_some_iff.1 ho).2; exact this
      rw [e] at h
      simpa using h
    have hw : Region.wanted o (yielded ops (Act.mk (over T ks f) D).tmps) = true := by
      have : o.guard = none := by simpa using hgo.1
      simp [Region.wanted, this]
    have hl : listed.getD i false = false := by
      rw [Array.getD_eq_getD_getElem?] at hli ⊢
      rw [Array.getElem?_eq_getElem (by omega)] at hli ⊢
      exact hli
    have h := hstep (fun j => listed.getD j false) f w i o ho hl hdep hst ⟨over T ks f, D⟩ (fun k => by rw [← over_eval (D := D) hks' k, Act.eval, Array.getD_eq_getD_getElem?])
    unfold wpOp
    rw [ho]
    simp only [hw, if_true]
    refine .inl (Oper.wp_mono ?_ h)
    rintro a' w' ⟨v, rfl, hs⟩
    have hL : (fun j => (listed.setIfInBounds i true).getD j false) = upd (fun j => listed.getD j false) i true := by
      funext j
      simp only [upd, getD_set]
      by_cases e : i = j
      · rw [if_pos ⟨e, by omega⟩, if_pos e.symm]
      · rw [if_neg (fun h => e h.1), if_neg (fun h => e h.symm)]
    refine ⟨putF f o.dst v, by simpa using hsz, ?_, by rw [hL]; exact hs⟩
    cases hd : o.dst with
    | none => rfl
    | some d =>
      have hk : d ∈ ks := by have := hgo.2; rw [hd] at this; simpa using this
      show Act.mk ((over T ks f).setIfInBounds d v) D = _
      rw [over_set hk]
      rfl
  · rintro listed a w hall ⟨f, hsz, rfl, hst⟩
    refine hend _ f w (fun i hi => ?_) hst
    have := hall i hi
    rw [Array.getD_eq_getD_getElem?] at this ⊢
    rw [Array.getElem?_eq_getElem (by omega)] at this ⊢
    exact this

/-- One operation's run. -/
theorem wp_val {P : Program} {o : Oper} {a : Act} {w w' : World} {v : Value} {K : Act → World → Prop} {Q : Exit → Act → World → Prop} (hr : (execOp a.eval o).run P w = .ok (.value v) w') (h : K (a.put o.dst v) w') : o.wp P a w K Q := by
  unfold Oper.wp
  rw [hr]
  exact h
theorem wp_skip {P : Program} {o : Oper} {a : Act} {w w' : World} {K : Act → World → Prop} {Q : Exit → Act → World → Prop} (hr : (execOp a.eval o).run P w = .ok .skip w') (h : K (a.put o.dst undef) w') : o.wp P a w K Q := by
  unfold Oper.wp
  rw [hr]
  exact h
/-- append, and where the new row lies. -/
theorem wp_append_at {P : Program} {w : World} {o : Oper} {a : Act} {K : Act → World → Prop} {Q : Exit → Act → World → Prop} (s x : Operand) (t : TypeId)
    (ho : o.op = .call { callee := .builtin .append, args := #[s, x], argTypes := #[t, t] })
    (base : Nat) (e : TypeId) (i : TypeInfo) (z : Value) (size bytes : Nat) (ht : P.underlying t = some (.slice e)) (hi : P.info? e = some i) (hz : i.zero = some z)
    (hsize : i.size = size) (hby : i.bytes = bytes) (hzs : z.cells.size = size) (hsz : 0 < size)
    (v : Value) (n : Nat) (xs : List Value) (hs : a.eval s = v) (hown : w.ownsRow base e size v n xs)
    (ad : Addr) (m c : Nat) (news : List Value) (hx : a.eval x = .slice (some ad) m c) (hl : news.length = m * size) (hnews : ∀ j u, news[j]? = some u → w.cell? (ad.add j) = some u) (h1 : ∀ u ∈ news, u.oneCell' = true)
    (h63 : n + m ≤ maxLen) (hbytes : (n + m) * bytes ≤ 140737488355328) (hbase : base ≤ w.heap.size)
    (h : ∀ v' w', w'.ownsRow base e size v' (n + m) (xs ++ news) → w.grownBy w' v.ownBlock → (v'.ownBlock = v.ownBlock ∨ v'.ownBlock = some w.heap.size) → K (a.put o.dst v') w') : o.wp P a w K Q := by
  obtain ⟨v', w', hr, h2, h3, _, h5⟩ := run_append_own_at (P := P) w base t o.type e i z size bytes ht hi hz hsize hby hzs hsz v n xs hown ad m c news hl hnews h1 h63 hbytes hbase
  unfold Oper.wp execOp
  simp only [ho, resolve, invoke, builtin, Sem.run_bind, Sem.run_pure, Result.andThen_ok, List.map_toArray, List.map_cons, List.map_nil, hs, hx, hr]
  exact h v' w' h2 h3 h5
end Go.Proofs.Ytdccodnompalbaa
