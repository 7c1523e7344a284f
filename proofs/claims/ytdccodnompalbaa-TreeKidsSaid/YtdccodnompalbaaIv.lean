/- A region that draws its order, shown by what holds between two operations, whatever was done by then: one proof for each operation serves every order. No conditions beyond those that each statement names. -/
import Derived.Test.YtdccodnompalbaaQt
namespace Go.Proofs.Ytdccodnompalbaa

section
variable {P : Program} {ops : Array Oper} {md : Region.Mode} {Q : Exit → Act → World → Prop}

/-- No operation waits for a later one. -/
def backB (md : Region.Mode) (ops : Array Oper) : Bool := (List.range ops.size).all fun i => ((ops[i]?).map fun o => o.after.all fun e => !Region.binds md e || decide (e.on < i)).getD true
theorem backB_at (h : backB md ops = true) {i : Nat} {o : Oper} (ho : ops[i]? = some o) : ∀ e ∈ o.after, Region.binds md e = true → e.on < i := by
  intro e he hb
  unfold backB at h
  rw [List.all_eq_true] at h
  have hi : i < ops.size := (Array.getElem?_eq_some_iff.1 ho).1
  have h1 := h i (List.mem_range.2 hi)
  rw [ho] at h1
  simp only [Option.map_some, Option.getD_some] at h1
  rw [Array.all_eq_true'] at h1
  have h2 := h1 e he
  rw [hb] at h2
  simpa using h2

/-- How many are still to be done. -/
def leftN (listed : Array Bool) (n : Nat) : Nat := ((List.range n).filter fun i => !listed.getD i true).length
theorem leftN_zero {listed : Array Bool} {n : Nat} (h : leftN listed n = 0) : ∀ i, i < n → listed.getD i true = true := fun i hi => by
  unfold leftN at h
  rw [List.length_eq_zero_iff, List.filter_eq_nil_iff] at h
  have := h i (List.mem_range.2 hi)
  simpa using this
theorem getD_set {listed : Array Bool} {i j : Nat} (d : Bool) : (listed.setIfInBounds i true).getD j d = if i = j ∧ i < listed.size then true else listed.getD j d := by
  simp only [Array.getD_eq_getD_getElem?, Array.getElem?_setIfInBounds]
  by_cases h : i = j
  · subst h
    by_cases hs : i < listed.size
    · simp [hs]
    · simp [hs]
  · simp [h]
theorem cnt_set {p q : Nat → Bool} {i : Nat} (hp : p i = true) (hq : q i = false) (hne : ∀ j, j ≠ i → q j = p j) : ∀ n, ((List.range n).filter q).length + (if i < n then 1 else 0) = ((List.range n).filter p).length
  | 0 => by simp
  | n + 1 => by
    have ih := cnt_set hp hq hne n
    rw [List.range_succ, List.filter_append, List.filter_append, List.length_append, List.length_append]
    have hs : ∀ r : Nat → Bool, (List.filter r [n]).length = if r n = true then 1 else 0 := fun r => by
      simp only [List.filter_cons, List.filter_nil]
      by_cases h : r n = true
      · rw [if_pos h, if_pos h]; rfl
      · rw [if_neg h, if_neg h]; rfl
    rw [hs q, hs p]
    by_cases e : n = i
    · subst e
      rw [if_neg (Nat.lt_irrefl n)] at ih
      have h1 : n < n + 1 := Nat.lt_succ_self n
      rw [hp, hq, if_pos h1]
      simp only [if_true, Bool.false_eq_true, if_false]
      omega
    · rw [hne n e]
      have h : (if i < n + 1 then 1 else 0) = (if i < n then 1 else 0) := by
        by_cases h : i < n
        · have h1 : i < n + 1 := by omega
          rw [if_pos h, if_pos h1]
        · have h1 : ¬ i < n + 1 := by omega
          rw [if_neg h, if_neg h1]
      rw [h]
      omega
theorem filter_set {listed : Array Bool} {i : Nat} (hs : i < listed.size) (hu : listed.getD i true = false) (n : Nat) : ((List.range n).filter fun j => !(listed.setIfInBounds i true).getD j true).length + (if i < n then 1 else 0) = ((List.range n).filter fun j => !listed.getD j true).length :=
  cnt_set (i := i) (by rw [hu]; rfl) (by rw [getD_set, if_pos ⟨rfl, hs⟩]; rfl) (fun j hj => by rw [getD_set, if_neg (fun h => hj h.1.symm)]) n

/-- The law. -/
theorem wpAny_inv (Inv : Array Bool → Act → World → Prop) (hback : backB md ops = true)
    (hstep : ∀ (listed : Array Bool) (a : Act) (w : World) (i : Nat) (o : Oper), ops[i]? = some o → listed.size = ops.size → listed.getD i true = false → (∀ e ∈ o.after, Region.binds md e = true → listed.getD e.on false = true) →
      Inv listed a w → wpOp P ops Q i (Inv (listed.setIfInBounds i true)) a w)
    (hend : ∀ (listed : Array Bool) (a : Act) (w : World), (∀ i, i < ops.size → listed.getD i true = true) → Inv listed a w → Q .normal a w) :
    ∀ (fuel : Nat) (listed : Array Bool) (a : Act) (w : World), listed.size = ops.size → leftN listed ops.size = fuel → Inv listed a w → wpAny P md ops Q fuel listed a w
  | 0, listed, a, w, hs, hl, hi => by
    have hall := leftN_zero hl
    refine ⟨?_, hend listed a w hall hi⟩
    rw [List.eq_nil_iff_forall_not_mem]
    intro j hj
    obtain ⟨h1, o, ho, _⟩ := mem_ready.1 hj
    rw [hall j (Array.getElem?_eq_some_iff.1 ho).1] at h1
    cases h1
  | fuel + 1, listed, a, w, hs, hl, hi => by
    refine ⟨fun h0 => ?_, fun i him => ?_⟩
    · exfalso
      have hex : ∃ i, i < ops.size ∧ listed.getD i true = false := by
        have hne : ((List.range ops.size).filter fun i => !listed.getD i true) ≠ [] := fun h => by unfold leftN at hl; rw [h] at hl; cases hl
        obtain ⟨i, him⟩ := List.exists_mem_of_ne_nil _ hne
        rw [List.mem_filter, List.mem_range] at him
        exact ⟨i, him.1, by simpa using him.2⟩
      -- the first of them is ready
      have hmin : ∃ i, i < ops.size ∧ listed.getD i true = false ∧ ∀ j, j < i → listed.getD j true = true := by
        obtain ⟨i, hi1, hi2⟩ := hex
        induction i using Nat.strongRecOn with
        | _ i ih =>
          by_cases h : ∃ j, j < i ∧ listed.getD j true = false
          · obtain ⟨j, hj, hj2⟩ := h
            exact ih j hj (by omega) hj2
          · refine ⟨i, hi1, hi2, fun j hj => ?_⟩
            cases hq : listed.getD j true with
            | true => rfl
            | false => exact absurd ⟨j, hj, hq⟩ h
      obtain ⟨i, hi1, hi2, hi3⟩ := hmin
      obtain ⟨o, ho⟩ : ∃ o, ops[i]? = some o := ⟨_, Array.getElem?_eq_getElem hi1⟩
      have : i ∈ Region.ready md ops listed := mem_ready.2 ⟨hi2, o, ho, fun e he hb => by
        have hlt := backB_at hback ho e he hb
        have h1 := hi3 e.on hlt
        have hb2 : e.on < listed.size := by rw [hs]; omega
        simp only [Array.getD_eq_getD_getElem?, Array.getElem?_eq_getElem hb2, Option.getD_some] at h1 ⊢
        exact h1⟩
      rw [h0] at this
      cases this
    · obtain ⟨hu, o, ho, hdep⟩ := mem_ready.1 him
      have hlt : i < ops.size := (Array.getElem?_eq_some_iff.1 ho).1
      refine wpOp_mono (fun a' w' h => wpAny_inv Inv hback hstep hend fuel _ a' w' (by simpa using hs) ?_ h) (hstep listed a w i o ho hs hu hdep hi)
      have := filter_set (listed := listed) (i := i) (by omega) hu ops.size
      rw [if_pos hlt] at this
      unfold leftN at hl ⊢
      omega

/-- The same for the region as it stands. -/
theorem wp_region_inv {id : Nat} {a : Act} {w : World} (Inv : Array Bool → Act → World → Prop) (hm : P.follows .mixedOrders = true) (hback : backB .any ops = true)
    (h0 : Inv (Array.replicate ops.size false) a w.drew)
    (hstep : ∀ (listed : Array Bool) (a : Act) (w : World) (i : Nat) (o : Oper), ops[i]? = some o → listed.size = ops.size → listed.getD i true = false → (∀ e ∈ o.after, Region.binds .any e = true → listed.getD e.on false = true) →
      Inv listed a w → wpOp P ops Q i (Inv (listed.setIfInBounds i true)) a w)
    (hend : ∀ (listed : Array Bool) (a : Act) (w : World), (∀ i, i < ops.size → listed.getD i true = true) → Inv listed a w → Q .normal a w) : (Code.region id ops true).wp P Q a w := by
  refine wp_region_any hm (wpAny_inv Inv hback hstep hend _ _ a _ (by simp) ?_ h0)
  unfold leftN
  have : ((List.range ops.size).filter fun i => !(Array.replicate ops.size false).getD i true) = List.range ops.size := by
    rw [List.filter_eq_self]
    intro i hi
    rw [List.mem_range] at hi
    simp [Array.getD_eq_getD_getElem?, hi]
  rw [this, List.length_range]
end
end Go.Proofs.Ytdccodnompalbaa
