/- The first node that isn't right in its place: by the document's shapes, and by the program's. Of no program. No conditions beyond those that each statement names. -/
import Derived.Test.YtdccodnompalbaaEq2
import Derived.Test.YtdccodnompalbaaD7
namespace Go.Proofs.Ytdccodnompalbaa

/-- The first that is one. -/
def firstN (f : Nat → Option NT) : Nat → Option NT
  | 0 => none
  | i + 1 => match firstN f i with | some x => some x | none => f i
/-- The first node in order that isn't right in its place. -/
def shapeM : NT → Int → Option NT
  | .nul, place => if oneM .nul place then none else some .nul
  | .mk k t n s len kid a, place => if oneM (.mk k t n s len kid a) place then firstN (fun i => shapeM (kid i) (wantAt k place len i)) len else some (.mk k t n s len kid a)
theorem shapeM_eq (T : NT) (place : Int) : shapeM T place = if oneM T place then firstN (fun i => shapeM (T.kid i) (wantAt T.k place T.len i)) T.len else some T := by cases T <;> rfl

theorem ownM_place (k : Int) (t : ByteArray) (n : Int) (place : Int) (len : Nat) (hs : standsM k place = true) (h1 : place = 5001 ∨ place = 5002) :
    (mayNumM k n && (if place = 5001 then (nameM t && (n == 0 && len == 0)) else if place = 5002 then (regionM t && (n == 0 && len == 0)) else true)) = (ownM k t n (rp place) && len == 0) := by
  have hk : k = 6 := by rcases h1 with rfl | rfl <;> simpa [standsM] using hs
  subst hk
  have hm : mayNumM 6 n = decide (0 ≤ n) := rfl
  rw [hm]
  rcases h1 with rfl | rfl
  · rw [if_pos rfl, show rp 5001 = 1 from rfl, show ownM 6 t n 1 = (n == 0 && nameM t) from rfl]
    by_cases hn : n = 0
    · subst hn; cases nameM t <;> cases (len == 0) <;> rfl
    · have e : (n == 0) = false := by simp [hn]
      rw [e]; cases nameM t <;> cases decide (0 ≤ n) <;> rfl
  · rw [if_neg (by decide), if_pos rfl, show rp 5002 = 2 from rfl, show ownM 6 t n 2 = (n == 0 && regionM t) from rfl]
    by_cases hn : n = 0
    · subst hn; cases regionM t <;> cases (len == 0) <;> rfl
    · have e : (n == 0) = false := by simp [hn]
      rw [e]; cases regionM t <;> cases decide (0 ≤ n) <;> rfl
theorem fit6 (len : Nat) (ks : Nat → Int) : fitM (kidsM 6) len ks = (len == 0) := by
  have h : kidsM 6 = ([], 0, 0) := rfl
  rw [h, fit_plain [] [] 0 0 trivial (.inl ⟨rfl, rfl⟩) len ks]
  by_cases hl : len = 0
  · subst hl; rfl
  · simp [hl]
theorem one_may (T : NT) (place : Int) (hs : standsM T.k place = true) (hp : T.k = 6 → rp place = 0 ∨ place = 5001 ∨ place = 5002) : oneM T place = mayM T (rp place) := by
  rw [oneM, mayM, hs, Bool.true_and]
  by_cases h1 : place = 5001 ∨ place = 5002
  · have hk : T.k = 6 := by rcases h1 with rfl | rfl <;> simpa [standsM] using hs
    have h := ownM_place T.k T.t T.n place T.len hs h1
    rw [hk] at h ⊢
    rw [fit6, Bool.and_comm (T.len == 0)]
    rcases h1 with rfl | rfl
    · exact h
    · exact h
  · have n1 : ¬ place = 5001 := fun e => h1 (.inl e)
    have n2 : ¬ place = 5002 := fun e => h1 (.inr e)
    rw [if_neg n1, if_neg n2, fit_all T.k place]
    have ho : ownM T.k T.t T.n (rp place) = (mayTextM T.k T.t && mayNumM T.k T.n) := by
      rw [ownM, if_neg]
      rintro ⟨hk, hr⟩
      rcases hp hk with h | h | h
      · exact hr h
      · exact n1 h
      · exact n2 h
    rw [ho]
    cases mayNumM T.k T.n <;> cases mayTextM T.k T.t <;> simp

theorem find_flatN {α : Type} (p : α → Bool) (f : Nat → List α) (g : α → NT) (h : Nat → Option NT) : ∀ n, (∀ i, i < n → h i = ((f i).find? p).map g) → firstN h n = ((flatN f n).find? p).map g
  | 0, _ => rfl
  | n + 1, hh => by
    simp only [firstN, flatN, List.find?_append]
    rw [find_flatN p f g h n fun i hi => hh i (by omega), hh n (by omega)]
    cases (flatN f n).find? p <;> rfl

theorem stands6 (place : Int) (h : standsM 6 place = true) (hpl : Pl place) (h16 : place ≠ 16) : rp place = 0 ∨ place = 5001 ∨ place = 5002 := by
  by_cases h1 : place = 5001
  · exact .inr (.inl h1)
  by_cases h2 : place = 5002
  · exact .inr (.inr h2)
  left
  unfold rp
  rw [if_neg, if_neg]
  · rintro (rfl | rfl)
    · simp [standsM] at h
    · exact h2 rfl
  · rintro (rfl | rfl)
    · simp [standsM] at h
    · exact h1 rfl
theorem stands5 (place : Int) (h : standsM 5 place = true) (hpl : Pl place) (h00 : place ≠ 0) : place = 9 ∨ place = 5000 := by
  unfold standsM at h
  split at h
  · simp [classM] at h
  split at h
  · simp [classM] at h
  split at h
  · simp at h
  split at h
  · rename_i h9; exact h9
  split at h
  · simp at h
  split at h
  · have : classM 5 = 0 := rfl
    rw [this] at h
    simp at h
    omega
  · simp at h
    exact absurd (show place = 15 by omega) hpl.2.2

theorem nz_ite {p : Prop} [Decidable p] {a b : List Int} (ha : ∀ x ∈ a, x ≠ 0) (hb : ∀ x ∈ b, x ≠ 0) : ∀ x ∈ (if p then a else b), x ≠ 0 := by split <;> assumption
theorem wfirst_nz (k : Int) : ∀ x ∈ wfirst k, x ≠ 0 := by
  unfold wfirst
  repeat (refine nz_ite (by decide) ?_)
  decide
theorem wantAt_ne {k place : Int} {len i : Nat} (hi : i < len) (hok : wantsOk k place len = true) : wantAt k place len i ≠ 0 := by
  unfold wantsOk at hok
  unfold wantAt
  by_cases h59 : k = 59
  · rw [if_pos h59]; split <;> decide
  · rw [if_neg h59] at hok ⊢
    by_cases h : i < (wfirst k).length
    · rw [dif_pos h]; exact wfirst_nz k _ (List.getElem_mem h)
    · rw [dif_neg h]
      simp only [Bool.and_eq_true, Bool.or_eq_true, decide_eq_true_eq, beq_iff_eq] at hok
      omega
theorem shape_find : ∀ (T : NT) (place d : Int), standsM T.k place = true → Pl place → place ≠ 0 → shapeM T place = ((T.pres d (rp place)).find? (fun x => !mayM x.1 x.2.2)).map (·.1) := by
  intro T
  induction T using NT.ind with
  | _ T ih =>
    intro place d hs hpl hp0
    have h6 : T.k = 6 → rp place = 0 ∨ place = 5001 ∨ place = 5002 := fun h => by
      rw [h] at hs
      by_cases h16 : place = 16
      · subst h16; exact .inl rfl
      · exact stands6 place hs hpl h16
    have hom := one_may T place hs h6
    rw [shapeM_eq, hom, NT.pres_eq, List.find?_cons]
    cases hm : mayM T (rp place)
    · simp
    · simp only [if_true, Bool.not_true]
      have hfit : fitM (kidsM T.k) T.len (fun i => (T.kid i).k) = true := by
        rw [mayM, Bool.and_eq_true] at hm; exact hm.1
      rw [fit_all T.k place, Bool.and_eq_true, allN_iff] at hfit
      refine find_flatN _ _ (fun x : Spot => x.1) _ T.len fun i hi => ?_
      have hr := role_all T.k place T.len i hi hfit.1 (fun h => stands5 place (by rw [← h]; exact hs) hpl hp0)
      rw [hr]
      exact ih i hi (wantAt T.k place T.len i) (d + 1) (hfit.2 i hi) (wantAt_pl _ _ _ _) (wantAt_ne hi hfit.1)
end Go.Proofs.Ytdccodnompalbaa
