/- A right program's items, and programs of some of them: of the program's own answers as plain data. No conditions. -/
import Derived.Test.YtdccodnompalbaaF7
import Derived.Test.YtdccodnompalbaaN2
namespace Go.Proofs.Ytdccodnompalbaa
open Go.RowKit Go.Shelf

theorem wrong_ok (T : NT) (asked : Bool) : (wrongM T asked).1 = 0 ↔ (asked = true ∧ T.size ≤ 20000 ∧ ∀ x ∈ T.pres 1 0, x.2.1 ≤ 60 ∧ mayM x.1 x.2.2 = true) := by
  unfold wrongM
  cases e1 : (T.pres 1 0).find? (fun x => decide (60 < x.2.1)) with
  | some x =>
    refine ⟨fun h => (by cases h), fun ⟨_, _, h3⟩ => ?_⟩
    have hx := List.find?_some e1
    have := (h3 x (List.mem_of_find?_eq_some e1)).1
    simp at hx
    omega
  | none =>
    have hn := List.find?_eq_none.1 e1
    simp only
    cases e2 : (T.pres 1 0)[20000]? with
    | some x =>
      refine ⟨fun h => (by cases h), fun ⟨_, h2, _⟩ => ?_⟩
      have := (List.getElem?_eq_some_iff.1 e2).1
      rw [NT.pres_len] at this
      omega
    | none =>
      have hl : T.size ≤ 20000 := by rw [List.getElem?_eq_none_iff, NT.pres_len] at e2; exact e2
      simp only
      cases asked with
      | false => exact ⟨fun h => (by simp at h), fun h => (by cases h.1)⟩
      | true =>
        simp only [Bool.true_eq_false, if_false]
        cases e3 : (T.pres 1 0).find? (fun x => !mayM x.1 x.2.2) with
        | some x =>
          refine ⟨fun h => (by cases h), fun ⟨_, _, h3⟩ => ?_⟩
          have hx := List.find?_some e3
          have := (h3 x (List.mem_of_find?_eq_some e3)).2
          rw [this] at hx
          cases hx
        | none =>
          have h3 := List.find?_eq_none.1 e3
          refine ⟨fun _ => ⟨trivial, hl, fun x hx => ⟨?_, ?_⟩⟩, fun _ => rfl⟩
          · have := hn x hx
            simp at this
            exact this
          · have := h3 x hx
            simpa using this

/-- The same nodes, told one deeper. -/
theorem pres_deeper : ∀ (T : NT) (d e r : Int) (x : Spot), x ∈ T.pres d r → (x.1, x.2.1 + e, x.2.2) ∈ T.pres (d + e) r := by
  intro T
  induction T using NT.ind with
  | _ T ih =>
    intro d e r x hx
    rw [NT.pres_eq] at hx ⊢
    rcases List.mem_cons.1 hx with rfl | hx
    · exact List.mem_cons_self ..
    · refine List.mem_cons_of_mem _ ?_
      obtain ⟨i, hi, hx⟩ := flatN_mem hx
      have h := ih i hi (d + 1) e _ x hx
      rw [show d + 1 + e = d + e + 1 by omega] at h
      have : ∀ n, i < n → (x.1, x.2.1 + e, x.2.2) ∈ flatN (fun i => (T.kid i).pres (d + e + 1) (roleM T.k r i)) n := by
        intro n
        induction n with
        | zero => intro h; omega
        | succ n ihn =>
          intro hn
          simp only [flatN, List.mem_append]
          by_cases e : i = n
          · subst e; exact .inr h
          · exact .inl (ihn (by omega))
      exact this T.len hi
theorem kid_in {T : NT} {i : Nat} (hi : i < T.len) (d r : Int) {x : Spot} (hx : x ∈ (T.kid i).pres (d + 1) (roleM T.k r i)) : x ∈ T.pres d r := by
  rw [NT.pres_eq]
  refine List.mem_cons_of_mem _ ?_
  have : ∀ n, i < n → x ∈ flatN (fun i => (T.kid i).pres (d + 1) (roleM T.k r i)) n := by
    intro n
    induction n with
    | zero => intro h; omega
    | succ n ihn =>
      intro hn
      simp only [flatN, List.mem_append]
      by_cases e : i = n
      · subst e; exact .inr hx
      · exact .inl (ihn (by omega))
  exact this T.len hi

theorem role1 (r : Int) (i : Nat) : roleM 1 r i = 0 := by simp [roleM]
theorem kids1 : kidsM 1 = ([], 100, 0) := by decide
theorem own1 : ownM 1 ⟨#[]⟩ 0 0 = true := by kernel_rfl
theorem isOf100 (k : Int) : isOfM k 100 = isOneM k 1 := by simp [isOfM]
theorem fit1 (len : Nat) (ks : Nat → Int) : fitM ([], 100, 0) len ks = allN (fun i => isOneM (ks i) 1) len := by
  unfold fitM
  have hb : behindM ([], 100, 0) len = (len : Int) := by simp [behindM]
  rw [hb, if_neg (by simp)]
  refine allN_congr fun i hi => ?_
  have : sortM ([], 100, 0) len i = 100 := by
    unfold sortM
    rw [dif_neg (by simp), hb, if_neg (by omega)]
  rw [this, isOf100]
/-- A right program's items. -/
theorem item_of {T : NT} (h : (rightM T).1 = 0) : T.k = 1 ∧ T.size ≤ 20000 ∧ (∀ i, i < T.len → isOneM (T.kid i).k 1 = true) ∧ ∀ i, i < T.len → ∀ x ∈ (T.kid i).pres 2 0, x.2.1 ≤ 60 ∧ mayM x.1 x.2.2 = true := by
  obtain ⟨h1, h2, h3⟩ := (wrong_ok T _).1 h
  have hk : T.k = 1 := by simpa using h1
  refine ⟨hk, h2, fun i hi => ?_, fun i hi x hx => h3 x (kid_in hi 1 0 (by rw [hk, role1]; exact hx))⟩
  have hm := (h3 (T, 1, 0) (by rw [NT.pres_eq]; exact List.mem_cons_self ..)).2
  unfold mayM at hm
  simp only [Bool.and_eq_true] at hm
  have hf := hm.1
  rw [hk, kids1, fit1] at hf
  exact allN_get hf hi
theorem fits_item {T : NT} (h : (rightM T).1 = 0) {i : Nat} (hi : i < T.len) : fitsM (T.kid i) 1 = true := by
  obtain ⟨_, h2, h3, h4⟩ := item_of h
  have hs : (T.kid i).size ≤ sumN (fun i => (T.kid i).size) T.len := sumN_le (f := fun i => (T.kid i).size) hi
  have e := NT.size_eq T
  unfold fitsM
  simp only [beq_iff_eq]
  refine (wrong_ok _ _).2 ⟨h3 i hi, by omega, fun x hx => ?_⟩
  obtain ⟨k1, k2⟩ := h4 i hi _ (by have := pres_deeper _ 1 1 0 x hx; exact this)
  have k1' : x.2.1 + 1 ≤ 60 := k1
  exact ⟨by omega, k2⟩
/-- A program of some of a right program's items is right. -/
theorem right_some {T : NT} (h : (rightM T).1 = 0) (s : Value) (len : Nat) (kid : Nat → NT) (hk : ∀ j, j < len → ∃ i, i < T.len ∧ kid j = T.kid i) (hs : (NT.mk 1 ⟨#[]⟩ 0 s len kid 0).size ≤ 20000) : (rightM (.mk 1 ⟨#[]⟩ 0 s len kid 0)).1 = 0 := by
  obtain ⟨_, _, h3, h4⟩ := item_of h
  refine (wrong_ok _ _).2 ⟨rfl, hs, fun x hx => ?_⟩
  rw [NT.pres_eq] at hx
  rcases List.mem_cons.1 hx with rfl | hx
  · refine ⟨by show (1 : Int) ≤ 60; decide, ?_⟩
    unfold mayM
    simp only [Bool.and_eq_true]
    refine ⟨?_, own1⟩
    show fitM (kidsM 1) len (fun i => (kid i).k) = true
    rw [kids1, fit1]
    exact allN_all fun i hi => by
      obtain ⟨j, hj, e⟩ := hk i hi
      rw [e]; exact h3 j hj
  · obtain ⟨i, hi, hx⟩ := flatN_mem hx
    have hi' : i < len := hi
    obtain ⟨j, hj, e⟩ := hk i hi'
    have hx' : x ∈ (kid i).pres 2 (roleM 1 0 i) := hx
    rw [role1, e] at hx'
    exact h4 j hj x hx'

/-- Without item i; with item i twice. -/
def lessK (kid : Nat → NT) (i : Nat) : Nat → NT := fun j => if j < i then kid j else kid (j + 1)
def moreK (kid : Nat → NT) (len i : Nat) : Nat → NT := fun j => if j < len then kid j else kid i
theorem sum_less (f : Nat → Nat) (i : Nat) : ∀ n, i ≤ n → sumN (fun j => if j < i then f j else f (j + 1)) n + f i = sumN f (n + 1)
  | 0, h => by
    have : i = 0 := by omega
    subst this
    simp [sumN]
  | n + 1, h => by
    by_cases e : i = n + 1
    · subst e
      have : sumN (fun j => if j < n + 1 then f j else f (j + 1)) (n + 1) = sumN f (n + 1) := sumN_congr fun j hj => if_pos hj
      rw [this]
      rfl
    · have := sum_less f i n (by omega)
      simp only [sumN] at this ⊢
      rw [if_neg (by omega)]
      omega
end Go.Proofs.Ytdccodnompalbaa
