/- The document's shapes and the program's are one, kind by kind; and the first node that isn't right is the same. Of no program. No conditions beyond those that each statement names. -/
import Derived.Test.YtdccodnompalbaaEq
import Derived.Test.YtdccodnompalbaaD6
import Derived.Test.YtdccodnompalbaaWr
namespace Go.Proofs.Ytdccodnompalbaa

set_option maxRecDepth 10000 in
theorem fit_all (k place : Int) (len : Nat) (ks : Nat → Int) : fitM (kidsM k) len ks = (wantsOk k place len && allN (fun i => standsM (ks i) (wantAt k place len i)) len) := by
  by_cases k23 : k = 23
  · subst k23; exact fit_plain [5] [5000] 101 2 ⟨eqv5b, trivial⟩ (.inr ⟨by decide, eqv101⟩) len ks
  by_cases k24 : k = 24
  · subst k24; exact fit_plain [101] [2] 0 0 ⟨eqv101, trivial⟩ (.inl ⟨rfl, rfl⟩) len ks
  by_cases k25 : k = 25
  · subst k25; exact fit_plain [101] [2] 0 0 ⟨eqv101, trivial⟩ (.inl ⟨rfl, rfl⟩) len ks
  by_cases k26 : k = 26
  · subst k26; exact fit_plain [101] [2] 0 0 ⟨eqv101, trivial⟩ (.inl ⟨rfl, rfl⟩) len ks
  by_cases k43 : k = 43
  · subst k43; exact fit_plain [104] [4] 0 0 ⟨eqv104, trivial⟩ (.inl ⟨rfl, rfl⟩) len ks
  by_cases k45 : k = 45
  · subst k45; exact fit_plain [104] [4] 0 0 ⟨eqv104, trivial⟩ (.inl ⟨rfl, rfl⟩) len ks
  by_cases k46 : k = 46
  · subst k46; exact fit_plain [104] [4] 0 0 ⟨eqv104, trivial⟩ (.inl ⟨rfl, rfl⟩) len ks
  by_cases k47 : k = 47
  · subst k47; exact fit_plain [104] [4] 0 0 ⟨eqv104, trivial⟩ (.inl ⟨rfl, rfl⟩) len ks
  by_cases k44 : k = 44
  · subst k44; exact fit_plain [104, 104] [4, 4] 0 0 ⟨eqv104, eqv104, trivial⟩ (.inl ⟨rfl, rfl⟩) len ks
  by_cases k62 : k = 62
  · subst k62; exact fit_plain [104, 104] [4, 4] 0 0 ⟨eqv104, eqv104, trivial⟩ (.inl ⟨rfl, rfl⟩) len ks
  by_cases k48 : k = 48
  · subst k48; exact fit_plain [49] [59] 104 4 ⟨(eqvN 49 (by omega)), trivial⟩ (.inr ⟨by decide, eqv104⟩) len ks
  by_cases k52 : k = 52
  · subst k52; exact fit_plain [49] [59] 104 4 ⟨(eqvN 49 (by omega)), trivial⟩ (.inr ⟨by decide, eqv104⟩) len ks
  by_cases k50 : k = 50
  · subst k50; exact fit_plain [49] [59] 51 61 ⟨(eqvN 49 (by omega)), trivial⟩ (.inr ⟨by decide, (eqvN 51 (by omega))⟩) len ks
  by_cases k53 : k = 53
  · subst k53; exact fit_plain [104, 59, 106] [4, 69, 8] 0 0 ⟨eqv104, (eqvN 59 (by omega)), eqv106, trivial⟩ (.inl ⟨rfl, rfl⟩) len ks
  by_cases k54 : k = 54
  · subst k54; exact fit_plain [104, 59] [4, 69] 0 0 ⟨eqv104, (eqvN 59 (by omega)), trivial⟩ (.inl ⟨rfl, rfl⟩) len ks
  by_cases k55 : k = 55
  · subst k55; exact fit_plain [59] [69] 0 0 ⟨(eqvN 59 (by omega)), trivial⟩ (.inl ⟨rfl, rfl⟩) len ks
  by_cases k56 : k = 56
  · subst k56; exact fit_plain [105] [6] 0 0 ⟨eqv105, trivial⟩ (.inl ⟨rfl, rfl⟩) len ks
  by_cases k58 : k = 58
  · subst k58; exact fit_plain [105] [6] 0 0 ⟨eqv105, trivial⟩ (.inl ⟨rfl, rfl⟩) len ks
  by_cases k60 : k = 60
  · subst k60; exact fit_plain [104] [4] 61 71 ⟨eqv104, trivial⟩ (.inr ⟨by decide, (eqvN 61 (by omega))⟩) len ks
  by_cases k1 : k = 1
  · subst k1; exact fit_plain [] [] 100 1 trivial (.inr ⟨by decide, eqv100⟩) len ks
  by_cases k2 : k = 2
  · subst k2; exact fit_plain [5, 5] [9, 5000] 11 21 ⟨eqv5a, eqv5b, trivial⟩ (.inr ⟨by decide, (eqvN 11 (by omega))⟩) len ks
  by_cases k3 : k = 3
  · subst k3; exact fit_plain [5, 5] [9, 5000] 12 22 ⟨eqv5a, eqv5b, trivial⟩ (.inr ⟨by decide, (eqvN 12 (by omega))⟩) len ks
  by_cases k4 : k = 4
  · subst k4; exact fit_plain [5, 5, 8, 102, 10, 59] [9, 5000, 18, 7, 20, 69] 0 0 ⟨eqv5a, eqv5b, (eqvN 8 (by omega)), eqv102, (eqvN 10 (by omega)), (eqvN 59 (by omega)), trivial⟩ (.inl ⟨rfl, rfl⟩) len ks
  by_cases k8 : k = 8
  · subst k8; exact fit_plain [] [] 7 17 trivial (.inr ⟨by decide, (eqvN 7 (by omega))⟩) len ks
  by_cases k10 : k = 10
  · subst k10; exact fit_plain [] [] 9 19 trivial (.inr ⟨by decide, (eqvN 9 (by omega))⟩) len ks
  by_cases k9 : k = 9
  · subst k9; exact fit_plain [6] [5002] 0 0 ⟨eqv6b, trivial⟩ (.inl ⟨rfl, rfl⟩) len ks
  by_cases k7 : k = 7
  · subst k7; exact fit_plain [101] [2] 0 0 ⟨eqv101, trivial⟩ (.inl ⟨rfl, rfl⟩) len ks
  by_cases k11 : k = 11
  · subst k11; exact fit_plain [101] [2] 0 0 ⟨eqv101, trivial⟩ (.inl ⟨rfl, rfl⟩) len ks
  by_cases k12 : k = 12
  · subst k12; exact fit_plain [] [] 101 2 trivial (.inr ⟨by decide, eqv101⟩) len ks
  by_cases k49 : k = 49
  · subst k49; exact fit_plain [] [] 101 2 trivial (.inr ⟨by decide, eqv101⟩) len ks
  by_cases k30 : k = 30
  · subst k30; exact fit_plain [102, 105] [7, 6] 0 0 ⟨eqv102, eqv105, trivial⟩ (.inl ⟨rfl, rfl⟩) len ks
  by_cases k31 : k = 31
  · subst k31; exact fit_plain [104] [4] 0 0 ⟨eqv104, trivial⟩ (.inl ⟨rfl, rfl⟩) len ks
  by_cases k51 : k = 51
  · subst k51; exact fit_plain [104] [4] 0 0 ⟨eqv104, trivial⟩ (.inl ⟨rfl, rfl⟩) len ks
  by_cases k61 : k = 61
  · subst k61; exact fit_plain [107, 104] [5, 4] 0 0 ⟨eqv107, eqv104, trivial⟩ (.inl ⟨rfl, rfl⟩) len ks
  by_cases k74 : k = 74
  · subst k74; exact fit_plain [] [] 107 5 trivial (.inr ⟨by decide, eqv107⟩) len ks
  by_cases k5 : k = 5
  · subst k5
    by_cases hp : place = 5000
    · subst hp; exact fit_plain [] [] 6 5002 trivial (.inr ⟨by decide, eqv6b⟩) len ks
    · have := fit_plain [] [] 6 5001 trivial (.inr ⟨by decide, eqv6a⟩) len ks
      have hm : wmore 5 place = 5001 := by simp [wmore, hp]
      simp only [wantsOk, wantAt, hm]
      exact this
  by_cases k59 : k = 59
  · subst k59; exact fit_block len ks
  have hk : kidsM k = ([], 0, 0) := by
    unfold kidsM typesM exprsM baseM
    simp [k23, k24, k25, k26, k43, k45, k46, k47, k44, k62, k48, k52, k50, k53, k54, k55, k56, k58, k60, k1, k2, k3, k4, k8, k10, k9, k7, k11, k12, k49, k30, k31, k51, k61, k74, k5, k59]
  have hf : wfirst k = [] := by simp [wfirst, k2, k3, k4, k7, k11, k24, k25, k26, k9, k23, k30, k31, k43, k45, k46, k47, k51, k44, k62, k48, k52, k50, k53, k54, k55, k56, k58, k60, k61]
  have hm : wmore k place = 0 := by simp [wmore, k1, k2, k3, k8, k10, k12, k49, k23, k48, k52, k50, k60, k74, k5]
  rw [hk, fit_plain [] [] 0 0 trivial (.inl ⟨rfl, rfl⟩) len ks]
  simp [wantsOk, wantAt, hf, hm, k59]

/-- The role that a place gives. -/
def rp (place : Int) : Int := if place = 9 ∨ place = 5001 then 1 else if place = 5000 ∨ place = 5002 then 2 else 0
theorem rp_zero (k place : Int) (len i : Nat) (h59 : k ≠ 59) (hf : ∀ x ∈ wfirst k, rp x = 0) (hm : rp (wmore k place) = 0) : rp (wantAt k place len i) = 0 := by
  rw [wantAt, if_neg h59]
  by_cases h : i < (wfirst k).length
  · rw [dif_pos h]; exact hf _ (List.getElem_mem h)
  · rw [dif_neg h]; exact hm
set_option maxRecDepth 10000 in
theorem role_all (k place : Int) (len i : Nat) (hi : i < len) (hok : wantsOk k place len = true) (hp : k = 5 → place = 9 ∨ place = 5000) : roleM k (rp place) i = rp (wantAt k place len i) := by
  by_cases k5 : k = 5
  · subst k5
    rcases hp rfl with rfl | rfl <;> rfl
  by_cases k59 : k = 59
  · subst k59
    simp only [wantAt, if_true]
    split <;> rfl
  by_cases k9 : k = 9
  · subst k9
    have : len = 1 := by
      have h : (decide ((1 : Nat) ≤ len) && (decide ((0 : Int) < 0) || len == 1)) = true := hok
      simp at h; omega
    obtain rfl : i = 0 := by omega
    rfl
  by_cases k23 : k = 23
  · subst k23
    rcases i with _ | i
    · rfl
    · show (if (i + 1 : Nat) = 0 then (2 : Int) else 0) = rp (if h : i + 1 < 1 then ([5000] : List Int)[i + 1] else 2)
      rw [dif_neg (by omega)]; rfl
  by_cases k2 : k = 2
  · subst k2
    rcases i with _ | _ | i
    · rfl
    · rfl
    · show (0 : Int) = rp (if h : i + 1 + 1 < 2 then ([9, 5000] : List Int)[i + 1 + 1] else 21)
      rw [dif_neg (by omega)]; rfl
  by_cases k3 : k = 3
  · subst k3
    rcases i with _ | _ | i
    · rfl
    · rfl
    · show (0 : Int) = rp (if h : i + 1 + 1 < 2 then ([9, 5000] : List Int)[i + 1 + 1] else 22)
      rw [dif_neg (by omega)]; rfl
  by_cases k4 : k = 4
  · subst k4
    rcases i with _ | _ | _ | _ | _ | _ | i
    · rfl
    · rfl
    · rfl
    · rfl
    · rfl
    · rfl
    · show (0 : Int) = rp (if h : i + 1 + 1 + 1 + 1 + 1 + 1 < 6 then ([9, 5000, 18, 7, 20, 69] : List Int)[i + 1 + 1 + 1 + 1 + 1 + 1] else 0)
      rw [dif_neg (by omega)]; rfl
  have hr : roleM k (rp place) i = 0 := by simp [roleM, k5, k9, k2, k3, k4, k23]
  rw [hr]
  refine (rp_zero k place len i k59 ?_ ?_).symm
  · have : ∀ L : List Int, wfirst k = L → (∀ x ∈ L, rp x = 0) → ∀ x ∈ wfirst k, rp x = 0 := fun L h1 h2 => by rw [h1]; exact h2
    by_cases q7 : k = 7
    · subst q7; exact this [2] rfl (by decide)
    by_cases q11 : k = 11
    · subst q11; exact this [2] rfl (by decide)
    by_cases q24 : k = 24
    · subst q24; exact this [2] rfl (by decide)
    by_cases q25 : k = 25
    · subst q25; exact this [2] rfl (by decide)
    by_cases q26 : k = 26
    · subst q26; exact this [2] rfl (by decide)
    by_cases q30 : k = 30
    · subst q30; exact this [7, 6] rfl (by decide)
    by_cases q31 : k = 31
    · subst q31; exact this [4] rfl (by decide)
    by_cases q43 : k = 43
    · subst q43; exact this [4] rfl (by decide)
    by_cases q45 : k = 45
    · subst q45; exact this [4] rfl (by decide)
    by_cases q46 : k = 46
    · subst q46; exact this [4] rfl (by decide)
    by_cases q47 : k = 47
    · subst q47; exact this [4] rfl (by decide)
    by_cases q51 : k = 51
    · subst q51; exact this [4] rfl (by decide)
    by_cases q44 : k = 44
    · subst q44; exact this [4, 4] rfl (by decide)
    by_cases q62 : k = 62
    · subst q62; exact this [4, 4] rfl (by decide)
    by_cases q48 : k = 48
    · subst q48; exact this [59] rfl (by decide)
    by_cases q52 : k = 52
    · subst q52; exact this [59] rfl (by decide)
    by_cases q50 : k = 50
    · subst q50; exact this [59] rfl (by decide)
    by_cases q53 : k = 53
    · subst q53; exact this [4, 69, 8] rfl (by decide)
    by_cases q54 : k = 54
    · subst q54; exact this [4, 69] rfl (by decide)
    by_cases q55 : k = 55
    · subst q55; exact this [69] rfl (by decide)
    by_cases q56 : k = 56
    · subst q56; exact this [6] rfl (by decide)
    by_cases q58 : k = 58
    · subst q58; exact this [6] rfl (by decide)
    by_cases q60 : k = 60
    · subst q60; exact this [4] rfl (by decide)
    by_cases q61 : k = 61
    · subst q61; exact this [5, 4] rfl (by decide)
    exact this [] (by simp [wfirst, k2, k3, k4, k9, k23, q7, q11, q24, q25, q26, q30, q31, q43, q45, q46, q47, q51, q44, q62, q48, q52, q50, q53, q54, q55, q56, q58, q60, q61]) (fun _ h => absurd h List.not_mem_nil)
  · have : ∀ m : Int, wmore k place = m → rp m = 0 → rp (wmore k place) = 0 := fun m h1 h2 => by rw [h1]; exact h2
    by_cases q1 : k = 1
    · subst q1; exact this 1 rfl (by decide)
    by_cases q8 : k = 8
    · subst q8; exact this 17 rfl (by decide)
    by_cases q10 : k = 10
    · subst q10; exact this 19 rfl (by decide)
    by_cases q12 : k = 12
    · subst q12; exact this 2 rfl (by decide)
    by_cases q49 : k = 49
    · subst q49; exact this 2 rfl (by decide)
    by_cases q48 : k = 48
    · subst q48; exact this 4 rfl (by decide)
    by_cases q52 : k = 52
    · subst q52; exact this 4 rfl (by decide)
    by_cases q50 : k = 50
    · subst q50; exact this 61 rfl (by decide)
    by_cases q60 : k = 60
    · subst q60; exact this 71 rfl (by decide)
    by_cases q74 : k = 74
    · subst q74; exact this 5 rfl (by decide)
    exact this 0 (by simp [wmore, k2, k3, k23, k5, q1, q8, q10, q12, q49, q48, q52, q50, q60, q74]) rfl
end Go.Proofs.Ytdccodnompalbaa
