/- One node in its place, by the document's own answer. No conditions beyond the bounds that each statement names. -/
import Derived.Test.YtdccodnompalbaaD6
import Derived.StillTailTactics
namespace Go.Proofs.Ytdccodnompalbaa
open Go.RowKit Go.Shelf

def oneM (T : NT) (place : Int) : Bool :=
  (standsM T.k place && mayNumM T.k T.n) && (if place = 5001 then (nameM T.t && (T.n == 0 && T.len == 0)) else if place = 5002 then (regionM T.t && (T.n == 0 && T.len == 0))
    else (mayTextM T.k T.t && (wantsOk T.k place T.len && allN (fun i => standsM (T.kid i).k (wantAt T.k place T.len i)) T.len)))

/-- What may stand as a place. -/
def Pl (x : Int) : Prop := 0 ≤ x ∧ x ≤ 5002 ∧ x ≠ 15
instance (x : Int) : Decidable (Pl x) := inferInstanceAs (Decidable (_ ∧ _))
theorem pl_ite {p : Prop} [Decidable p] {a b : List Int} (ha : ∀ x ∈ a, Pl x) (hb : ∀ x ∈ b, Pl x) : ∀ x ∈ (if p then a else b), Pl x := by split <;> assumption
theorem pl_ite1 {p : Prop} [Decidable p] {a b : Int} (ha : Pl a) (hb : Pl b) : Pl (if p then a else b) := by split <;> assumption
theorem wfirst_pl (k : Int) : ∀ x ∈ wfirst k, Pl x := by
  unfold wfirst
  repeat (refine pl_ite (by decide) ?_)
  decide
theorem wmore_pl (k place : Int) : Pl (wmore k place) := by
  unfold wmore
  repeat (refine pl_ite1 (by first | decide | exact pl_ite1 (by decide) (by decide)) ?_)
  decide
theorem wantAt_pl (k place : Int) (len i : Nat) : Pl (wantAt k place len i) := by
  unfold wantAt
  refine pl_ite1 (pl_ite1 (by decide) (by decide)) ?_
  split
  · exact wfirst_pl k _ (List.getElem_mem _)
  · exact wmore_pl k place

theorem own_at {w : World} {b : Nat} {e : TypeId} {p : Option Addr} {n c : Nat} {xs : List Value} (h : w.ownsRow b e 1 (.slice p n c) n xs) (hn : 0 < n) :
    ∃ g, p = some ⟨g, 0, none⟩ ∧ g < w.heap.size ∧ ∀ i u, xs[i]? = some u → w.cell? ⟨g, i, none⟩ = some u := by
  have hc := h
  rcases h.2 with ⟨_, h0⟩ | ⟨g, cap, cur, e', _⟩
  · omega
  · cases e'
    refine ⟨g, rfl, (hc.lt g rfl).2, fun i u hu => ?_⟩
    have := hc.cells rfl i u hu
    simpa [Addr.add_lit] using this

set_option maxRecDepth 20000 in
set_option maxHeartbeats 8000000 in
theorem refOne_any (T : NT) (place : Int) (w : World) (hL : Lies w.heap.size w T) (hl : T.len ≤ 1000000) (ht : T.t.size < 4294967281) (h0 : 0 ≤ place) (h1 : place ≤ 100000) :
    Calls Try.prog 43 #[T.val, .int .i64 place] w fun e w' => e = .returned (.bool (oneM T place)) ∧ Below w.heap.size w w' := by
  obtain ⟨p, c, hs, ⟨hlc, _⟩, hK⟩ := hL.eq
  have hml : T.t.size ≤ maxLen := by unfold maxLen; omega
  have HR := hide (show oneM T place = ((standsM T.k place && mayNumM T.k T.n) && (if place = 5001 then (nameM T.t && (T.n == 0 && T.len == 0)) else if place = 5002 then (regionM T.t && (T.n == 0 && T.len == 0))
    else (mayTextM T.k T.t && (wantsOk T.k place T.len && allN (fun i => standsM (T.kid i).k (wantAt T.k place T.len i)) T.len)))) from rfl)
  have b := box_new w T
  generalize oneM T place = R at *
  simp only [NT.val, boxO] at b ⊢
  rw [hs] at b ⊢
  obtain ⟨W1, hW1⟩ : ∃ W1, w.alloc (Obj.cells #[.int .i64 T.k, .string T.t, .int .i64 T.n, .slice p T.len c, .int .i64 T.a] 24) = W1 := ⟨_, rfl⟩
  have HB1 := hide (show Below w.heap.size w W1 by rw [← hW1]; exact bl_alloc (Below.refl _ _) _)
  have hlt : w.heap.size < W1.heap.size := by rw [← hW1]; simp
  rw [hW1] at b
  obtain ⟨b0, b1, b2, b3, b4⟩ := b
  rw [hs] at b3
  have HC := hide fun w' (hb : Below W1.heap.size W1 w') => (⟨(hb.cell (p := ⟨w.heap.size, 0, none⟩) hlt).trans b0, (hb.cell (p := ⟨w.heap.size, 1, none⟩) hlt).trans b1, (hb.cell (p := ⟨w.heap.size, 2, none⟩) hlt).trans b2, (hb.cell (p := ⟨w.heap.size, 3, none⟩) hlt).trans b3, (hb.cell (p := ⟨w.heap.size, 4, none⟩) hlt).trans b4⟩ :
    w'.cell? ⟨w.heap.size, 0, none⟩ = some (.int .i64 T.k) ∧ w'.cell? ⟨w.heap.size, 1, none⟩ = some (.string T.t) ∧ w'.cell? ⟨w.heap.size, 2, none⟩ = some (.int .i64 T.n) ∧ w'.cell? ⟨w.heap.size, 3, none⟩ = some (.slice p T.len c) ∧ w'.cell? ⟨w.heap.size, 4, none⟩ = some (.int .i64 T.a))
  have HS := hide fun w' => refStands_v T.k T.t T.n T.a p T.len c place w' h0 h1
  have HN := hide fun w' => refNum_v T.k T.t T.n T.a p T.len c w'
  have HT := hide fun w' => refText_v T.k T.t T.n T.a p T.len c w' ht
  have HA := hide fun w' => refName_any T.t w' hml
  have HG := hide fun w' => refRegion_any T.t w' hml
  have HW := hide fun w' => refWants_v T.k T.t T.n T.a p T.len c place w' hl
  have HKK := hide hK
  have HPl := hide fun i => wantAt_pl T.k place T.len i
  clear hK hL ht hml hs
  generalize standsM T.k place = S at *
  generalize mayNumM T.k T.n = N at *
  generalize mayTextM T.k T.t = X at *
  generalize nameM T.t = A at *
  generalize regionM T.t = G at *
  cases S
  · have e : R = false := HR.out
    subst e
    clear HR HN HT HA HG HW
    go_enter Try.func43, Try.ntmps43
    go_wp2_with (go_at_call 53; refine (HS.out _).mono ?_; rintro e w2 ⟨rfl, hb2⟩; have HB2 := hide hb2; clear hb2)
    go_ret
    exact ⟨rfl, bl_trans HB1.out HB2.out⟩
  cases N
  · have e : R = false := HR.out
    subst e
    clear HR HT HA HG HW
    go_enter Try.func43, Try.ntmps43
    go_wp2_with (first
      | (go_at_call 53; refine (HS.out _).mono ?_; clear HS; rintro e w2 ⟨rfl, hb2⟩; have HB2 := hide hb2; obtain ⟨q0, q1, q2, q3, q4⟩ := HC.out w2 hb2; clear hb2)
      | (go_at_call 54; refine (HN.out _).mono ?_; clear HN; rintro e w3 ⟨rfl, hb3⟩; have HB3 := hide (bl_trans HB2.out hb3); clear hb3))
    go_ret
    exact ⟨rfl, bl_trans HB1.out HB3.out⟩
  by_cases p1 : place = 5001
  · subst p1
    have HR' := hide (show R = (A && (T.n == 0 && T.len == 0)) from HR.out)
    clear HR HT HG HW
    cases A
    · have e : R = false := HR'.out
      subst e
      go_enter Try.func43, Try.ntmps43
      go_wp2_with (first
        | (go_at_call 53; refine (HS.out _).mono ?_; clear HS; rintro e w2 ⟨rfl, hb2⟩; have HB2 := hide hb2; obtain ⟨q0, q1, q2, q3, q4⟩ := HC.out w2 hb2; clear hb2)
        | (go_at_call 54; refine (HN.out _).mono ?_; clear HN; rintro e w3 ⟨rfl, hb3⟩; have HB3 := hide (bl_trans HB2.out hb3); obtain ⟨r0, r1, r2, r3, r4⟩ := HC.out w3 HB3.out; clear hb3)
        | (go_at_call 55; refine (HA.out _).mono ?_; clear HA; rintro e w4 ⟨rfl, hb4⟩; have HB4 := hide (bl_trans HB3.out hb4); clear hb4))
      go_ret
      exact ⟨ret_bool (by first | rfl | simp), bl_trans HB1.out HB4.out⟩
    · by_cases hn0 : T.n = 0
      · by_cases hl0 : T.len = 0
        · have e : R = true := by rw [HR'.out, hn0, hl0]; rfl
          have hnb : (T.n == 0) = true := by simp [hn0]
          have hli : ((T.len : Int) == 0) = true := by simp [hl0]
          subst e
          clear hn0 hl0 HR'
          go_enter Try.func43, Try.ntmps43
          go_wp2_with (first
            | (go_at_call 53; refine (HS.out _).mono ?_; clear HS; rintro e w2 ⟨rfl, hb2⟩; have HB2 := hide hb2; obtain ⟨q0, q1, q2, q3, q4⟩ := HC.out w2 hb2; clear hb2)
            | (go_at_call 54; refine (HN.out _).mono ?_; clear HN; rintro e w3 ⟨rfl, hb3⟩; have HB3 := hide (bl_trans HB2.out hb3); obtain ⟨r0, r1, r2, r3, r4⟩ := HC.out w3 HB3.out; clear hb3)
            | (go_at_call 55; refine (HA.out _).mono ?_; clear HA; rintro e w4 ⟨rfl, hb4⟩; have HB4 := hide (bl_trans HB3.out hb4); obtain ⟨s0, s1, s2, s3, s4⟩ := HC.out w4 HB4.out; clear hb4))
          go_ret
          exact ⟨ret_bool (by first | rfl | simp | simp [hnb, hli]), bl_trans HB1.out HB4.out⟩
        · have e : R = false := by rw [HR'.out, show (T.len == 0) = false by simp [hl0]]; simp
          have hnb : (T.n == 0) = true := by simp [hn0]
          have hli : ((T.len : Int) == 0) = false := by simp [hl0]
          subst e
          clear hn0 hl0 HR'
          go_enter Try.func43, Try.ntmps43
          go_wp2_with (first
            | (go_at_call 53; refine (HS.out _).mono ?_; clear HS; rintro e w2 ⟨rfl, hb2⟩; have HB2 := hide hb2; obtain ⟨q0, q1, q2, q3, q4⟩ := HC.out w2 hb2; clear hb2)
            | (go_at_call 54; refine (HN.out _).mono ?_; clear HN; rintro e w3 ⟨rfl, hb3⟩; have HB3 := hide (bl_trans HB2.out hb3); obtain ⟨r0, r1, r2, r3, r4⟩ := HC.out w3 HB3.out; clear hb3)
            | (go_at_call 55; refine (HA.out _).mono ?_; clear HA; rintro e w4 ⟨rfl, hb4⟩; have HB4 := hide (bl_trans HB3.out hb4); obtain ⟨s0, s1, s2, s3, s4⟩ := HC.out w4 HB4.out; clear hb4))
          go_ret
          exact ⟨ret_bool (by first | rfl | simp | simp [hnb, hli]), bl_trans HB1.out HB4.out⟩
      · have e : R = false := by rw [HR'.out, show (T.n == 0) = false by simp [hn0]]; simp
        have hnb : (T.n == 0) = false := by simp [hn0]
        subst e
        clear hn0 HR'
        go_enter Try.func43, Try.ntmps43
        go_wp2_with (first
          | (go_at_call 53; refine (HS.out _).mono ?_; clear HS; rintro e w2 ⟨rfl, hb2⟩; have HB2 := hide hb2; obtain ⟨q0, q1, q2, q3, q4⟩ := HC.out w2 hb2; clear hb2)
          | (go_at_call 54; refine (HN.out _).mono ?_; clear HN; rintro e w3 ⟨rfl, hb3⟩; have HB3 := hide (bl_trans HB2.out hb3); obtain ⟨r0, r1, r2, r3, r4⟩ := HC.out w3 HB3.out; clear hb3)
          | (go_at_call 55; refine (HA.out _).mono ?_; clear HA; rintro e w4 ⟨rfl, hb4⟩; have HB4 := hide (bl_trans HB3.out hb4); obtain ⟨s0, s1, s2, s3, s4⟩ := HC.out w4 HB4.out; clear hb4))
        go_ret
        exact ⟨ret_bool (by first | rfl | simp | simp [hnb]), bl_trans HB1.out HB4.out⟩
  by_cases p2 : place = 5002
  · subst p2
    have HR' := hide (show R = (G && (T.n == 0 && T.len == 0)) from HR.out)
    clear HR HT HA HW
    cases G
    · have e : R = false := HR'.out
      subst e
      go_enter Try.func43, Try.ntmps43
      go_wp2_with (first
        | (go_at_call 53; refine (HS.out _).mono ?_; clear HS; rintro e w2 ⟨rfl, hb2⟩; have HB2 := hide hb2; obtain ⟨q0, q1, q2, q3, q4⟩ := HC.out w2 hb2; clear hb2)
        | (go_at_call 54; refine (HN.out _).mono ?_; clear HN; rintro e w3 ⟨rfl, hb3⟩; have HB3 := hide (bl_trans HB2.out hb3); obtain ⟨r0, r1, r2, r3, r4⟩ := HC.out w3 HB3.out; clear hb3)
        | (go_at_call 56; refine (HG.out _).mono ?_; clear HG; rintro e w4 ⟨rfl, rfl⟩))
      go_ret
      exact ⟨ret_bool (by first | rfl | simp), bl_trans HB1.out HB3.out⟩
    · by_cases hn0 : T.n = 0
      · by_cases hl0 : T.len = 0
        · have e : R = true := by rw [HR'.out, hn0, hl0]; rfl
          have hnb : (T.n == 0) = true := by simp [hn0]
          have hli : ((T.len : Int) == 0) = true := by simp [hl0]
          subst e
          clear hn0 hl0 HR'
          go_enter Try.func43, Try.ntmps43
          go_wp2_with (first
            | (go_at_call 53; refine (HS.out _).mono ?_; clear HS; rintro e w2 ⟨rfl, hb2⟩; have HB2 := hide hb2; obtain ⟨q0, q1, q2, q3, q4⟩ := HC.out w2 hb2; clear hb2)
            | (go_at_call 54; refine (HN.out _).mono ?_; clear HN; rintro e w3 ⟨rfl, hb3⟩; have HB3 := hide (bl_trans HB2.out hb3); obtain ⟨r0, r1, r2, r3, r4⟩ := HC.out w3 HB3.out; clear hb3)
            | (go_at_call 56; refine (HG.out _).mono ?_; clear HG; rintro e w4 ⟨rfl, rfl⟩))
          go_ret
          exact ⟨ret_bool (by first | rfl | simp | simp [hnb, hli]), bl_trans HB1.out HB3.out⟩
        · have e : R = false := by rw [HR'.out, show (T.len == 0) = false by simp [hl0]]; simp
          have hnb : (T.n == 0) = true := by simp [hn0]
          have hli : ((T.len : Int) == 0) = false := by simp [hl0]
          subst e
          clear hn0 hl0 HR'
          go_enter Try.func43, Try.ntmps43
          go_wp2_with (first
            | (go_at_call 53; refine (HS.out _).mono ?_; clear HS; rintro e w2 ⟨rfl, hb2⟩; have HB2 := hide hb2; obtain ⟨q0, q1, q2, q3, q4⟩ := HC.out w2 hb2; clear hb2)
            | (go_at_call 54; refine (HN.out _).mono ?_; clear HN; rintro e w3 ⟨rfl, hb3⟩; have HB3 := hide (bl_trans HB2.out hb3); obtain ⟨r0, r1, r2, r3, r4⟩ := HC.out w3 HB3.out; clear hb3)
            | (go_at_call 56; refine (HG.out _).mono ?_; clear HG; rintro e w4 ⟨rfl, rfl⟩))
          go_ret
          exact ⟨ret_bool (by first | rfl | simp | simp [hnb, hli]), bl_trans HB1.out HB3.out⟩
      · have e : R = false := by rw [HR'.out, show (T.n == 0) = false by simp [hn0]]; simp
        have hnb : (T.n == 0) = false := by simp [hn0]
        subst e
        clear hn0 HR'
        go_enter Try.func43, Try.ntmps43
        go_wp2_with (first
          | (go_at_call 53; refine (HS.out _).mono ?_; clear HS; rintro e w2 ⟨rfl, hb2⟩; have HB2 := hide hb2; obtain ⟨q0, q1, q2, q3, q4⟩ := HC.out w2 hb2; clear hb2)
          | (go_at_call 54; refine (HN.out _).mono ?_; clear HN; rintro e w3 ⟨rfl, hb3⟩; have HB3 := hide (bl_trans HB2.out hb3); obtain ⟨r0, r1, r2, r3, r4⟩ := HC.out w3 HB3.out; clear hb3)
          | (go_at_call 56; refine (HG.out _).mono ?_; clear HG; rintro e w4 ⟨rfl, rfl⟩))
        go_ret
        exact ⟨ret_bool (by first | rfl | simp | simp [hnb]), bl_trans HB1.out HB3.out⟩
  have pb1 : (place == 5001) = false := by simp [p1]
  have pb2 : (place == 5002) = false := by simp [p2]
  have HR' : Hid (R = (X && (wantsOk T.k place T.len && allN (fun i => standsM (T.kid i).k (wantAt T.k place T.len i)) T.len))) := hide (by rw [HR.out, if_neg p1, if_neg p2]; rfl)
  clear HR HA HG p1 p2
  cases X
  · have e : R = false := HR'.out
    subst e
    clear HR' HW
    go_enter Try.func43, Try.ntmps43
    go_wp2_with (first
      | (go_at_call 53; refine (HS.out _).mono ?_; clear HS; rintro e w2 ⟨rfl, hb2⟩; have HB2 := hide hb2; obtain ⟨q0, q1, q2, q3, q4⟩ := HC.out w2 hb2; clear hb2)
      | (go_at_call 54; refine (HN.out _).mono ?_; clear HN; rintro e w3 ⟨rfl, hb3⟩; have HB3 := hide (bl_trans HB2.out hb3); obtain ⟨r0, r1, r2, r3, r4⟩ := HC.out w3 HB3.out; clear hb3)
      | (go_at_call 57; refine (HT.out _).mono ?_; clear HT; rintro e w4 ⟨rfl, hb4⟩; have HB4 := hide (bl_trans HB3.out hb4); obtain ⟨s0, s1, s2, s3, s4⟩ := HC.out w4 HB4.out; clear hb4))
    go_ret
    exact ⟨rfl, bl_trans HB1.out HB4.out⟩
  · have HR2 : Hid (R = (wantsOk T.k place T.len && allN (fun i => standsM (T.kid i).k (wantAt T.k place T.len i)) T.len)) := hide (by rw [HR'.out, Bool.true_and])
    clear HR'
    obtain ⟨WA, hWA⟩ : ∃ WA : Nat → Int, WA = fun i => wantAt T.k place T.len i := ⟨_, rfl⟩
    have HPl' : Hid (∀ i, Pl (WA i)) := hide (by rw [hWA]; exact HPl.out)
    have HR3 : Hid (R = (wantsOk T.k place T.len && allN (fun i => standsM (T.kid i).k (WA i)) T.len)) := hide (by rw [hWA]; exact HR2.out)
    have HW' : Hid (∀ w', Calls Try.prog 44 #[.agg #[.int .i64 T.k, .string T.t, .int .i64 T.n, .slice p T.len c, .int .i64 T.a], .int .i64 place] w' fun e w'' => ∃ v, e = .returned (.tuple #[v, .bool (wantsOk T.k place T.len)]) ∧ w''.ownsRow w'.heap.size 3 1 v T.len ((List.range T.len).map fun i => .int .i64 (WA i)) ∧ Below w'.heap.size w' w'') := hide (by rw [hWA]; exact HW.out)
    clear HW HPl HR2 hWA
    generalize wantsOk T.k place T.len = OK at *
    go_enter Try.func43, Try.ntmps43
    go_wp2_with (first
      | (go_at_call 53; refine (HS.out _).mono ?_; clear HS; rintro e w2 ⟨rfl, hb2⟩; have HB2 := hide hb2; obtain ⟨q0, q1, q2, q3, q4⟩ := HC.out w2 hb2; clear hb2)
      | (go_at_call 54; refine (HN.out _).mono ?_; clear HN; rintro e w3 ⟨rfl, hb3⟩; have HB3 := hide (bl_trans HB2.out hb3); obtain ⟨r0, r1, r2, r3, r4⟩ := HC.out w3 HB3.out; clear hb3)
      | (go_at_call 57; refine (HT.out _).mono ?_; clear HT; rintro e w4 ⟨rfl, hb4⟩; have HB4 := hide (bl_trans HB3.out hb4); obtain ⟨s0, s1, s2, s3, s4⟩ := HC.out w4 HB4.out; clear hb4)
      | (go_at_call 44; refine (HW'.out _).mono ?_; clear HW'; rintro e w5 ⟨v, rfl, hv, hb5⟩; have HB5 := hide (bl_trans HB4.out hb5); have HV := hide hv; obtain ⟨pv, cv, rfl, _, _⟩ := row_shape hv; clear hb5 hv))
    obtain ⟨f, hf⟩ : ∃ f : Nat → Bool, f = fun i => standsM (T.kid i).k (WA i) := ⟨_, rfl⟩
    have HF : Hid (∀ i, f i = standsM (T.kid i).k (WA i)) := hide (by rw [hf]; exact fun _ => rfl)
    have HR4 : Hid (R = (OK && allN f T.len)) := hide (by rw [hf]; exact HR3.out)
    clear hf HR3
    have HBW5 := hide (bl_trans HB1.out HB5.out)
    have HC5 := hide (HC.out w5 HB5.out).2.2.2.1
    clear q0 q1 q2 q3 q4 r0 r1 r2 r3 r4 s0 s1 s2 s3 s4 b0 b1 b2 b3 b4 hW1
    go_loopw [6, 7] (fun o i wr => ∃ j : Nat, j ≤ T.len ∧ i = .int .i64 j ∧ o = .bool (OK && allN f j) ∧ Below w5.heap.size w5 wr) (fun _ i _ => T.len - (intOf i).toNat)
    case atStart => exact ⟨0, Nat.zero_le _, rfl, by simp [allN], Below.refl _ _⟩
    case round =>
      obtain ⟨j, hj, rfl, rfl, hb⟩ := hrel
      have hk3 := (hb.cell (p := ⟨w.heap.size, 3, none⟩) (World.block_lt_of_cell? _ _ HC5.out)).trans HC5.out
      have HB := hide hb
      have HBW := hide (bl_trans HBW5.out hb)
      obtain ⟨B, hBe⟩ : ∃ B, (OK && allN f j) = B := ⟨_, rfl⟩
      rw [hBe]
      have HBe := hide hBe
      clear hb hBe
      rcases Nat.lt_or_ge j T.len with hlt' | hge
      · have hi' : (j : Int) < (T.len : Int) := by omega
        cases B
        · have e : R = false := by
            rw [HR4.out]
            cases hO : OK
            · rfl
            · have h := HBe.out
              rw [hO, Bool.true_and] at h
              rw [Bool.true_and]
              rw [Bool.eq_false_iff] at h ⊢
              exact fun h' => h (allN_iff.2 fun i hi => allN_iff.1 h' i (by omega))
          subst e
          go_wp2
          go_ret
          exact ⟨rfl, HBW.out⟩
        · obtain ⟨g, off, rfl, hg, hCC⟩ := HKK.out (by omega)
          obtain ⟨c0, c1, c2, c3, c4⟩ := ((hCC j hlt').1.below HBW.out hg).nat
          obtain ⟨p', c', hs', _, _⟩ := (hCC j hlt').2.eq
          rw [hs'] at c3
          obtain ⟨gv, rfl, hgv, hcv⟩ := own_at HV.out (by omega)
          have d0 := (HB.out.cell (p := ⟨gv, j, none⟩) hgv).trans (hcv j _ (by rw [List.getElem?_map, List.getElem?_range hlt']; rfl))
          have hst := fun w' => refStands_v (T.kid j).k (T.kid j).t (T.kid j).n (T.kid j).a p' (T.kid j).len c' (WA j) w' (HPl'.out j).1 (by have := (HPl'.out j).2.1; omega)
          rw [← HF.out j] at hst
          have HNX : Hid ((OK && allN f (j + 1)) = f j) := hide (by
            have h := HBe.out
            rw [Bool.and_eq_true] at h
            simp only [allN, h.1, h.2, Bool.true_and])
          clear hcv hCC hs'
          go_wp2
          go_still_tail 9, (by kernel_rfl)
          change wpList _ _ _ _ _ wr.drew
          have HBd := hide (show Below w5.heap.size w5 wr.drew from HB.out.drew)
          generalize wr.drew = wd at *
          go_wp2_with (go_at_call 53; refine (hst _).mono ?_; clear hst; rintro e w7 ⟨rfl, hb7⟩; have HB7 := hide (bl_trans HBd.out hb7); clear hb7)
          go_roundw
          case rel => exact ⟨j + 1, by omega, by go_num, by rw [HNX.out], HB7.out⟩
          case measure => simp [intOf]; omega
      · have he : j = T.len := by omega
        have e : R = B := by rw [HR4.out, ← HBe.out, he]
        have hlt2 : ¬ (j : Int) < (T.len : Int) := by omega
        clear he
        cases B
        · subst e
          go_wp2
          go_ret
          exact ⟨rfl, HBW.out⟩
        · subst e
          go_wp2
          go_ret
          exact ⟨rfl, HBW.out⟩
end Go.Proofs.Ytdccodnompalbaa
