/- The law LexBlanks, walked: it answers true. No conditions beyond what the library's variable holds. -/
import Derived.Test.YtjiencifdpopdaaR
import Derived.Deep.RegionWith
namespace Go.Proofs.Ytjiencifdpopdaa
open Go.RowKit

/-- What is put behind a token. -/
def putL : Nat → List UInt8
  | 0 => [32]
  | 1 => [10]
  | 2 => [9]
  | 3 => [47, 42, 42, 47]
  | 4 => [47, 47, 32, 120, 10]
  | _ => [47, 42, 32, 47, 47, 32, 42, 47]
theorem put_gap (j b : Nat) (r : List UInt8) : M.T b (putL j ++ r) = M.T (b + (putL j).length) r := by
  match j with
  | 0 => rw [M.T_gap (n := 1) (by simp [putL]) rfl]; rfl
  | 1 => rw [M.T_gap (n := 1) (by simp [putL]) rfl]; rfl
  | 2 => rw [M.T_gap (n := 1) (by simp [putL]) rfl]; rfl
  | 3 => rw [M.T_gap (n := 4) (by simp [putL]) rfl]; rfl
  | 4 => rw [M.T_gap (n := 4) (by simp [putL]) rfl, M.T_gap (n := 1) (by simp [putL]) rfl]; rfl
  | _ + 5 => rw [M.T_gap (n := 8) (by simp [putL]) rfl]; rfl
theorem put_clean (j : Nat) : ∀ c ∈ putL j, srcB c.toNat = true := by
  match j with
  | 0 => decide
  | 1 => decide
  | 2 => decide
  | 3 => decide
  | 4 => decide
  | _ + 5 => show ∀ c ∈ ([47, 42, 32, 47, 47, 32, 42, 47] : List UInt8), srcB c.toNat = true; decide
theorem put_len (j : Nat) : (putL j).length ≤ 8 := by
  match j with
  | 0 => decide
  | 1 => decide
  | 2 => decide
  | 3 => decide
  | 4 => decide
  | _ + 5 => show ([47, 42, 32, 47, 47, 32, 42, 47] : List UInt8).length ≤ 8; decide
theorem put_head (j : Nat) (r : List UInt8) : ∃ c, (putL j ++ r).head? = some c ∧ (j ≤ 2 → M.isB c = true) ∧ (c = 47 ∨ M.isB c = true) := by
  match j with
  | 0 => exact ⟨32, rfl, fun _ => rfl, .inr rfl⟩
  | 1 => exact ⟨10, rfl, fun _ => rfl, .inr rfl⟩
  | 2 => exact ⟨9, rfl, fun _ => rfl, .inr rfl⟩
  | 3 => exact ⟨47, rfl, fun h => by omega, .inl rfl⟩
  | 4 => exact ⟨47, rfl, fun h => by omega, .inl rfl⟩
  | _ + 5 => exact ⟨47, rfl, fun h => by omega, .inl rfl⟩

/-- With a blank or a comment behind the i-th token, the tokens are alike. -/
theorem ans_blanks (l q : List UInt8) (hok : (ans l).2 = (0, 0)) (hl : l.length ≤ 1000) (hq : q.length ≤ 100) (hqc : ∀ c ∈ q, srcB c.toNat = true) (i : Nat) (t : M.Tok) (hi : (ans l).1[i]? = some t)
    (hsep : ∀ r, M.Sep t.text t.kind (q ++ r)) (hgap : ∀ b r, M.T b (q ++ r) = M.T (b + q.length) r) :
    ∃ ts, ans (l.take (t.at_ + t.text.length) ++ q ++ l.drop (t.at_ + t.text.length)) = (ts, (0, 0)) ∧ allR sameKT ((ans l).1.map encT) (ts.map encT) = true := by
  obtain ⟨hc, hT⟩ := ans_ok hok
  obtain ⟨m, e1, e2, e3, e4⟩ := M.T_cut i _ l 0 t hT hi
  rw [Nat.zero_add] at e1 e3
  obtain ⟨g1, g2, g3, _⟩ := M.T_texts _ l 0 none hT t (List.mem_of_getElem? hi)
  have hf := M.first_app t.text (q ++ l.drop m) t.kind t.text.length g3 g1 (.inr (hsep _))
  have h4 := e4 _ hf
  rw [hgap, Nat.zero_add, M.T_shift q.length (l.drop m) m, e3] at h4
  rw [e1, List.append_assoc]
  refine ⟨_, ans_of ((cln_none _).2 ⟨fun c hcc => ?_, ?_⟩) h4, ?_⟩
  · rcases List.mem_append.1 hcc with h | h
    · exact ((cln_none _).1 hc).1 c (List.mem_of_mem_take h)
    · rcases List.mem_append.1 h with h | h
      · exact hqc c h
      · exact ((cln_none _).1 hc).1 c (List.mem_of_mem_drop h)
  · simp; omega
  · have key : ∀ (a : List M.Tok) (d : Nat), allR sameKT (a.map encT) ((a.map (M.sh d)).map encT) = true := by
      intro a d
      induction a with
      | nil => rfl
      | cons x r ih => rw [List.map_cons, List.map_cons, List.map_cons, allR, ih]; simp [sameKT, encT, M.sh]
    have app : ∀ (a b c d : List RT), allR sameKT a b = true → allR sameKT c d = true → allR sameKT (a ++ c) (b ++ d) = true := by
      intro a
      induction a with
      | nil => intro b c d h1 h2; cases b with | nil => exact h2 | cons => cases h1
      | cons x r ih =>
        intro b c d h1 h2
        cases b with
        | nil => cases h1
        | cons y s =>
          rw [allR, Bool.and_eq_true] at h1
          rw [List.cons_append, List.cons_append, allR, h1.1, ih s c d h1.2 h2]; rfl
    conv => lhs; arg 2; rw [← List.take_append_drop (i + 1) (ans l).1]
    rw [List.map_append, List.map_append]
    exact app _ _ _ _ (allR_self _ kt_self _) (key _ _)

theorem new_two {W w3 : World} {e : TypeId} {a b : Value} (h : Below (W.alloc (Obj.cells #[a, b] e)).drew.heap.size (W.alloc (Obj.cells #[a, b] e)).drew w3) :
    w3.cell? ⟨W.heap.size, 0, none⟩ = some a ∧ w3.cell? ⟨W.heap.size, 1, none⟩ = some b ∧ w3.frozen? ⟨W.heap.size, 0, none⟩ = false ∧ w3.frozen? ⟨W.heap.size, 1, none⟩ = false := by
  have hlt : W.heap.size < (W.alloc (Obj.cells #[a, b] e)).drew.heap.size := by show W.heap.size < (W.alloc (Obj.cells #[a, b] e)).heap.size; simp
  refine ⟨(h.cell (p := ⟨W.heap.size, 0, none⟩) hlt).trans ?_, (h.cell (p := ⟨W.heap.size, 1, none⟩) hlt).trans ?_, (h.frozen (p := ⟨W.heap.size, 0, none⟩) hlt).trans ?_, (h.frozen (p := ⟨W.heap.size, 1, none⟩) hlt).trans ?_⟩
  · show (W.alloc (Obj.cells #[a, b] e)).cell? _ = _; simp
  · show (W.alloc (Obj.cells #[a, b] e)).cell? _ = _; simp
  · show (W.alloc (Obj.cells #[a, b] e)).frozen? _ = _; simp
  · show (W.alloc (Obj.cells #[a, b] e)).frozen? _ = _; simp

theorem Toks.cells {w w' : World} {v : Value} {ts : List RT} (h : Toks w v ts) (hs : w.heap.size ≤ w'.heap.size) (hc : ∀ q, w'.cell? q = w.cell? q) : Toks w' v ts := by
  obtain ⟨p, c, h1, h2, h3⟩ := h
  refine ⟨p, c, h1, h2, fun hne => ?_⟩
  obtain ⟨g, off, e, hg, hx⟩ := h3 hne
  exact ⟨g, off, e, Nat.lt_of_lt_of_le hg hs, fun j x hj => by rw [hc, hc, hc]; exact hx j x hj⟩
theorem set_same {w : World} {p : Addr} {u : Value} (h : w.cell? p = some u) (q : Addr) : (w.setCell p u).cell? q = w.cell? q := by
  by_cases e : p = q
  · subst e; rw [World.cell?_setCell_same _ _ _ h, h]
  · exact World.cell?_setCell_other _ _ _ _ e
theorem set_two {w : World} {b : Nat} {u v : Value} (h0 : w.cell? ⟨b, 0, none⟩ = some u) (h1 : w.cell? ⟨b, 1, none⟩ = some v) (q : Addr) : ((w.setCell ⟨b, 0, none⟩ u).setCell ⟨b, 1, none⟩ v).cell? q = w.cell? q := by
  rw [set_same ((set_same h0 _).trans h1), set_same h0]

theorem ba_of {a : ByteArray} {l : List UInt8} (h : a.data.toList = l) : a = ⟨l.toArray⟩ := by subst h; cases a; simp

set_option maxRecDepth 20000 in
set_option maxHeartbeats 4000000 in
theorem lexBlanks_walk (s : ByteArray) (k what : Int) (w : World) (hm : MaxOk w) (hk : 0 ≤ k ∧ k ≤ 255) (hwt : 0 ≤ what ∧ what ≤ 255) :
    Calls Try.prog 9 #[.string s, .int .u8 k, .int .u8 what] w fun e w' => e = .returned (.bool true) ∧ Below w.heap.size w w' := by
  have HWK := hide wakes_any
  have HM := hide hm
  clear hm
  by_cases h1 : (200 : Int) < s.size
  · have d1 : decide ((200 : Int) < (s.size : Int)) = true := by simp; omega
    clear h1
    go_enter Try.func9, Try.ntmps9
    go_wp2_with fail
    refine (HWK.out _ HM.out).mono ?_
    rintro e w1 ⟨rfl, hb1⟩
    have HB1 := hide hb1
    clear hb1
    go_wp2
    go_ret
    exact ⟨rfl, HB1.out⟩
  have d1 : decide ((200 : Int) < (s.size : Int)) = false := by simp; omega
  have HT := hide fun w hm => tokens_any s w (by omega) hm
  rcases ans_cases s.data.toList with hok | bad
  · have hok' := hok
    rw [hok', show fltV (0, 0) = .agg #[.int .i64 0, .int .i64 0] from rfl] at HT
    by_cases hne : (ans s.data.toList).1 = []
    · rw [hne] at HT
      clear h1 hok hne
      go_enter Try.func9, Try.ntmps9
      go_wp2_with fail
      refine (HWK.out _ HM.out).mono ?_
      rintro e w1 ⟨rfl, hb1⟩
      have HB1 := hide hb1
      clear hb1
      go_wp2_with fail
      refine (HT.out _ (HM.out.below HB1.out)).mono ?_
      rintro e w2 ⟨v, rfl, ht, hb2⟩
      have HB2 := hide (bl_alloc (bl_trans HB1.out hb2) (Obj.cells #[.int .i64 0, .int .i64 0] 26))
      obtain ⟨p, c, rfl, q1, q2⟩ := ht
      simp only [List.map_nil, List.length_nil]
      clear hb2 q1 q2
      go_wp2
      go_ret
      exact ⟨rfl, HB2.out⟩
    · have hpos : 0 < (ans s.data.toList).1.length := List.length_pos_iff.2 hne
      have hlen : (ans s.data.toList).1.length ≤ 200 := by have := (M.T_len _ _ _ _ (ans_ok hok).2).1; rw [len_of] at this; omega
      have hok0 := hok
      obtain ⟨i, hi, hil⟩ : ∃ i : Nat, k.tmod ((ans s.data.toList).1.length : Int) = (i : Int) ∧ i < (ans s.data.toList).1.length := by
        refine ⟨(k.tmod ((ans s.data.toList).1.length : Int)).toNat, ?_, ?_⟩
        · have := Int.tmod_nonneg ((ans s.data.toList).1.length : Int) hk.1; omega
        · have h0 := Int.tmod_nonneg ((ans s.data.toList).1.length : Int) hk.1
          have h2 := Int.tmod_lt_of_pos k (show (0 : Int) < ((ans s.data.toList).1.length : Int) by omega)
          omega
      obtain ⟨j, hj, hj6⟩ : ∃ j : Nat, what.tmod 6 = (j : Int) ∧ j < 6 := by
        refine ⟨(what.tmod 6).toNat, ?_, ?_⟩
        · have := Int.tmod_nonneg 6 hwt.1; omega
        · have h0 := Int.tmod_nonneg 6 hwt.1
          have h2 := Int.tmod_lt_of_pos what (show (0 : Int) < 6 by decide)
          omega
      obtain ⟨t, ht⟩ : ∃ t, (ans s.data.toList).1[i]? = some t := ⟨_, List.getElem?_eq_getElem hil⟩
      obtain ⟨m, e1, e2, _, _⟩ := M.T_cut i _ _ 0 t (ans_ok hok).2 ht
      rw [len_of] at e2
      have hgetm : ((ans s.data.toList).1.map encT)[i]? = some (encT t) := by rw [List.getElem?_map, ht]; rfl
      have hml : ((ans s.data.toList).1.map encT).length = (ans s.data.toList).1.length := List.length_map ..
      obtain ⟨tx, htx⟩ : ∃ tx : ByteArray, tx = ⟨t.text.toArray⟩ := ⟨_, rfl⟩
      have htxl : tx.data.toList = t.text := by rw [htx]
      have htxs : tx.size = t.text.length := by rw [← len_of, htxl]
      obtain ⟨n, hn⟩ : ∃ n, n = t.text.length := ⟨_, rfl⟩
      obtain ⟨A, hA⟩ : ∃ A, A = t.at_ := ⟨_, rfl⟩
      obtain ⟨K, hK⟩ : ∃ K, K = t.kind := ⟨_, rfl⟩
      have henc : encT t = ((K : Int), tx, (A : Int)) := by rw [hK, htx, hA]; rfl
      rw [henc] at hgetm
      rw [← hn] at htxs e1
      rw [← hA, Nat.zero_add] at e1
      have HPURE := hide fun q h1 h2 h3 h4 => ans_blanks s.data.toList q hok (by rw [len_of]; omega) h1 h2 i t ht h3 h4
      rw [← hn, ← hA, e1] at HPURE
      generalize hL : (ans s.data.toList).1.map encT = ts at *
      generalize (ans s.data.toList).1.length = tn at *
      have HG := hide hgetm
      have hAm : (A : Int) + (n : Int) = (m : Int) := by omega
      have hs2 : (s.size : Int) ≤ 200 := by omega
      have hP : ([Value.string ⟨#[32]⟩, Value.string ⟨#[10]⟩, Value.string ⟨#[9]⟩, Value.string ⟨#[47, 42, 42, 47]⟩, Value.string ⟨#[47, 47, 32, 120, 10]⟩, Value.string ⟨#[47, 42, 32, 47, 47, 32, 42, 47]⟩] : List Value)[j]'(by simpa using hj6) = .string ⟨(putL j).toArray⟩ := by
        match j, hj6 with
        | 0, _ => rfl
        | 1, _ => rfl
        | 2, _ => rfl
        | 3, _ => rfl
        | 4, _ => rfl
        | 5, _ => rfl
      obtain ⟨P, hPe⟩ : ∃ P : ByteArray, P = ⟨(putL j).toArray⟩ := ⟨_, rfl⟩
      have hPl : P.data.toList = putL j := by rw [hPe]
      have hPs : P.size ≤ 8 := by rw [← len_of, hPl]; exact put_len j
      rw [← hPe] at hP
      obtain ⟨rb, eb, sb, lb, ab⟩ := add_sum ⟨#[32]⟩ P (by rw [show (⟨#[32]⟩ : ByteArray).size = 1 from rfl]; omega)
      -- what is put in the end
      obtain ⟨Q, hQl, hQs, hsep, hgap, hcl⟩ : ∃ Q : ByteArray, (((tx.toList == [47]) = true ∧ 2 < j → Q = rb) ∧ (¬ ((tx.toList == [47]) = true ∧ 2 < j) → Q = P)) ∧ Q.size ≤ 9 ∧
          (∀ r, M.Sep t.text t.kind (Q.data.toList ++ r)) ∧ (∀ b r, M.T b (Q.data.toList ++ r) = M.T (b + Q.data.toList.length) r) ∧ (∀ c ∈ Q.data.toList, srcB c.toNat = true) := by
        have hk0 : t.kind ≠ 0 := (M.T_texts _ _ 0 none (ans_ok hok0).2 t (List.mem_of_getElem? ht)).2.1
        by_cases hc : (tx.toList == [47]) = true ∧ 2 < j
        · refine ⟨rb, ⟨fun _ => rfl, fun h => absurd hc h⟩, by rw [sb, show (⟨#[32]⟩ : ByteArray).size = 1 from rfl]; omega, ?_, ?_, ?_⟩
          · intro r c hcc
            rw [lb] at hcc
            simp at hcc; subst hcc
            exact .inr ⟨hk0, .inl rfl⟩
          · intro b r
            rw [lb, hPl]
            show M.T b (32 :: (putL j ++ r)) = _
            rw [M.T_gap (n := 1) (by simp) rfl]
            show M.T (b + 1) (putL j ++ r) = _
            rw [put_gap]; simp; congr 1; omega
          · intro c hcc
            rw [lb, hPl] at hcc
            rcases List.mem_append.1 hcc with h | h
            · simp at h; subst h; decide
            · exact put_clean j c h
        · refine ⟨P, ⟨fun h => absurd h hc, fun _ => rfl⟩, by omega, ?_, ?_, ?_⟩
          · intro r c hcc
            rw [hPl] at hcc
            obtain ⟨c', h1', h2', h3'⟩ := put_head j r
            rw [h1'] at hcc; cases hcc
            refine .inr ⟨hk0, ?_⟩
            by_cases hj2 : j ≤ 2
            · exact .inl (h2' hj2)
            · rcases h3' with h | h
              · refine .inr ⟨h, fun e => hc ⟨?_, by omega⟩⟩
                rw [ByteArray.toList_eq, htxl, e]; rfl
              · exact .inl h
          · intro b r; rw [hPl]; exact put_gap j b r
          · intro c hcc; rw [hPl] at hcc; exact put_clean j c hcc
      obtain ⟨r1, er1, sr1, lr1, ar1⟩ := add_sum (s.extract 0 m) Q (by rw [← len_of (s.extract 0 m), take_of, List.length_take, len_of]; omega)
      obtain ⟨r2, er2, sr2, lr2, ar2⟩ := add_sum r1 (s.extract m s.size) (by rw [sr1, ← len_of (s.extract 0 m), take_of, List.length_take, len_of, ← len_of (s.extract m s.size), drop_of, List.length_drop, len_of]; omega)
      obtain ⟨tz, hz, hall⟩ := HPURE.out Q.data.toList (by rw [len_of]; omega) hcl hsep hgap
      have hr2 : r2.data.toList = s.data.toList.take m ++ Q.data.toList ++ s.data.toList.drop m := by rw [lr2, lr1, take_of, drop_of]
      rw [← hr2] at hz
      have HTZ := hide fun w hm => tokens_any r2 w (by rw [sr2, sr1, ← len_of (s.extract 0 m), take_of, List.length_take, len_of, ← len_of (s.extract m s.size), drop_of, List.length_drop, len_of]; omega) hm
      rw [hz, show fltV ((tz, ((0, 0) : Nat × Nat)).2) = .agg #[.int .i64 0, .int .i64 0] from rfl] at HTZ
      have HALL := hide hall
      have HML := hide hml
      have hms : m ≤ s.size := e2
      have hd3 : (tx.toList == [47]) = false ∨ ((tx.toList == [47]) = true ∧ decide ((2 : Int) < (j : Int)) = false) ∨ ((tx.toList == [47]) = true ∧ decide ((2 : Int) < (j : Int)) = true) := by
        cases h : (tx.toList == [47])
        · exact .inl rfl
        · by_cases h2 : 2 < j
          · exact .inr (.inr ⟨rfl, by simp; omega⟩)
          · exact .inr (.inl ⟨rfl, by simp; omega⟩)
      have HQ := hide hQl
      have HD3 := hide hd3
      clear hgetm hne hok hok0 htx henc hA hK hn e1 e2 HPURE hPe hPl hPs eb sb lb hsep hgap hcl er1 sr1 lr1 er2 sr2 lr2 hz hall hr2 hQl hQs hd3 h1 htxl hL
      go_enter Try.func9, Try.ntmps9
      go_wp2_with fail
      refine (HWK.out _ HM.out).mono ?_
      rintro e w1 ⟨rfl, hb1⟩
      have HB1 := hide hb1
      clear hb1
      go_wp2_with fail
      refine (HT.out _ (HM.out.below HB1.out)).mono ?_
      rintro e w2 ⟨v, rfl, ht2, hb2⟩
      have HB2 := hide (bl_trans HB1.out hb2)
      have HTK := hide ht2
      obtain ⟨p, c, rfl, q1, q2⟩ := ht2
      obtain ⟨g, off, rfl, hg, hx⟩ := q2 (by intro h; rw [h] at hml; simp at hml; omega)
      obtain ⟨a1, a2, a3⟩ := hx i _ HG.out
      simp only at a1 a2 a3
      have b1 := (World.cell?_alloc_lt w2 (Obj.cells #[Value.int .i64 0, .int .i64 0] 26) ⟨g, off + i * 3, none⟩ hg).trans a1
      have b2 := (World.cell?_alloc_lt w2 (Obj.cells #[Value.int .i64 0, .int .i64 0] 26) ⟨g, off + i * 3 + 1, none⟩ hg).trans a2
      have b3 := (World.cell?_alloc_lt w2 (Obj.cells #[Value.int .i64 0, .int .i64 0] 26) ⟨g, off + i * 3 + 2, none⟩ hg).trans a3
      rw [hml]
      clear hb2 q1 hx a1 a2 a3 hml
      rcases HD3.out with hd | ⟨hd, hd2⟩ | ⟨hd, hd2⟩
      · have hQP : Q = P := HQ.out.2 (fun h => by rw [hd] at h; exact absurd h.1 (by decide))
        subst hQP
        go_wp2
        obtain ⟨W3, hW3⟩ : ∃ W3, W3 = (((w2.alloc (Obj.cells #[Value.int .i64 0, .int .i64 0] 26)).alloc (Obj.cells #[Value.int .i64 (K : Int), .string tx, .int .i64 (A : Int)] 32)).alloc (Obj.cells #[Value.string ⟨#[32]⟩, .string ⟨#[10]⟩, .string ⟨#[9]⟩, .string ⟨#[47, 42, 42, 47]⟩, .string ⟨#[47, 47, 32, 120, 10]⟩, .string ⟨#[47, 42, 32, 47, 47, 32, 42, 47]⟩] 9)) := ⟨_, rfl⟩
        rw [← hW3]
        have hbw : Below w2.heap.size w2 W3 := by rw [hW3]; exact bl_alloc (bl_alloc (bl_alloc (Below.refl _ _) _) _) _
        have HBW := hide (bl_trans HB2.out hbw)
        have HTW := hide (HTK.out.below hbw)
        clear hW3 hbw b1 b2 b3 hP HQ hd hi hj
        go_region_with (first
          | (go_at_call 11; refine (HTZ.out _ (HM.out.below (Below.drew HBW.out))).mono ?_; rintro e w3 ⟨vz, rfl, htz, hb3⟩)
          | (go_at_call 11; refine (HTZ.out _ (HM.out.below (Below.drew (bl_alloc HBW.out _)))).mono ?_; rintro e w3 ⟨vz, rfl, htz, hb3⟩; obtain ⟨z0, z1, z2, z3⟩ := new_two hb3))
        · have hb4 : Below W3.heap.size W3 (w3.alloc (Obj.cells #[Value.int IntKind.i64 0, Value.int IntKind.i64 0] 26)) := ((Below.refl _ W3).drew.trans hb3).alloc hb3.size _
          have hl := lexSame_any _ _ _ _ _ (HTW.out.below hb4) (htz.below (bl_alloc (Below.refl _ w3) (Obj.cells #[Value.int IntKind.i64 0, Value.int IntKind.i64 0] 26))) (by rw [HML.out]; omega)
          rw [HML.out, HALL.out] at hl
          have HL := hide hl
          have HB4 := hide (bl_trans HBW.out hb4)
          clear hl hb4 hb3 htz
          go_wp2_with fail
          refine HL.out.mono ?_
          rintro e w5 ⟨rfl, hb5⟩
          have HB5 := hide (bl_trans HB4.out hb5)
          clear hb5
          go_wp2
          go_ret
          exact ⟨rfl, HB5.out⟩
        · have hb4 : Below W3.heap.size W3 ((w3.setCell ⟨W3.heap.size, 0, none⟩ (.int .i64 0)).setCell ⟨W3.heap.size, 1, none⟩ (.int .i64 0)) :=
            two_belowN _ _ (((Below.refl _ W3).alloc (Nat.le_refl _) (Obj.cells #[Value.int IntKind.i64 0, Value.int IntKind.i64 0] 26)).drew.trans (hb3.mono (by show W3.heap.size ≤ (W3.alloc _).heap.size; simp))) (Nat.le_refl _)
          have hsz : w3.heap.size ≤ ((w3.setCell ⟨W3.heap.size, 0, none⟩ (.int .i64 0)).setCell ⟨W3.heap.size, 1, none⟩ (.int .i64 0)).heap.size := (two_belowN (W0 := w3) _ _ (Below.refl 0 w3) (Nat.zero_le _)).size
          have hl := lexSame_any _ _ _ _ _ (HTW.out.below hb4) (htz.cells hsz (set_two z0 z1)) (by rw [HML.out]; omega)
          rw [HML.out, HALL.out] at hl
          have y0 := (set_two z0 z1 ⟨W3.heap.size, 0, none⟩).trans z0
          have y1 := (set_two z0 z1 ⟨W3.heap.size, 1, none⟩).trans z1
          have HL := hide hl
          have HB4 := hide (bl_trans HBW.out hb4)
          clear hl hb4 hb3 htz hsz z0 z1 z2 z3
          go_wp2_with fail
          refine HL.out.mono ?_
          rintro e w5 ⟨rfl, hb5⟩
          have HB5 := hide (bl_trans HB4.out hb5)
          clear hb5
          go_wp2
          go_ret
          exact ⟨rfl, HB5.out⟩
      · have hQP : Q = P := HQ.out.2 (fun h => by have := h.2; have := of_decide_eq_false hd2; omega)
        subst hQP
        go_wp2
        obtain ⟨W3, hW3⟩ : ∃ W3, W3 = (((w2.alloc (Obj.cells #[Value.int .i64 0, .int .i64 0] 26)).alloc (Obj.cells #[Value.int .i64 (K : Int), .string tx, .int .i64 (A : Int)] 32)).alloc (Obj.cells #[Value.string ⟨#[32]⟩, .string ⟨#[10]⟩, .string ⟨#[9]⟩, .string ⟨#[47, 42, 42, 47]⟩, .string ⟨#[47, 47, 32, 120, 10]⟩, .string ⟨#[47, 42, 32, 47, 47, 32, 42, 47]⟩] 9)) := ⟨_, rfl⟩
        rw [← hW3]
        have hbw : Below w2.heap.size w2 W3 := by rw [hW3]; exact bl_alloc (bl_alloc (bl_alloc (Below.refl _ _) _) _) _
        have HBW := hide (bl_trans HB2.out hbw)
        have HTW := hide (HTK.out.below hbw)
        clear hW3 hbw b1 b2 b3 hP HQ hd hd2 hi hj
        go_region_with (first
          | (go_at_call 11; refine (HTZ.out _ (HM.out.below (Below.drew HBW.out))).mono ?_; rintro e w3 ⟨vz, rfl, htz, hb3⟩)
          | (go_at_call 11; refine (HTZ.out _ (HM.out.below (Below.drew (bl_alloc HBW.out _)))).mono ?_; rintro e w3 ⟨vz, rfl, htz, hb3⟩; obtain ⟨z0, z1, z2, z3⟩ := new_two hb3))
        · have hb4 : Below W3.heap.size W3 (w3.alloc (Obj.cells #[Value.int IntKind.i64 0, Value.int IntKind.i64 0] 26)) := ((Below.refl _ W3).drew.trans hb3).alloc hb3.size _
          have hl := lexSame_any _ _ _ _ _ (HTW.out.below hb4) (htz.below (bl_alloc (Below.refl _ w3) (Obj.cells #[Value.int IntKind.i64 0, Value.int IntKind.i64 0] 26))) (by rw [HML.out]; omega)
          rw [HML.out, HALL.out] at hl
          have HL := hide hl
          have HB4 := hide (bl_trans HBW.out hb4)
          clear hl hb4 hb3 htz
          go_wp2_with fail
          refine HL.out.mono ?_
          rintro e w5 ⟨rfl, hb5⟩
          have HB5 := hide (bl_trans HB4.out hb5)
          clear hb5
          go_wp2
          go_ret
          exact ⟨rfl, HB5.out⟩
        · have hb4 : Below W3.heap.size W3 ((w3.setCell ⟨W3.heap.size, 0, none⟩ (.int .i64 0)).setCell ⟨W3.heap.size, 1, none⟩ (.int .i64 0)) :=
            two_belowN _ _ (((Below.refl _ W3).alloc (Nat.le_refl _) (Obj.cells #[Value.int IntKind.i64 0, Value.int IntKind.i64 0] 26)).drew.trans (hb3.mono (by show W3.heap.size ≤ (W3.alloc _).heap.size; simp))) (Nat.le_refl _)
          have hsz : w3.heap.size ≤ ((w3.setCell ⟨W3.heap.size, 0, none⟩ (.int .i64 0)).setCell ⟨W3.heap.size, 1, none⟩ (.int .i64 0)).heap.size := (two_belowN (W0 := w3) _ _ (Below.refl 0 w3) (Nat.zero_le _)).size
          have hl := lexSame_any _ _ _ _ _ (HTW.out.below hb4) (htz.cells hsz (set_two z0 z1)) (by rw [HML.out]; omega)
          rw [HML.out, HALL.out] at hl
          have y0 := (set_two z0 z1 ⟨W3.heap.size, 0, none⟩).trans z0
          have y1 := (set_two z0 z1 ⟨W3.heap.size, 1, none⟩).trans z1
          have HL := hide hl
          have HB4 := hide (bl_trans HBW.out hb4)
          clear hl hb4 hb3 htz hsz z0 z1 z2 z3
          go_wp2_with fail
          refine HL.out.mono ?_
          rintro e w5 ⟨rfl, hb5⟩
          have HB5 := hide (bl_trans HB4.out hb5)
          clear hb5
          go_wp2
          go_ret
          exact ⟨rfl, HB5.out⟩
      · have hQP : Q = rb := HQ.out.1 ⟨hd, by have := of_decide_eq_true hd2; omega⟩
        subst hQP
        go_wp2
        obtain ⟨W3, hW3⟩ : ∃ W3, W3 = (((w2.alloc (Obj.cells #[Value.int .i64 0, .int .i64 0] 26)).alloc (Obj.cells #[Value.int .i64 (K : Int), .string tx, .int .i64 (A : Int)] 32)).alloc (Obj.cells #[Value.string ⟨#[32]⟩, .string ⟨#[10]⟩, .string ⟨#[9]⟩, .string ⟨#[47, 42, 42, 47]⟩, .string ⟨#[47, 47, 32, 120, 10]⟩, .string ⟨#[47, 42, 32, 47, 47, 32, 42, 47]⟩] 9)) := ⟨_, rfl⟩
        rw [← hW3]
        have hbw : Below w2.heap.size w2 W3 := by rw [hW3]; exact bl_alloc (bl_alloc (bl_alloc (Below.refl _ _) _) _) _
        have HBW := hide (bl_trans HB2.out hbw)
        have HTW := hide (HTK.out.below hbw)
        clear hW3 hbw b1 b2 b3 hP HQ hd hd2 hi hj
        go_region_with (first
          | (go_at_call 11; refine (HTZ.out _ (HM.out.below (Below.drew HBW.out))).mono ?_; rintro e w3 ⟨vz, rfl, htz, hb3⟩)
          | (go_at_call 11; refine (HTZ.out _ (HM.out.below (Below.drew (bl_alloc HBW.out _)))).mono ?_; rintro e w3 ⟨vz, rfl, htz, hb3⟩; obtain ⟨z0, z1, z2, z3⟩ := new_two hb3))
        · have hb4 : Below W3.heap.size W3 (w3.alloc (Obj.cells #[Value.int IntKind.i64 0, Value.int IntKind.i64 0] 26)) := ((Below.refl _ W3).drew.trans hb3).alloc hb3.size _
          have hl := lexSame_any _ _ _ _ _ (HTW.out.below hb4) (htz.below (bl_alloc (Below.refl _ w3) (Obj.cells #[Value.int IntKind.i64 0, Value.int IntKind.i64 0] 26))) (by rw [HML.out]; omega)
          rw [HML.out, HALL.out] at hl
          have HL := hide hl
          have HB4 := hide (bl_trans HBW.out hb4)
          clear hl hb4 hb3 htz
          go_wp2_with fail
          refine HL.out.mono ?_
          rintro e w5 ⟨rfl, hb5⟩
          have HB5 := hide (bl_trans HB4.out hb5)
          clear hb5
          go_wp2
          go_ret
          exact ⟨rfl, HB5.out⟩
        · have hb4 : Below W3.heap.size W3 ((w3.setCell ⟨W3.heap.size, 0, none⟩ (.int .i64 0)).setCell ⟨W3.heap.size, 1, none⟩ (.int .i64 0)) :=
            two_belowN _ _ (((Below.refl _ W3).alloc (Nat.le_refl _) (Obj.cells #[Value.int IntKind.i64 0, Value.int IntKind.i64 0] 26)).drew.trans (hb3.mono (by show W3.heap.size ≤ (W3.alloc _).heap.size; simp))) (Nat.le_refl _)
          have hsz : w3.heap.size ≤ ((w3.setCell ⟨W3.heap.size, 0, none⟩ (.int .i64 0)).setCell ⟨W3.heap.size, 1, none⟩ (.int .i64 0)).heap.size := (two_belowN (W0 := w3) _ _ (Below.refl 0 w3) (Nat.zero_le _)).size
          have hl := lexSame_any _ _ _ _ _ (HTW.out.below hb4) (htz.cells hsz (set_two z0 z1)) (by rw [HML.out]; omega)
          rw [HML.out, HALL.out] at hl
          have y0 := (set_two z0 z1 ⟨W3.heap.size, 0, none⟩).trans z0
          have y1 := (set_two z0 z1 ⟨W3.heap.size, 1, none⟩).trans z1
          have HL := hide hl
          have HB4 := hide (bl_trans HBW.out hb4)
          clear hl hb4 hb3 htz hsz z0 z1 z2 z3
          go_wp2_with fail
          refine HL.out.mono ?_
          rintro e w5 ⟨rfl, hb5⟩
          have HB5 := hide (bl_trans HB4.out hb5)
          clear hb5
          go_wp2
          go_ret
          exact ⟨rfl, HB5.out⟩
  · obtain ⟨h1', h2', h3'⟩ := ans_bad bad
    obtain ⟨f1, f2, hf⟩ : ∃ f1 f2, (ans s.data.toList).2 = (f1, f2) := ⟨_, _, rfl⟩
    rw [hf] at HT h2'
    have hf1 : ¬ f1 = 0 := h2'
    rw [show fltV (f1, f2) = .agg #[.int .i64 f1, .int .i64 f2] from rfl] at HT
    clear bad h1 h1' h2' h3' hf
    go_enter Try.func9, Try.ntmps9
    go_wp2_with fail
    refine (HWK.out _ HM.out).mono ?_
    rintro e w1 ⟨rfl, hb1⟩
    have HB1 := hide hb1
    clear hb1
    go_wp2_with fail
    refine (HT.out _ (HM.out.below HB1.out)).mono ?_
    rintro e w2 ⟨v, rfl, ht, hb2⟩
    have HB2 := hide (bl_alloc (bl_trans HB1.out hb2) (Obj.cells #[.int .i64 f1, .int .i64 f2] 26))
    obtain ⟨p, c, rfl, q1, q2⟩ := ht
    clear hb2 q1 q2
    go_wp2
    all_goals (go_ret; exact ⟨rfl, HB2.out⟩)
end Go.Proofs.Ytjiencifdpopdaa
