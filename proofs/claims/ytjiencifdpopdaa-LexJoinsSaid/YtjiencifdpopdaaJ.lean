/- The law LexJoins, walked: it answers true. No conditions beyond what the library's variable holds, and that each text is no longer than any may be. -/
import Derived.Test.YtjiencifdpopdaaJn
import Derived.Test.YtjiencifdpopdaaF
namespace Go.Proofs.Ytjiencifdpopdaa
open Go.RowKit

theorem join_mem : ∀ (l : List (List UInt8)) (c : UInt8), c ∈ M.join l → c = 32 ∨ ∃ x ∈ l, c ∈ x
  | [], c, h => by simp [M.join] at h
  | [a], c, h => .inr ⟨a, by simp, h⟩
  | a :: b :: r, c, h => by
    rw [show M.join (a :: b :: r) = a ++ 32 :: M.join (b :: r) from rfl] at h
    rcases List.mem_append.1 h with h | h
    · exact .inr ⟨a, by simp, h⟩
    · rcases List.mem_cons.1 h with h | h
      · exact .inl h
      · rcases join_mem (b :: r) c h with h | ⟨x, hx, hc⟩
        · exact .inl h
        · exact .inr ⟨x, List.mem_cons_of_mem _ hx, hc⟩
theorem kt_all : ∀ (a b : List M.Tok), M.kt a = M.kt b → allR sameKT (a.map encT) (b.map encT) = true
  | [], [], _ => rfl
  | [], _ :: _, h => by simp [M.kt] at h
  | _ :: _, [], h => by simp [M.kt] at h
  | x :: a, y :: b, h => by
    simp only [M.kt, List.map_cons, List.cons.injEq, Prod.mk.injEq] at h
    rw [List.map_cons, List.map_cons, allR, kt_all a b h.2, Bool.and_true]
    simp [sameKT, encT, h.1.1, h.1.2]
theorem joinR_enc (l : List M.Tok) : joinR (l.map encT) = M.join (l.map M.Tok.text) := by
  unfold joinR
  rw [List.map_map]
  rfl
theorem enc_sizes (l : List M.Tok) : ((l.map encT).map fun x => x.2.1.size) = l.map fun t => t.text.length := by
  rw [List.map_map]
  refine List.map_congr_left fun t _ => ?_
  show (⟨t.text.toArray⟩ : ByteArray).size = _
  show t.text.toArray.size = _
  simp

theorem ans_join (l : List UInt8) (hok : (ans l).2 = (0, 0)) (hl : l.length ≤ 400) :
    ∃ tk, ans (M.join ((ans l).1.map M.Tok.text)) = (tk, (0, 0)) ∧ allR sameKT (tk.map encT) ((ans l).1.map encT) = true ∧ (M.join ((ans l).1.map M.Tok.text)).length ≤ 800 ∧
      (((ans l).1.map encT).map fun x => x.2.1.size).sum + ((ans l).1.map encT).length ≤ 800 := by
  obtain ⟨hc, hT⟩ := ans_ok hok
  have htx := M.T_texts _ _ _ _ hT
  have hlen := M.T_len _ _ _ _ hT
  obtain ⟨h1, h2⟩ := M.T_join (ans l).1 (fun t ht => ⟨(htx t ht).1, (htx t ht).2.1, (htx t ht).2.2.1⟩) 0
  have hjl : (M.join ((ans l).1.map M.Tok.text)).length ≤ 800 := by
    have := join_len ((ans l).1.map M.Tok.text)
    rw [List.map_map, List.length_map] at this
    have h3 : ((ans l).1.map (List.length ∘ M.Tok.text)).sum = ((ans l).1.map fun t => t.text.length).sum := rfl
    rw [h3] at this
    omega
  refine ⟨_, ans_of ((cln_none _).2 ⟨fun c hcc => ?_, by omega⟩) (Prod.ext rfl h2), kt_all _ _ h1, hjl, ?_⟩
  · rcases join_mem _ c hcc with rfl | ⟨x, hx, hcx⟩
    · decide
    · obtain ⟨t, ht, rfl⟩ := List.mem_map.1 hx
      exact ((cln_none _).1 hc).1 c ((htx t ht).2.2.2 c hcx)
  · rw [enc_sizes, List.length_map]; omega

/-- How many bytes tokens have, with one more for each. -/
def cnt (ts : List RT) : Nat := (ts.map fun x => x.2.1.size).sum + ts.length
theorem cnt_step (ts : List RT) (k : Nat) (h : k < ts.length) : cnt (ts.take (k + 1)) = cnt (ts.take k) + (ts[k].2.1.size + 1) := by
  unfold cnt
  rw [List.take_succ_eq_append_getElem h, List.map_append, List.sum_append, List.length_append]
  simp; omega

set_option maxRecDepth 20000 in
set_option maxHeartbeats 8000000 in
theorem lexJoins_walk (s : ByteArray) (v : Value) (ts : List RT) (w : World) (hm : MaxOk w) (ht : Toks w v ts) (hlen : ts.length ≤ 140737488355328) (hsz : ∀ x ∈ ts, x.2.1.size ≤ 140737488355328) :
    Calls Try.prog 5 #[.string s, v] w fun e w' => e = .returned (.bool true) ∧ Below w.heap.size w w' := by
  have HWK := hide wakes_any
  have HM := hide hm
  have HTK := hide ht
  have HSZ := hide hsz
  have hj1 := fun w h hb => join_any v ts w h hb
  have hj2 := fun w h hb => refJoin_any v ts w h hb
  obtain ⟨p, c, rfl, hpc, hpx⟩ := ht
  have HPX := hide hpx
  have HJ1 := hide hj1
  have HJ2 := hide hj2
  obtain ⟨JR, hJR⟩ : ∃ JR : ByteArray, JR = ⟨(joinR ts).toArray⟩ := ⟨_, rfl⟩
  rw [← hJR] at HJ1 HJ2
  have HCS := hide fun k h => cnt_step ts k h
  have hml : ts.length ≤ 281474976710656 := by omega
  clear hm hsz hpx hj1 hj2 hJR hlen
  go_enter Try.func5, Try.ntmps5
  go_wp2_with fail
  refine (HWK.out _ HM.out).mono ?_
  rintro e w1 ⟨rfl, hb1⟩
  have HB1 := hide hb1
  clear hb1
  go_wp2
  go_loopw [16, 5, 7] (fun i n _ wr => ∃ k : Nat, k ≤ ts.length ∧ i = .int .i64 k ∧ n = .int .i64 (cnt (ts.take k)) ∧ cnt (ts.take k) ≤ 400 ∧ Below w.heap.size w wr) (fun i _ _ _ => ts.length - (intOf i).toNat)
  case atStart => exact ⟨0, Nat.zero_le _, rfl, rfl, Nat.zero_le _, HB1.out⟩
  case round =>
    obtain ⟨k, hk, rfl, rfl, hcnt, hbel⟩ := hrel
    have HBEL := hide hbel
    clear hbel
    by_cases hlt : k < ts.length
    · obtain ⟨g, off, rfl, hg, hx⟩ := HPX.out (by intro h; rw [h] at hlt; simp at hlt)
      obtain ⟨x, hxx⟩ : ∃ x, x = ts[k] := ⟨_, rfl⟩
      obtain ⟨a1, a2, a3⟩ := hx k x (by rw [hxx]; exact List.getElem?_eq_getElem hlt)
      have c1 := (HBEL.out.cell (p := ⟨g, off + k * 3, none⟩) hg).trans a1
      have c2 := (HBEL.out.cell (p := ⟨g, off + k * 3 + 1, none⟩) hg).trans a2
      have c3 := (HBEL.out.cell (p := ⟨g, off + k * 3 + 2, none⟩) hg).trans a3
      have hs := HSZ.out x (by rw [hxx]; exact List.getElem_mem hlt)
      have hst := HCS.out k hlt
      rw [← hxx] at hst
      have hsz' : x.2.1.size ≤ 281474976710656 := by omega
      have HBA := hide (bl_alloc HBEL.out (Obj.cells #[.int .i64 x.1, .string x.2.1, .int .i64 x.2.2] 32))
      obtain ⟨x1, x2, x3⟩ := x
      simp only at c1 c2 c3 hsz' hst HBA
      have HST := hide hst
      generalize cnt (ts.take k) = C at *
      clear hxx a1 a2 a3 hx hs hst
      by_cases hbig : 400 < C + (x2.size + 1)
      · have hbi : (400 : Int) < (C : Int) + ((x2.size : Int) + 1) := by omega
        go_wp2
        go_ret
        exact ⟨rfl, HBA.out⟩
      · have hbi : ¬ (400 : Int) < (C : Int) + ((x2.size : Int) + 1) := by omega
        go_wp2
        go_roundw
        case rel => exact ⟨k + 1, hlt, by go_num, by rw [HST.out]; go_num, by rw [HST.out]; omega, HBA.out⟩
        case measure => simp [intOf]; omega
    · obtain rfl : k = ts.length := by omega
      rw [List.take_length] at hcnt
      have hcn : (ts.map fun x => x.2.1.size).sum + ts.length ≤ 2000 := by unfold cnt at hcnt; omega
      have HCN := hide hcn
      clear hlt hcnt hcn
      by_cases hs : (400 : Int) < s.size
      · go_wp2
        go_ret
        exact ⟨rfl, HBEL.out⟩
      · go_wp2_with fail
        refine (HJ1.out _ (HTK.out.below HBEL.out) HCN.out).mono ?_
        rintro e w2 ⟨rfl, hb2⟩
        have HB2 := hide (bl_trans HBEL.out hb2)
        clear hb2
        go_wp2_with fail
        refine (HJ2.out _ (HTK.out.below HB2.out) HCN.out).mono ?_
        rintro e w' ⟨rfl, hw'⟩
        subst hw'
        have HT := hide fun w hm => tokens_any s w (by omega) hm
        rcases ans_cases s.data.toList with hok | bad
        · obtain ⟨tk, k1, k2, k3, k4⟩ := ans_join s.data.toList hok (by rw [len_of]; omega)
          rw [hok, show fltV (0, 0) = .agg #[.int .i64 0, .int .i64 0] from rfl] at HT
          have hje := joinR_enc (ans s.data.toList).1
          generalize (ans s.data.toList).1.map encT = tl at *
          rw [← hje] at k1 k3
          obtain ⟨JL, hJL⟩ : ∃ JL : ByteArray, JL = ⟨(joinR tl).toArray⟩ := ⟨_, rfl⟩
          have hJLl : JL.data.toList = joinR tl := by rw [hJL]
          have HT2 := hide fun w hm => tokens_any JL w (by rw [← len_of, hJLl]; omega) hm
          rw [hJLl, k1, show fltV ((tk, ((0, 0) : Nat × Nat)).2) = .agg #[.int .i64 0, .int .i64 0] from rfl] at HT2
          have HJL := hide fun v w h => join_any v tl w h (by omega)
          rw [← hJL] at HJL
          have HS1 := hide fun va vb w ha hb => lexSame_any va vb (tk.map encT) tl w ha hb
          have HS2 := hide fun va vb w ha hb => refSame_any va vb (tk.map encT) tl w ha hb
          rw [k2] at HS1 HS2
          have hkl : (tk.map encT).length ≤ 1000000 := by
            have h1 := (M.T_len _ _ _ _ (ans_ok (show (ans (joinR tl)).2 = (0, 0) by rw [k1])).2).1
            rw [k1] at h1
            rw [List.length_map]; simp only at h1; omega
          have HKL := hide hkl
          clear hok k1 k2 k3 k4 hje hJL hJLl hkl
          go_wp2_with fail
          refine (HT.out _ (HM.out.below HB2.out)).mono ?_
          rintro e w3 ⟨v3', rfl, ht3, hb3⟩
          have HB3 := hide (bl_alloc (bl_trans HB2.out hb3) (Obj.cells #[.int .i64 0, .int .i64 0] 26))
          have HT3 := hide (ht3.below (bl_alloc (Below.refl _ w3) (Obj.cells #[.int .i64 0, .int .i64 0] 26)))
          clear ht3 hb3
          go_wp2_with fail
          refine (HJL.out _ _ HT3.out).mono ?_
          rintro e w4 ⟨rfl, hb4⟩
          have HB4 := hide (bl_trans HB3.out hb4)
          have HT4 := hide (HT3.out.below hb4)
          clear hb4
          go_wp2_with fail
          refine (HT2.out _ (HM.out.below HB4.out)).mono ?_
          rintro e w5 ⟨v5', rfl, ht5, hb5⟩
          have hb6 := bl_alloc hb5 (Obj.cells #[.int .i64 0, .int .i64 0] 26)
          have HB5 := hide (bl_trans HB4.out hb6)
          have HTA := hide (HT4.out.below hb6)
          have HTB := hide (ht5.below (bl_alloc (Below.refl _ w5) (Obj.cells #[.int .i64 0, .int .i64 0] 26)))
          clear hb5 hb6 ht5
          go_wp2_with fail
          refine (HS1.out _ _ _ HTB.out HTA.out HKL.out).mono ?_
          rintro e w6 ⟨rfl, hb6⟩
          have HB6 := hide (bl_trans HB5.out hb6)
          have HTA6 := hide (HTA.out.below hb6)
          have HTB6 := hide (HTB.out.below hb6)
          clear hb6
          go_wp2_with fail
          refine (HS2.out _ _ _ HTB6.out HTA6.out HKL.out).mono ?_
          rintro e w7 ⟨rfl, n, hn⟩
          have HB7 : Hid (Below w.heap.size w w7) := by rw [hn]; exact bl_drewN HB6.out n
          clear hn
          go_wp2
          go_ret
          exact ⟨rfl, HB7.out⟩
        · obtain ⟨h1', h2', h3'⟩ := ans_bad bad
          obtain ⟨f1, f2, hf⟩ : ∃ f1 f2, (ans s.data.toList).2 = (f1, f2) := ⟨_, _, rfl⟩
          rw [hf] at HT h2'
          have hf1 : ¬ f1 = 0 := h2'
          rw [show fltV (f1, f2) = .agg #[.int .i64 f1, .int .i64 f2] from rfl] at HT
          clear bad h1' h2' h3' hf
          go_wp2_with fail
          refine (HT.out _ (HM.out.below HB2.out)).mono ?_
          rintro e w3 ⟨v3', rfl, ht3, hb3⟩
          have HB3 := hide (bl_alloc (bl_trans HB2.out hb3) (Obj.cells #[.int .i64 f1, .int .i64 f2] 26))
          clear ht3 hb3
          go_wp2
          all_goals (go_ret; exact ⟨rfl, HB3.out⟩)
end Go.Proofs.Ytjiencifdpopdaa
