/- The law LexPairs, walked: it answers true. No conditions beyond what the library's variable holds. -/
import Derived.Test.YtjiencifdpopdaaN
import Derived.Laws.AppendOwnNone
import Derived.Laws.Concat
import Derived.BigQuiet
namespace Go.Proofs.Ytjiencifdpopdaa
open Go.RowKit

theorem allR_self (f : RT → RT → Bool) (h : ∀ x, f x x = true) : ∀ l : List RT, allR f l l = true
  | [] => rfl
  | x :: r => by rw [allR, h, allR_self f h r]; rfl
theorem kta_self (x : RT) : sameKTA x x = true := by simp [sameKTA]
theorem kt_self (x : RT) : sameKT x x = true := by simp [sameKT]

theorem add_sum (p q : ByteArray) (h : p.size + q.size ≤ 100000) : ∃ r, r = p ++ q ∧ r.size = p.size + q.size ∧ r.data.toList = p.data.toList ++ q.data.toList ∧ ∀ W, (Op.stringOp .add p q).run Try.prog W = .ok (.string r) W :=
  ⟨_, rfl, ByteArray.size_append, by simp, fun W => run_string_add_sum W p q (by omega)⟩

/-- Two clean texts with the end of a line between. -/
theorem ans_pairs (a b : List UInt8) (ha : (ans a).2 = (0, 0)) (hb : (ans b).2 = (0, 0)) (hl : a.length + b.length ≤ 1000) :
    ans (a ++ 10 :: b) = ((ans a).1 ++ (ans b).1.map (M.sh (a.length + 1)), (0, 0)) := by
  obtain ⟨ca, ta⟩ := ans_ok ha
  obtain ⟨cb, tb⟩ := ans_ok hb
  refine ans_of ((cln_none _).2 ⟨fun c hc => ?_, by simp; omega⟩) ?_
  · rcases List.mem_append.1 hc with h | h
    · exact ((cln_none _).1 ca).1 c h
    · rcases List.mem_cons.1 h with rfl | h
      · decide
      · exact ((cln_none _).1 cb).1 c h
  · have hs := M.T_shift (a.length + 1) b 0
    rw [M.T_pairs b a 0 (by rw [ta]), ta]
    rw [show 0 + a.length + 1 = 0 + (a.length + 1) by omega, hs, tb]
    rfl

def shR (d : Int) (x : RT) : RT := (x.1, x.2.1, x.2.2 + d)
theorem enc_sh (d : Nat) (t : M.Tok) : encT (M.sh d t) = shR d (encT t) := by simp [encT, M.sh, shR]

/-- 'append(out, x..)', whatever x is. -/
theorem wpList_append_any {P : Program} {w : World} {ops : Array Oper} {rest : List Oper} {o : Oper} {a : Act} {Q : Exit → Act → World → Prop} (hgd : o.guard = none) (s x : Operand) (t : TypeId)
    (ho : o.op = .call { callee := .builtin .append, args := #[s, x], argTypes := #[t, t] })
    (base : Nat) (e : TypeId) (i : TypeInfo) (z : Value) (size bytes : Nat) (ht : P.underlying t = some (.slice e)) (hi : P.info? e = some i) (hz : i.zero = some z)
    (hsize : i.size = size) (hby : i.bytes = bytes) (hzs : z.cells.size = size) (hsz : 0 < size)
    (v : Value) (n : Nat) (xs : List Value) (hs : a.eval s = v) (hown : w.ownsRow base e size v n xs)
    (p : Option Addr) (m c : Nat) (news : List Value) (hx : a.eval x = .slice p m c) (hl : news.length = m * size) (hnone : p = none → m = 0 ∧ c = 0)
    (hnews : ∀ ad, p = some ad → ∀ j u, news[j]? = some u → w.cell? (ad.add j) = some u) (h1 : ∀ u ∈ news, u.oneCell' = true)
    (h63 : n + m ≤ maxLen) (hbytes : (n + m) * bytes ≤ 140737488355328) (hbase : base ≤ w.heap.size)
    (h : ∀ v' w', w'.ownsRow base e size v' (n + m) (xs ++ news) → w.grownBy w' v.ownBlock → wpList P ops Q rest (a.put o.dst v') w') : wpList P ops Q (o :: rest) a w := by
  cases p with
  | none =>
    obtain ⟨rfl, rfl⟩ := hnone rfl
    have hnil : news = [] := List.length_eq_zero_iff.1 (by rw [hl, Nat.zero_mul])
    subst hnil
    refine wpList_append_own_none hgd s x t ho base e i size ht hi v n xs hs hown hx (h v w (by rw [List.append_nil]; exact hown) ?_)
    exact ⟨rfl, rfl, rfl, Nat.le_refl _, fun _ _ _ => rfl⟩
  | some ad => exact wpList_append_own _ hgd s x t ho base e i z size bytes ht hi hz hsize hby hzs hsz v n xs hs hown ad m c news hx hl (hnews ad rfl) h1 h63 hbytes hbase (fun v' w' k1 k2 _ => h v' w' k1 k2)

theorem flat_one : ∀ (ts : List RT) (u : Value), u ∈ flat ts → u.oneCell' = true
  | [], _, h => absurd h List.not_mem_nil
  | x :: r, u, h => by
    rw [flat] at h
    rcases List.mem_cons.1 h with rfl | h
    · rfl
    rcases List.mem_cons.1 h with rfl | h
    · rfl
    rcases List.mem_cons.1 h with rfl | h
    · rfl
    · exact flat_one r u h

/-- A row of the call's own holds its tokens, also where there are none. -/
theorem Toks.of_row {w : World} {base : Nat} {e : TypeId} {v : Value} {n : Nat} {ts : List RT} (h : w.ownsRow base e 3 v n (flat ts)) (hn : n = ts.length) : Toks w v ts := by
  rcases h.2 with ⟨hv, h1⟩ | ⟨g, cap, cur, rfl, hbg, hg, hc, _, _, ht⟩
  · have hts : ts = [] := List.length_eq_zero_iff.1 (by have := h.1; omega)
    subst hts; rw [hv]; exact Toks.nil _
  · by_cases hz : n = 0
    · have hts : ts = [] := List.length_eq_zero_iff.1 (by omega)
      subst hts
      exact ⟨_, cap, by rw [hn], ⟨Nat.zero_le _, fun h => by cases h⟩, fun h => absurd rfl h⟩
    · exact Toks.of_own h hn (fun h => absurd h hz) (Nat.le_refl _) (fun _ _ => rfl)

/-- The cells of a slice of tokens, one behind the other. -/
theorem flat_cells {w : World} {g off : Nat} {ts : List RT} (h : ∀ (j : Nat) (x : RT), ts[j]? = some x → w.cell? ⟨g, off + j * 3, none⟩ = some (.int .i64 x.1) ∧ w.cell? ⟨g, off + j * 3 + 1, none⟩ = some (.string x.2.1) ∧ w.cell? ⟨g, off + j * 3 + 2, none⟩ = some (.int .i64 x.2.2)) :
    ∀ j u, (flat ts)[j]? = some u → w.cell? ((⟨g, off, none⟩ : Addr).add j) = some u := by
  intro j u hj
  rw [Addr.add_lit]
  have hlt : j < ts.length * 3 := by rw [← flat_length]; exact (List.getElem?_eq_some_iff.1 hj).1
  obtain ⟨q, r, hqr, hr⟩ : ∃ q r, j = q * 3 + r ∧ r < 3 := ⟨j / 3, j % 3, by omega, by omega⟩
  have hq : q < ts.length := by omega
  obtain ⟨f1, f2, f3⟩ := flat_get ts q _ (List.getElem?_eq_getElem hq)
  obtain ⟨g1, g2, g3⟩ := h q _ (List.getElem?_eq_getElem hq)
  subst hqr
  match r, hr with
  | 0, _ => rw [Nat.add_zero] at hj ⊢; rw [f1] at hj; cases hj; exact g1
  | 1, _ => rw [f2] at hj; cases hj; rw [← Nat.add_assoc]; exact g2
  | 2, _ => rw [f3] at hj; cases hj; rw [← Nat.add_assoc]; exact g3

set_option maxRecDepth 20000 in
set_option maxHeartbeats 4000000 in
theorem lexPairs_walk (a b : ByteArray) (w : World) (hm : MaxOk w) :
    Calls Try.prog 8 #[.string a, .string b] w fun e w' => e = .returned (.bool true) ∧ Below w.heap.size w w' := by
  obtain ⟨i0, hi, hz0, hz1, hz2⟩ := info_parts info32
  have HWK := hide wakes_any
  have HM := hide hm
  clear hm
  by_cases h1 : (200 : Int) < a.size
  · have d1 : decide ((200 : Int) < (a.size : Int)) = true := by simp; omega
    go_enter Try.func8, Try.ntmps8
    go_wp2_with fail
    refine (HWK.out _ HM.out).mono ?_
    rintro e w1 ⟨rfl, hb1⟩
    have HB1 := hide hb1
    clear hb1
    go_wp2
    go_ret
    exact ⟨rfl, HB1.out⟩
  have d1 : decide ((200 : Int) < (a.size : Int)) = false := by simp; omega
  by_cases h2 : (200 : Int) < b.size
  · have d2 : decide ((200 : Int) < (b.size : Int)) = true := by simp; omega
    clear h1
    go_enter Try.func8, Try.ntmps8
    go_wp2_with fail
    refine (HWK.out _ HM.out).mono ?_
    rintro e w1 ⟨rfl, hb1⟩
    have HB1 := hide hb1
    clear hb1
    go_wp2
    go_ret
    exact ⟨rfl, HB1.out⟩
  have d2 : decide ((200 : Int) < (b.size : Int)) = false := by simp; omega
  have HTA := hide fun w hm => tokens_any a w (by omega) hm
  have HTB := hide fun w hm => tokens_any b w (by omega) hm
  obtain ⟨r1, e1, s1, l1, a1⟩ := add_sum a ⟨#[10]⟩ (by rw [show (⟨#[10]⟩ : ByteArray).size = 1 from rfl]; omega)
  obtain ⟨r2, e2, s2, l2, a2⟩ := add_sum r1 b (by rw [s1, show (⟨#[10]⟩ : ByteArray).size = 1 from rfl]; omega)
  have hr2 : r2.data.toList = a.data.toList ++ 10 :: b.data.toList := by rw [l2, l1]; simp
  have HTZ := hide fun w hm => tokens_any r2 w (by rw [s2, s1, show (⟨#[10]⟩ : ByteArray).size = 1 from rfl]; omega) hm
  rcases ans_cases a.data.toList with oka | bad
  · rcases ans_cases b.data.toList with okb | badb
    · have hp := ans_pairs _ _ oka okb (by rw [len_of, len_of]; omega)
      rw [hr2, hp] at HTZ
      rw [oka] at HTA
      rw [okb] at HTB
      have hla := (M.T_len _ _ _ _ (ans_ok oka).2)
      have hlb := (M.T_len _ _ _ _ (ans_ok okb).2)
      rw [len_of] at hla hlb
      have hA : Hid (∀ x ∈ (ans b.data.toList).1.map encT, (0 : Int) ≤ x.2.2 ∧ x.2.2 ≤ 1000) := fun x hx => by
        obtain ⟨t, ht, rfl⟩ := List.mem_map.1 hx
        have := hlb.2.2 t ht
        show (0 : Int) ≤ (t.at_ : Int) ∧ (t.at_ : Int) ≤ 1000
        omega
      have hla1 : ((ans a.data.toList).1.map encT).length ≤ 200 := by rw [List.length_map]; omega
      have hlb1 : ((ans b.data.toList).1.map encT).length ≤ 200 := by rw [List.length_map]; omega
      simp only [List.map_append, List.map_map] at HTZ
      rw [show (ans b.data.toList).1.map (encT ∘ M.sh (a.data.toList.length + 1)) = ((ans b.data.toList).1.map encT).map (shR ((a.size : Int) + 1)) by
        rw [List.map_map]; refine List.map_congr_left fun t _ => ?_
        show encT (M.sh _ t) = _; rw [enc_sh, len_of]; rfl] at HTZ
      generalize (ans a.data.toList).1.map encT = ta at *
      generalize (ans b.data.toList).1.map encT = tb at *
      rw [show fltV (0, 0) = .agg #[.int .i64 0, .int .i64 0] from rfl] at HTA HTB
      clear hla hlb e1 e2 s1 s2 l1 l2 hr2 hp oka okb h1 h2
      go_enter Try.func8, Try.ntmps8
      go_wp2_with fail
      refine (HWK.out _ HM.out).mono ?_
      rintro e w1 ⟨rfl, hb1⟩
      have HB1 := hide hb1
      clear hb1
      go_wp2_with fail
      refine (HTA.out _ (HM.out.below HB1.out)).mono ?_
      rintro e w2 ⟨va, rfl, hta, hb2⟩
      have HB2 := hide (bl_alloc (bl_trans HB1.out hb2) (Obj.cells #[.int .i64 0, .int .i64 0] 26))
      have HTA2 := hide (hta.below (bl_alloc (Below.refl _ w2) (Obj.cells #[.int .i64 0, .int .i64 0] 26)))
      clear hb2 hta
      go_wp2_with fail
      refine (HTB.out _ (HM.out.below HB2.out)).mono ?_
      rintro e w3 ⟨vb, rfl, htb, hb3⟩
      have hb3' := bl_alloc hb3 (Obj.cells #[.int .i64 0, .int .i64 0] 26)
      have HB3 := hide (bl_trans HB2.out hb3')
      have HTA3 := hide (HTA2.out.below hb3')
      have HTB3 := hide (htb.below (bl_alloc (Below.refl _ w3) (Obj.cells #[.int .i64 0, .int .i64 0] 26)))
      have hlt2 : w2.heap.size < (w2.alloc (Obj.cells #[Value.int .i64 0, .int .i64 0] 26)).heap.size := by simp
      have y0 := hb3'.cell (p := ⟨w2.heap.size, 0, none⟩) hlt2
      have y1 := hb3'.cell (p := ⟨w2.heap.size, 1, none⟩) hlt2
      clear hb3 hb3' htb hlt2 HTA2
      simp at y0 y1
      go_wp2_with fail
      refine (HTZ.out _ (HM.out.below HB3.out)).mono ?_
      rintro e w4 ⟨vz, rfl, htz, hb4⟩
      rw [show fltV ((ta ++ tb.map (shR ((a.size : Int) + 1)), ((0, 0) : Nat × Nat)).2) = .agg #[.int .i64 0, .int .i64 0] from rfl]
      have hb4' := bl_alloc hb4 (Obj.cells #[.int .i64 0, .int .i64 0] 26)
      have HB4 := hide (bl_trans HB3.out hb4')
      have HTA4 := hide (HTA3.out.below hb4')
      have HTB4 := hide (HTB3.out.below hb4')
      have HTZ4 := hide (htz.below (bl_alloc (Below.refl _ w4) (Obj.cells #[.int .i64 0, .int .i64 0] 26)))
      clear hb4 hb4' htz y0 y1 HTA3 HTB3
      obtain ⟨pa, ca, rfl, hca, hxa⟩ := HTA4.out
      obtain ⟨pb, cb, rfl, hcb, hxb⟩ := HTB4.out
      have hW0 : (w4.alloc (Obj.cells #[Value.int .i64 0, .int .i64 0] 26)).heap.size = w4.heap.size + 1 := by simp
      have hown0 : ((w4.alloc (Obj.cells #[Value.int .i64 0, .int .i64 0] 26)).alloc (Obj.cells #[] 32)).ownsRow (w4.heap.size + 1) 32 3 (.slice (some ⟨w4.heap.size + 1, 0, none⟩) 0 0) 0 [] :=
        ⟨rfl, .inr ⟨w4.heap.size + 1, 0, #[], rfl, Nat.le_refl _, by have := heap_alloc_new (w4.alloc (Obj.cells #[Value.int .i64 0, .int .i64 0] 26)) (Obj.cells #[] 32); rwa [hW0] at this, Nat.le_refl _, by decide, rfl, rfl⟩⟩
      have HXA := hide hxa
      have HXB := hide hxb
      have HCA := hide hca
      have HCB := hide hcb
      clear hxa hxb hca hcb
      go_wp2_with (at_builtin; refine wpList_append_any rfl _ _ 23 rfl (w4.heap.size + 1) 32 i0 (.agg #[.int .i64 0, .string ByteArray.empty, .int .i64 0]) 3 32 Try.underlying23 hi hz0 hz1 hz2 rfl (by decide) _ _ _ rfl hown0 pa ta.length ca (flat ta) rfl (flat_length ta) ?c1 ?c2 ?c3 ?c4 ?c5 ?c6 ?_)
      case c1 => intro hp; have h := HCA.out.2 hp; have h2 := HCA.out.1; exact ⟨by omega, h⟩
      case c2 =>
        intro ad had j u hj
        by_cases hne : ta = []
        · subst hne; simp [flat] at hj
        · obtain ⟨g, off, hpe, hg, hx⟩ := HXA.out hne
          rw [had] at hpe
          cases hpe
          exact flat_cells (fun j x hx' => ⟨(World.cell?_alloc_lt _ _ _ (by exact hg)).trans (hx j x hx').1, (World.cell?_alloc_lt _ _ _ (by exact hg)).trans (hx j x hx').2.1, (World.cell?_alloc_lt _ _ _ (by exact hg)).trans (hx j x hx').2.2⟩) j u hj
      case c3 => exact fun u hu => flat_one _ u hu
      case c4 => unfold maxLen; omega
      case c5 => omega
      case c6 => simp
      intro v1 wA hownA hgrowA
      have hbA := ((Below.refl (w4.heap.size + 1) (w4.alloc (Obj.cells #[Value.int .i64 0, .int .i64 0] 26))).alloc (by rw [hW0]; exact Nat.le_refl _) (Obj.cells #[] 32)).grown hgrowA (by simp) (own_base hown0)
      have HOA := hide hownA
      have HBA := hide hbA
      clear hownA hgrowA hbA hown0 HXA HCA
      go_wp2
      go_loopw [55, 11, 13] (fun i v _ wr => ∃ k : Nat, k ≤ tb.length ∧ i = .int .i64 k ∧ wr.ownsRow (w4.heap.size + 1) 32 3 v (ta.length + k) (flat (ta ++ (tb.map (shR ((a.size : Int) + 1))).take k)) ∧ Below (w4.heap.size + 1) (w4.alloc (Obj.cells #[Value.int .i64 0, .int .i64 0] 26)) wr) (fun i _ _ _ => tb.length - (intOf i).toNat)
      case atStart => exact ⟨0, Nat.zero_le _, rfl, by have := HOA.out; simpa using this, HBA.out⟩
      case round =>
        obtain ⟨k, hk, rfl, hown, hbel⟩ := hrel
        by_cases hlt : k < tb.length
        · obtain ⟨g, off, rfl, hg, hx⟩ := HXB.out (by intro h; rw [h] at hlt; simp at hlt)
          obtain ⟨x, hxx⟩ : ∃ x, x = tb[k] := ⟨_, rfl⟩
          obtain ⟨a1', a2', a3'⟩ := hx k x (by rw [hxx]; exact List.getElem?_eq_getElem hlt)
          rw [hW0] at hg
          have c0 := (hbel.cell (p := ⟨g, off + k * 3, none⟩) hg).trans a1'
          have c1 := (hbel.cell (p := ⟨g, off + k * 3 + 1, none⟩) hg).trans a2'
          have c2 := (hbel.cell (p := ⟨g, off + k * 3 + 2, none⟩) hg).trans a3'
          obtain ⟨hx0, hx1⟩ := hA.out x (by rw [hxx]; exact List.getElem_mem hlt)
          have HXX := hide hxx
          have hsum : (a.size : Int) + 1 ≤ 201 := by have := of_decide_eq_false d1; omega
          obtain ⟨x1, x2, x3⟩ := x
          simp only at c0 c1 c2 hx0 hx1
          clear hxx a1' a2' a3' hx
          have hW1 : (wr.alloc (Obj.cells #[Value.int .i64 x1, .string x2, .int .i64 (x3 + ((a.size : Int) + 1))] 32)).heap.size = wr.heap.size + 1 := by simp
          have hnew : ∀ (j : Nat) (u : Value), [Value.int .i64 x1, .string x2, .int .i64 (x3 + ((a.size : Int) + 1))][j]? = some u → ((wr.alloc (Obj.cells #[Value.int .i64 x1, .string x2, .int .i64 (x3 + ((a.size : Int) + 1))] 32)).alloc (Obj.cells #[Value.int .i64 x1, .string x2, .int .i64 (x3 + ((a.size : Int) + 1))] 32)).cell? ((⟨wr.heap.size + 1, 0, none⟩ : Addr).add j) = some u := by
            have := cell_new3 (wr.alloc (Obj.cells #[Value.int .i64 x1, .string x2, .int .i64 (x3 + ((a.size : Int) + 1))] 32)) 32 (Value.int .i64 x1) (.string x2) (.int .i64 (x3 + ((a.size : Int) + 1)))
            rwa [hW1] at this
          have hge := hbel.size
          rw [hW0] at hge
          have HNEW := hide hnew
          have HGE := hide hge
          clear hnew hge
          go_wp2_with (at_builtin; refine wpList_append_own _ rfl _ _ 23 rfl (w4.heap.size + 1) 32 i0 (.agg #[.int .i64 0, .string ByteArray.empty, .int .i64 0]) 3 32 Try.underlying23 hi hz0 hz1 hz2 rfl (by decide) _ _ _ rfl ((hown.alloc _).alloc _) ⟨wr.heap.size + 1, 0, none⟩ 1 1 [.int .i64 x1, .string x2, .int .i64 (x3 + ((a.size : Int) + 1))] rfl rfl ?c1 ?c2 ?c3 ?c4 ?c5 ?_)
          case c1 => exact HNEW.out
          case c2 => intro u hu; simp at hu; rcases hu with rfl | rfl | rfl <;> rfl
          case c3 => unfold maxLen; omega
          case c4 => omega
          case c5 => have := HGE.out; simp; omega
          intro v2 wB hownB hgrowB _
          have hb' := ((hbel.alloc (by have := HGE.out; omega) (Obj.cells #[Value.int .i64 x1, .string x2, .int .i64 (x3 + ((a.size : Int) + 1))] 32)).alloc (by have := HGE.out; rw [hW1]; omega) (Obj.cells #[Value.int .i64 x1, .string x2, .int .i64 (x3 + ((a.size : Int) + 1))] 32)).grown hgrowB (by have := HGE.out; simp; omega) (own_base hown)
          have ho : wB.ownsRow (w4.heap.size + 1) 32 3 v2 (ta.length + (k + 1)) (flat (ta ++ (tb.map (shR ((a.size : Int) + 1))).take (k + 1))) := by
            rw [List.take_succ_eq_append_getElem (by rw [List.length_map]; exact hlt), List.getElem_map, ← List.append_assoc, flat_append, ← HXX.out]
            exact hownB
          have HO := hide ho
          have HB' := hide hb'
          clear hownB hgrowB hown hbel ho hb' HNEW
          go_wp2
          go_roundw
          case rel => exact ⟨k + 1, hlt, by go_num, HO.out, HB'.out⟩
          case measure => simp [intOf]; omega
        · obtain rfl : k = tb.length := by omega
          rw [List.take_of_length_le (by rw [List.length_map]; exact Nat.le_refl _)] at hown
          have hTK := Toks.of_row (ts := ta ++ tb.map (shR ((a.size : Int) + 1))) hown (by simp)
          have hTZ := HTZ4.out.below (by rw [hW0]; exact hbel)
          have hz0' := (hbel.cell (p := ⟨w4.heap.size, 0, none⟩) (Nat.lt_succ_self _)).trans (show (w4.alloc (Obj.cells #[Value.int .i64 0, .int .i64 0] 26)).cell? ⟨w4.heap.size, 0, none⟩ = some (.int .i64 0) by simp)
          have hz1' := (hbel.cell (p := ⟨w4.heap.size, 1, none⟩) (Nat.lt_succ_self _)).trans (show (w4.alloc (Obj.cells #[Value.int .i64 0, .int .i64 0] 26)).cell? ⟨w4.heap.size, 1, none⟩ = some (.int .i64 0) by simp)
          have HS := hide (lawSame_any _ _ _ _ wr hTZ hTK (by simp; omega))
          rw [allR_self sameKTA kta_self] at HS
          have HBZ := hide (HB4.out.trans (hbel.mono (Nat.le_trans HB4.out.size (by rw [hW0]; exact Nat.le_refl _))))
          clear hown hbel hTK hTZ hlt
          go_wp2_with fail
          refine HS.out.mono ?_
          rintro e w5 ⟨rfl, n, hn⟩
          have HB5 : Hid (Below w.heap.size w w5) := by rw [hn]; exact bl_drewN HBZ.out n
          clear hn
          go_wp2
          go_ret
          exact ⟨rfl, HB5.out⟩
    · obtain ⟨h1', h2', h3'⟩ := ans_bad badb
      obtain ⟨f1, f2, hf⟩ : ∃ f1 f2, (ans b.data.toList).2 = (f1, f2) := ⟨_, _, rfl⟩
      rw [hf] at HTB h2'
      rw [oka] at HTA
      have hf1 : ¬ f1 = 0 := h2'
      rw [show fltV (0, 0) = .agg #[.int .i64 0, .int .i64 0] from rfl] at HTA
      rw [show fltV (f1, f2) = .agg #[.int .i64 f1, .int .i64 f2] from rfl] at HTB
      clear e1 e2 s1 s2 l1 l2 hr2 oka badb h1 h2 h1' h2' h3' hf HTZ
      go_enter Try.func8, Try.ntmps8
      go_wp2_with fail
      refine (HWK.out _ HM.out).mono ?_
      rintro e w1 ⟨rfl, hb1⟩
      have HB1 := hide hb1
      clear hb1
      go_wp2_with fail
      refine (HTA.out _ (HM.out.below HB1.out)).mono ?_
      rintro e w2 ⟨va, rfl, hta, hb2⟩
      have HB2 := hide (bl_alloc (bl_trans HB1.out hb2) (Obj.cells #[.int .i64 0, .int .i64 0] 26))
      clear hb2 hta
      go_wp2_with fail
      refine (HTB.out _ (HM.out.below HB2.out)).mono ?_
      rintro e w3 ⟨vb, rfl, htb, hb3⟩
      have hb3' := bl_alloc hb3 (Obj.cells #[.int .i64 f1, .int .i64 f2] 26)
      have HB3 := hide (bl_trans HB2.out hb3')
      have hlt2 : w2.heap.size < (w2.alloc (Obj.cells #[Value.int .i64 0, .int .i64 0] 26)).heap.size := by simp
      have y0 := hb3'.cell (p := ⟨w2.heap.size, 0, none⟩) hlt2
      have y1 := hb3'.cell (p := ⟨w2.heap.size, 1, none⟩) hlt2
      clear hb3 hb3' htb hlt2
      simp at y0 y1
      go_wp2
      all_goals (go_ret; exact ⟨rfl, HB3.out⟩)
  · obtain ⟨h1', h2', h3'⟩ := ans_bad bad
    obtain ⟨f1, f2, hf⟩ : ∃ f1 f2, (ans a.data.toList).2 = (f1, f2) := ⟨_, _, rfl⟩
    obtain ⟨g1, g2, hg⟩ : ∃ g1 g2, (ans b.data.toList).2 = (g1, g2) := ⟨_, _, rfl⟩
    rw [hf] at HTA h2'
    rw [hg] at HTB
    have hf1 : ¬ f1 = 0 := h2'
    rw [show fltV (f1, f2) = .agg #[.int .i64 f1, .int .i64 f2] from rfl] at HTA
    rw [show fltV (g1, g2) = .agg #[.int .i64 g1, .int .i64 g2] from rfl] at HTB
    clear e1 e2 s1 s2 l1 l2 hr2 bad h1 h2 h1' h2' h3' hf hg HTZ
    go_enter Try.func8, Try.ntmps8
    go_wp2_with fail
    refine (HWK.out _ HM.out).mono ?_
    rintro e w1 ⟨rfl, hb1⟩
    have HB1 := hide hb1
    clear hb1
    go_wp2_with fail
    refine (HTA.out _ (HM.out.below HB1.out)).mono ?_
    rintro e w2 ⟨va, rfl, hta, hb2⟩
    have HB2 := hide (bl_alloc (bl_trans HB1.out hb2) (Obj.cells #[.int .i64 f1, .int .i64 f2] 26))
    clear hb2 hta
    go_wp2_with fail
    refine (HTB.out _ (HM.out.below HB2.out)).mono ?_
    rintro e w3 ⟨vb, rfl, htb, hb3⟩
    have hb3' := bl_alloc hb3 (Obj.cells #[.int .i64 g1, .int .i64 g2] 26)
    have HB3 := hide (bl_trans HB2.out hb3')
    have hlt2 : w2.heap.size < (w2.alloc (Obj.cells #[Value.int .i64 f1, .int .i64 f2] 26)).heap.size := by simp
    have y0 := hb3'.cell (p := ⟨w2.heap.size, 0, none⟩) hlt2
    have y1 := hb3'.cell (p := ⟨w2.heap.size, 1, none⟩) hlt2
    clear hb3 hb3' htb hlt2
    simp at y0 y1
    go_wp2
    all_goals (go_ret; exact ⟨rfl, HB3.out⟩)
end Go.Proofs.Ytjiencifdpopdaa
