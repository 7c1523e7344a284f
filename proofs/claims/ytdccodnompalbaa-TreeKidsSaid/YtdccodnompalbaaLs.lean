/- 'borrowdaleref03.List': all nodes in order, and how deep each lies, by the document's own answer. No conditions beyond the bounds that each statement names. -/
import Derived.Test.YtdccodnompalbaaA
import Derived.Laws.AppendOwnNone
import Derived.OwnWalk
namespace Go.Proofs.Ytdccodnompalbaa
open Go.RowKit Go.Shelf

/-- 'append(out, x..)', whatever x is. -/
theorem wpList_append_any {P : Program} {w : World} {ops : Array Oper} {rest : List Oper} {o : Oper} {a : Act} {Q : Exit → Act → World → Prop} (hgd : o.guard = none) (s x : Operand) (t : TypeId)
    (ho : o.op = .call { callee := .builtin .append, args := #[s, x], argTypes := #[t, t] })
    (base : Nat) (e : TypeId) (i : TypeInfo) (z : Value) (size bytes : Nat) (ht : P.underlying t = some (.slice e)) (hi : P.info? e = some i) (hz : i.zero = some z)
    (hsize : i.size = size) (hby : i.bytes = bytes) (hzs : z.cells.size = size) (hsz : 0 < size)
    (v : Value) (n : Nat) (xs : List Value) (hs : a.eval s = v) (hown : w.ownsRow base e size v n xs)
    (p : Option Addr) (m c : Nat) (news : List Value) (hx : a.eval x = .slice p m c) (hl : news.length = m * size) (hnone : p = none → m = 0 ∧ c = 0)
    (hnews : ∀ ad, p = some ad → ∀ j u, news[j]? = some u → w.cell? (ad.add j) = some u) (h1 : ∀ u ∈ news, u.oneCell' = true)
    (h63 : n + m ≤ maxLen) (hbytes : (n + m) * bytes ≤ 140737488355328) (hbase : base ≤ w.heap.size)
    (h : ∀ v' w', w'.ownsRow base e size v' (n + m) (xs ++ news) → w.grownBy w' v.ownBlock → wpList P ops Q rest (a.put o.dst v') w') : wpList P ops Q (o :: rest) a w := by
  cases p with
  | none =>
    obtain ⟨rfl, rfl⟩ := hnone rfl
    have hnil : news = [] := List.length_eq_zero_iff.1 (by rw [hl, Nat.zero_mul])
    subst hnil
    refine wpList_append_own_none hgd s x t ho base e i size ht hi v n xs hs hown hx (h v w (by rw [List.append_nil]; exact hown) ?_)
    exact ⟨rfl, rfl, rfl, Nat.le_refl _, fun _ _ _ => rfl⟩
  | some ad => exact wpList_append_own _ hgd s x t ho base e i z size bytes ht hi hz hsize hby hzs hsz v n xs hs hown ad m c news hx hl (hnews ad rfl) h1 h63 hbytes hbase (fun v' w' k1 k2 _ => h v' w' k1 k2)


/-- All nodes in order, each with its depth. -/
def NT.pre : NT → Int → List (NT × Int)
  | .nul, d => [(.nul, d)]
  | .mk k t n s len kid a, d => (.mk k t n s len kid a, d) :: flatN (fun i => (kid i).pre (d + 1)) len
theorem NT.pre_eq (T : NT) (d : Int) : T.pre d = (T, d) :: flatN (fun i => (T.kid i).pre (d + 1)) T.len := by cases T <;> rfl
theorem flatN_map {α β : Type} (f : Nat → List α) (g : α → β) : ∀ n, (flatN f n).map g = flatN (fun i => (f i).map g) n
  | 0 => rfl
  | n + 1 => by simp [flatN, flatN_map f g n]
theorem flatN_congr {α : Type} {f g : Nat → List α} : ∀ {n : Nat}, (∀ i, i < n → f i = g i) → flatN f n = flatN g n
  | 0, _ => rfl
  | n + 1, h => by simp only [flatN]; rw [flatN_congr fun i hi => h i (by omega), h n (by omega)]
/-- The roles left out. -/
theorem pres_pre : ∀ (T : NT) (d r : Int), (T.pres d r).map (fun x => (x.1, x.2.1)) = T.pre d := by
  intro T
  induction T using NT.ind with
  | _ T ih =>
    intro d r
    rw [NT.pres_eq, NT.pre_eq, List.map_cons, flatN_map]
    rw [flatN_congr fun i hi => ih i hi (d + 1) (roleM T.k r i)]
theorem NT.pre_len (T : NT) (d : Int) : (T.pre d).length = T.size := by rw [← pres_pre T d 0, List.length_map, NT.pres_len]

def flat5 : List NT → List Value
  | [] => []
  | T :: r => .int .i64 T.k :: .string T.t :: .int .i64 T.n :: T.s :: .int .i64 T.a :: flat5 r
theorem flat5_append : ∀ (a b : List NT), flat5 (a ++ b) = flat5 a ++ flat5 b
  | [], _ => rfl
  | x :: r, b => by simp [flat5, flat5_append r b]
theorem flat5_length : ∀ l : List NT, (flat5 l).length = l.length * 5
  | [] => rfl
  | x :: r => by simp only [flat5, List.length_cons, flat5_length r]; omega
theorem flat5_at : ∀ (l : List NT) (i : Nat) (T : NT), l[i]? = some T → (flat5 l)[i * 5]? = some (.int .i64 T.k) ∧ (flat5 l)[i * 5 + 1]? = some (.string T.t) ∧ (flat5 l)[i * 5 + 2]? = some (.int .i64 T.n) ∧ (flat5 l)[i * 5 + 3]? = some T.s ∧ (flat5 l)[i * 5 + 4]? = some (.int .i64 T.a)
  | [], i, T, h => by simp at h
  | x :: r, 0, T, h => by simp at h; subst h; exact ⟨rfl, rfl, rfl, rfl, rfl⟩
  | x :: r, i + 1, T, h => by
    have := flat5_at r i T (by simpa using h)
    have e : ∀ c, (i + 1) * 5 + c = (i * 5 + c) + 1 + 1 + 1 + 1 + 1 := fun c => by omega
    refine ⟨?_, ?_, ?_, ?_, ?_⟩
    · rw [show (i + 1) * 5 = (i * 5) + 1 + 1 + 1 + 1 + 1 by omega]; simpa [flat5] using this.1
    · rw [e]; simpa [flat5] using this.2.1
    · rw [e]; simpa [flat5] using this.2.2.1
    · rw [e]; simpa [flat5] using this.2.2.2.1
    · rw [e]; simpa [flat5] using this.2.2.2.2
theorem flat5_one (b : Nat) (w : World) : ∀ (l : List NT), (∀ T ∈ l, Lies b w T) → ∀ u ∈ flat5 l, u.oneCell' = true
  | [], _, u, h => absurd h List.not_mem_nil
  | T :: r, hl, u, h => by
    obtain ⟨p, c, hs, _⟩ := (hl T (by simp)).eq
    rw [flat5] at h
    rcases List.mem_cons.1 h with rfl | h
    · rfl
    rcases List.mem_cons.1 h with rfl | h
    · rfl
    rcases List.mem_cons.1 h with rfl | h
    · rfl
    rcases List.mem_cons.1 h with rfl | h
    · rw [hs]; rfl
    rcases List.mem_cons.1 h with rfl | h
    · rfl
    exact flat5_one b w r (fun T hT => hl T (by simp [hT])) u h

theorem row_below {w w' : World} {b : Nat} {e : TypeId} {size : Nat} {v : Value} {n : Nat} {xs : List Value} (h : w.ownsRow b e size v n xs) (hb : Below w.heap.size w w') : w'.ownsRow b e size v n xs :=
  h.kept (row := none) ⟨hb.os, hb.tape, hb.output, hb.size, fun k hk _ => hb.block k hk⟩ (by cases hv : v.ownBlock with | none => exact .inl rfl | some g => exact .inr (by simp))
theorem rows_apart {w : World} {b b' : Nat} {e e' : TypeId} {s s' : Nat} {v v' : Value} {n n' : Nat} {xs xs' : List Value} (h : w.ownsRow b e s v n xs) (h' : w.ownsRow b' e' s' v' n' xs') (he : e ≠ e') : v'.ownBlock = none ∨ v'.ownBlock ≠ v.ownBlock := by
  rcases h'.2 with ⟨rfl, _⟩ | ⟨g', cap', cur', rfl, _, hg', _⟩
  · exact .inl rfl
  · right
    rcases h.2 with ⟨rfl, _⟩ | ⟨g, cap, cur, rfl, _, hg, _⟩
    · simp [Value.ownBlock]
    · intro hc
      simp [Value.ownBlock] at hc
      subst hc
      rw [hg] at hg'
      cases hg'
      exact he rfl

theorem NT.pre_lies : ∀ (T : NT) (d : Int) (b : Nat) (w : World), Lies b w T → ∀ x ∈ T.pre d, Lies b w x.1 := by
  intro T
  induction T using NT.ind with
  | _ T ih =>
    intro d b w hL x hx
    rw [NT.pre_eq] at hx
    rcases List.mem_cons.1 hx with rfl | hx
    · exact hL
    · obtain ⟨_, _, _, _, h3⟩ := hL.eq
      have : ∀ n, n ≤ T.len → x ∈ flatN (fun i => (T.kid i).pre (d + 1)) n → Lies b w x.1 := by
        intro n
        induction n with
        | zero => intro _ h; simp [flatN] at h
        | succ n ihn =>
          intro hn h
          simp only [flatN, List.mem_append] at h
          rcases h with h | h
          · exact ihn (by omega) h
          · obtain ⟨_, _, _, _, h4⟩ := h3 (by omega)
            exact ih n (by omega) (d + 1) b w (h4 n (by omega)).2 x h
      exact this T.len (Nat.le_refl _) hx

/-- The two slices. -/
def LP (b : Nat) (w : World) (v d : Value) (l : List (NT × Int)) : Prop :=
  w.ownsRow b 24 5 v l.length (flat5 (l.map (·.1))) ∧ w.ownsRow b 3 1 d l.length (l.map fun x => .int .i64 x.2)

theorem info24 : (Try.prog.info? 24).map (fun i => (i.zero, i.size, i.bytes)) = some (some (.agg #[.int .i64 0, .string ByteArray.empty, .int .i64 0, .slice none 0 0, .int .i64 0]), 5, 64) := by kernel_rfl
theorem info3 : (Try.prog.info? 3).map (fun i => (i.zero, i.size, i.bytes)) = some (some (.int .i64 0), 1, 8) := by kernel_rfl

theorem row_mono {w : World} {b b' : Nat} {e : TypeId} {size : Nat} {v : Value} {n : Nat} {xs : List Value} (h : w.ownsRow b e size v n xs) (hb : b' ≤ b) : w.ownsRow b' e size v n xs := by
  obtain ⟨h1, h2⟩ := h
  refine ⟨h1, h2.imp id ?_⟩
  rintro ⟨g, cap, cur, h3, h4, h5⟩
  exact ⟨g, cap, cur, h3, Nat.le_trans hb h4, h5⟩
theorem LP.mono {w : World} {b b' : Nat} {v d : Value} {l : List (NT × Int)} (h : LP b w v d l) (hb : b' ≤ b) : LP b' w v d l := ⟨row_mono h.1 hb, row_mono h.2 hb⟩
theorem row_shape {w : World} {b : Nat} {e : TypeId} {size : Nat} {v : Value} {n : Nat} {xs : List Value} (h : w.ownsRow b e size v n xs) :
    ∃ (p : Option Addr) (c : Nat), v = .slice p n c ∧ (p = none → n = 0 ∧ c = 0) ∧ ∀ ad, p = some ad → ∀ j u, xs[j]? = some u → w.cell? (ad.add j) = some u := by
  have hc := h
  rcases h.2 with ⟨rfl, rfl⟩ | ⟨g, cap, cur, rfl, _⟩
  · exact ⟨none, 0, rfl, fun _ => ⟨rfl, rfl⟩, fun ad h => by cases h⟩
  · exact ⟨some ⟨g, 0, none⟩, cap, rfl, (fun h => by cases h), fun ad h => by cases h; exact hc.cells rfl⟩
theorem list_first (w : World) (T : NT) (d : Int) :
    LP (w.heap.size + 1) (((w.alloc (boxO T)).alloc (boxO T)).alloc (.cells #[.int .i64 d] 3)) (.slice (some ⟨w.heap.size + 1, 0, none⟩) 1 1) (.slice (some ⟨w.heap.size + 1 + 1, 0, none⟩) 1 1) [(T, d)] := by
  have h1 := World.ownsRow_lit (base := w.heap.size + 1) (e := 24) (size := 5) (w.alloc (boxO T)) #[.int .i64 T.k, .string T.t, .int .i64 T.n, T.s, .int .i64 T.a] 1 (by simp) (by decide) rfl
  have h2 := World.ownsRow_lit (base := w.heap.size + 1) (e := 3) (size := 1) ((w.alloc (boxO T)).alloc (boxO T)) #[.int .i64 d] 1 (by simp) (by decide) rfl
  refine ⟨?_, ?_⟩
  · have := h1.alloc (.cells #[.int .i64 d] 3)
    rw [World.size_alloc] at this
    exact this
  · rw [World.size_alloc, World.size_alloc] at h2
    exact h2

set_option maxHeartbeats 4000000 in
theorem list_any : ∀ (T : NT) (d : Int) (w : World), Lies w.heap.size w T → T.sized maxLen → T.size ≤ 1000000 → 0 ≤ d → d + T.depth ≤ 1000000 →
    Calls Try.prog 21 #[T.val, .int .i64 d] w fun e w' => ∃ v u, e = .returned (.tuple #[v, u]) ∧ LP w.heap.size w' v u (T.pre d) ∧ Below w.heap.size w w' := by
  intro T
  induction T using NT.ind with
  | _ T ih =>
    intro d w hL hS hz hd hd2
    have hsz := NT.size_eq T
    have hdp := NT.depth_eq T
    have HP := hide (NT.pre_eq T d)
    obtain ⟨p, c, hs, ⟨hlc, _⟩, hK⟩ := hL.eq
    obtain ⟨ht, hl, hS'⟩ := (NT.sized_eq _ _).1 hS
    have hl' : T.len ≤ 9223372036854775807 := hl
    have hF := list_first w T d
    have hLF := fun (x : NT × Int) hx => NT.pre_lies T d w.heap.size w hL x hx
    obtain ⟨W1, hW1⟩ : ∃ W1, ((w.alloc (boxO T)).alloc (boxO T)).alloc (.cells #[.int .i64 d] 3) = W1 := ⟨_, rfl⟩
    obtain ⟨Wb, hWb⟩ : ∃ Wb, w.alloc (boxO T) = Wb := ⟨_, rfl⟩
    have hbb : Below w.heap.size w Wb := by rw [← hWb]; exact bl_alloc (Below.refl _ _) _
    have hsb : Wb.heap.size = w.heap.size + 1 := by rw [← hWb]; simp
    have hB1 : Below (w.heap.size + 1) Wb W1 := by rw [← hW1, hWb, ← hsb]; exact two_alloc _ _ _
    have b3 : Wb.cell? ⟨w.heap.size, 3, none⟩ = some (.slice p T.len c) := by rw [← hWb, ← hs]; exact (box_new w T).2.2.2.1
    have hs1 : W1.heap.size = w.heap.size + 3 := by rw [← hW1]; simp
    rw [hW1] at hF
    obtain ⟨FL, hFL⟩ : ∃ FL : Nat → List (NT × Int), FL = fun i => (T.kid i).pre (d + 1) := ⟨_, rfl⟩
    rw [← hFL] at HP
    have HFlen : Hid (∀ j, j ≤ T.len → (flatN FL j).length ≤ T.size) := hide fun j hj => by
      rw [flatN_len, sumN_congr (g := fun i => (T.kid i).size) (fun i _ => by rw [hFL]; exact NT.pre_len _ _)]
      have : sumN (fun i => (T.kid i).size) j ≤ sumN (fun i => (T.kid i).size) T.len := by
        have : ∀ n, sumN (fun i => (T.kid i).size) j ≤ sumN (fun i => (T.kid i).size) (j + n) := by
          intro n
          induction n with
          | zero => exact Nat.le_refl _
          | succ n ihn => rw [← Nat.add_assoc]; simp only [sumN]; omega
        have := this (T.len - j)
        rwa [show j + (T.len - j) = T.len by omega] at this
      omega
    have HIH : Hid (∀ j, j < T.len → ∀ w', Below w.heap.size w w' → Calls Try.prog 21 #[(T.kid j).val, .int .i64 (d + 1)] w' fun e w'' => ∃ v u, e = .returned (.tuple #[v, u]) ∧ LP w'.heap.size w'' v u (FL j) ∧ Below w'.heap.size w' w'') := hide fun j hj w' hb => by
      obtain ⟨_, _, _, _, hC⟩ := hK (by omega)
      rw [hFL]
      have h1 : (T.kid j).size ≤ sumN (fun i => (T.kid i).size) T.len := sumN_le (f := fun i => (T.kid i).size) hj
      have h2 : (T.kid j).depth ≤ maxN (fun i => (T.kid i).depth) T.len := maxN_le (f := fun i => (T.kid i).depth) hj
      exact ih j hj (d + 1) w' (((hC j hj).2.below hb).mono hb.size) (hS' j hj) (by omega) (by omega) (by omega)
    have HKL : Hid (∀ j, j < T.len → ∀ x ∈ FL j, Lies w.heap.size w x.1) := hide fun j hj x hx => by
      obtain ⟨_, _, _, _, hC⟩ := hK (by omega)
      rw [hFL] at hx
      exact NT.pre_lies _ _ _ _ (hC j hj).2 x hx
    have hC : Hid (T.len ≠ 0 → ∃ g off, p = some { block := g, off := off } ∧ g < w.heap.size ∧ ∀ (i : Nat), i < T.len → Cells5 w g (off + i * 5) (T.kid i) ∧ Lies w.heap.size w (T.kid i)) := hide hK
    have hw1 : wrap64 (d + 1) = d + 1 := IntWalk.wrap64_in _ (by omega)
    have HF := hide hF
    have HB1 := hide hB1
    have HS1 := hide hs1
    have HZ := hide hz
    have HLF := hide hLF
    simp only [boxO, hs] at hW1
    simp only [NT.val, hs]
    have HB0 := hide b3
    have HBB := hide hbb
    have HSB := hide hsb
    clear hL hS hK hS' ih hF hB1 hsz hdp hd hd2 ht hFL hLF hs1 hz hWb b3 hbb hsb
    go_enter Try.func21, Try.ntmps21
    go_wp2
    go_loopw [6, 7, 8] (fun vl vd i wr => ∃ j : Nat, j ≤ T.len ∧ i = .int .i64 j ∧ LP (w.heap.size + 1) wr vl vd ((T, d) :: flatN FL j) ∧ Below (w.heap.size + 1) Wb wr) (fun _ _ i _ => T.len - (intOf i).toNat)
    case atStart => exact ⟨0, Nat.zero_le _, rfl, HF.out, HB1.out⟩
    case round =>
      obtain ⟨j, hj, rfl, hlp, hb⟩ := hrel
      have q := (hb.cell (p := ⟨w.heap.size, 3, none⟩) (by show w.heap.size < w.heap.size + 1; omega)).trans HB0.out
      have HLP := hide hlp
      have HB := hide hb
      have HBw := hide (HBB.out.trans (hb.mono (show w.heap.size ≤ w.heap.size + 1 by omega)))
      have HGE := hide (show w.heap.size + 1 ≤ wr.heap.size by have := hb.size; have := HSB.out; omega)
      clear hlp hb
      rcases Nat.lt_or_ge j T.len with hlt | hge
      · have hi' : (j : Int) < (T.len : Int) := by omega
        obtain ⟨g, off, rfl, hg, hCC⟩ := hC.out (by omega)
        obtain ⟨c0, c1, c2, c3, c4⟩ := ((hCC j hlt).1.below HBw.out hg).nat
        have hc := HIH.out j hlt wr HBw.out
        obtain ⟨p', c', hs', _, _⟩ := (hCC j hlt).2.eq
        rw [hs'] at c3
        simp only [NT.val, hs'] at hc
        clear hCC hs'
        obtain ⟨i4, hi4, hz4, hs4, hb4⟩ := info_parts info24
        obtain ⟨i3, hi3, hz3, hs3, hb3⟩ := info_parts info3
        have HNJ := hide (show ((T, d) :: flatN FL j).length + (FL j).length ≤ 1000001 by
          have := HFlen.out (j + 1) (by omega)
          rw [show flatN FL (j + 1) = flatN FL j ++ FL j from rfl, List.length_append] at this
          have := HZ.out
          rw [List.length_cons]; omega)
        go_wp2_with (first
          | (go_at_call 21; refine hc.mono ?_; clear hc; rintro e w2 ⟨v, u, rfl, hlp2, hb2⟩; have HLP2 := hide hlp2; have HB2 := hide hb2; obtain ⟨pv, cv, rfl, hpv, hcv⟩ := row_shape hlp2.1; have HPV := hide hpv; have HCV := hide hcv; obtain ⟨pu, cu, rfl, hpu, _⟩ := row_shape hlp2.2; have HR1 := hide (row_below HLP.out.1 hb2); have HR2 := hide (row_below HLP.out.2 hb2); have HPU := hide hpu; clear hlp2 hb2 hpv hcv hpu)
          | (at_builtin; refine wpList_append_any rfl _ _ 22 rfl (w.heap.size + 1) 24 i4 (.agg #[.int .i64 0, .string ByteArray.empty, .int .i64 0, .slice none 0 0, .int .i64 0]) 5 64 Try.underlying22 hi4 hz4 hs4 hb4 rfl (by decide) _ _ _ rfl HR1.out pv (FL j).length cv (flat5 ((FL j).map (·.1))) rfl (by rw [flat5_length, List.length_map]) HPV.out HCV.out ?c1 ?c2 ?c3 ?c4 ?_))
        case c1 => exact flat5_one w.heap.size w _ (fun X hX => by
          obtain ⟨x, hx, rfl⟩ := List.mem_map.1 hX
          exact HKL.out j hlt x hx)
        case c2 => unfold maxLen; have := HNJ.out; omega
        case c3 => have := HNJ.out; omega
        case c4 => have := HB2.out.size; have := HGE.out; omega
        intro v3 w3 hown3 hgrow3
        have HO3 := hide hown3
        have hd3 := HR2.out.kept hgrow3 (rows_apart HR1.out HR2.out (by decide))
        have hu3 := HLP2.out.2.kept hgrow3 (rows_apart HR1.out HLP2.out.2 (by decide))
        have HD3 := hide hd3
        have HB3 := hide (((HB.out.trans (HB2.out.mono HGE.out)).grown hgrow3 (by have := HB2.out.size; have := HGE.out; omega) (fun k hk => (HR1.out.lt k hk).1)))
        have HCU := hide (show ∀ ad, pu = some ad → ∀ j' u', ((FL j).map fun x => Value.int .i64 x.2)[j']? = some u' → w3.cell? (ad.add j') = some u' from by
          obtain ⟨p1, c1', e1, _, h1⟩ := row_shape hu3
          cases e1
          exact h1)
        have HG3 := hide (show w.heap.size + 1 ≤ w3.heap.size by have := hgrow3.size; have := HB2.out.size; have := HGE.out; omega)
        clear hown3 hgrow3 hd3 hu3
        obtain ⟨p3, c3', rfl, _, _⟩ := row_shape HO3.out
        go_wp2_with (at_builtin; refine wpList_append_any rfl _ _ 35 rfl (w.heap.size + 1) 3 i3 (.int .i64 0) 1 8 Try.underlying35 hi3 hz3 hs3 hb3 rfl (by decide) _ _ _ rfl HD3.out pu (FL j).length cu ((FL j).map fun x => Value.int .i64 x.2) rfl (by rw [List.length_map]; omega) HPU.out HCU.out ?c1 ?c2 ?c3 ?c4 ?_)
        case c1 =>
          intro u' hu'
          obtain ⟨x, _, rfl⟩ := List.mem_map.1 hu'
          rfl
        case c2 => unfold maxLen; have := HNJ.out; omega
        case c3 => have := HNJ.out; omega
        case c4 => exact HG3.out
        intro v4 w4 hown4 hgrow4
        have hv4 := HO3.out.kept hgrow4 (rows_apart HD3.out HO3.out (by decide))
        have HL4 := hide (show LP (w.heap.size + 1) w4 (.slice p3 (((T, d) :: flatN FL j).length + (FL j).length) c3') v4 ((T, d) :: flatN FL (j + 1)) from by
          refine ⟨?_, ?_⟩
          · rw [show ((T, d) :: flatN FL (j + 1)) = ((T, d) :: flatN FL j) ++ FL j from rfl, List.map_append, flat5_append, List.length_append]
            exact hv4
          · rw [show ((T, d) :: flatN FL (j + 1)) = ((T, d) :: flatN FL j) ++ FL j from rfl, List.map_append, List.length_append]
            exact hown4)
        have HB4 := hide (HB3.out.grown hgrow4 HG3.out (fun k hk => (HD3.out.lt k hk).1))
        clear hown4 hgrow4 hv4
        obtain ⟨p4, c4', rfl, _, _⟩ := row_shape HL4.out.2
        go_wp2
        go_roundw
        case rel => exact ⟨j + 1, by omega, by go_num, HL4.out, HB4.out⟩
        case measure => simp [intOf]; omega
      · have he : j = T.len := by omega
        subst he
        go_wp2
        go_ret2
        exact ⟨_, _, rfl, by rw [HP.out]; exact HLP.out.mono (by omega), HBw.out⟩
end Go.Proofs.Ytdccodnompalbaa
