/- 'append' at a step of a region that draws its order, where nothing may be appended; the row of an empty literal; a program in a box. No conditions beyond those that each statement names. -/
import Derived.Test.YtdccodnompalbaaKp
namespace Go.Proofs.Ytdccodnompalbaa
open Go.RowKit

theorem step_append_any {P : Program} {w : World} {ops : Array Oper} {o : Oper} {a : Act} {K : Act → World → Prop} {Q : Exit → Act → World → Prop} {E : Prop} (hgd : o.guard = none) (s x : Operand) (t : TypeId)
    (ho : o.op = .call { callee := .builtin .append, args := #[s, x], argTypes := #[t, t] })
    (base : Nat) (e : TypeId) (i : TypeInfo) (z : Value) (size bytes : Nat) (ht : P.underlying t = some (.slice e)) (hi : P.info? e = some i) (hz : i.zero = some z)
    (hsize : i.size = size) (hby : i.bytes = bytes) (hzs : z.cells.size = size) (hsz : 0 < size)
    (v : Value) (n : Nat) (xs : List Value) (hs : a.eval s = v) (hown : w.ownsRow base e size v n xs)
    (ad : Addr) (m c : Nat) (news : List Value) (hx : a.eval x = .slice (some ad) m c) (hl : news.length = m * size) (hnews : ∀ j u, news[j]? = some u → w.cell? (ad.add j) = some u) (h1 : ∀ u ∈ news, u.oneCell' = true)
    (h63 : n + m ≤ maxLen) (hbytes : (n + m) * bytes ≤ 140737488355328) (hbase : base ≤ w.heap.size)
    (h : ∀ v' w', w'.ownsRow base e size v' (n + m) (xs ++ news) → w.grownBy w' v.ownBlock → K (a.put o.dst v') w') :
    if Region.wanted o (yielded ops a.tmps) = true then Oper.wp P o a w K Q else E := by
  have hw : Region.wanted o (yielded ops a.tmps) = true := by simp [Region.wanted, hgd]
  rw [if_pos hw]
  obtain ⟨v', w', hr, h2, h3, _⟩ := run_append_own (P := P) (w := w) base t o.type e i z size bytes ht hi hz hsize hby hzs hsz v n xs hown ad m c news hl hnews h1 h63 hbytes hbase
  unfold Oper.wp execOp
  simp only [ho, resolve, invoke, builtin, Sem.run_bind, Sem.run_pure, Result.andThen_ok, List.map_toArray, List.map_cons, List.map_nil, hs, hx, hr]
  exact h v' w' h2 h3

/-- The row of an empty literal. -/
theorem lit0 (X : World) {b : Nat} (hb : b ≤ X.heap.size) : (X.alloc (.cells #[] 24)).ownsRow b 24 5 (.slice (some ⟨X.heap.size, 0, none⟩) 0 0) 0 [] := by
  have := World.ownsRow_lit (base := b) (e := 24) (size := 5) X #[] 0 hb (Nat.zero_le _) rfl
  exact this
/-- The nodes of a stretch of kids, at their address. -/
theorem stretch {W : World} {g off len : Nat} {kid : Nat → NT} (h : ∀ i, i < len → Cells5 W g (off + i * 5) (kid i)) (a m : Nat) (hm : a + m ≤ len) :
    ∀ j u, (flatV (fun i => kid (a + i)) m)[j]? = some u → W.cell? ⟨g, off + a * 5 + j, none⟩ = some u := by
  intro j u hu
  have hj : j < m * 5 := by
    have := (List.getElem?_eq_some_iff.1 hu).1
    rwa [flatV_len] at this
  have hq : j / 5 < m := by omega
  obtain ⟨c0, c1, c2, c3, c4⟩ := h (a + j / 5) (by omega)
  obtain ⟨f0, f1, f2, f3, f4⟩ := flat5_at ((List.range m).map (fun i => kid (a + i))) (j / 5) (kid (a + j / 5)) (by rw [List.getElem?_map, List.getElem?_range hq]; rfl)
  have e : ∀ r, j % 5 = r → off + a * 5 + j = off + (a + j / 5) * 5 + r ∧ j = j / 5 * 5 + r := fun r hr => by omega
  have key : ∀ (r : Nat) (v : Value), j % 5 = r → (flatV (fun i => kid (a + i)) m)[j / 5 * 5 + r]? = some v → W.cell? ⟨g, off + (a + j / 5) * 5 + r, none⟩ = some v → W.cell? ⟨g, off + a * 5 + j, none⟩ = some u := fun r v hr h1 h2 => by
    obtain ⟨e1, e2⟩ := e r hr
    rw [e1]
    have : (flatV (fun i => kid (a + i)) m)[j]? = some v := (congrArg (fun k => (flatV (fun i => kid (a + i)) m)[k]?) e2).trans h1
    rw [hu] at this
    cases this
    exact h2
  have hr : j % 5 = 0 ∨ j % 5 = 1 ∨ j % 5 = 2 ∨ j % 5 = 3 ∨ j % 5 = 4 := by omega
  rcases hr with hr | hr | hr | hr | hr
  · exact key 0 _ hr f0 c0
  · exact key 1 _ hr f1 c1
  · exact key 2 _ hr f2 c2
  · exact key 3 _ hr f3 c3
  · exact key 4 _ hr f4 c4
theorem flatV_add (V : Nat → NT) (a : Nat) : ∀ b, flatV V (a + b) = flatV V a ++ flatV (fun i => V (a + i)) b
  | 0 => by rw [Nat.add_zero]; show _ = _ ++ []; rw [List.append_nil]
  | b + 1 => by rw [← Nat.add_assoc, flatV_succ, flatV_succ, flatV_add V a b, List.append_assoc]
theorem flatV_one {W : World} {b : Nat} (V : Nat → NT) (n : Nat) (h : ∀ i, i < n → Lies b W (V i)) : ∀ u ∈ flatV V n, u.oneCell' = true := by
  refine flat5_one b W _ fun T hT => ?_
  obtain ⟨i, hi, rfl⟩ := List.mem_map.1 hT
  exact h i (List.mem_range.1 hi)
/-- A program in a box, the items in a row. -/
structure ProgIn (w : World) (b g n : Nat) (V : Nat → NT) (W : World) : Prop where
  below : Below b w W
  cells : ∃ p c, Cells5 W g 0 (.mk 1 ⟨#[]⟩ 0 (.slice p n c) n V 0) ∧ W.ownsRow b 24 5 (.slice p n c) n (flatV V n)
theorem ProgIn.new {w W W' : World} {b g n : Nat} {V : Nat → NT} (h : ProgIn w b g n V W) (hb : Below W.heap.size W W') (hbb : b ≤ W.heap.size) : ProgIn w b g n V W' := by
  obtain ⟨p, c, h1, h2⟩ := h.cells
  exact ⟨h.below.trans (hb.mono hbb), p, c, h1.below hb (World.block_lt_of_cell? _ _ h1.1), row_below h2 hb⟩
/-- It lies there, where the items do. -/
theorem prog_lies {W : World} {b n c : Nat} {p : Option Addr} {V : Nat → NT} (h : W.ownsRow b 24 5 (.slice p n c) n (flatV V n)) (hV : ∀ i, i < n → Lies W.heap.size W (V i)) : Lies W.heap.size W (.mk 1 ⟨#[]⟩ 0 (.slice p n c) n V 0) := by
  have h0 := row_tree (m := 0) h (Nat.zero_le _) (fun i hi => (hV i hi).liesP.carry (fun _ _ _ => Nat.zero_le _) (fun _ _ _ hv => hv)) (row_cap h) 1 ⟨#[]⟩ 0 0
  exact h0.lies
end Go.Proofs.Ytdccodnompalbaa
