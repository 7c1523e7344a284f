/- 'tree.All', asked for all: every node, copied, in order. No conditions beyond the bounds that each statement names. -/
import Derived.Test.YtdccodnompalbaaH3
namespace Go.Proofs.Ytdccodnompalbaa
open Go.RowKit Go.Shelf
attribute [local go_sem] Oper.semAt_some wide_fn
attribute [local simp] wide_fn

/-- What may turn: one box, and the row that it holds. -/
def ER (Bl : Nat) (W : World) (b : Nat) : Prop := b = Bl ∨ ∃ (a : Addr) (l c : Nat), W.cell? ⟨Bl, 0, none⟩ = some (.slice (some a) l c) ∧ a.block = b
theorem er_told (Bl D : Nat) (h : Bl < D) : Told D (ER Bl) := fun W W' b hk hb => by
  rcases hb with hb | ⟨a, l, c, h1, h2⟩
  · exact .inl hb
  · exact .inr ⟨a, l, c, (World.cell?_of_block (a := ⟨Bl, 0, none⟩) (hk Bl h)).symm.trans h1, h2⟩
theorem own_er {Bl : Nat} {W : World} {p : Option Addr} {n c b : Nat} (hc : W.cell? ⟨Bl, 0, none⟩ = some (.slice p n c)) (h : (Value.slice p n c).ownBlock = some b) : ER Bl W b := by
  cases p with
  | none => cases h
  | some a => exact .inr ⟨a, n, c, hc, by simpa [Value.ownBlock] using h⟩
theorem er_own {Bl : Nat} {W : World} {p : Option Addr} {n c b : Nat} (hc : W.cell? ⟨Bl, 0, none⟩ = some (.slice p n c)) (h : ER Bl W b) : b = Bl ∨ (Value.slice p n c).ownBlock = some b := by
  rcases h with h | ⟨a, l, c', h1, h2⟩
  · exact .inl h
  · rw [hc] at h1
    cases h1
    exact .inr (by simp [Value.ownBlock, h2])

/-- What stands between two rounds: copies of all nodes that came, in a row. -/
structure IV (w0 w2 : World) (P : Nat → Prop) (Bl Bm Y : Nat) (M : Int) (yv : Value) (pre : List (AlP P w2)) (V : Nat → NT) (p : Option Addr) (c : Nat) (W : World) : Prop where
  below : Below w0.heap.size w0 W
  box : OneC W Bl (.slice p pre.length c)
  row : W.ownsRow w2.heap.size 24 5 (.slice p pre.length c) pre.length (flatV V pre.length)
  lim : W.cell? ⟨Bm, 0, none⟩ = some (.int .i64 M)
  fy : W.cell? ⟨Y, 0, none⟩ = some yv
  keep : ∀ (q : Addr) (v : Value), P q.block → w2.cell? q = some v → W.cell? q = some v
  size : w2.heap.size ≤ W.heap.size
  each : ∀ i x, pre[i]? = some x → Copied x.1.1 (V i) ∧ LiesP (fun b => w2.heap.size ≤ b ∧ some b ≠ (Value.slice p pre.length c).ownBlock) W (V i)
section
variable {w0 w2 : World} {P : Nat → Prop} {Bl Bm Y : Nat} {M : Int} {yv : Value} {pre : List (AlP P w2)} {V : Nat → NT} {p : Option Addr} {c : Nat} {W W' : World}
theorem IV.new (h : IV w0 w2 P Bl Bm Y M yv pre V p c W) (hb : Below W.heap.size W W') : IV w0 w2 P Bl Bm Y M yv pre V p c W' := by
  have e : ∀ (p : Addr) (v : Value), W.cell? p = some v → W'.cell? p = some v := fun p v hv => (hb.cell (p := p) (World.block_lt_of_cell? _ _ hv)).trans hv
  exact ⟨h.below.trans (hb.mono h.below.size), h.box.below hb (World.block_lt_of_cell? _ _ h.box.1), row_below h.row hb, e _ _ h.lim, e _ _ h.fy, fun p v hp hv => e _ _ (h.keep p v hp hv), Nat.le_trans h.size hb.size, fun i x hx => ⟨(h.each i x hx).1, (h.each i x hx).2.below hb⟩⟩
theorem row_not {b : Nat} {e : TypeId} {s n c : Nat} {xs : List Value} {r : Nat} {o : Obj} (h : W.ownsRow b e s (.slice p n c) n xs) (ho : W.heap[r]? = some o) (hc : o.isCells = false) : (Value.slice p n c).ownBlock = none ∨ (Value.slice p n c).ownBlock ≠ some r := by
  rcases h.2 with ⟨e1, _⟩ | ⟨g, cap, cur, e1, _, hg, _⟩
  · cases e1; exact .inl rfl
  · cases e1
    refine .inr fun he => ?_
    simp [Value.ownBlock] at he
    subst he
    rw [hg] at ho
    cases ho
    cases hc
theorem IV.own {B : Nat} (hB : w0.heap.size ≤ B) : OwnFrom B (fun (s : List (AlP P w2)) W => ∃ V p c, IV w0 w2 P Bl Bm Y M yv s V p c W) := by
  rintro s W W' row ⟨V, p, c, hs⟩ hg hr
  have e : ∀ (p : Addr) (v : Value), W.cell? p = some v → W'.cell? p = some v := fun p v hv => cell_kept hv hg (fun r e => (hr r e).2)
  refine ⟨V, p, c, hs.below.grown hg hs.below.size (fun k e => by have := (hr k e).1; omega), ⟨e _ _ hs.box.1, (frozen_kept hs.box.1 hg (fun r e => (hr r e).2)).trans hs.box.2⟩, hs.row.kept hg ?_, e _ _ hs.lim, e _ _ hs.fy, fun p v hp hv => e _ _ (hs.keep p v hp hv), Nat.le_trans hs.size hg.size, fun i x hx => ⟨(hs.each i x hx).1, (hs.each i x hx).2.carry (fun _ h _ => h) (fun q v _ hv => e q v hv)⟩⟩
  cases row with
  | none => cases h : (Value.slice p s.length c).ownBlock with
    | none => exact .inl rfl
    | some b => exact .inr (by simp)
  | some r =>
    obtain ⟨o, ho, hc⟩ := (hr r rfl).2
    exact row_not hs.row ho hc
/-- One more. -/
theorem IV.put (h : IV w0 w2 P Bl Bm Y M yv pre V p c W) (x : AlP P w2) {W3 : World} (hb3 : Below W.heap.size W W3) {U : NT} {pu : Option Addr} {cu : Nat} (hsu : U.s = .slice pu U.len cu) (hU : Copied x.1.1 U) (hLU : LiesP (fun b => W.heap.size ≤ b) W3 U)
    (h0 : w0.heap.size ≤ Bl) (_h02 : w0.heap.size ≤ w2.heap.size) (hl : Bl < w2.heap.size) (hm : Bm < w2.heap.size) (hY : Y < w2.heap.size) (hne : Bm ≠ Bl) (hYl : Y ≠ Bl) (hP : ∀ b, P b → b ≠ Bl ∧ b < w2.heap.size) {g cap : Nat}
    (hO : OneC W' Bl (.slice (some ⟨g, 0, none⟩) (pre.length + 1) cap)) (hrow : W'.ownsRow w2.heap.size 24 5 (.slice (some ⟨g, 0, none⟩) (pre.length + 1) cap) (pre.length + 1) (flatV V pre.length ++ [.int .i64 U.k, .string U.t, .int .i64 U.n, .slice pu U.len cu, .int .i64 U.a]))
    (hat : (Value.slice p pre.length c).ownBlock = some g ∨ W3.heap.size ≤ g) (hp : Put Bl (Value.slice p pre.length c).ownBlock W3 W') :
    IV w0 w2 P Bl Bm Y M yv (pre ++ [x]) (fun i => if i = pre.length then U else V i) (some ⟨g, 0, none⟩) cap W' := by
  have h3 := h.new hb3
  have hlo := h.row.lt
  have hlow : ∀ b, b < w2.heap.size → some b ≠ (Value.slice p pre.length c).ownBlock := fun b hb e => by have := (hlo b e.symm).1; omega
  have hlen : (pre ++ [x]).length = pre.length + 1 := by simp
  have hatx : ∀ b, (b < W.heap.size → some b ≠ (Value.slice p pre.length c).ownBlock) → b < W3.heap.size → b ≠ g := fun b h1 h2 e => by
    subst e
    rcases hat with h | h
    · exact h1 (hlo _ h).2 h.symm
    · omega
  refine ⟨h3.below.trans (hp.below h3.below.size h0 (fun k hk => by have := (hlo k hk).1; omega)), by rw [hlen]; exact hO, ?_, hp.cell hne (hlow _ hm) h3.lim, hp.cell hYl (hlow _ hY) h3.fy, fun q v hq hv => hp.cell (hP _ hq).1 (hlow _ (hP _ hq).2) (h3.keep q v hq hv), Nat.le_trans h3.size hp.size, fun i y hy => ?_⟩
  · rw [hlen]
    have e : flatV (fun i => if i = pre.length then U else V i) (pre.length + 1) = flatV V pre.length ++ [.int .i64 U.k, .string U.t, .int .i64 U.n, .slice pu U.len cu, .int .i64 U.a] := by
      rw [flatV_succ, flatV_congr (U := V) (fun i hi => if_neg (by omega))]
      simp only [if_true, hsu]
    rw [e]
    exact hrow
  · rw [hlen]
    have hi : i < (pre ++ [x]).length := (List.getElem?_eq_some_iff.1 hy).1
    by_cases e : i = pre.length
    · subst e
      simp at hy
      subst hy
      simp only [if_true]
      refine ⟨hU, hLU.carry (fun b hb hb3' => ?_) (fun q v hq hv => ?_)⟩
      · have hb' : W.heap.size ≤ b := hb
        exact ⟨by have := h.size; omega, fun he => hatx b (fun h1 => by omega) hb3' (by simpa [Value.ownBlock] using he)⟩
      · have hq' : W.heap.size ≤ q.block := hq
        exact hp.cell (by have := h.size; omega) (fun he => by have := (hlo _ he.symm).2; omega) hv
    · simp only [if_neg e]
      rw [List.getElem?_append_left (by omega)] at hy
      obtain ⟨h1, h2⟩ := h3.each i y hy
      refine ⟨h1, h2.carry (fun b hb hb3' => ⟨hb.1, fun he => hatx b (fun _ => hb.2) hb3' (by simpa [Value.ownBlock] using he)⟩) (fun q v hq hv => hp.cell (by have := hq.1; omega) hq.2 hv)⟩
theorem put_keepG (hO : OneC W Bl (.slice p pre.length c)) {xs : List Value} (hrow : W.ownsRow w2.heap.size 24 5 (.slice p pre.length c) pre.length xs) {g cap : Nat} {ys : List Value} (hO' : OneC W' Bl (.slice (some ⟨g, 0, none⟩) (pre.length + 1) cap)) (hrow' : W'.ownsRow w2.heap.size 24 5 (.slice (some ⟨g, 0, none⟩) (pre.length + 1) cap) (pre.length + 1) ys)
    (hat : (Value.slice p pre.length c).ownBlock = some g ∨ W.heap.size ≤ g) (hp : Put Bl (Value.slice p pre.length c).ownBlock W W') : KeepG (ER Bl) W W' ∧ KeepsOthers W W' := by
  refine ⟨⟨hp.size, fun b o hb h1 _ => (hp.block b (Array.getElem?_eq_some_iff.1 h1).1 (fun e => hb (.inl e)) (fun e => hb (own_er hO.1 e.symm))).trans h1, fun b hb => ?_⟩, ⟨hp.size, fun b o h1 hc => ?_⟩⟩
  · rcases er_own hO'.1 hb with h | h
    · exact .inl (.inl h)
    · have e : b = g := by simpa [Value.ownBlock] using h.symm
      subst e
      rcases hat with h2 | h2
      · exact .inl (own_er hO.1 h2)
      · exact .inr ⟨h2, (hrow'.lt b rfl).2⟩
  · refine (hp.block b (Array.getElem?_eq_some_iff.1 h1).1 (fun e => ?_) (fun e => ?_)).trans h1
    · obtain ⟨o', ho', hc'⟩ := isCells_of_cell hO.1
      subst e
      rw [h1] at ho'
      cases ho'
      rw [hc] at hc'
      cases hc'
    · rcases row_not hrow h1 hc with h | h
      · rw [h] at e; cases e
      · exact h e.symm
end
end Go.Proofs.Ytdccodnompalbaa
