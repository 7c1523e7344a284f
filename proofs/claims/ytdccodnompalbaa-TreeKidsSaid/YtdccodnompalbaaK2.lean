/- Which kids a kind asks, by the program. No conditions. -/
import Derived.Test.YtdccodnompalbaaK1
namespace Go.Proofs.Ytdccodnompalbaa
open Go.RowKit Go.Shelf

/-- What a type asks, what an expression asks, what any other kind asks: the first kids' sorts, the sort of those that follow, the last one's. -/
def typesM (k : Int) : List Int × Int × Int := if k = 23 then ([5], 101, 0) else if k = 24 then ([101], 0, 0) else if k = 25 then ([101], 0, 0) else if k = 26 then ([101], 0, 0) else ([], 0, 0)
def exprsM (k : Int) : List Int × Int × Int := if k = 43 then ([104], 0, 0) else if k = 45 then ([104], 0, 0) else if k = 46 then ([104], 0, 0) else if k = 47 then ([104], 0, 0) else if k = 44 then ([104, 104], 0, 0) else if k = 62 then ([104, 104], 0, 0) else if k = 48 then ([49], 104, 0) else if k = 52 then ([49], 104, 0) else if k = 50 then ([49], 51, 0) else if k = 53 then ([104, 59, 106], 0, 0) else if k = 54 then ([104, 59], 0, 0) else if k = 55 then ([59], 0, 0) else if k = 56 then ([105], 0, 0) else if k = 58 then ([105], 0, 0) else if k = 59 then ([], 103, 105) else if k = 60 then ([104], 61, 0) else ([], 0, 0)
def baseM (k : Int) : List Int × Int × Int := if k = 1 then ([], 100, 0) else if k = 2 then ([5, 5], 11, 0) else if k = 3 then ([5, 5], 12, 0) else if k = 4 then ([5, 5, 8, 102, 10, 59], 0, 0) else if k = 5 then ([], 6, 0) else if k = 8 then ([], 7, 0) else if k = 10 then ([], 9, 0) else if k = 9 then ([6], 0, 0) else if k = 7 then ([101], 0, 0) else if k = 11 then ([101], 0, 0) else if k = 12 then ([], 101, 0) else if k = 49 then ([], 101, 0) else if k = 30 then ([102, 105], 0, 0) else if k = 31 then ([104], 0, 0) else if k = 51 then ([104], 0, 0) else if k = 61 then ([107, 104], 0, 0) else if k = 74 then ([], 107, 0) else ([], 0, 0)
def kidsM (k : Int) : List Int × Int × Int := if isOneM k 2 = true then typesM k else if isOneM k 4 = true then exprsM k else baseM k

/-- A slice of ints, in a block from b on. -/
def IntsAt (b : Nat) (w : World) (v : Value) (l : List Int) : Prop :=
  ∃ (p : Option Addr) (c : Nat), v = .slice p l.length c ∧ l.length ≤ c ∧ (l ≠ [] → ∃ g off : Nat, p = some ⟨g, off, none⟩ ∧ b ≤ g ∧ g < w.heap.size ∧ ∀ i x, l[i]? = some x → w.cell? ⟨g, off + i, none⟩ = some (.int .i64 x))
theorem IntsAt.mono {b b' : Nat} {w : World} {v : Value} {l : List Int} (h : IntsAt b w v l) (hb : b' ≤ b) : IntsAt b' w v l := by
  obtain ⟨p, c, h1, h2, h3⟩ := h
  exact ⟨p, c, h1, h2, fun hn => let ⟨g, off, e, hb', hg, hc⟩ := h3 hn; ⟨g, off, e, by omega, hg, hc⟩⟩
theorem IntsAt.below {b : Nat} {w w' : World} {v : Value} {l : List Int} (h : IntsAt b w v l) (hb : Below w.heap.size w w') : IntsAt b w' v l := by
  obtain ⟨p, c, h1, h2, h3⟩ := h
  exact ⟨p, c, h1, h2, fun hn => let ⟨g, off, e, hb', hg, hc⟩ := h3 hn; ⟨g, off, e, hb', Nat.lt_of_lt_of_le hg hb.size, fun i x hx => (hb.cell (p := ⟨g, off + i, none⟩) hg).trans (hc i x hx)⟩⟩
theorem IntsAt.nil (b : Nat) (w : World) : IntsAt b w (.slice none 0 0) [] := ⟨none, 0, rfl, Nat.le_refl _, fun h => absurd rfl h⟩
theorem ints_new (W : World) (l : List Int) (n c : Nat) (hn : n = l.length) (hc : l.length ≤ c) :
    IntsAt W.heap.size (W.alloc (.cells (l.map (Value.int .i64)).toArray 3)) (.slice (some ⟨W.heap.size, 0, none⟩) n c) l := by
  refine ⟨_, c, by rw [hn], hc, fun _ => ⟨W.heap.size, 0, rfl, Nat.le_refl _, by simp, fun j x hj => ?_⟩⟩
  rw [Nat.zero_add, cell_of_row _ W.heap.size j (l.map (Value.int .i64)).toArray 3 (0, 0) (World.alloc_heap_new W _)]
  rw [List.getElem?_toArray, List.getElem?_map, hj]
  rfl

def KidsP (w : World) (m : List Int × Int × Int) (e : Ending) (w' : World) : Prop := ∃ v, e = .returned (.agg #[v, .int .i64 m.2.1, .int .i64 m.2.2]) ∧ IntsAt w.heap.size w' v m.1 ∧ Below w.heap.size w w'
theorem kids_some (w : World) (o : Obj) (l : List Int) (r t : Int) (n c : Nat) (hn : n = l.length) (hc : l.length ≤ c) :
    KidsP w (l, r, t) (.returned (.agg #[.slice (some ⟨w.heap.size + 1, 0, none⟩) n c, .int .i64 r, .int .i64 t])) ((w.alloc o).alloc (.cells (l.map (Value.int .i64)).toArray 3)) := by
  have h := ints_new (w.alloc o) l n c hn hc
  rw [World.size_alloc] at h
  exact ⟨_, rfl, h.mono (by omega), bl_alloc (bl_alloc (Below.refl _ _) _) _⟩
theorem kids_none (w : World) (o : Obj) (r t : Int) : KidsP w ([], r, t) (.returned (.agg #[.slice none 0 0, .int .i64 r, .int .i64 t])) (w.alloc o) :=
  ⟨_, rfl, IntsAt.nil _ _, bl_alloc (Below.refl _ _) _⟩

set_option maxHeartbeats 2000000 in
theorem typesKids_any (k : Int) (w : World) : Calls Try.prog 59 #[.int .i64 k] w (KidsP w (typesM k)) := by
  by_cases h23 : k = 23
  · subst h23; go_enter Try.func59, Try.ntmps59; go_wp2; refine bodyPost_ret (v := .agg #[.slice (some ⟨w.heap.size + 1, 0, none⟩) 1 1, .int .i64 101, .int .i64 0]) (by simp [results, Try.results59, go_sem]) rfl ?_; exact kids_some w _ [5] 101 0 1 1 rfl (by decide)
  by_cases h24 : k = 24
  · subst h24; go_enter Try.func59, Try.ntmps59; go_wp2; refine bodyPost_ret (v := .agg #[.slice (some ⟨w.heap.size + 1, 0, none⟩) 1 1, .int .i64 0, .int .i64 0]) (by simp [results, Try.results59, go_sem]) rfl ?_; exact kids_some w _ [101] 0 0 1 1 rfl (by decide)
  by_cases h25 : k = 25
  · subst h25; go_enter Try.func59, Try.ntmps59; go_wp2; refine bodyPost_ret (v := .agg #[.slice (some ⟨w.heap.size + 1, 0, none⟩) 1 1, .int .i64 0, .int .i64 0]) (by simp [results, Try.results59, go_sem]) rfl ?_; exact kids_some w _ [101] 0 0 1 1 rfl (by decide)
  by_cases h26 : k = 26
  · subst h26; go_enter Try.func59, Try.ntmps59; go_wp2; refine bodyPost_ret (v := .agg #[.slice (some ⟨w.heap.size + 1, 0, none⟩) 1 1, .int .i64 0, .int .i64 0]) (by simp [results, Try.results59, go_sem]) rfl ?_; exact kids_some w _ [101] 0 0 1 1 rfl (by decide)
  · have e : typesM k = ([], 0, 0) := by simp [typesM, h23, h24, h25, h26]
    rw [e]; clear e; go_enter Try.func59, Try.ntmps59; go_wp2; refine bodyPost_ret (v := .agg #[.slice none 0 0, .int .i64 0, .int .i64 0]) (by simp [results, Try.results59, go_sem]) rfl ?_; exact kids_none w _ 0 0
set_option maxHeartbeats 2000000 in
theorem exprsKids_any (k : Int) (w : World) : Calls Try.prog 60 #[.int .i64 k] w (KidsP w (exprsM k)) := by
  by_cases h43 : k = 43
  · subst h43; go_enter Try.func60, Try.ntmps60; go_wp2; refine bodyPost_ret (v := .agg #[.slice (some ⟨w.heap.size + 1, 0, none⟩) 1 1, .int .i64 0, .int .i64 0]) (by simp [results, Try.results60, go_sem]) rfl ?_; exact kids_some w _ [104] 0 0 1 1 rfl (by decide)
  by_cases h45 : k = 45
  · subst h45; go_enter Try.func60, Try.ntmps60; go_wp2; refine bodyPost_ret (v := .agg #[.slice (some ⟨w.heap.size + 1, 0, none⟩) 1 1, .int .i64 0, .int .i64 0]) (by simp [results, Try.results60, go_sem]) rfl ?_; exact kids_some w _ [104] 0 0 1 1 rfl (by decide)
  by_cases h46 : k = 46
  · subst h46; go_enter Try.func60, Try.ntmps60; go_wp2; refine bodyPost_ret (v := .agg #[.slice (some ⟨w.heap.size + 1, 0, none⟩) 1 1, .int .i64 0, .int .i64 0]) (by simp [results, Try.results60, go_sem]) rfl ?_; exact kids_some w _ [104] 0 0 1 1 rfl (by decide)
  by_cases h47 : k = 47
  · subst h47; go_enter Try.func60, Try.ntmps60; go_wp2; refine bodyPost_ret (v := .agg #[.slice (some ⟨w.heap.size + 1, 0, none⟩) 1 1, .int .i64 0, .int .i64 0]) (by simp [results, Try.results60, go_sem]) rfl ?_; exact kids_some w _ [104] 0 0 1 1 rfl (by decide)
  by_cases h44 : k = 44
  · subst h44; go_enter Try.func60, Try.ntmps60; go_wp2; refine bodyPost_ret (v := .agg #[.slice (some ⟨w.heap.size + 1, 0, none⟩) 2 2, .int .i64 0, .int .i64 0]) (by simp [results, Try.results60, go_sem]) rfl ?_; exact kids_some w _ [104, 104] 0 0 2 2 rfl (by decide)
  by_cases h62 : k = 62
  · subst h62; go_enter Try.func60, Try.ntmps60; go_wp2; refine bodyPost_ret (v := .agg #[.slice (some ⟨w.heap.size + 1, 0, none⟩) 2 2, .int .i64 0, .int .i64 0]) (by simp [results, Try.results60, go_sem]) rfl ?_; exact kids_some w _ [104, 104] 0 0 2 2 rfl (by decide)
  by_cases h48 : k = 48
  · subst h48; go_enter Try.func60, Try.ntmps60; go_wp2; refine bodyPost_ret (v := .agg #[.slice (some ⟨w.heap.size + 1, 0, none⟩) 1 1, .int .i64 104, .int .i64 0]) (by simp [results, Try.results60, go_sem]) rfl ?_; exact kids_some w _ [49] 104 0 1 1 rfl (by decide)
  by_cases h52 : k = 52
  · subst h52; go_enter Try.func60, Try.ntmps60; go_wp2; refine bodyPost_ret (v := .agg #[.slice (some ⟨w.heap.size + 1, 0, none⟩) 1 1, .int .i64 104, .int .i64 0]) (by simp [results, Try.results60, go_sem]) rfl ?_; exact kids_some w _ [49] 104 0 1 1 rfl (by decide)
  by_cases h50 : k = 50
  · subst h50; go_enter Try.func60, Try.ntmps60; go_wp2; refine bodyPost_ret (v := .agg #[.slice (some ⟨w.heap.size + 1, 0, none⟩) 1 1, .int .i64 51, .int .i64 0]) (by simp [results, Try.results60, go_sem]) rfl ?_; exact kids_some w _ [49] 51 0 1 1 rfl (by decide)
  by_cases h53 : k = 53
  · subst h53; go_enter Try.func60, Try.ntmps60; go_wp2; refine bodyPost_ret (v := .agg #[.slice (some ⟨w.heap.size + 1, 0, none⟩) 3 3, .int .i64 0, .int .i64 0]) (by simp [results, Try.results60, go_sem]) rfl ?_; exact kids_some w _ [104, 59, 106] 0 0 3 3 rfl (by decide)
  by_cases h54 : k = 54
  · subst h54; go_enter Try.func60, Try.ntmps60; go_wp2; refine bodyPost_ret (v := .agg #[.slice (some ⟨w.heap.size + 1, 0, none⟩) 2 2, .int .i64 0, .int .i64 0]) (by simp [results, Try.results60, go_sem]) rfl ?_; exact kids_some w _ [104, 59] 0 0 2 2 rfl (by decide)
  by_cases h55 : k = 55
  · subst h55; go_enter Try.func60, Try.ntmps60; go_wp2; refine bodyPost_ret (v := .agg #[.slice (some ⟨w.heap.size + 1, 0, none⟩) 1 1, .int .i64 0, .int .i64 0]) (by simp [results, Try.results60, go_sem]) rfl ?_; exact kids_some w _ [59] 0 0 1 1 rfl (by decide)
  by_cases h56 : k = 56
  · subst h56; go_enter Try.func60, Try.ntmps60; go_wp2; refine bodyPost_ret (v := .agg #[.slice (some ⟨w.heap.size + 1, 0, none⟩) 1 1, .int .i64 0, .int .i64 0]) (by simp [results, Try.results60, go_sem]) rfl ?_; exact kids_some w _ [105] 0 0 1 1 rfl (by decide)
  by_cases h58 : k = 58
  · subst h58; go_enter Try.func60, Try.ntmps60; go_wp2; refine bodyPost_ret (v := .agg #[.slice (some ⟨w.heap.size + 1, 0, none⟩) 1 1, .int .i64 0, .int .i64 0]) (by simp [results, Try.results60, go_sem]) rfl ?_; exact kids_some w _ [105] 0 0 1 1 rfl (by decide)
  by_cases h59 : k = 59
  · subst h59; go_enter Try.func60, Try.ntmps60; go_wp2; refine bodyPost_ret (v := .agg #[.slice none 0 0, .int .i64 103, .int .i64 105]) (by simp [results, Try.results60, go_sem]) rfl ?_; exact kids_none w _ 103 105
  by_cases h60 : k = 60
  · subst h60; go_enter Try.func60, Try.ntmps60; go_wp2; refine bodyPost_ret (v := .agg #[.slice (some ⟨w.heap.size + 1, 0, none⟩) 1 1, .int .i64 61, .int .i64 0]) (by simp [results, Try.results60, go_sem]) rfl ?_; exact kids_some w _ [104] 61 0 1 1 rfl (by decide)
  · have e : exprsM k = ([], 0, 0) := by simp [exprsM, h43, h45, h46, h47, h44, h62, h48, h52, h50, h53, h54, h55, h56, h58, h59, h60]
    rw [e]; clear e; go_enter Try.func60, Try.ntmps60; go_wp2; refine bodyPost_ret (v := .agg #[.slice none 0 0, .int .i64 0, .int .i64 0]) (by simp [results, Try.results60, go_sem]) rfl ?_; exact kids_none w _ 0 0
end Go.Proofs.Ytdccodnompalbaa
