/- Lines, by the program and by the document's own answer: a slice that holds the lines. No conditions beyond the bounds that each statement names. -/
import Derived.Test.YtcgiifcikcfdaaaDoorB
import Derived.Test.YtcgiifcikcfdaaaDoorW
import Derived.Test.YtcgiifcikcfdaaaDoorM2
namespace Go.Proofs.YtcgiifcikcfdaaaDoor
open Go.RowKit

/-- The library's count of CPU words is a number. -/
def MaxOk (w : World) : Prop := ∃ m : Int, w.cell? ⟨0, 0, none⟩ = some (.int .i64 m)
theorem MaxOk.lt {w : World} (h : MaxOk w) : 0 < w.heap.size := by
  obtain ⟨m, hm⟩ := h
  exact World.block_lt_of_cell? _ _ hm
theorem MaxOk.below {w w' : World} (h : MaxOk w) (hb : Below w.heap.size w w') : MaxOk w' := by
  have hl := h.lt
  obtain ⟨m, hm⟩ := h
  exact ⟨m, (hb.cell (p := ⟨0, 0, none⟩) hl).trans hm⟩

theorem lines_any (s : ByteArray) (w : World) (hs : s.size ≤ 1000000) (hm : MaxOk w) :
    Calls Tryd.prog 14 #[.string s] w fun e w' => ∃ v, e = .returned v ∧ Txts w' v (M.lns s.data.toList) ∧ Below w.heap.size w w' := by
  obtain ⟨m, hm⟩ := hm
  have hc := Tryd.strings_Split s ⟨#[10]⟩ m w (by omega) hm (by decide)
  have hT : Txts (w.alloc (.cells ((Lib.splitB ⟨#[10]⟩ 0 (Lib.countB s ⟨#[10]⟩) s).map Value.string).toArray 9)) (.slice (some ⟨w.heap.size, 0, none⟩) (Lib.countB s ⟨#[10]⟩ + 1) (Lib.countB s ⟨#[10]⟩ + 1)) (M.lns s.data.toList) := by
    rw [← M.lines_split]
    have hl := Lib.splitB_all ⟨#[10]⟩ (by decide) 0 _ s rfl
    exact Txts.of_new w _ 9 _ _ hl.symm (by omega)
  have HC := hide hc
  have HT := hide hT
  have HM := hide hm
  generalize Lib.countB s ⟨#[10]⟩ + 1 = q at *
  generalize ((Lib.splitB ⟨#[10]⟩ 0 (Lib.countB s ⟨#[10]⟩) s).map Value.string).toArray = cs at *
  clear hc hT hm
  go_enter Tryd.func14, Tryd.ntmps14
  go_wp2_with (go_at_call 27; refine HC.out.mono ?_; rintro e w' ⟨rfl, rfl⟩)
  go_ret
  exact ⟨_, rfl, HT.out, (Below.refl _ _).alloc (Nat.le_refl _) _⟩

theorem info9 : (Tryd.prog.info? 9).map (fun i => (i.zero, i.size, i.bytes)) = some (some (.string ByteArray.empty), 1, 16) := by kernel_rfl

/-- The texts laid so far, ahead of the place k, and where the current line begins. -/
def Laid (s : ByteArray) (k f : Nat) (ls : List (List UInt8)) : Prop := k ≤ s.size ∧ f ≤ k ∧ ls.length ≤ k ∧ M.lns (s.data.toList.take k) = ls ++ [(s.data.toList.take k).drop f]

theorem Laid.start (s : ByteArray) : Laid s 0 0 [] := ⟨Nat.zero_le _, Nat.le_refl _, Nat.le_refl _, by simp [M.lns]⟩
theorem Laid.cut (s : ByteArray) (k f : Nat) : (s.extract f k).data.toList = (s.data.toList.take k).drop f := by rw [Lib.extract_data, List.drop_take]
theorem Laid.hit {s : ByteArray} {k f : Nat} {ls : List (List UInt8)} (h : Laid s k f ls) (hk : k < s.size) (hc : s[k] = 10) : Laid s (k + 1) (k + 1) (ls ++ [(s.extract f k).data.toList]) := by
  obtain ⟨h1, h2, h3, h4⟩ := h
  have hl : s.data.toList.length = s.size := by simp
  have e : s.data.toList[k]'(by omega) = 10 := by simp; exact hc
  refine ⟨by omega, Nat.le_refl _, by simp; omega, ?_⟩
  rw [List.take_succ_eq_append_getElem (by omega), e, M.lns_snoc _ 10 _ _ h4, if_pos rfl, Laid.cut]
  rw [List.append_assoc, List.append_cancel_left_eq]
  show [_, []] = [_] ++ [_]
  simp; omega
theorem Laid.miss {s : ByteArray} {k f : Nat} {ls : List (List UInt8)} (h : Laid s k f ls) (hk : k < s.size) (hc : ¬ s[k] = 10) : Laid s (k + 1) f ls := by
  obtain ⟨h1, h2, h3, h4⟩ := h
  have hl : s.data.toList.length = s.size := by simp
  have e : s.data.toList[k]'(by omega) = s[k] := by simp; rfl
  refine ⟨by omega, by omega, by omega, ?_⟩
  rw [List.take_succ_eq_append_getElem (by omega), e, M.lns_snoc _ _ _ _ h4, if_neg hc]
  rw [List.drop_append_of_le_length (by rw [List.length_take]; omega)]
theorem Laid.done {s : ByteArray} {f : Nat} {ls : List (List UInt8)} (h : Laid s s.size f ls) : M.lns s.data.toList = ls ++ [(s.extract f s.size).data.toList] := by
  have hl : s.data.toList.length = s.size := by simp
  have := h.2.2.2
  rw [List.take_of_length_le (by omega)] at this
  rw [this, Lib.extract_to_end]

theorem own_snoc {w : World} {base : Nat} {e : TypeId} {v : Value} {n : Nat} {ls : List (List UInt8)} {b : ByteArray} (h : w.ownsRow base e 1 v (ls.length + 1) (ls.map sv ++ [Value.string b])) (hn : n = ls.length + 1) :
    w.ownsRow base e 1 v n ((ls ++ [b.data.toList]).map sv) := by
  rw [hn, List.map_append, List.map_singleton, ← sv_of]; exact h

theorem own_base {w : World} {base : Nat} {e : TypeId} {v : Value} {n : Nat} {xs : List Value} (h : w.ownsRow base e 1 v n xs) : ∀ g, v.ownBlock = some g → base ≤ g := by
  intro g hg
  rcases h.2 with ⟨rfl, _⟩ | ⟨g', _, _, rfl, hle, _⟩
  · cases hg
  · simp [Value.ownBlock] at hg; omega

theorem cell_new (w : World) (e : TypeId) (u : Value) : ∀ (j : Nat) (x : Value), [u][j]? = some x → (w.alloc (Obj.cells #[u] e)).cell? ((⟨w.heap.size, 0, none⟩ : Addr).add j) = some x := by
  intro j x hj
  match j, hj with
  | 0, hj => simp at hj; subst hj; simp [Addr.add]

set_option maxHeartbeats 1000000 in
theorem refLines_any (s : ByteArray) (w : World) (hs : s.size ≤ 1000000) :
    Calls Tryd.prog 16 #[.string s] w fun e w' => ∃ v, e = .returned v ∧ Txts w' v (M.lns s.data.toList) ∧ Below w.heap.size w w' := by
  obtain ⟨i0, hi, hz0, hz1, hz2⟩ := info_parts info9
  go_enter Tryd.func16, Tryd.ntmps16
  go_wp2
  go_loopw [3, 4, 5] (fun v fr i wr => ∃ (k f : Nat) (ls : List (List UInt8)), Laid s k f ls ∧ i = .int .i64 k ∧ fr = .int .i64 f ∧ wr.ownsRow w.heap.size 9 1 v ls.length (ls.map sv) ∧ Below w.heap.size w wr) (fun _ _ i _ => s.size - (intOf i).toNat)
  case atStart =>
    refine ⟨0, 0, [], Laid.start s, rfl, rfl, ⟨rfl, .inr ⟨w.heap.size, 0, #[], rfl, Nat.le_refl _, heap_alloc_new w _, Nat.le_refl _, by decide, rfl, rfl⟩⟩, (Below.refl _ _).alloc (Nat.le_refl _) _⟩
  case round =>
    obtain ⟨k, f, ls, hlaid, rfl, rfl, hown, hb⟩ := hrel
    have hk : k ≤ s.size := hlaid.1
    have hf : f ≤ k := hlaid.2.1
    have hll : ls.length ≤ k := hlaid.2.2.1
    have HL := hide hlaid
    clear hlaid
    by_cases hlt : k < s.size
    · go_wp2_with (at_builtin; refine wpList_append_own _ rfl _ _ 28 rfl w.heap.size 9 i0 (.string ByteArray.empty) 1 16 Tryd.underlying28 hi hz0 hz1 hz2 rfl (by decide) _ _ _ rfl (hown.alloc _) ⟨wr.heap.size, 0, none⟩ 1 1 [.string (s.extract f k)] rfl rfl ?c1 ?c2 ?c3 ?c4 ?c5 ?_)
      case c1 => exact cell_new _ _ _
      case c2 => intro u hu; simp at hu; subst hu; rfl
      case c3 => unfold maxLen; omega
      case c4 => omega
      case c5 => have := hb.size; simp; omega
      · intro v' w1 hown' hgrow _
        have hc : s[k] = 10 := by
          have h : ((s[k].toNat : Int) == 10) = true := by assumption
          exact UInt8.toNat_inj.1 (by have := beq_iff_eq.1 h; show s[k].toNat = 10; omega)
        have hb' := (hb.alloc hb.size (Obj.cells #[Value.string (s.extract f k)] 9)).grown hgrow (by have := hb.size; simp; omega) (own_base hown)
        have ho := own_snoc hown' rfl
        have HN := hide (HL.out.hit hlt hc)
        clear hown' hgrow hown hb hc
        go_wp2
        go_roundw
        case rel => exact ⟨k + 1, k + 1, ls ++ [(s.extract f k).data.toList], HN.out, by go_num, by go_num, by simpa using ho, hb'⟩
        case measure => simp [intOf]; omega
      · have hc : ¬ s[k] = 10 := by
          have h : ((s[k].toNat : Int) == 10) = false := by assumption
          intro e
          rw [e] at h
          exact absurd h (by decide)
        have HN := hide (HL.out.miss hlt hc)
        go_roundw
        case rel => exact ⟨k + 1, f, ls, HN.out, by go_num, rfl, hown, hb⟩
        case measure => simp [intOf]; omega
    · obtain rfl : k = s.size := by omega
      go_wp2_with (at_builtin; refine wpList_append_own _ rfl _ _ 28 rfl w.heap.size 9 i0 (.string ByteArray.empty) 1 16 Tryd.underlying28 hi hz0 hz1 hz2 rfl (by decide) _ _ _ rfl (hown.alloc _) ⟨wr.heap.size, 0, none⟩ 1 1 [.string (s.extract f s.size)] rfl rfl ?c1 ?c2 ?c3 ?c4 ?c5 ?_)
      case c1 => exact cell_new _ _ _
      case c2 => intro u hu; simp at hu; subst hu; rfl
      case c3 => unfold maxLen; omega
      case c4 => omega
      case c5 => have := hb.size; simp; omega
      intro v' w1 hown' hgrow _
      have hb' := (hb.alloc hb.size (Obj.cells #[Value.string (s.extract f s.size)] 9)).grown hgrow (by have := hb.size; simp; omega) (own_base hown)
      have ho := own_snoc hown' rfl
      have HN := hide HL.out.done
      clear hown' hgrow hown hb
      go_wp2
      go_ret
      exact ⟨_, rfl, by rw [HN.out]; exact Txts.of_own ho (by simp) (by omega), hb'⟩
end Go.Proofs.YtcgiifcikcfdaaaDoor
