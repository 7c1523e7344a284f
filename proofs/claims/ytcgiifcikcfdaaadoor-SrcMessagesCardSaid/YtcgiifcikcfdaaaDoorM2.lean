/- Plain facts: a text cut at each byte A is its lines. No program, no world. -/
import Derived.Test.YtcgiifcikcfdaaaDoorM
import Derived.Lib.Split
import Derived.Lib.IndexBytes
namespace Go.Proofs.YtcgiifcikcfdaaaDoor.M
open Go

theorem index_ten (l : List UInt8) : Lib.index l [10] = Lib.indexByte l 10 := Lib.index_one l 10

theorem lns_idx : ∀ l : List UInt8, (Lib.indexByte l 10 = -1 → lns l = [l]) ∧ ∀ o : Nat, Lib.indexByte l 10 = o → lns l = l.take o :: lns (l.drop (o + 1))
  | [] => ⟨fun _ => rfl, fun o h => by simp [Lib.indexByte] at h⟩
  | c :: r => by
    have hge := Lib.indexByte_ge r 10
    obtain ⟨i1, i2⟩ := lns_idx r
    by_cases hc : c = 10
    · refine ⟨fun h => by simp [Lib.indexByte, hc] at h, fun o h => ?_⟩
      simp [Lib.indexByte, hc] at h
      obtain rfl : o = 0 := by omega
      rw [lns_nl c r hc]; rfl
    · by_cases hn : Lib.indexByte r 10 = -1
      · refine ⟨fun _ => lns_co c r r [] hc (i1 hn), fun o h => ?_⟩
        simp [Lib.indexByte, hc, hn] at h
      · obtain ⟨o', ho'⟩ : ∃ o' : Nat, Lib.indexByte r 10 = o' := ⟨(Lib.indexByte r 10).toNat, by omega⟩
        have e : Lib.indexByte (c :: r) 10 = o' + 1 := by simp [Lib.indexByte, hc, ho']
        refine ⟨fun h => by omega, fun o h => ?_⟩
        obtain rfl : o = o' + 1 := by omega
        rw [lns_co c r _ _ hc (i2 o' ho')]
        rfl

theorem split_lns : ∀ (k : Nat) (l : List UInt8), Lib.count l [10] = k → Lib.splitK [10] 0 k l = lns l := by
  intro k
  induction k with
  | zero =>
    intro l h
    have hi : Lib.index l [10] = -1 := by
      by_cases hn : Lib.index l [10] = -1
      · exact hn
      · have hge := Lib.index_ge l [10]
        have := Lib.count_hit (s := l) (sub := [10]) (i := (Lib.index l [10]).toNat) (by simp) (by omega)
        omega
    rw [(lns_idx l).1 (by rw [← index_ten]; exact hi)]
    rfl
  | succ k ih =>
    intro l h
    have hge := Lib.index_ge l [10]
    have hi : Lib.index l [10] ≠ -1 := by
      intro e
      have := Lib.count_miss e
      omega
    obtain ⟨o, ho⟩ : ∃ o : Nat, Lib.index l [10] = o := ⟨(Lib.index l [10]).toNat, by omega⟩
    have hc := Lib.count_hit (s := l) (sub := [10]) (i := o) (by simp) ho
    unfold Lib.splitK
    rw [if_neg (by simpa using hi), ho]
    simp only [Int.toNat_natCast, Nat.add_zero, List.length_singleton]
    rw [ih (l.drop (o + 1)) (by simp only [List.length_singleton] at hc; omega), (lns_idx l).2 o (by rw [← index_ten]; exact ho)]

theorem lines_split (s : ByteArray) : (Lib.splitB ⟨#[10]⟩ 0 (Lib.countB s ⟨#[10]⟩) s).map (·.data.toList) = lns s.data.toList := by
  rw [Lib.splitB_data]
  exact split_lns _ _ rfl
end Go.Proofs.YtcgiifcikcfdaaaDoor.M
