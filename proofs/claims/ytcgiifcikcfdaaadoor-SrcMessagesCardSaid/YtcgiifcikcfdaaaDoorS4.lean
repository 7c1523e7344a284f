/- What any kind says: the program's words are the document's own. No conditions but that the kind is an int. -/
import Derived.Test.YtcgiifcikcfdaaaDoorS3
namespace Go.Proofs.YtcgiifcikcfdaaaDoor
open Go.RowKit

def kinds : List Int := [0, 10, 11, 20, 21, 22, 30, 31, 32, 40, 41, 60, 61, 62, 63, 70, 80, 81, 82, 83, 84, 90, 91, 100, 101, 110, 111, 112, 113, 114, 120, 121, 130, 140, 143, 144, 145, 150, 160, 190, 191, 192, 193, 240, 270, 280, 290, 300, 301, 302, 303, 310, 311, 320, 360, 410]

/-- Of a kind that isn't listed. -/
def other (k : Int) : ByteArray := ⟨#[97, 32, 102, 97, 117, 108, 116, 32, 111, 102, 32, 116, 104, 101, 32, 110, 117, 109, 98, 101, 114, 32]⟩ ++ num k

set_option maxHeartbeats 1000000 in
theorem says_other (k : Int) (w : World) (h0 : -9223372036854775808 ≤ k) (h1 : k ≤ 9223372036854775807) (h : ∀ c ∈ kinds, k ≠ c) (hr : Ready w) :
    Calls Tryd.prog 35 #[.int .i64 k] w fun e w' => e = .returned (.string (other k)) ∧ Below w.heap.size w w' := by
  have hi := itoa_any k w h0 h1 hr
  have hs := num_size k h0 h1
  have HF : Hid (other k = ⟨#[97, 32, 102, 97, 117, 108, 116, 32, 111, 102, 32, 116, 104, 101, 32, 110, 117, 109, 98, 101, 114, 32]⟩ ++ num k) := rfl
  have f0 : (k == 0) = false := by rw [beq_eq_false_iff_ne]; exact h 0 (by decide)
  have f10 : (k == 10) = false := by rw [beq_eq_false_iff_ne]; exact h 10 (by decide)
  have f11 : (k == 11) = false := by rw [beq_eq_false_iff_ne]; exact h 11 (by decide)
  have f20 : (k == 20) = false := by rw [beq_eq_false_iff_ne]; exact h 20 (by decide)
  have f21 : (k == 21) = false := by rw [beq_eq_false_iff_ne]; exact h 21 (by decide)
  have f22 : (k == 22) = false := by rw [beq_eq_false_iff_ne]; exact h 22 (by decide)
  have f30 : (k == 30) = false := by rw [beq_eq_false_iff_ne]; exact h 30 (by decide)
  have f31 : (k == 31) = false := by rw [beq_eq_false_iff_ne]; exact h 31 (by decide)
  have f32 : (k == 32) = false := by rw [beq_eq_false_iff_ne]; exact h 32 (by decide)
  have f40 : (k == 40) = false := by rw [beq_eq_false_iff_ne]; exact h 40 (by decide)
  have f41 : (k == 41) = false := by rw [beq_eq_false_iff_ne]; exact h 41 (by decide)
  have f60 : (k == 60) = false := by rw [beq_eq_false_iff_ne]; exact h 60 (by decide)
  have f61 : (k == 61) = false := by rw [beq_eq_false_iff_ne]; exact h 61 (by decide)
  have f62 : (k == 62) = false := by rw [beq_eq_false_iff_ne]; exact h 62 (by decide)
  have f63 : (k == 63) = false := by rw [beq_eq_false_iff_ne]; exact h 63 (by decide)
  have f70 : (k == 70) = false := by rw [beq_eq_false_iff_ne]; exact h 70 (by decide)
  have f80 : (k == 80) = false := by rw [beq_eq_false_iff_ne]; exact h 80 (by decide)
  have f81 : (k == 81) = false := by rw [beq_eq_false_iff_ne]; exact h 81 (by decide)
  have f82 : (k == 82) = false := by rw [beq_eq_false_iff_ne]; exact h 82 (by decide)
  have f83 : (k == 83) = false := by rw [beq_eq_false_iff_ne]; exact h 83 (by decide)
  have f84 : (k == 84) = false := by rw [beq_eq_false_iff_ne]; exact h 84 (by decide)
  have f90 : (k == 90) = false := by rw [beq_eq_false_iff_ne]; exact h 90 (by decide)
  have f91 : (k == 91) = false := by rw [beq_eq_false_iff_ne]; exact h 91 (by decide)
  have f100 : (k == 100) = false := by rw [beq_eq_false_iff_ne]; exact h 100 (by decide)
  have f101 : (k == 101) = false := by rw [beq_eq_false_iff_ne]; exact h 101 (by decide)
  have f110 : (k == 110) = false := by rw [beq_eq_false_iff_ne]; exact h 110 (by decide)
  have f111 : (k == 111) = false := by rw [beq_eq_false_iff_ne]; exact h 111 (by decide)
  have f112 : (k == 112) = false := by rw [beq_eq_false_iff_ne]; exact h 112 (by decide)
  have f113 : (k == 113) = false := by rw [beq_eq_false_iff_ne]; exact h 113 (by decide)
  have f114 : (k == 114) = false := by rw [beq_eq_false_iff_ne]; exact h 114 (by decide)
  have f120 : (k == 120) = false := by rw [beq_eq_false_iff_ne]; exact h 120 (by decide)
  have f121 : (k == 121) = false := by rw [beq_eq_false_iff_ne]; exact h 121 (by decide)
  have f130 : (k == 130) = false := by rw [beq_eq_false_iff_ne]; exact h 130 (by decide)
  have f140 : (k == 140) = false := by rw [beq_eq_false_iff_ne]; exact h 140 (by decide)
  have f143 : (k == 143) = false := by rw [beq_eq_false_iff_ne]; exact h 143 (by decide)
  have f144 : (k == 144) = false := by rw [beq_eq_false_iff_ne]; exact h 144 (by decide)
  have f145 : (k == 145) = false := by rw [beq_eq_false_iff_ne]; exact h 145 (by decide)
  have f150 : (k == 150) = false := by rw [beq_eq_false_iff_ne]; exact h 150 (by decide)
  have f160 : (k == 160) = false := by rw [beq_eq_false_iff_ne]; exact h 160 (by decide)
  have f190 : (k == 190) = false := by rw [beq_eq_false_iff_ne]; exact h 190 (by decide)
  have f191 : (k == 191) = false := by rw [beq_eq_false_iff_ne]; exact h 191 (by decide)
  have f192 : (k == 192) = false := by rw [beq_eq_false_iff_ne]; exact h 192 (by decide)
  have f193 : (k == 193) = false := by rw [beq_eq_false_iff_ne]; exact h 193 (by decide)
  have f240 : (k == 240) = false := by rw [beq_eq_false_iff_ne]; exact h 240 (by decide)
  have f270 : (k == 270) = false := by rw [beq_eq_false_iff_ne]; exact h 270 (by decide)
  have f280 : (k == 280) = false := by rw [beq_eq_false_iff_ne]; exact h 280 (by decide)
  have f290 : (k == 290) = false := by rw [beq_eq_false_iff_ne]; exact h 290 (by decide)
  have f300 : (k == 300) = false := by rw [beq_eq_false_iff_ne]; exact h 300 (by decide)
  have f301 : (k == 301) = false := by rw [beq_eq_false_iff_ne]; exact h 301 (by decide)
  have f302 : (k == 302) = false := by rw [beq_eq_false_iff_ne]; exact h 302 (by decide)
  have f303 : (k == 303) = false := by rw [beq_eq_false_iff_ne]; exact h 303 (by decide)
  have f310 : (k == 310) = false := by rw [beq_eq_false_iff_ne]; exact h 310 (by decide)
  have f311 : (k == 311) = false := by rw [beq_eq_false_iff_ne]; exact h 311 (by decide)
  have f320 : (k == 320) = false := by rw [beq_eq_false_iff_ne]; exact h 320 (by decide)
  have f360 : (k == 360) = false := by rw [beq_eq_false_iff_ne]; exact h 360 (by decide)
  have f410 : (k == 410) = false := by rw [beq_eq_false_iff_ne]; exact h 410 (by decide)
  have HI := hide hi
  generalize num k = X at *
  clear hi h hr
  go_enter Tryd.func35, Tryd.ntmps35
  go_wp2_with (first | (go_at_call 34; refine HI.out.mono ?_; rintro e w1 ⟨rfl, hb1⟩; have HB1 := hide hb1; clear hb1) | go_in)
  go_ret
  exact ⟨ret_str HF.out.symm, HB1.out⟩

set_option maxHeartbeats 1000000 in
theorem words_other (k : Int) (w : World) (h0 : -9223372036854775808 ≤ k) (h1 : k ≤ 9223372036854775807) (h : ∀ c ∈ kinds, k ≠ c) :
    Calls Tryd.prog 37 #[.int .i64 k] w fun e w' => e = .returned (.string (other k)) ∧ Below w.heap.size w w' := by
  have hi := num_calls k.natAbs k w (Nat.le_refl _) h0 h1
  have hs := num_size k h0 h1
  have HF : Hid (other k = ⟨#[97, 32, 102, 97, 117, 108, 116, 32, 111, 102, 32, 116, 104, 101, 32, 110, 117, 109, 98, 101, 114, 32]⟩ ++ num k) := rfl
  have f0 : (k == 0) = false := by rw [beq_eq_false_iff_ne]; exact h 0 (by decide)
  have f10 : (k == 10) = false := by rw [beq_eq_false_iff_ne]; exact h 10 (by decide)
  have f11 : (k == 11) = false := by rw [beq_eq_false_iff_ne]; exact h 11 (by decide)
  have f20 : (k == 20) = false := by rw [beq_eq_false_iff_ne]; exact h 20 (by decide)
  have f21 : (k == 21) = false := by rw [beq_eq_false_iff_ne]; exact h 21 (by decide)
  have f22 : (k == 22) = false := by rw [beq_eq_false_iff_ne]; exact h 22 (by decide)
  have f30 : (k == 30) = false := by rw [beq_eq_false_iff_ne]; exact h 30 (by decide)
  have f31 : (k == 31) = false := by rw [beq_eq_false_iff_ne]; exact h 31 (by decide)
  have f32 : (k == 32) = false := by rw [beq_eq_false_iff_ne]; exact h 32 (by decide)
  have f40 : (k == 40) = false := by rw [beq_eq_false_iff_ne]; exact h 40 (by decide)
  have f41 : (k == 41) = false := by rw [beq_eq_false_iff_ne]; exact h 41 (by decide)
  have f60 : (k == 60) = false := by rw [beq_eq_false_iff_ne]; exact h 60 (by decide)
  have f61 : (k == 61) = false := by rw [beq_eq_false_iff_ne]; exact h 61 (by decide)
  have f62 : (k == 62) = false := by rw [beq_eq_false_iff_ne]; exact h 62 (by decide)
  have f63 : (k == 63) = false := by rw [beq_eq_false_iff_ne]; exact h 63 (by decide)
  have f70 : (k == 70) = false := by rw [beq_eq_false_iff_ne]; exact h 70 (by decide)
  have f80 : (k == 80) = false := by rw [beq_eq_false_iff_ne]; exact h 80 (by decide)
  have f81 : (k == 81) = false := by rw [beq_eq_false_iff_ne]; exact h 81 (by decide)
  have f82 : (k == 82) = false := by rw [beq_eq_false_iff_ne]; exact h 82 (by decide)
  have f83 : (k == 83) = false := by rw [beq_eq_false_iff_ne]; exact h 83 (by decide)
  have f84 : (k == 84) = false := by rw [beq_eq_false_iff_ne]; exact h 84 (by decide)
  have f90 : (k == 90) = false := by rw [beq_eq_false_iff_ne]; exact h 90 (by decide)
  have f91 : (k == 91) = false := by rw [beq_eq_false_iff_ne]; exact h 91 (by decide)
  have f100 : (k == 100) = false := by rw [beq_eq_false_iff_ne]; exact h 100 (by decide)
  have f101 : (k == 101) = false := by rw [beq_eq_false_iff_ne]; exact h 101 (by decide)
  have f110 : (k == 110) = false := by rw [beq_eq_false_iff_ne]; exact h 110 (by decide)
  have f111 : (k == 111) = false := by rw [beq_eq_false_iff_ne]; exact h 111 (by decide)
  have f112 : (k == 112) = false := by rw [beq_eq_false_iff_ne]; exact h 112 (by decide)
  have f113 : (k == 113) = false := by rw [beq_eq_false_iff_ne]; exact h 113 (by decide)
  have f114 : (k == 114) = false := by rw [beq_eq_false_iff_ne]; exact h 114 (by decide)
  have f120 : (k == 120) = false := by rw [beq_eq_false_iff_ne]; exact h 120 (by decide)
  have f121 : (k == 121) = false := by rw [beq_eq_false_iff_ne]; exact h 121 (by decide)
  have f130 : (k == 130) = false := by rw [beq_eq_false_iff_ne]; exact h 130 (by decide)
  have f140 : (k == 140) = false := by rw [beq_eq_false_iff_ne]; exact h 140 (by decide)
  have f143 : (k == 143) = false := by rw [beq_eq_false_iff_ne]; exact h 143 (by decide)
  have f144 : (k == 144) = false := by rw [beq_eq_false_iff_ne]; exact h 144 (by decide)
  have f145 : (k == 145) = false := by rw [beq_eq_false_iff_ne]; exact h 145 (by decide)
  have f150 : (k == 150) = false := by rw [beq_eq_false_iff_ne]; exact h 150 (by decide)
  have f160 : (k == 160) = false := by rw [beq_eq_false_iff_ne]; exact h 160 (by decide)
  have f190 : (k == 190) = false := by rw [beq_eq_false_iff_ne]; exact h 190 (by decide)
  have f191 : (k == 191) = false := by rw [beq_eq_false_iff_ne]; exact h 191 (by decide)
  have f192 : (k == 192) = false := by rw [beq_eq_false_iff_ne]; exact h 192 (by decide)
  have f193 : (k == 193) = false := by rw [beq_eq_false_iff_ne]; exact h 193 (by decide)
  have f240 : (k == 240) = false := by rw [beq_eq_false_iff_ne]; exact h 240 (by decide)
  have f270 : (k == 270) = false := by rw [beq_eq_false_iff_ne]; exact h 270 (by decide)
  have f280 : (k == 280) = false := by rw [beq_eq_false_iff_ne]; exact h 280 (by decide)
  have f290 : (k == 290) = false := by rw [beq_eq_false_iff_ne]; exact h 290 (by decide)
  have f300 : (k == 300) = false := by rw [beq_eq_false_iff_ne]; exact h 300 (by decide)
  have f301 : (k == 301) = false := by rw [beq_eq_false_iff_ne]; exact h 301 (by decide)
  have f302 : (k == 302) = false := by rw [beq_eq_false_iff_ne]; exact h 302 (by decide)
  have f303 : (k == 303) = false := by rw [beq_eq_false_iff_ne]; exact h 303 (by decide)
  have f310 : (k == 310) = false := by rw [beq_eq_false_iff_ne]; exact h 310 (by decide)
  have f311 : (k == 311) = false := by rw [beq_eq_false_iff_ne]; exact h 311 (by decide)
  have f320 : (k == 320) = false := by rw [beq_eq_false_iff_ne]; exact h 320 (by decide)
  have f360 : (k == 360) = false := by rw [beq_eq_false_iff_ne]; exact h 360 (by decide)
  have f410 : (k == 410) = false := by rw [beq_eq_false_iff_ne]; exact h 410 (by decide)
  have HI := hide hi
  generalize num k = X at *
  clear hi h
  go_enter Tryd.func37, Tryd.ntmps37
  go_wp2_with (go_at_call 36; refine HI.out.mono ?_; rintro e w1 ⟨rfl, hb1⟩; have HB1 := hide hb1; clear hb1)
  go_ret
  exact ⟨ret_str HF.out.symm, HB1.out⟩

theorem words_any (k : Int) (h0 : -9223372036854775808 ≤ k) (h1 : k ≤ 9223372036854775807) : ∃ b : ByteArray, b.size ≤ 100 ∧
    (∀ w, Ready w → Calls Tryd.prog 35 #[.int .i64 k] w fun e w' => e = .returned (.string b) ∧ Below w.heap.size w w') ∧
    (∀ w, Calls Tryd.prog 37 #[.int .i64 k] w fun e w' => e = .returned (.string b) ∧ Below w.heap.size w w') := by
  by_cases h : ∀ c ∈ kinds, k ≠ c
  · refine ⟨other k, ?_, fun w hr => says_other k w h0 h1 h hr, fun w => words_other k w h0 h1 h⟩
    have := num_size k h0 h1
    unfold other
    rw [ByteArray.size_append]
    show 22 + _ ≤ 100
    omega
  · have hx : k ∈ kinds := by
      apply Classical.byContradiction
      intro hn
      exact h fun c hc e => hn (e ▸ hc)
    have go : ∀ b, Wd k b → ∃ b : ByteArray, b.size ≤ 100 ∧
        (∀ w, Ready w → Calls Tryd.prog 35 #[.int .i64 k] w fun e w' => e = .returned (.string b) ∧ Below w.heap.size w w') ∧
        (∀ w, Calls Tryd.prog 37 #[.int .i64 k] w fun e w' => e = .returned (.string b) ∧ Below w.heap.size w w') := fun b hb => ⟨b, hb.1, fun w _ => hb.2.1 w, hb.2.2⟩
    simp only [kinds, List.mem_cons, List.not_mem_nil, or_false] at hx
    rcases hx with rfl | rfl | rfl | rfl | rfl | rfl | rfl | rfl | rfl | rfl | rfl | rfl | rfl | rfl | rfl | rfl | rfl | rfl | rfl | rfl | rfl | rfl | rfl | rfl | rfl | rfl | rfl | rfl | rfl | rfl | rfl | rfl | rfl | rfl | rfl | rfl | rfl | rfl | rfl | rfl | rfl | rfl | rfl | rfl | rfl | rfl | rfl | rfl | rfl | rfl | rfl | rfl | rfl | rfl | rfl | rfl
    · exact go _ wd0
    · exact go _ wd10
    · exact go _ wd11
    · exact go _ wd20
    · exact go _ wd21
    · exact go _ wd22
    · exact go _ wd30
    · exact go _ wd31
    · exact go _ wd32
    · exact go _ wd40
    · exact go _ wd41
    · exact go _ wd60
    · exact go _ wd61
    · exact go _ wd62
    · exact go _ wd63
    · exact go _ wd70
    · exact go _ wd80
    · exact go _ wd81
    · exact go _ wd82
    · exact go _ wd83
    · exact go _ wd84
    · exact go _ wd90
    · exact go _ wd91
    · exact go _ wd100
    · exact go _ wd101
    · exact go _ wd110
    · exact go _ wd111
    · exact go _ wd112
    · exact go _ wd113
    · exact go _ wd114
    · exact go _ wd120
    · exact go _ wd121
    · exact go _ wd130
    · exact go _ wd140
    · exact go _ wd143
    · exact go _ wd144
    · exact go _ wd145
    · exact go _ wd150
    · exact go _ wd160
    · exact go _ wd190
    · exact go _ wd191
    · exact go _ wd192
    · exact go _ wd193
    · exact go _ wd240
    · exact go _ wd270
    · exact go _ wd280
    · exact go _ wd290
    · exact go _ wd300
    · exact go _ wd301
    · exact go _ wd302
    · exact go _ wd303
    · exact go _ wd310
    · exact go _ wd311
    · exact go _ wd320
    · exact go _ wd360
    · exact go _ wd410
end Go.Proofs.YtcgiifcikcfdaaaDoor
