/- The law SrcMessages, walked: it answers true. No conditions beyond what the library's variables hold, and that the kind is an int. -/
import Derived.Test.YtcgiifcikcfdaaaDoorU
import Derived.Test.YtcgiifcikcfdaaaDoorS4
namespace Go.Proofs.YtcgiifcikcfdaaaDoor
open Go.RowKit

set_option maxHeartbeats 2000000 in
theorem srcMessages_walk (s : ByteArray) (kind at_ : Int) (w : World) (hk : -9223372036854775808 ≤ kind ∧ kind ≤ 9223372036854775807) (hr : Ready w) :
    Calls Tryd.prog 10 #[.string s, .int .i64 kind, .int .i64 at_] w fun e w' => e = .returned (.bool true) ∧ Below w.heap.size w w' := by
  have HA := hide awake_any
  have HR0 := hide hr
  have HBW := hide (Below.refl w.heap.size w)
  clear hr
  by_cases hs : (500 : Int) < s.size
  · have hd : decide ((500 : Int) < (s.size : Int)) = true := by simpa using hs
    clear hs hk
    go_enter Tryd.func10, Tryd.ntmps10
    go_wp2_with fail
    refine (HA.out _ HR0.out).mono ?_
    rintro e w1 ⟨rfl, hb1⟩
    have HB1 := hide (HBW.out.trans (hb1.mono HBW.out.size))
    have HR1 := hide (HR0.out.below hb1)
    clear hb1
    go_wp2_with fail
    refine (HA.out _ HR1.out).mono ?_
    rintro e w2 ⟨rfl, hb2⟩
    have HB2 := hide (bl_trans HB1.out hb2)
    clear hb2
    go_wp2
    go_ret
    exact ⟨rfl, HB2.out⟩
  · have hd : decide ((500 : Int) < (s.size : Int)) = false := by simpa using hs
    obtain ⟨b, hb, hsay, hwd⟩ := words_any kind hk.1 hk.2
    have h1 := fun w (h : Ready w) => message_of s kind at_ b w (by omega) (by omega) h hsay
    have h2 := fun w => refMessage_of s kind at_ b w (by omega) (by omega) hwd
    generalize msg s at_ b = z at *
    have H1 := hide h1
    have H2 := hide h2
    clear h1 h2 hb hsay hwd hs hk
    go_enter Tryd.func10, Tryd.ntmps10
    go_wp2_with fail
    refine (HA.out _ HR0.out).mono ?_
    rintro e w1 ⟨rfl, hb1⟩
    have HB1 := hide (HBW.out.trans (hb1.mono HBW.out.size))
    have HR1 := hide (HR0.out.below hb1)
    clear hb1
    go_wp2_with fail
    have hbox : Box w1 kind at_ (w1.alloc (Obj.cells #[.int .i64 kind, .int .i64 at_] 25)) := ⟨by simp, by simp, (Below.refl _ w1).alloc (Nat.le_refl _) _, by simp⟩
    have hbox1 := hbox.drew
    have c0 := hbox.kind
    have c1 := hbox.at_
    have HRD : Hid (Ready (w1.alloc (Obj.cells #[.int .i64 kind, .int .i64 at_] 25)).drew) :=
      have h := HR1.out.below hbox.below
      ⟨h.max, h.tab, h.two⟩
    go_region_held3 (fun w' => w'.cell? ⟨w1.heap.size, 0, none⟩ = some (.int .i64 kind) ∧ w'.cell? ⟨w1.heap.size, 1, none⟩ = some (.int .i64 at_)) (first | exact ⟨by assumption, by assumption⟩ | go_keep | trivial) (first
      | (go_at_call 23; refine (H1.out _ HRD.out).mono ?_; rintro e w2 ⟨rfl, hb2⟩; have hq := Box.step (by assumption) hb2; clear hb2; have k0 := hq.kind; have k1 := hq.at_)
      | (go_at_call 24; refine (H2.out _).mono ?_; rintro e w3 ⟨rfl, hb3⟩; have hq := Box.step (by assumption) hb3; clear hb3; have k0 := hq.kind; have k1 := hq.at_))
    go_wp2
    go_ret
    exact ⟨rfl, bl_trans HB1.out (Box.below (k := kind) (a := at_) (by assumption))⟩
end Go.Proofs.YtcgiifcikcfdaaaDoor
