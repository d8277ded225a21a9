/-
  Same; and what the law holds ahead of all else.
-/
import Derived.Test.YtabjjjbopbjbeaaTBytes
namespace Go.Proofs.Ytabjjjbopbjbeaa.Tom
open Go.RowKit Cel

set_option maxHeartbeats 800000 in
set_option maxRecDepth 100000 in
theorem same_any {w : World} {t b g t2 b2 g2 : Nat} {R S : List ((Bool × ByteArray) × Int)} (hR : TomeAt w t b g R) (hS : TomeAt w t2 b2 g2 S) :
    Calls Try.prog 18 #[.pointer (some ⟨t, 0, none⟩), .pointer (some ⟨t2, 0, none⟩)] w fun e w' => e = .returned (.bool (decide (filesOf R = filesOf S))) ∧ Below w.heap.size w w' := by
  have C1 := Hid.mk (bytes_yes hR)
  have HS := Hid.mk hS
  have HE : Hid ((fromB 0 (filesOf R) == fromB 0 (filesOf S)) = decide (filesOf R = filesOf S)) := Hid.mk (by
    by_cases h : filesOf R = filesOf S
    · rw [h, decide_eq_true rfl]; exact beq_self_eq_true _
    · rw [decide_eq_false h]
      exact beq_false_of_ne (fun k => h (hR.six.same hS.six k)))
  clear hR hS
  go_enter Try.func18, Try.ntmps18
  go_wp2_with fail
  refine C1.out.mono ?_
  rintro e w1 ⟨rfl, hb1⟩
  have HB1 := Hid.mk hb1
  have C2 := Hid.mk (bytes_yes (HS.out.grown hb1))
  clear hb1
  go_wp2_with fail
  refine C2.out.mono ?_
  rintro e w2 ⟨rfl, hb2⟩
  have HB2 := Hid.mk (HB1.out.trans (hb2.mono HB1.out.size))
  clear hb2
  go_wp2
  go_ret
  exact ⟨by rw [← HE.out]; rfl, HB2.out⟩

/-- What 'alive' sets, and what the tome is then. -/
def R1 : List ((Bool × ByteArray) × Int) := setR F.none6 2 (true, ⟨#[97, 98]⟩) 1

theorem R1_bytes : fromB 0 (filesOf R1) = [2, 2, 97, 98] := by decide

set_option maxHeartbeats 800000 in
set_option maxRecDepth 100000 in
theorem alive_any (w : World) : Calls Try.prog 7 #[] w fun e w' => e = .returned (.bool true) ∧ Below w.heap.size w w' := by
  go_enter Try.func7, Try.ntmps7
  go_wp2_with fail
  refine (new_any w).mono ?_
  rintro e w1 ⟨t, b, g, rfl, hT, hb, ht, hbb, hg⟩
  have C1 := Hid.mk (set_any hT 2 (true, ⟨#[97, 98]⟩) 1)
  have hk : okS 2 (true, ⟨#[97, 98]⟩) = true := by decide
  rw [hk] at C1
  have HB := Hid.mk hb
  have HG := Hid.mk hg
  clear hT hb ht hbb hg hk
  go_wp2_with fail
  refine C1.out.mono ?_
  rintro e w2 ⟨rfl, hT2, hb2⟩
  have hT3 : TomeAt w2 t b g R1 := hT2
  have C2 := bytes_yes hT3
  rw [R1_bytes] at C2
  have HC2 := Hid.mk C2
  have HB2 : Hid (Below w.heap.size w w2) := Hid.mk (HB.out.trans (hb2.below HB.out.size (fun k hk => by
    have e : k = g := by simpa using hk
    rw [e]; exact HG.out)))
  clear C2 hT2 hT3 hb2 C1
  go_wp2_with fail
  refine HC2.out.mono ?_
  rintro e w3 ⟨rfl, hb3⟩
  have HB3 := Hid.mk (HB2.out.trans (hb3.mono HB2.out.size))
  clear hb3
  go_wp2
  go_ret
  exact ⟨rfl, HB3.out⟩

end Go.Proofs.Ytabjjjbopbjbeaa.Tom
