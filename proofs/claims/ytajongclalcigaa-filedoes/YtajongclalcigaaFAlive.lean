/-
  The law's own 'alive'.
-/
import Derived.Test.YtajongclalcigaaFPut
namespace Go.Proofs.Ytajongclalcigaa.Fil
open Go.RowKit Go.Deep

set_option maxRecDepth 100000 in
theorem field_is (w : World) (is : Bool) (s : ByteArray) : (Instr.field 23 (.agg #[.bool is, .string s]) 0).run Try.prog w = .ok (.bool is) w := by rfl

set_option maxHeartbeats 1600000 in
set_option maxRecDepth 100000 in
theorem alive_any (w : World) : Calls Try.prog 8 #[] w fun e w' => e = .returned (.bool true) ∧ Below w.heap.size w w' := by
  have hc : CanBe true ⟨#[97]⟩ := .inl ⟨rfl, by decide⟩
  have e1 : txt (put [97] 2 99) = ⟨#[97, 0, 99]⟩ := by decide
  have P := put_yes hc 2 (by decide) 99 w
  rw [show (⟨#[97]⟩ : ByteArray).data.toList = [97] from rfl, e1] at P
  have HP := Hid.mk P
  clear P e1 hc
  go_enter Try.func8, Try.ntmps8
  go_wp2_with fail
  refine HP.out.mono ?_
  rintro e w1 ⟨rfl, hb1⟩
  have HB1 := Hid.mk (hb1.alloc hb1.size (.cells #[.bool true, .string ⟨#[97, 0, 99]⟩] 23))
  have hn := heap_new w1 (.cells #[.bool true, .string ⟨#[97, 0, 99]⟩] 23)
  have HN := Hid.mk hn
  clear hb1 hn HP
  go_wp2_with fail
  refine (at_yes (is := true) (s := ⟨#[97, 0, 99]⟩) (.inl ⟨rfl, by decide⟩) 0 (by decide) _).mono ?_
  rintro e w2 ⟨rfl, hb2⟩
  have HB2 := Hid.mk (HB1.out.trans (hb2.mono HB1.out.size))
  clear hb2
  go_wp2_with fail
  refine (make_yes (is := false) (s := ⟨#[]⟩) (.inr ⟨rfl, rfl⟩) w2).mono ?_
  rintro e w3 ⟨rfl, hb3⟩
  have HB3 := Hid.mk (HB2.out.trans (hb3.mono HB2.out.size))
  clear hb3
  have fl := field_is w3 true ⟨#[]⟩
  go_wp2
  go_ret
  exact ⟨rfl, HB3.out⟩

end Go.Proofs.Ytajongclalcigaa.Fil
