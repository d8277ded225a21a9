/-
  The walk of the document's Check.
-/
import Derived.Test.YtkpbampffndjoaaCOne
namespace Go.Proofs.Ytkpbampffndjoaa
open Go.RowKit

theorem all_next {ps : List Ins} {k : Nat} (h : allB ps k = true) (h1 : oneB ps k = true) : allB ps (k + 1) = true := by
  simp only [allB, h, h1, Bool.and_self]

set_option maxHeartbeats 3200000 in
set_option maxRecDepth 100000 in
theorem refCheck_any {w : World} {a : Option Addr} {len cap : Nat} {ps : List Ins} (hp : IsIns w a len cap ps) (hwf : Wf ps) (hl : len ≤ 100) :
    Calls Try.prog 11 #[.slice a len cap] w fun e w' => ∃ i er, e = .returned (.tuple #[.int .i64 i, .int .i64 er]) ∧ Chk ps i er ∧ Below w.heap.size w w' := by
  have HP := Hid.mk hp
  have HL := Hid.mk hp.1
  have HW := Hid.mk hwf
  have hb := Below.refl w.heap.size w
  clear hp hwf
  go_enter Try.func11, Try.ntmps11
  by_cases h48 : len > 48
  · have z : decide ((len : Int) > 48) = true := by simp; omega
    go_wp2
    go_ret2
    exact ⟨0, 3, rfl, .inl ⟨by rw [HL.out]; exact h48, rfl, rfl⟩, hb⟩
  have z : decide ((len : Int) > 48) = false := by simp; omega
  have hl48 : len ≤ 48 := by omega
  clear h48 hl
  go_wp2_with fail
  refine (shaped_any HP.out hl48).mono ?_
  rintro e w1 ⟨rfl, hb1⟩
  cases hs : shB ps with
  | false =>
    have HSH := Hid.mk hs
    clear hs
    go_wp2
    go_ret2
    exact ⟨0, 11, rfl, .inr (.inl ⟨by rw [HL.out]; exact hl48, HSH.out, rfl, rfl⟩), hb1⟩
  | true =>
    have HSH := Hid.mk hs
    have HSS := Hid.mk (shB_iff.1 hs)
    clear hs
    go_wp2
    go_loopw [4, 13] (fun _ idx wr => ∃ k : Nat, k ≤ len ∧ idx = .int .i64 k ∧ allB ps k = true ∧ Below w.heap.size w wr) (fun _ idx _ => len - (intOf idx).toNat)
    case atStart => exact ⟨0, Nat.zero_le _, rfl, rfl, hb1⟩
    case round =>
      obtain ⟨k, hk, rfl, hall, hbr⟩ := hrel
      have HA := Hid.mk hall
      clear hall
      by_cases hlt : k < len
      · have HLT := Hid.mk hlt
        go_wp2_with fail
        refine (one_any (HP.out.carry hbr) HW.out hl48 HSS.out hlt).mono ?_
        rintro e w2 ⟨rfl, hb2⟩
        have hb3 : Below w.heap.size w w2 := hbr.trans (hb2.mono hbr.size)
        clear hb2
        cases ho : oneB ps k with
        | true =>
          have HO := Hid.mk ho
          clear ho
          go_wp2
          go_roundw
          case rel => exact ⟨k + 1, HLT.out, by go_num, all_next HA.out HO.out, hb3⟩
          case measure => have := HLT.out; simp [intOf]; omega
        | false =>
          have HO := Hid.mk ho
          clear ho
          go_wp2
          go_ret2
          exact ⟨k, 11, rfl, .inr (.inr (.inl ⟨by rw [HL.out]; exact hl48, HSH.out, k, by rw [HL.out]; exact HLT.out, HA.out, HO.out, rfl, rfl⟩)), hb3⟩
      · obtain rfl : k = len := by omega
        go_wp2
        go_ret2
        exact ⟨0, 0, rfl, .inr (.inr (.inr ⟨by rw [HL.out]; exact hl48, HSH.out, by rw [HL.out]; exact HA.out, rfl, rfl⟩)), hbr⟩

end Go.Proofs.Ytkpbampffndjoaa
