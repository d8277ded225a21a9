/-
  The walk of Crash of the document's wire.
-/
import Derived.Test.YtjiljencdhbchaaXIdx
namespace Go.Proofs.Ytjiljencdhbchaa
open Go.RowKit

theorem crash_all (y : Wy) : y.crash.all = y.all.extract 0 y.came := by
  rw [extract_part]
  rfl

theorem Only.alloc {m : Nat} {w w' : World} (h : Only m w w') (o : Obj) : Only m w (w'.alloc o) := by
  refine ⟨h.os, h.tape, h.output, by have := h.size; simp; omega, fun k hk hm => ?_⟩
  rw [Below.heap_alloc _ _ _ (Nat.lt_of_lt_of_le hk h.size)]
  exact h.block k hk hm
theorem Ref.alloc {w : World} {m : Nat} {f : Nat → Wy} (h : Ref w m f) (o : Obj) : Ref (w.alloc o) m f := h.carry (Below.heap_alloc _ _ _ h.lt)

theorem Only.trans {m : Nat} {w w1 w2 : World} (h : Only m w w1) (k : Only m w1 w2) : Only m w w2 :=
  ⟨k.os.trans h.os, k.tape.trans h.tape, k.output.trans h.output, Nat.le_trans h.size k.size, fun i hi hm => (k.block i (Nat.lt_of_lt_of_le hi h.size) hm).trans (h.block i hi hm)⟩

set_option maxHeartbeats 1600000 in
set_option maxRecDepth 100000 in
theorem refCrash {w : World} {m : Nat} {f : Nat → Wy} (h : Ref w m f) (hg : ∀ i, i < 3 → (f i).Good) :
    Calls Try.prog 18 #[.pointer (some ⟨m, 0, none⟩)] w fun e w' => e = .returned (.tuple #[]) ∧ Ref w' m (cutF f 3) ∧ Only m w w' := by
  have a0 := h.ca 0 (by decide)
  have a1 := h.cg 0 (by decide)
  have a2 := h.cc 0 (by decide)
  have a3 := h.ca 1 (by decide)
  have a4 := h.cg 1 (by decide)
  have a5 := h.cc 1 (by decide)
  have a6 := h.ca 2 (by decide)
  have a7 := h.cg 2 (by decide)
  have a8 := h.cc 2 (by decide)
  simp only [Nat.zero_mul, Nat.zero_add, Nat.one_mul] at a0 a1 a2 a3 a4 a5 a6 a7 a8
  have hle : ∀ i, i < 3 → (f i).came ≤ (f i).all.size := fun i hi => by
    have := (hg i hi).cl
    simpa [Wy.all, ByteArray.size] using this
  have H := Hid.mk h
  have HLE := Hid.mk hle
  clear hg hle h
  go_enter Try.func18, Try.ntmps18
  go_wp2
  go_loopw [2, 3, 8] (fun _ _ i wr => ∃ k : Nat, k ≤ 3 ∧ i = .int .i64 k ∧ Ref wr m (cutF f k) ∧ Only m w wr) (fun _ _ i _ => 3 - (intOf i).toNat)
  case atStart => exact ⟨0, Nat.zero_le _, rfl, by rw [cutF_zero]; exact H.out, Only.of_below (Below.refl _ _)⟩
  case round =>
    obtain ⟨k, hk, rfl, hr, hw⟩ := hrel
    by_cases hk0 : k = 0
    · subst hk0
      have hm := hr.lt
      have k0 : wr.cell? ⟨m, 0, none⟩ = some (.string (cutF f 0 0).all) := hr.ca 0 (by decide)
      have k1 : wr.cell? ⟨m, 1, none⟩ = some (.int .i64 (cutF f 0 0).gone) := hr.cg 0 (by decide)
      have k2 : wr.cell? ⟨m, 2, none⟩ = some (.int .i64 (cutF f 0 0).came) := hr.cc 0 (by decide)
      have z0 := hr.fz 0
      have z1 := hr.fz 1
      have z2 := hr.fz 2
      have q := HLE.out 0 (by decide)
      have q1 : ((f 0).came : Int) ≤ ((f 0).all.size : Int) := by omega
      have q0 : (0 : Int) ≤ ((f 0).came : Int) := by omega
      have HR := Hid.mk ((hr.set3 0 (by decide) (f 0).crash).alloc (.cells #[.string (f 0).all, .int .i64 (f 0).gone, .int .i64 (f 0).came] 29))
      rw [cutF_succ, crash_all] at HR
      have HO := Hid.mk ((((((Only.of_below (m := m) (Below.refl _ wr)).set 0 (.string ((f 0).all.extract 0 (f 0).came))).set 1 (.int .i64 (f 0).came)).set 2 (.int .i64 (f 0).came)).alloc (.cells #[.string (f 0).all, .int .i64 (f 0).gone, .int .i64 (f 0).came] 29)).drew)
      have HW := Hid.mk hw
      have I0 := ix0
      clear hr hw
      go_wp2_with fail
      go_region
      all_goals
        go_wp2
        go_roundw
        case rel => exact ⟨1, by decide, rfl, ⟨HR.out.at_⟩, HW.out.trans HO.out⟩
        case measure => simp [intOf]
    by_cases hk1 : k = 1
    · subst hk1
      have hm := hr.lt
      have k0 : wr.cell? ⟨m, 3, none⟩ = some (.string (cutF f 1 1).all) := hr.ca 1 (by decide)
      have k1 : wr.cell? ⟨m, 4, none⟩ = some (.int .i64 (cutF f 1 1).gone) := hr.cg 1 (by decide)
      have k2 : wr.cell? ⟨m, 5, none⟩ = some (.int .i64 (cutF f 1 1).came) := hr.cc 1 (by decide)
      have z0 := hr.fz 3
      have z1 := hr.fz 4
      have z2 := hr.fz 5
      have q := HLE.out 1 (by decide)
      have q1 : ((f 1).came : Int) ≤ ((f 1).all.size : Int) := by omega
      have q0 : (0 : Int) ≤ ((f 1).came : Int) := by omega
      have HR := Hid.mk ((hr.set3 1 (by decide) (f 1).crash).alloc (.cells #[.string (f 1).all, .int .i64 (f 1).gone, .int .i64 (f 1).came] 29))
      rw [cutF_succ, crash_all] at HR
      have HO := Hid.mk ((((((Only.of_below (m := m) (Below.refl _ wr)).set 3 (.string ((f 1).all.extract 0 (f 1).came))).set 4 (.int .i64 (f 1).came)).set 5 (.int .i64 (f 1).came)).alloc (.cells #[.string (f 1).all, .int .i64 (f 1).gone, .int .i64 (f 1).came] 29)).drew)
      have HW := Hid.mk hw
      have I1 := ix1
      clear hr hw
      go_wp2_with fail
      go_region
      all_goals
        go_wp2
        go_roundw
        case rel => exact ⟨2, by decide, rfl, ⟨HR.out.at_⟩, HW.out.trans HO.out⟩
        case measure => simp [intOf]
    by_cases hk2 : k = 2
    · subst hk2
      have hm := hr.lt
      have k0 : wr.cell? ⟨m, 6, none⟩ = some (.string (cutF f 2 2).all) := hr.ca 2 (by decide)
      have k1 : wr.cell? ⟨m, 7, none⟩ = some (.int .i64 (cutF f 2 2).gone) := hr.cg 2 (by decide)
      have k2 : wr.cell? ⟨m, 8, none⟩ = some (.int .i64 (cutF f 2 2).came) := hr.cc 2 (by decide)
      have z0 := hr.fz 6
      have z1 := hr.fz 7
      have z2 := hr.fz 8
      have q := HLE.out 2 (by decide)
      have q1 : ((f 2).came : Int) ≤ ((f 2).all.size : Int) := by omega
      have q0 : (0 : Int) ≤ ((f 2).came : Int) := by omega
      have HR := Hid.mk ((hr.set3 2 (by decide) (f 2).crash).alloc (.cells #[.string (f 2).all, .int .i64 (f 2).gone, .int .i64 (f 2).came] 29))
      rw [cutF_succ, crash_all] at HR
      have HO := Hid.mk ((((((Only.of_below (m := m) (Below.refl _ wr)).set 6 (.string ((f 2).all.extract 0 (f 2).came))).set 7 (.int .i64 (f 2).came)).set 8 (.int .i64 (f 2).came)).alloc (.cells #[.string (f 2).all, .int .i64 (f 2).gone, .int .i64 (f 2).came] 29)).drew)
      have HW := Hid.mk hw
      have I2 := ix2
      clear hr hw
      go_wp2_with fail
      go_region
      all_goals
        go_wp2
        go_roundw
        case rel => exact ⟨3, by decide, rfl, ⟨HR.out.at_⟩, HW.out.trans HO.out⟩
        case measure => simp [intOf]
    have hk3 : k = 3 := by omega
    subst hk3
    have HR := Hid.mk hr
    have HW := Hid.mk hw
    clear hr hw
    go_wp2
    go_end0
    exact ⟨rfl, HR.out, HW.out⟩

end Go.Proofs.Ytjiljencdhbchaa
