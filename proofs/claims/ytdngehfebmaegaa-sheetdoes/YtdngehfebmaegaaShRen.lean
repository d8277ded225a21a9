/-
  The walk of Rename of a sheet.
-/
import Derived.Test.YtdngehfebmaegaaShOps
namespace Go.Proofs.Ytdngehfebmaegaa.Sht
open Go.RowKit Go.Proofs.Ytdngehfebmaegaa.Cel Go.Proofs.Ytdngehfebmaegaa.Dft Go.Proofs.Ytdngehfebmaegaa.Dft.F
open Tom (CanF TomeAt)

section
variable {w w' : World} {t b g s d : Nat} {T : List (Fl × Int)} {v : Value} {R : List (Int × Fl)}

set_option maxHeartbeats 3200000 in
set_option maxRecDepth 100000 in
theorem rename_any (h : SheetAt w t b g T s d v R) (i j : Int) :
    Calls Try.prog 20 #[.pointer (some ⟨s, 0, none⟩), .pointer (some ⟨t, 0, none⟩), .int .i64 i, .int .i64 j] w (Left w t b g T s d v (ren T R i j) (decide (Is i ∧ Is j))) := by
  have HA := Hid.mk (has_any s i w)
  have HB := Hid.mk (has_any s j w)
  have HH := Hid.mk h
  by_cases hi : Is i
  · by_cases hj : Is j
    · have e : decide (Is i ∧ Is j) = true := decide_eq_true ⟨hi, hj⟩
      rw [e]
      rw [decide_eq_true hi] at HA
      rw [decide_eq_true hj] at HB
      have HIJ : Hid (Is i ∧ Is j) := ⟨hi, hj⟩
      have HG := Hid.mk (sget h i)
      have HC := Hid.mk (ovr_can h.tome.six h.fit i)
      obtain ⟨⟨p, x⟩, hp⟩ : ∃ p, p = ovr T R i := ⟨_, rfl⟩
      rw [← hp] at HG HC
      dsimp only at HG
      have HP := Hid.mk hp
      clear h e hi hj hp
      go_enter Try.func20, Try.ntmps20
      go_wp2_with fail
      refine HA.out.mono ?_
      rintro e w1 ⟨rfl, hw1⟩
      rw [hw1]
      clear hw1 w1
      go_wp2_with fail
      refine HB.out.mono ?_
      rintro e w1 ⟨rfl, hw1⟩
      rw [hw1]
      clear hw1 w1
      go_wp2_with fail
      refine HG.out.mono ?_
      rintro e w1 ⟨rfl, hb1⟩
      have hb2 := hb1.alloc hb1.size (.cells #[.bool p, .string x] 23)
      have HB2 := Hid.mk hb2
      have HS2 := Hid.mk (HH.out.grown hb2)
      have HBX := Hid.mk (heap_new w1 (.cells #[.bool p, .string x] 23))
      clear hb1 hb2 HG
      by_cases hr : p = true ∧ i ≠ j
      · have HR : Hid (ren T R i j = chg T (chg T R j (p, x)) i noFile) := Hid.mk (by
          unfold ren
          rw [if_pos ⟨HIJ.out.1, HIJ.out.2, by rw [← HP.out]; exact hr.1, hr.2⟩, ← HP.out])
        obtain ⟨rfl, hne⟩ := hr
        have hne2 : (i == j) = false := by simpa using hne
        have HC1 := Hid.mk (change_any HS2.out j (true, x) HC.out)
        clear hne
        go_wp2_with fail
        refine HC1.out.mono ?_
        rintro e w3 ⟨rfl, v3, hs3, hw3⟩
        have HS3 := Hid.mk hs3
        have HW3 := Hid.mk ((Wrote.of_below HB2.out).trans hw3)
        have HC2 := Hid.mk (change_any hs3 i noFile canF_no)
        clear hs3 hw3 HC1
        go_wp2_with fail
        refine HC2.out.mono ?_
        rintro e w4 ⟨rfl, v4, hs4, hw4⟩
        have HS4 := Hid.mk hs4
        have HW4 := Hid.mk (HW3.out.trans hw4)
        clear hs4 hw4 HC2
        go_wp2
        go_ret
        exact ⟨rfl, v4, by rw [HR.out]; exact HS4.out, HW4.out⟩
      · have HR : Hid (ren T R i j = R) := Hid.mk (by
          unfold ren
          rw [if_neg (fun k => hr ⟨by rw [← HP.out] at k; exact k.2.2.1, k.2.2.2⟩)])
        cases p with
        | true =>
          have hne2 : (i == j) = true := by
            have : ¬ i ≠ j := fun k => hr ⟨rfl, k⟩
            simpa using this
          clear hr
          go_wp2
          go_ret
          exact ⟨rfl, v, by rw [HR.out]; exact HS2.out, Wrote.of_below HB2.out⟩
        | false =>
          clear hr
          go_wp2
          go_ret
          exact ⟨rfl, v, by rw [HR.out]; exact HS2.out, Wrote.of_below HB2.out⟩
    · have e : decide (Is i ∧ Is j) = false := decide_eq_false (fun k => hj k.2)
      rw [e]
      rw [decide_eq_true hi] at HA
      rw [decide_eq_false hj] at HB
      have HR : Hid (ren T R i j = R) := Hid.mk (by unfold ren; rw [if_neg (fun k => hj k.2.1)])
      clear h e hi hj
      go_enter Try.func20, Try.ntmps20
      go_wp2_with fail
      refine HA.out.mono ?_
      rintro e w1 ⟨rfl, hw1⟩
      rw [hw1]
      clear hw1 w1
      go_wp2_with fail
      refine HB.out.mono ?_
      rintro e w1 ⟨rfl, hw1⟩
      rw [hw1]
      clear hw1 w1
      go_wp2
      go_ret
      exact ⟨rfl, v, by rw [HR.out]; exact HH.out, Wrote.refl _ _⟩
  · have e : decide (Is i ∧ Is j) = false := decide_eq_false (fun k => hi k.1)
    rw [e]
    rw [decide_eq_false hi] at HA
    have HR : Hid (ren T R i j = R) := Hid.mk (by unfold ren; rw [if_neg (fun k => hi k.1)])
    clear h e hi
    go_enter Try.func20, Try.ntmps20
    go_wp2_with fail
    refine HA.out.mono ?_
    rintro e w1 ⟨rfl, hw1⟩
    rw [hw1]
    clear hw1 w1
    go_wp2
    go_ret
    exact ⟨rfl, v, by rw [HR.out]; exact HH.out, Wrote.refl _ _⟩

end

end Go.Proofs.Ytdngehfebmaegaa.Sht
