/-
  'alive': what the document tells of a sheet.
-/
import Derived.Test.YtdngehfebmaegaaShDoes
namespace Go.Proofs.Ytdngehfebmaegaa.Sht
open Go.RowKit Go.Deep Go.Proofs.Ytdngehfebmaegaa.Cel Go.Proofs.Ytdngehfebmaegaa.Dft Go.Proofs.Ytdngehfebmaegaa.Dft.F
open Tom (CanF TomeAt)
open Cel.F (none6)

theorem look_chg (T : List (Fl × Int)) (R : List (Int × Fl)) (i j : Int) (x : Fl) : (Dft.look (chg T R i x) j).isSome = if j = i ∧ Is i ∧ ovr T R i ≠ x then true else (Dft.look R j).isSome := by
  unfold chg
  by_cases hi : Is i
  · rw [if_pos hi]
    by_cases hx : ovr T R i = x
    · rw [if_pos hx, if_neg (fun k => k.2.2 hx)]
    · rw [if_neg hx, look_put]
      by_cases hj : j = i
      · rw [if_pos hj, if_pos ⟨hj, hi, hx⟩]; rfl
      · rw [if_neg hj, if_neg (fun k => hj k.1)]
  · rw [if_neg hi, if_neg (fun k => hi k.2.1)]

/-- What was written behind Create(1), Rename(1, 2). -/
abbrev aR1 : List (Int × Fl) := chg none6 [] 1 (mkV (ovr none6 [] 1))
abbrev aR2 : List (Int × Fl) := ren none6 aR1 1 2

theorem base_none (i : Int) : base none6 i = noFile := by
  unfold base
  split
  · rename_i h
    obtain ⟨j, rfl⟩ : ∃ j : Nat, i = (j : Int) := ⟨i.toNat, by omega⟩
    rw [Int.toNat_natCast]
    rcases below6 (show j < 6 by omega) with rfl | rfl | rfl | rfl | rfl | rfl <;> rfl
  · rfl

theorem aR1_files (j : Int) : ovr none6 aR1 j = if j = 1 then (true, ⟨#[]⟩) else noFile := by
  have e : ∀ k, ovr none6 [] k = noFile := fun k => base_none k
  unfold aR1
  rw [ovr_chg, e, e]
  by_cases h : j = 1
  · rw [if_pos ⟨h, by omega⟩, if_pos h]; rfl
  · rw [if_neg (fun k => h k.1), if_neg h]

theorem aR2_is : aR2 = chg none6 (chg none6 aR1 2 (true, ⟨#[]⟩)) 1 noFile := by
  show ren none6 aR1 1 2 = _
  unfold ren
  rw [aR1_files, if_pos rfl, if_pos ⟨by omega, by omega, rfl, by decide⟩]

theorem aR2_one : ovr none6 aR2 1 = noFile := by rw [aR2_is, ovr_chg, if_pos ⟨rfl, by omega⟩]
theorem aR2_two : ovr none6 aR2 2 = (true, ⟨#[]⟩) := by rw [aR2_is, ovr_chg, if_neg (fun k => by omega), ovr_chg, if_pos ⟨rfl, by omega⟩]
theorem aR2_was : (Dft.look aR2 2).isSome = true := by
  have h : ovr none6 aR1 2 ≠ (true, ⟨#[]⟩) := by
    rw [aR1_files, if_neg (by decide)]
    intro h
    have := congrArg Prod.fst h
    cases this
  rw [aR2_is, look_chg, if_neg (fun k => by omega), look_chg, if_pos ⟨rfl, by omega, h⟩]

set_option maxHeartbeats 3200000 in
set_option maxRecDepth 100000 in
theorem aliveS (w : World) : Calls Try.prog 7 #[] w fun e w' => e = .returned (.bool true) ∧ Below w.heap.size w w' := by
  go_enter Try.func7, Try.ntmps7
  go_wp2_with fail
  refine (Sht.new_any w).mono ?_
  rintro e w1 ⟨s, d, rfl, hs, hd, hb1, hs1, hd1⟩
  have HS := Hid.mk hs
  have HD := Hid.mk hd
  have HB := Hid.mk hb1
  have HS1 := Hid.mk hs1
  have HD1 := Hid.mk hd1
  clear hs hd hb1 hs1 hd1
  go_wp2_with fail
  refine (Tom.new_any w1).mono ?_
  rintro e w2 ⟨t, b, g, rfl, ht, hb2, ht2, hb2', hg2⟩
  have hsh : SheetAt w2 t b g none6 s d (.slice none 0 0) [] := ⟨ht, (hb2.block s (Array.getElem?_eq_some_iff.1 HS.out).1).trans HS.out, HD.out.grown hb2, Fits.nil⟩
  have HSH := Hid.mk hsh
  have HB2 := Hid.mk (HB.out.trans (hb2.mono HB.out.size))
  have HC1 := Hid.mk (mk_any hsh 1)
  have HFT : Hid (∀ k, Foot d [(.slice none 0 0 : Value)] k → w.heap.size ≤ k) := Hid.mk (fun k hk => by
    rcases hk with e | ⟨x, hx, e⟩
    · rw [e]; exact HD1.out
    · simp at hx
      subst hx
      cases e)
  rw [show decide (Is 1) = true from rfl] at HC1
  clear hsh ht hb2 ht2 hb2' hg2 HS HD HS1 HD1
  go_wp2_with fail
  refine HC1.out.mono ?_
  rintro e w3 ⟨rfl, v3, hs3, hw3⟩
  have HS3 := Hid.mk hs3
  have HW3 := Hid.mk hw3
  have HC2 := Hid.mk (rename_any hs3 1 2)
  rw [show decide (Is 1 ∧ Is 2) = true from rfl] at HC2
  clear hs3 hw3 HC1
  go_wp2_with fail
  refine HC2.out.mono ?_
  rintro e w4 ⟨rfl, v4, hs4, hw4⟩
  have HW4 := Hid.mk (HW3.out.trans hw4)
  have hs4 : SheetAt w4 t b g none6 s d v4 aR2 := hs4
  have HS4 := Hid.mk hs4
  have hg2 := sget hs4 2
  rw [aR2_two, aR2_was] at hg2
  have HG2 := Hid.mk hg2
  clear hs4 hw4 hg2 HC2
  go_wp2_with fail
  refine HG2.out.mono ?_
  rintro e w5 ⟨rfl, hb5⟩
  have hb6 := hb5.alloc hb5.size (.cells #[.bool true, .string ⟨#[]⟩] 23)
  have hs5 := HS4.out.grown hb6
  have hn5 := heap_new w5 (.cells #[.bool true, .string ⟨#[]⟩] 23)
  have hg1 := sget hs5 1
  rw [aR2_one] at hg1
  have HG1 := Hid.mk hg1
  have HN5 := Hid.mk hn5
  have HB6 := Hid.mk hb6
  clear hb5 hb6 hs5 hn5 hg1 HG2
  go_wp2_with fail
  refine HG1.out.mono ?_
  rintro e w7 ⟨rfl, hb7⟩
  have hn7 := (hb7.block w5.heap.size (by simp)).trans HN5.out
  obtain ⟨e0, e1, g0, g1⟩ := box_past (.cells #[.bool false, .string ⟨#[]⟩] 23) hn7
  have HB8 := Hid.mk (HB6.out.trans ((hb7.alloc hb7.size (.cells #[.bool false, .string ⟨#[]⟩] 23)).mono HB6.out.size))
  clear hb7 hn7 HG1
  dsimp only
  go_wp2
  go_ret
  have hw := HW4.out
  exact ⟨rfl, (HB2.out.trans (hw.below HB2.out.size HFT.out)).trans (HB8.out.mono (Nat.le_trans HB2.out.size hw.size))⟩

end Go.Proofs.Ytdngehfebmaegaa.Sht
