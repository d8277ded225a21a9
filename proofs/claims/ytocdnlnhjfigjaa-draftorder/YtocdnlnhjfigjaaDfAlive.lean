/-
  'alive': what the document tells of a draft of texts.
-/
import Derived.Test.YtocdnlnhjfigjaaDfPutS
import Derived.Test.YtocdnlnhjfigjaaDfNums
namespace Go.Proofs.Ytocdnlnhjfigjaa.Dft
open Go.RowKit Go.Proofs.Ytocdnlnhjfigjaa.Cel

set_option maxHeartbeats 4000000 in
set_option maxRecDepth 100000 in
theorem alive_any (w : World) : Calls Try.prog 6 #[] w fun e w' => e = .returned (.bool true) ∧ Below w.heap.size w w' := by
  have hd0 := S.DraftAt.made w
  have hb0 : Below w.heap.size w (w.alloc (.cells #[.slice none 0 0] 46)) := (Below.refl _ w).alloc (Nat.le_refl _) _
  have hg := fun (z : World) (hz : S.DraftAt z w.heap.size (.slice none 0 0) []) => S.get_yes hz (by decide) 3
  have e0 : look ([] : List (Int × ByteArray)) 3 = none := rfl
  rw [e0] at hg
  simp only [Option.getD_none, Option.isSome_none] at hg
  have HD0 := Hid.mk hd0
  have HB0 := Hid.mk hb0
  have HG := Hid.mk hg
  clear hd0 hb0 hg e0
  obtain ⟨b, hb⟩ : ∃ b, b = w.heap.size := ⟨_, rfl⟩
  have HBB := Hid.mk hb
  go_enter Try.func6, Try.ntmps6
  go_wp2_with fail
  refine (HG.out _ HD0.out).mono ?_
  rintro e w1 ⟨rfl, hb1⟩
  have HB1 := Hid.mk (HB0.out.trans (hb1.mono HB0.out.size))
  have HD1 := Hid.mk (HD0.out.grown hb1)
  clear hb1
  rw [← hb] at HD1 ⊢
  clear hb
  go_wp2_with fail
  refine (S.put_any HD1.out (by decide) 3 ⟨#[120]⟩).mono ?_
  rintro e w2 ⟨rfl, v2, hd2, hw2⟩
  have HD2 := Hid.mk hd2
  have HW2 := Hid.mk hw2
  clear hd2 hw2
  go_wp2_with fail
  refine (S.put_any HD2.out (Nat.le_trans (length_put_le _ _ _) (by decide)) 1 ⟨#[121]⟩).mono ?_
  rintro e w3 ⟨rfl, v3, hd3, hw3⟩
  have HD3 := Hid.mk hd3
  have HW3 := Hid.mk hw3
  have hl : ((put (put ([] : List (Int × ByteArray)) 3 ⟨#[120]⟩) 1 ⟨#[121]⟩).length : Nat) = 2 := rfl
  have hlen := S.len_yes hd3
  rw [hl] at hlen
  have HL := Hid.mk hlen
  clear hd3 hw3 hl hlen
  go_wp2_with fail
  refine HL.out.mono ?_
  rintro e w4 ⟨rfl, hw4⟩
  rw [hw4]
  clear hw4 w4
  go_wp2
  go_ret
  have hf : ∀ k, Foot b [(.slice none 0 0 : Value)] k → w.heap.size ≤ k := fun k hk => by
    rcases hk with e | ⟨x, hx, e⟩
    · rw [e, HBB.out]; exact Nat.le_refl _
    · simp at hx
      subst hx
      cases e
  have hw := HW2.out.trans HW3.out
  exact ⟨rfl, HB1.out.trans (hw.below HB1.out.size hf)⟩

end Go.Proofs.Ytocdnlnhjfigjaa.Dft
