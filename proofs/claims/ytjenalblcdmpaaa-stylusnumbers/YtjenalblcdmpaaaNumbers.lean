/-
  StylusNumbers: for every two numbers, every bytes and every bound the law returns true: unlike numbers have unlike bytes, none the beginning of another's; a reader reads the number that the document says, or is bad. No condition.
-/
import Derived.Test.YtjenalblcdmpaaaTaken
import Derived.Test.YtjenalblcdmpaaaLists
namespace Go.Proofs.Ytjenalblcdmpaaa.stylusNumbers
open Go.ChangeShapes Go.WideShapes Go.ChangeAt Go.RowKit

theorem foldN_inj {x y : Int} (h : foldN x = foldN y) : x = y := by
  have h1 : unfI (foldN x) = x := unfI_foldN
  have h2 : unfI (foldN y) = y := unfI_foldN
  rw [← h1, ← h2, h]

theorem same_bytes (n m : Int) : (intB n == intB m) = (n == m) := by
  rw [Bool.eq_iff_iff, beq_iff_eq, beq_iff_eq]
  constructor
  · intro h; exact foldN_inj (wide_inj h)
  · intro h; rw [h]

theorem no_prefix {n m : Int} (h1 : (intB n).length < (intB m).length) (h2 : (((⟨(intB m).toArray⟩ : ByteArray).extract 0 (intB n).length).toList == intB n) = true) : False := by
  have e := beq_iff_eq.1 h2
  rw [ByteArray.toList_eq, extract_head] at e
  have hp : intB n <+: intB m := by rw [← e]; exact List.take_prefix _ _
  have := prefix_unique (a := foldN n) (b := foldN m) (l := intB m) hp (List.prefix_refl _)
  unfold intB at h1
  rw [this] at h1
  omega

theorem okN_cases {n sz : Nat} {most : Int} (h : okN false n sz most = false) : sz = 0 ∨ most < 0 ∨ most < (n : Int) := by
  by_cases h1 : sz = 0
  · exact .inl h1
  by_cases h2 : most < 0
  · exact .inr (.inl h2)
  by_cases h3 : most < (n : Int)
  · exact .inr (.inr h3)
  rw [okN_true rfl h1 (by omega) (by omega)] at h
  cases h
theorem okN_yes {n sz : Nat} {most : Int} (h : okN false n sz most = true) : sz ≠ 0 ∧ 0 ≤ most ∧ (n : Int) ≤ most := by
  refine ⟨fun e => ?_, ?_, ?_⟩
  · rw [okN_none e] at h; cases h
  · by_cases h2 : most < 0
    · rw [okN_neg h2] at h; cases h
    · omega
  · by_cases h2 : most < (n : Int)
    · rw [okN_more h2] at h; cases h
    · omega

set_option maxHeartbeats 1000000 in
set_option maxRecDepth 100000 in
theorem walk_ne (n m : Int) (b : ByteArray) (most : Int) (w : World) (n0 : -9223372036854775808 ≤ n) (n1 : n ≤ 9223372036854775807) (m0 : -9223372036854775808 ≤ m) (m1 : m ≤ 9223372036854775807)
    (hm1 : most ≤ 9223372036854775807) :
    Calls Try.prog 6 #[.int .i64 n, .int .i64 m, .string b, .int .i64 most] w fun e w' => e = .returned (.bool true) ∧ Below w.heap.size w w' := by
  by_cases h100 : 100 < b.size
  · go_enter Try.func6, Try.ntmps6
    go_wp2_with fail
    refine (alive_any _).mono ?_
    rintro e wa ⟨rfl, hba⟩
    go_wp2
    go_ret
    exact ⟨rfl, hba⟩
  go_enter Try.func6, Try.ntmps6
  go_wp2_with fail
  refine (alive_any _).mono ?_
  rintro e wa ⟨rfl, hba⟩
  go_wp2_with fail
  have hs0 : Pen ((wa.alloc (.cells #[.slice none 0 0] 45)).alloc (.cells #[.slice none 0 0] 45)) wa.heap.size (.slice none 0 0) [] := (Pen.new wa).alloc _
  have ht0 : Pen ((wa.alloc (.cells #[.slice none 0 0] 45)).alloc (.cells #[.slice none 0 0] 45)) (wa.heap.size + 1) (.slice none 0 0) [] := by
    have := Pen.new (wa.alloc (.cells #[.slice none 0 0] 45))
    simpa using this
  refine (int_any _ wa.heap.size (wa.heap.size + 1 + 1) (.slice none 0 0) [] n n0 n1 (hs0.alloc _) (by simp) (by rw [World.cell?_alloc_at _ _ _ _ (by simp)]; rfl)).mono ?_
  rintro e w1 ⟨rfl, v1, hp1, hw1⟩
  have ht1 : Pen w1 (wa.heap.size + 1) (.slice none 0 0) [] := (ht0.alloc _).beside hw1 (by omega) (by simp [Value.ownBlock]) (by simp [Value.ownBlock])
  have hv1 : ∀ k, v1.ownBlock = some k → wa.heap.size + 3 ≤ k := fun k hk => by
    rcases hw1.own k hk with e | e
    · simp [Value.ownBlock] at e
    · simpa using e
  have hz1 : wa.heap.size + 3 ≤ w1.heap.size := by have := hw1.size; simpa using this
  have hb1 : Below w.heap.size w w1 := by
    have a1 := ((hba.alloc hba.size (.cells #[.slice none 0 0] 45)).alloc (by have := hba.size; simp; omega) (.cells #[.slice none 0 0] 45)).alloc (by have := hba.size; simp; omega) (.cells #[.int .i64 n] 3)
    exact a1.trans (hw1.below (by have := hba.size; simp; omega) hba.size (by simp [Value.ownBlock]))
  have hsz := hba.size
  clear hs0 ht0 hw1 hba
  rw [List.nil_append] at hp1
  go_wp2_with fail
  refine (int_any _ (wa.heap.size + 1) w1.heap.size (.slice none 0 0) [] m m0 m1 (ht1.alloc _) (by simp) (by simp)).mono ?_
  rintro e w2 ⟨rfl, v2, hp2, hw2⟩
  have hp1' : Pen w2 wa.heap.size v1 (intB n) := (hp1.alloc _).beside hw2 (by omega) (by simp [Value.ownBlock]) (fun k hk => ⟨by have := hv1 k hk; omega, by simp [Value.ownBlock]⟩)
  have hb2 : Below w.heap.size w w2 := hb1.trans (hw2.behind_alloc.below (by omega) (by omega) (by simp [Value.ownBlock]))
  clear hw2 ht1 hp1 hb1 hv1
  rw [List.nil_append] at hp2
  go_wp2_with fail
  refine (bytes_any _ _ _ _ hp1').mono ?_
  rintro e w3 ⟨rfl, rfl⟩
  go_wp2_with fail
  refine (bytes_any _ _ _ _ hp2).mono ?_
  rintro e w4 ⟨rfl, rfl⟩
  clear hp2 hp1'
  go_wp2_with fail
  · exact (no_prefix ‹_› ‹_›).elim
  rotate_left 2
  · exact absurd (same_bytes n m) ‹_›
  all_goals
    refine (of_any _ _).mono ?_
    rintro e w5 ⟨rfl, h5⟩
    have hrd : Rd w5 w4.heap.size b false := by rw [h5]; exact Rd.new _ _
    have hb5 : Below w.heap.size w w5 := by rw [h5]; exact hb2.alloc hb2.size _
    have hr : w.heap.size ≤ w4.heap.size := hb2.size
    clear h5 hb2
    go_wp2_with fail
    refine (rnat_any _ _ b false most hm1 hrd).mono ?_
    rintro e w6 ⟨nn, sz, s6, hl, rfl, h6, hs6, ho6⟩
    have hb6 := hb5.trans (ho6.below hr)
    have HL := Hid.mk hl
    have HS := Hid.mk hs6
    have hnl := hl.lt
    clear hl hs6 hb5 ho6 hrd
    cases hok : okN false nn sz most with
    | false =>
      rw [hok] at h6
      have hcase := Hid.mk (okN_cases hok)
      simp only [if_false, Bool.false_eq_true]
      clear hok
      go_wp2_with fail
      refine (taken_any _ b (by omega)).mono ?_
      rintro e w7 ⟨n7, sz7, rfl, hl7, hb7⟩
      obtain ⟨rfl, rfl⟩ := hl7.unique HL.out
      have h7 : Rd w7 w4.heap.size s6 true := h6.carry (hb7.block _ h6.lt)
      have hb8 := hb6.trans (hb7.mono hb6.size)
      clear h6 hb7 hl7 hb6
      rcases hcase.out with hz | hneg | hmore
      · subst hz
        go_wp2_with fail
        refine (bad_any _ _ _ h7.c1).mono ?_
        rintro e w9 ⟨rfl, rfl⟩
        go_wp2
        go_ret
        exact ⟨rfl, hb8⟩
      · by_cases hz : sz7 = 0
        · subst hz
          go_wp2_with fail
          refine (bad_any _ _ _ h7.c1).mono ?_
          rintro e w9 ⟨rfl, rfl⟩
          go_wp2
          go_ret
          exact ⟨rfl, hb8⟩
        · have hz1 : ((sz7 : Int) == 0) = false := by simp; omega
          go_wp2_with fail
          refine (bad_any _ _ _ h7.c1).mono ?_
          rintro e w9 ⟨rfl, rfl⟩
          go_wp2
          go_ret
          exact ⟨rfl, hb8⟩
      · by_cases hz : sz7 = 0
        · subst hz
          go_wp2_with fail
          refine (bad_any _ _ _ h7.c1).mono ?_
          rintro e w9 ⟨rfl, rfl⟩
          go_wp2
          go_ret
          exact ⟨rfl, hb8⟩
        · have hz1 : ((sz7 : Int) == 0) = false := by simp; omega
          by_cases hneg : most < 0
          · go_wp2_with fail
            refine (bad_any _ _ _ h7.c1).mono ?_
            rintro e w9 ⟨rfl, rfl⟩
            go_wp2
            go_ret
            exact ⟨rfl, hb8⟩
          · go_wp2_with fail
            refine (bad_any _ _ _ h7.c1).mono ?_
            rintro e w9 ⟨rfl, rfl⟩
            go_wp2
            go_ret
            exact ⟨rfl, hb8⟩
    | true =>
      rw [hok] at h6
      have hyes := okN_yes hok
      obtain ⟨hz, hm0, hnm⟩ := hyes
      have hs7 : s6.data.toList = b.data.toList.drop sz := by have := HS.out; rw [hok] at this; exact this
      have hsz : sz ≤ b.size := by have := HL.out.size_le; rw [size_list] at this; exact this
      have hs8 : s6.size = b.size - sz := by rw [← size_list, hs7, List.length_drop, size_list]
      simp only [if_true]
      clear hok HS hs7
      go_wp2_with fail
      refine (taken_any _ b (by omega)).mono ?_
      rintro e w7 ⟨n7, sz7, rfl, hl7, hb7⟩
      obtain ⟨rfl, rfl⟩ := hl7.unique HL.out
      have h7 : Rd w7 w4.heap.size s6 false := h6.carry (hb7.block _ h6.lt)
      have hb8 := hb6.trans (hb7.mono hb6.size)
      clear h6 hb7 hl7 hb6
      have hz1 : ((sz7 : Int) == 0) = false := by simp; omega
      go_wp2_with fail
      refine (bad_any _ _ _ h7.c1).mono ?_
      rintro e w9 ⟨rfl, rfl⟩
      go_wp2_with fail
      refine (left_any _ _ _ _ h7).mono ?_
      rintro e w10 ⟨rfl, rfl⟩
      have e8 : ((s6.size : Nat) : Int) = (b.size : Int) - (sz7 : Int) := by rw [hs8]; omega
      rw [e8]
      clear e8 hs8
      go_wp2
      go_ret
      exact ⟨by simp, hb8⟩

end Go.Proofs.Ytjenalblcdmpaaa.stylusNumbers
