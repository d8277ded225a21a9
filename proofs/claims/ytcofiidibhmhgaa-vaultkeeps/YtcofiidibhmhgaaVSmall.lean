/-
  The walks of strings.CutPrefix, imageRecord and imageOf.
-/
import Derived.Test.YtcofiidibhmhgaaVMath
import Derived.Test.YtcofiidibhmhgaaYTaken
namespace Go.Proofs.Ytcofiidibhmhgaa
open Go.RowKit

set_option maxRecDepth 100000 in
theorem prefix_yes (t : ByteArray) (w : World) : Calls Try.prog 69 #[.string (ldB t), .string ⟨#[1]⟩] w fun e w' => e = .returned (.bool true) ∧ w' = w := by
  have hs := ldB_size t
  have h1 : (1 : Int) ≤ ((ldB t).size : Int) := by omega
  have hx : (((ldB t).extract 0 1).toList == [1]) = true := by
    rw [ByteArray.toList_eq]
    have : ((ldB t).extract 0 1).data.toList = [1] := by
      rw [extract_list, ldB_list]
      rfl
    rw [this]
    rfl
  obtain ⟨x, hxx⟩ : ∃ x, x = ldB t := ⟨_, rfl⟩
  rw [← hxx] at h1 hx ⊢
  clear hxx hs
  go_enter Try.func69, Try.ntmps69
  go_wp2
  go_ret
  exact ⟨rfl, rfl⟩

theorem not_head {x : ByteArray} (h : NotLd x) : x.size = 0 ∨ (1 ≤ x.size ∧ ((x.extract 0 1).toList == [1]) = false) := by
  by_cases h0 : x.size = 0
  · exact .inl h0
  · refine .inr ⟨by omega, ?_⟩
    rw [ByteArray.toList_eq, extract_list]
    cases hl : x.data.toList with
    | nil => rw [← size_list, hl] at h0; simp at h0
    | cons c r =>
      simp
      intro hc
      exact h ⟨r.toArray⟩ (bytes_ext (by rw [ldB_list, hl, str_list, hc]))

set_option maxRecDepth 100000 in
theorem prefix_no (x : ByteArray) (hn : NotLd x) (w : World) : Calls Try.prog 69 #[.string x, .string ⟨#[1]⟩] w fun e w' => e = .returned (.bool false) ∧ w' = w := by
  rcases not_head hn with h0 | ⟨h1, hx⟩
  · have h1 : ¬ (1 : Int) ≤ (x.size : Int) := by omega
    clear h0 hn
    go_enter Try.func69, Try.ntmps69
    go_wp2
    go_ret
    exact ⟨rfl, rfl⟩
  · have h1 : (1 : Int) ≤ (x.size : Int) := by omega
    clear hn
    go_enter Try.func69, Try.ntmps69
    go_wp2
    go_ret
    exact ⟨rfl, rfl⟩

set_option maxRecDepth 100000 in
theorem cut_yes (t : ByteArray) (w : World) : Calls Try.prog 44 #[.string (ldB t), .string ⟨#[1]⟩] w fun e w' => e = .returned (.tuple #[.string t, .bool true]) ∧ w' = w := by
  have hs := ldB_size t
  have h1 : (1 : Int) ≤ ((ldB t).size : Int) := by omega
  have hh := prefix_yes t
  have hx : (ldB t).extract 1 (ldB t).size = t := by
    apply bytes_ext
    rw [extract_list, ldB_list, ← size_list, ldB_list]
    simp only [List.length_cons, List.take_succ_cons, List.drop_succ_cons, List.drop_zero]
    exact List.take_of_length_le (Nat.le_refl _)
  obtain ⟨x, hxx⟩ : ∃ x, x = ldB t := ⟨_, rfl⟩
  rw [← hxx] at h1 hx hh ⊢
  have HX := Hid.mk hx
  clear hxx hs hx
  go_enter Try.func44, Try.ntmps44
  go_wp2_with fail
  have inner : Calls Try.prog 60 #[.string x, .string ⟨#[1]⟩] w fun e w' => e = .returned (.tuple #[.string t, .bool true]) ∧ w' = w := by
    go_enter Try.func60, Try.ntmps60
    go_wp2_with fail
    refine (hh _).mono ?_
    rintro e w1 ⟨rfl, rfl⟩
    go_wp2
    go_ret2
    exact ⟨by rw [HX.out]; rfl, rfl⟩
  refine inner.mono ?_
  rintro e w1 ⟨rfl, rfl⟩
  go_wp2
  go_ret2
  exact ⟨rfl, rfl⟩

set_option maxRecDepth 100000 in
theorem cut_no (x : ByteArray) (hn : NotLd x) (w : World) : Calls Try.prog 44 #[.string x, .string ⟨#[1]⟩] w fun e w' => e = .returned (.tuple #[.string x, .bool false]) ∧ w' = w := by
  go_enter Try.func44, Try.ntmps44
  go_wp2_with fail
  have inner : Calls Try.prog 60 #[.string x, .string ⟨#[1]⟩] w fun e w' => e = .returned (.tuple #[.string x, .bool false]) ∧ w' = w := by
    go_enter Try.func60, Try.ntmps60
    go_wp2_with fail
    refine (prefix_no x hn _).mono ?_
    rintro e w1 ⟨rfl, rfl⟩
    go_wp2
    go_ret2
    exact ⟨rfl, rfl⟩
  refine inner.mono ?_
  rintro e w1 ⟨rfl, rfl⟩
  go_wp2
  go_ret2
  exact ⟨rfl, rfl⟩

set_option maxHeartbeats 800000 in
set_option maxRecDepth 100000 in
theorem imageRecord_any (n : Nat) (s : ByteArray) (hn : n ≤ 9223372036854775807) (hs : s.size ≤ 1099511627776) (w : World) :
    Calls Try.prog 33 #[.int .i64 n, .string s] w fun e w' => e = .returned (.string (imgB n s)) ∧ Below w.heap.size w w' := by
  have hp0 := Sty.Pen.new w
  have hlw : (Sty.wide n).length ≤ 10 := Sty.wide_len (by omega)
  have hl1 : ([] ++ Sty.wide 0 ++ Sty.wide n).length ≤ 11 := by
    rw [Sty.wide_small (by decide : 0 < 128)]
    simp
    omega
  have HN := Hid.mk hlw
  clear hlw
  go_enter Try.func33, Try.ntmps33
  go_wp2_with fail
  refine (Sty.nat_two _ w.heap.size (w.heap.size + 1) (.slice none 0 0) [] n hn (hp0.alloc _) (by simp) (by simp) (by simp) (by simp) (by omega) (by simp [Value.ownBlock])).mono ?_
  rintro e w1 ⟨rfl, v1, hp1, hw1⟩
  have hs1 : w.heap.size + 2 ≤ w1.heap.size := by have := hw1.size; simpa using this
  have hb1 : Below w.heap.size w w1 := (((Below.refl w.heap.size w).alloc (Nat.le_refl _) _).alloc (by simp) _).trans (hw1.below (by simp; omega) (Nat.le_refl _) (by simp [Value.ownBlock]))
  have ho1 := hw1.own_from (B := w.heap.size) (by simp; omega) (by simp [Value.ownBlock])
  clear hw1 hp0
  go_wp2_with fail
  refine (Sty.raw_any _ w.heap.size v1 _ s hp1 (by omega)).mono ?_
  rintro e w2 ⟨rfl, v2, hp2, hw2⟩
  have hb2 := hb1.trans (hw2.below hb1.size (Nat.le_refl _) ho1)
  clear hw2 hb1 hp1 ho1
  go_wp2_with fail
  refine (Sty.bytes_any _ w.heap.size v2 _ hp2).mono ?_
  rintro e w3 ⟨rfl, hw3⟩
  rw [hw3]
  have hr : (⟨([] ++ Sty.wide 0 ++ Sty.wide n ++ s.data.toList).toArray⟩ : ByteArray) = imgB n s := by
    apply bytes_ext
    rw [imgB_list, str_list, Sty.wide_small (by decide : 0 < 128)]
    simp
  rw [hr]
  clear hr hl1
  go_wp2
  go_ret
  exact ⟨rfl, hb2⟩

theorem lead_img {e : Nat} {s x : ByteArray} (he : e < 18446744073709551616) (h : x = imgB e s) : Sty.Lead x.data.toList 0 1 ∧ Sty.Lead (x.data.toList.drop 1) e (Sty.wide e).length := by
  subst h
  rw [imgB_list]
  refine ⟨.inr ⟨by omega, by rw [Sty.wide_small (by decide)]; rfl, by rw [Sty.wide_small (by decide)]; exact ⟨_, rfl⟩⟩, .inr ⟨he, rfl, List.prefix_append _ _⟩⟩

/-- What imageOf answers: no image's record, or one. -/
def ImgOf (x : ByteArray) (n : Nat) (t : ByteArray) : Prop := (n = 0 ∧ NoImg x) ∨ IsImg x n t

theorem noImg_first {x : ByteArray} {n sz : Nat} (hl : Sty.Lead x.data.toList n sz) (h : Sty.okN false n sz 0 = false) : NoImg x := fun e s hi => by
  have hx := lead_img (by have := hi.2.1; omega) hi.2.2
  obtain ⟨rfl, rfl⟩ := hl.unique hx.1
  rw [Sty.okN_true rfl (by decide) (by decide) (by decide)] at h
  cases h

theorem first_yes {x : ByteArray} {n sz : Nat} (hl : Sty.Lead x.data.toList n sz) (h : Sty.okN false n sz 0 = true) : sz = 1 ∧ ∃ r, x.data.toList = 0 :: r := by
  unfold Sty.okN at h
  simp at h
  obtain ⟨h1, h2⟩ := h
  have hn : n = 0 := by omega
  subst hn
  rcases hl with ⟨hz, _⟩ | ⟨_, hz, hp⟩
  · exact absurd hz h1
  · rw [Sty.wide_small (by decide)] at hz hp
    refine ⟨hz, ?_⟩
    obtain ⟨r, hr⟩ := hp
    exact ⟨r, hr.symm⟩

theorem noImg_second {x : ByteArray} {n sz : Nat} (hl : Sty.Lead (x.data.toList.drop 1) n sz) (h : Sty.okN false n sz 1099511627776 = false ∨ n = 0) : NoImg x := fun e s hi => by
  have he := hi.2.1
  have he1 := hi.1
  have hx := lead_img (by omega) hi.2.2
  obtain ⟨rfl, rfl⟩ := hl.unique hx.2
  rcases h with h | h
  · rw [Sty.okN_true rfl (by have := Sty.wide_pos n; omega) (by decide) (by omega)] at h
    cases h
  · omega

theorem isImg_of {x t : ByteArray} {n sz : Nat} {r : List UInt8} (hx : x.data.toList = 0 :: r) (hl : Sty.Lead r n sz) (h : Sty.okN false n sz 1099511627776 = true) (h0 : n ≠ 0) (ht : t.data.toList = r.drop sz) : IsImg x n t := by
  unfold Sty.okN at h
  simp at h
  obtain ⟨h1, h2⟩ := h
  rcases hl with ⟨hz, _⟩ | ⟨_, hz, hp⟩
  · exact absurd hz h1
  · refine ⟨by omega, by omega, bytes_ext ?_⟩
    rw [imgB_list, hx, ht, hz]
    obtain ⟨q, hq⟩ := hp
    rw [← hq]
    simp

set_option maxHeartbeats 1600000 in
set_option maxRecDepth 100000 in
theorem imageOf_any (x : ByteArray) (w : World) :
    Calls Try.prog 43 #[.string x] w fun e w' => ∃ (n : Nat) (t : ByteArray), e = .returned (.tuple #[.int .i64 n, .string t]) ∧ ImgOf x n t ∧ Below w.heap.size w w' := by
  go_enter Try.func43, Try.ntmps43
  go_wp2_with fail
  refine (Sty.of_any _ x).mono ?_
  rintro e w1 ⟨rfl, hw1⟩
  have h1 : Sty.Rd w1 w.heap.size x false := by rw [hw1]; exact Sty.Rd.new w x
  have hb1 : Below w.heap.size w w1 := by rw [hw1]; exact (Below.refl _ w).alloc (Nat.le_refl _) _
  clear hw1
  go_wp2_with fail
  refine (Sty.rnat_any _ w.heap.size x false 0 (by omega) h1).mono ?_
  rintro e w2 ⟨n0, z0, s2, hl2, rfl, h2, hs2, ho2⟩
  have hb2 := hb1.trans (ho2.below (Nat.le_refl _))
  have HL2 := Hid.mk hl2
  clear h1 hb1 ho2 hl2
  cases hk : Sty.okN false n0 z0 0 with
  | false =>
    rw [hk] at h2 hs2
    have HN := Hid.mk (noImg_first HL2.out hk)
    clear hk HL2
    go_wp2_with fail
    refine (Sty.rnat_any _ w.heap.size s2 _ 1099511627776 (by omega) h2).mono ?_
    rintro e w3 ⟨n3, z3, s3, hl3, rfl, h3, hs3, ho3⟩
    have hb3 := hb2.trans (ho3.below (Nat.le_refl _))
    have e3 : Sty.okN (!false) n3 z3 1099511627776 = false := by simp [Sty.okN]
    rw [e3] at h3 hs3 ⊢
    clear hl3 ho3 hb2 h2 hs2 e3 hs3
    simp only [Bool.false_eq_true, if_false]
    go_wp2_with fail
    refine (Sty.left_any _ w.heap.size s3 _ h3).mono ?_
    rintro e w4 ⟨rfl, hw4⟩
    rw [hw4]
    clear hw4
    go_wp2_with fail
    refine (Sty.rraw_any _ w.heap.size s3 _ _ h3).mono ?_
    rintro e w5 ⟨t5, s5, rfl, ht5, h5, hs5, ho5⟩
    have hb5 := hb3.trans (ho5.below (Nat.le_refl _))
    clear ht5 h5 hs5 ho5 hb3 h3
    go_wp2
    go_ret2
    exact ⟨0, t5, rfl, .inl ⟨rfl, HN.out⟩, hb5⟩
  | true =>
    rw [hk] at h2 hs2
    obtain ⟨hz, r, hr⟩ := first_yes HL2.out hk
    have hs2' : s2.data.toList = r := by
      rw [hs2]
      simp [Sty.leftIf, hz, hr]
    have HR := Hid.mk hr
    have HS2 := Hid.mk hs2'
    clear hk HL2 hs2 hr hs2' hz
    go_wp2_with fail
    refine (Sty.rnat_any _ w.heap.size s2 _ 1099511627776 (by omega) h2).mono ?_
    rintro e w3 ⟨n3, z3, s3, hl3, rfl, h3, hs3, ho3⟩
    have hb3 := hb2.trans (ho3.below (Nat.le_refl _))
    have HL3 := Hid.mk hl3
    clear hl3 ho3 hb2 h2
    cases hk : Sty.okN (!true) n3 z3 1099511627776 with
    | false =>
      rw [hk] at h3 hs3
      have hk' : Sty.okN false n3 z3 1099511627776 = false := hk
      have HN : Hid (NoImg x) := Hid.mk (noImg_second (n := n3) (sz := z3) (by rw [HR.out]; have := HL3.out; rw [HS2.out] at this; exact this) (.inl hk'))
      clear hk hk' hs3 HL3
      simp only [Bool.false_eq_true, if_false]
      go_wp2_with fail
      refine (Sty.left_any _ w.heap.size s3 _ h3).mono ?_
      rintro e w4 ⟨rfl, hw4⟩
      rw [hw4]
      clear hw4
      go_wp2_with fail
      refine (Sty.rraw_any _ w.heap.size s3 _ _ h3).mono ?_
      rintro e w5 ⟨t5, s5, rfl, ht5, h5, hs5, ho5⟩
      have hb5 := hb3.trans (ho5.below (Nat.le_refl _))
      clear ht5 h5 hs5 ho5 hb3 h3
      go_wp2
      go_ret2
      exact ⟨0, t5, rfl, .inl ⟨rfl, HN.out⟩, hb5⟩
    | true =>
      rw [hk] at h3 hs3
      have hk' : Sty.okN false n3 z3 1099511627776 = true := hk
      have HK := Hid.mk hk'
      have HS3 := Hid.mk (show s3.data.toList = r.drop z3 by rw [hs3, HS2.out]; rfl)
      clear hk hk' hs3
      simp only [if_true]
      go_wp2_with fail
      refine (Sty.left_any _ w.heap.size s3 _ h3).mono ?_
      rintro e w4 ⟨rfl, hw4⟩
      rw [hw4]
      clear hw4
      go_wp2_with fail
      refine (Sty.rraw_any _ w.heap.size s3 _ _ h3).mono ?_
      rintro e w5 ⟨t5, s5, rfl, ht5, h5, hs5, ho5⟩
      have hb5 := hb3.trans (ho5.below (Nat.le_refl _))
      have hok : Sty.okR (!true) s3.data.toList ((s3.size : Nat) : Int) = true := by
        unfold Sty.okR
        rw [Sty.size_list]
        simp
      have ht : t5.data.toList = r.drop z3 := by
        rw [ht5, hok, if_pos rfl, Int.toNat_natCast, ← Sty.size_list, List.take_length, HS3.out]
      have HT := Hid.mk ht
      clear ht5 h5 hs5 ho5 hb3 h3 hok ht
      go_wp2
      go_ret2
      refine ⟨n3, t5, rfl, ?_, hb5⟩
      have hl : Sty.Lead r n3 z3 := by have := HL3.out; rw [HS2.out] at this; exact this
      by_cases h0 : n3 = 0
      · exact .inl ⟨h0, noImg_second (n := n3) (sz := z3) (by rw [HR.out]; exact hl) (.inr h0)⟩
      · exact .inr (isImg_of HR.out hl HK.out h0 HT.out)

end Go.Proofs.Ytcofiidibhmhgaa
