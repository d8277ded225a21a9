/-
  The walk of the document's Open: the load and the size of the record with which bytes begin, or nothing and 0.
-/
import Derived.Test.YtcofiidibhmhgaaOpens
namespace Go.Proofs.Ytcofiidibhmhgaa
open Go.RowKit

theorem len_sum (s : ByteArray) (h0 : 0 < s.size) (h1 : 1 < s.size) :
    wrap64 (wrap64 ((256 : Int) * wrap64 (s[0].toNat : Int)) + wrap64 (s[1].toNat : Int)) = ((lenB s.data.toList : Nat) : Int) := by
  have e0 : s.data.toList.getD 0 0 = s[0] := by simp [List.getD, h0, ByteArray.getElem_eq_getElem_data]
  have e1 : s.data.toList.getD 1 0 = s[1] := by simp [List.getD, h1, ByteArray.getElem_eq_getElem_data]
  unfold lenB
  rw [e0, e1]
  have b0 := byte_lt s[0]
  have b1 := byte_lt s[1]
  generalize s[0].toNat = x at b0 ⊢
  generalize s[1].toNat = y at b1 ⊢
  unfold wrap64
  omega

theorem refopen_yes {s ld : ByteArray} {n m q : Nat} (hm : 2 + (n : Int) = (m : Int)) (hq : 6 + (n : Int) = (q : Int)) (h1 : n ≤ 1024) (h2 : n + 6 ≤ s.size)
    (hld : ld = s.extract 2 m) (h : recB ld.data.toList = (s.extract 0 q).toList) : Opened s.data.toList ld.data.toList q := by
  have hl : ld.data.toList.length = n := by
    have := size_list s
    rw [hld, extract_list]
    simp
    omega
  refine .inl ⟨⟨by omega, ?_⟩, by omega⟩
  rw [h, ByteArray.toList_eq, extract_list, List.drop_zero]
  exact List.take_prefix _ _

theorem refopen_no {s ld : ByteArray} {n m q : Nat} (hn : n = lenB s.data.toList) (hm : 2 + (n : Int) = (m : Int)) (hq : 6 + (n : Int) = (q : Int)) (h1 : n ≤ 1024) (h2 : n + 6 ≤ s.size)
    (hld : ld = s.extract 2 m) (h : ¬ recB ld.data.toList = (s.extract 0 q).toList) : Opened s.data.toList [] 0 := by
  have hl : ld.data.toList.length = n := by
    have := size_list s
    rw [hld, extract_list]
    simp
    omega
  refine .inr ⟨rfl, rfl, fun k hb => h ?_⟩
  have e : ld.data.toList = k := by
    rw [← hb.load, hld, extract_list, List.drop_take, ← hn]
    congr 1
    omega
  rw [ByteArray.toList_eq, extract_list, List.drop_zero, e]
  have hp := List.prefix_iff_eq_take.1 hb.2
  rw [recB_length (by have := hb.1; omega)] at hp
  rw [hp]
  congr 1
  rw [← e]
  omega

set_option maxHeartbeats 800000 in
set_option maxRecDepth 100000 in
theorem refOpen_any (w : World) (s : ByteArray) (hsz : s.size ≤ 1099511627776) :
    Calls Try.prog 61 #[.string s] w fun e w' => ∃ (ld : ByteArray) (n : Nat), e = .returned (.tuple #[.string ld, .int .i64 n]) ∧ Opened s.data.toList ld.data.toList n ∧ Below w.heap.size w w' := by
  have hl := size_list s
  by_cases h2 : s.size < 6
  · have HO : Hid (Opened s.data.toList [] 0) := Hid.mk (opened_no (.inr (.inl (by omega))))
    clear hl
    go_enter Try.func61, Try.ntmps61
    go_wp2
    go_ret2
    exact ⟨⟨#[]⟩, 0, rfl, HO.out, Below.refl _ _⟩
  · have h0 : 0 < s.size := by omega
    have h1 : 1 < s.size := by omega
    have h1i : (1 : Int) < (s.size : Int) := by omega
    go_enter Try.func61, Try.ntmps61
    go_wp2_with fail
    go_quiet (fail)
    rw [len_sum s h0 h1]
    obtain ⟨n, hn⟩ : ∃ n, n = lenB s.data.toList := ⟨_, rfl⟩
    rw [← hn]
    have hnl : n < 65536 := by rw [hn]; exact lenB_lt _
    have HN := Hid.mk hn
    clear hn
    by_cases h3 : 1024 < n
    · have HO : Hid (Opened s.data.toList [] 0) := Hid.mk (opened_no (.inl (by rw [← HN.out]; exact h3)))
      clear hl
      go_wp2
      go_ret2
      exact ⟨⟨#[]⟩, 0, rfl, HO.out, below_drewN (Below.refl _ _) _⟩
    · by_cases h4 : s.size < n + 6
      · have HO : Hid (Opened s.data.toList [] 0) := Hid.mk (opened_no (.inr (.inl (by rw [← HN.out]; omega))))
        clear hl
        go_wp2
        go_ret2
        exact ⟨⟨#[]⟩, 0, rfl, HO.out, below_drewN (Below.refl _ _) _⟩
      · clear hl
        have g1 : (2 : Int) ≤ 2 + (n : Int) := by omega
        have g2 : (2 : Int) + (n : Int) ≤ (s.size : Int) := by omega
        go_wp2_with fail
        obtain ⟨ld, hld⟩ : ∃ ld, ld = s.extract 2 (2 + n) := ⟨_, rfl⟩
        rw [← hld]
        have hldn : ld.size = n := by
          have := size_list s
          rw [hld, ← size_list, extract_list]
          simp
          omega
        obtain ⟨q, hq⟩ : ∃ q : Nat, 6 + (n : Int) = (q : Int) := ⟨n + 6, by omega⟩
        have hw6 : IntKind.i64.wrap (6 + (n : Int)) = (q : Int) := by
          simp only [IntKind.wrap, IntKind.bits, IntKind.signed]
          simp
          omega
        have f0 : (0 : Int) ≤ (q : Int) := by omega
        have f1 : (q : Int) ≤ (s.size : Int) := by omega
        have HQ := Hid.mk hq
        have HL := Hid.mk hld
        have hq6 : wrap64 (6 + (n : Int)) = (q : Int) := by unfold wrap64; omega
        clear hq hld
        by_cases hsum : recB ld.data.toList = (s.extract 0 q).toList
        · have ht : (recB ld.data.toList == (s.extract 0 q).toList) = true := by rw [hsum]; simp
          have HO : Hid (Opened s.data.toList ld.data.toList q) := Hid.mk (refopen_yes (m := 2 + n) (by omega) HQ.out (by omega) (by omega) HL.out hsum)
          clear hsum
          go_region_with (go_at_call 20; refine (refClose_any _ _ (by omega)).mono ?_; rintro e w5 ⟨rfl, hb5⟩)
          all_goals
            go_wp2
            go_ret2
            exact ⟨ld, q, rfl, HO.out, (below_drewN (Below.refl _ _) _).trans hb5⟩
        · have ht : (recB ld.data.toList == (s.extract 0 q).toList) = false := by simpa using hsum
          have HO : Hid (Opened s.data.toList [] 0) := Hid.mk (refopen_no (m := 2 + n) HN.out (by omega) HQ.out (by omega) (by omega) HL.out hsum)
          clear hsum
          go_region_with (go_at_call 20; refine (refClose_any _ _ (by omega)).mono ?_; rintro e w5 ⟨rfl, hb5⟩)
          all_goals
            go_wp2
            go_ret2
            exact ⟨⟨#[]⟩, 0, rfl, HO.out, (below_drewN (Below.refl _ _) _).trans hb5⟩

end Go.Proofs.Ytcofiidibhmhgaa
