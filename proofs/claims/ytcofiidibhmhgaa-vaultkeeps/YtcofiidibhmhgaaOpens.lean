/-
  The walks of Open, the program's and the document's: the load and the size of the record with which bytes begin, or nothing and 0.
-/
import Derived.Test.YtcofiidibhmhgaaBegins
import Derived.Deep.RegionWith
import Derived.BigRegion
import Derived.BigQuiet
namespace Go.Proofs.Ytcofiidibhmhgaa
open Go.RowKit

theorem lenB_lt (l : List UInt8) : lenB l < 65536 := by
  unfold lenB
  have h0 := byte_lt (l.getD 0 0)
  have h1 := byte_lt (l.getD 1 0)
  omega

theorem i64_or_nat (a b : Nat) (ha : a < 65536) (hb : b < 65536) : bits .or .i64 (a : Int) (b : Int) = ((a ||| b : Nat) : Int) := by
  have h := Nat.or_lt_two_pow (n := 16) (show a < 2 ^ 16 by omega) (show b < 2 ^ 16 by omega)
  show IntKind.i64.wrap ((BitVec.ofInt 64 (a : Int) ||| BitVec.ofInt 64 (b : Int)).toNat : Int) = _
  rw [BitVec.toNat_or, ofInt_u64 a (by omega), ofInt_u64 b (by omega)]
  simp only [IntKind.wrap, IntKind.bits, IntKind.signed]
  simp
  omega

theorem len_or (s : ByteArray) (h0 : 0 < s.size) (h1 : 1 < s.size) :
    bits BinOp.or IntKind.i64 (wrap64 (wrap64 (s[0].toNat : Int) * 256)) (wrap64 (s[1].toNat : Int)) = ((lenB s.data.toList : Nat) : Int) := by
  have e0 : s.data.toList.getD 0 0 = s[0] := by simp [List.getD, h0, ByteArray.getElem_eq_getElem_data]
  have e1 : s.data.toList.getD 1 0 = s[1] := by simp [List.getD, h1, ByteArray.getElem_eq_getElem_data]
  unfold lenB
  rw [e0, e1]
  have b0 := byte_lt s[0]
  have b1 := byte_lt s[1]
  generalize s[0].toNat = x at b0 ⊢
  generalize s[1].toNat = y at b1 ⊢
  have w1 : wrap64 (x : Int) = (x : Int) := by unfold wrap64; omega
  have w2 : wrap64 ((x : Int) * 256) = ((x * 256 : Nat) : Int) := by unfold wrap64; omega
  have w3 : wrap64 (y : Int) = (y : Int) := by unfold wrap64; omega
  rw [w1, w2, w3]
  have e : x * 256 ||| y = 256 * x + y := by
    rw [nat_join 8 (x * 256) y (by omega) (by omega)]
    omega
  rw [← e]
  exact i64_or_nat _ _ (by omega) (by omega)

theorem extract_list (s : ByteArray) (a b : Nat) : (s.extract a b).data.toList = (s.data.toList.take b).drop a := by
  simp [List.drop_take]

theorem open_yes {s : ByteArray} {n m q : Nat} (hn : n = lenB s.data.toList) (hm : 2 + (n : Int) = (m : Int)) (hq : q = m + 4) (h1 : n ≤ 1024) (h2 : n + 6 ≤ s.size)
    (h : (s.extract m q).toList = le 4 (sumN (s.data.toList.take m))) : Opened s.data.toList (s.extract 2 m).data.toList (m + 4) := by
  have hm2 : m = 2 + n := by omega
  rw [ByteArray.toList_eq, extract_list] at h
  have e1 : (s.data.toList.take q).drop m = (s.data.toList.drop m).take 4 := by
    rw [List.drop_take, hq]
    congr 1
    omega
  rw [e1, hm2, hn] at h
  have hl := size_list s
  have ho := opened_yes (l := s.data.toList) (by omega) (by omega) h
  have e2 : (s.extract 2 m).data.toList = (s.data.toList.drop 2).take (lenB s.data.toList) := by
    rw [extract_list, List.drop_take, hm2, hn]
    congr 1
    omega
  rw [e2, hm2, hn]
  have e3 : 2 + lenB s.data.toList + 4 = lenB s.data.toList + 6 := by omega
  rw [e3]
  exact ho

theorem open_no {s : ByteArray} {n m q : Nat} (hn : n = lenB s.data.toList) (hm : 2 + (n : Int) = (m : Int)) (hq : q = m + 4)
    (h : ¬ (s.extract m q).toList = le 4 (sumN (s.data.toList.take m))) : Opened s.data.toList [] 0 := by
  have hm2 : m = 2 + n := by omega
  rw [ByteArray.toList_eq, extract_list] at h
  have e1 : (s.data.toList.take q).drop m = (s.data.toList.drop m).take 4 := by
    rw [List.drop_take, hq]
    congr 1
    omega
  rw [e1, hm2, hn] at h
  exact opened_no (.inr (.inr h))

set_option maxHeartbeats 800000 in
set_option maxRecDepth 100000 in
theorem open_any (w : World) (s : ByteArray) (hsz : s.size ≤ 1099511627776) :
    Calls Try.prog 65 #[.string s] w fun e w' => ∃ (ld : ByteArray) (n : Nat), e = .returned (.tuple #[.string ld, .int .i64 n]) ∧ Opened s.data.toList ld.data.toList n ∧ Below w.heap.size w w' := by
  have hl := size_list s
  by_cases h2 : s.size < 2
  · have HO : Hid (Opened s.data.toList [] 0) := Hid.mk (opened_no (.inr (.inl (by omega))))
    clear hl
    go_enter Try.func65, Try.ntmps65
    go_wp2
    go_ret2
    exact ⟨⟨#[]⟩, 0, rfl, HO.out, Below.refl _ _⟩
  · have h0 : 0 < s.size := by omega
    have h1 : 1 < s.size := by omega
    have h1i : (1 : Int) < (s.size : Int) := by omega
    go_enter Try.func65, Try.ntmps65
    go_wp2_with fail
    go_quiet (fail)
    rw [len_or s h0 h1]
    obtain ⟨n, hn⟩ : ∃ n, n = lenB s.data.toList := ⟨_, rfl⟩
    rw [← hn]
    have hnl : n < 65536 := by rw [hn]; exact lenB_lt _
    have HN := Hid.mk hn
    clear hn
    by_cases h3 : 1024 < n
    · have HO : Hid (Opened s.data.toList [] 0) := Hid.mk (opened_no (.inl (by rw [← HN.out]; exact h3)))
      clear hl
      go_wp2
      go_ret2
      exact ⟨⟨#[]⟩, 0, rfl, HO.out, below_drewN (Below.refl _ _) _⟩
    · by_cases h4 : s.size < n + 6
      · have HO : Hid (Opened s.data.toList [] 0) := Hid.mk (opened_no (.inr (.inl (by rw [← HN.out]; omega))))
        clear hl
        go_wp2
        go_ret2
        exact ⟨⟨#[]⟩, 0, rfl, HO.out, below_drewN (Below.refl _ _) _⟩
      · clear hl
        go_wp2_with fail
        obtain ⟨m, hm⟩ : ∃ m : Nat, 2 + (n : Int) = (m : Int) := ⟨n + 2, by omega⟩
        rw [hm]
        obtain ⟨q, hq⟩ : ∃ q : Nat, q = m + 4 := ⟨_, rfl⟩
        have hw4 : IntKind.i64.wrap ((m : Int) + 4) = (q : Int) := by
          simp only [IntKind.wrap, IntKind.bits, IntKind.signed]
          simp
          omega
        have f0 : (0 : Int) ≤ (q : Int) := by omega
        have f1 : (q : Int) ≤ (s.size : Int) := by omega
        have f2 : (0 : Int) ≤ (m : Int) := by omega
        have f3 : (m : Int) ≤ (q : Int) := by omega
        have f5 : (2 : Int) ≤ (m : Int) := by omega
        have f4 : (m : Int) ≤ (s.size : Int) := by omega
        have HM := Hid.mk hm
        have HQ := Hid.mk hq
        clear hm hq
        by_cases hsum : (s.extract m q).toList = le 4 (sumN (s.data.toList.take m))
        · have ht : ((s.extract m q).toList == le 4 (sumN (s.data.toList.take m))) = true := by rw [hsum]; simp
          have HO : Hid (Opened s.data.toList (s.extract 2 m).data.toList q) := Hid.mk (by have h := open_yes HN.out HM.out HQ.out (by omega) (by omega) hsum; rw [← HQ.out] at h; exact h)
          clear hsum
          go_region_with (go_at_call 62; refine (seal_any _ _ (by simp; omega)).mono ?_; rintro e w5 ⟨rfl, hb5⟩)
          all_goals
            go_wp2
            go_ret2
            exact ⟨s.extract 2 m, q, rfl, HO.out, (below_drewN (Below.refl _ _) _).trans hb5⟩
        · have ht : ((s.extract m q).toList == le 4 (sumN (s.data.toList.take m))) = false := by simpa using hsum
          have HO : Hid (Opened s.data.toList [] 0) := Hid.mk (open_no HN.out HM.out HQ.out hsum)
          clear hsum
          go_region_with (go_at_call 62; refine (seal_any _ _ (by simp; omega)).mono ?_; rintro e w5 ⟨rfl, hb5⟩)
          all_goals
            go_wp2
            go_ret2
            exact ⟨⟨#[]⟩, 0, rfl, HO.out, (below_drewN (Below.refl _ _) _).trans hb5⟩

end Go.Proofs.Ytcofiidibhmhgaa
