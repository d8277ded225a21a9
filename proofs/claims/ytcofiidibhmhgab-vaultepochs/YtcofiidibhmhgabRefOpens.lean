/-
  The walk of the document's Open: the load and the size of the record with which bytes begin, or nothing and 0.
-/
import Derived.Test.YtcofiidibhmhgabOpens
namespace Go.Proofs.Ytcofiidibhmhgab
open Go.RowKit

theorem len_sum (s : ByteArray) (h0 : 0 < s.size) (h1 : 1 < s.size) :
    wrap64 (wrap64 ((256 : Int) * wrap64 (s[0].toNat : Int)) + wrap64 (s[1].toNat : Int)) = ((lenB s.data.toList : Nat) : Int) := by
  have e0 : s.data.toList.getD 0 0 = s[0] := by simp [List.getD, h0, ByteArray.getElem_eq_getElem_data]
  have e1 : s.data.toList.getD 1 0 = s[1] := by simp [List.getD, h1, ByteArray.getElem_eq_getElem_data]
  unfold lenB
  rw [e0, e1]
  have b0 := byte_lt s[0]
  have b1 := byte_lt s[1]
  generalize s[0].toNat = x at b0 ⊢
  generalize s[1].toNat = y at b1 ⊢
  unfold wrap64
  omega

theorem refopen_yes {s ld : ByteArray} {n m q : Nat} (hm : 2 + (n : Int) = (m : Int)) (hq : 6 + (n : Int) = (q : Int)) (h1 : n ≤ 1024) (h2 : n + 6 ≤ s.size)
    (hld : ld = s.extract 2 m) (h : recB ld.data.toList = (s.extract 0 q).toList) : Opened s.data.toList ld.data.toList q := by
  have hl : ld.data.toList.length = n := by
    have := size_list s
    rw [hld, extract_list]
    simp
    omega
  refine .inl ⟨⟨by omega, ?_⟩, by omega⟩
  rw [h, ByteArray.toList_eq, extract_list, List.drop_zero]
  exact List.take_prefix _ _

theorem refopen_no {s ld : ByteArray} {n m q : Nat} (hn : n = lenB s.data.toList) (hm : 2 + (n : Int) = (m : Int)) (hq : 6 + (n : Int) = (q : Int)) (h1 : n ≤ 1024) (h2 : n + 6 ≤ s.size)
    (hld : ld = s.extract 2 m) (h : ¬ recB ld.data.toList = (s.extract 0 q).toList) : Opened s.data.toList [] 0 := by
  have hl : ld.data.toList.length = n := by
    have := size_list s
    rw [hld, extract_list]
    simp
    omega
  refine .inr ⟨rfl, rfl, fun k hb => h ?_⟩
  have e : ld.data.toList = k := by
    rw [← hb.load, hld, extract_list, List.drop_take, ← hn]
    congr 1
    omega
  rw [ByteArray.toList_eq, extract_list, List.drop_zero, e]
  have hp := List.prefix_iff_eq_take.1 hb.2
  rw [recB_length (by have := hb.1; omega)] at hp
  rw [hp]
  congr 1
  rw [← e]
  omega



end Go.Proofs.Ytcofiidibhmhgab
