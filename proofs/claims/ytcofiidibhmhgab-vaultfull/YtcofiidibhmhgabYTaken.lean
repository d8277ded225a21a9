/-
  The walks of the document's own answers: Signed and Taken of countermandref01.
-/
import Derived.Test.YtcofiidibhmhgabYReader
import Derived.Deep.RegionWith
import Derived.BigRegion
namespace Go.Proofs.Ytcofiidibhmhgab.Sty
open Go.RowKit

/-- The number that the bytes from p to c stand for, of 64 bits. -/
def valM (l : List UInt8) (c p : Nat) : Nat := dec ((l.take (c + 1)).drop p) % 18446744073709551616

theorem valM_lt (l : List UInt8) (c p : Nat) : valM l c p < 18446744073709551616 := Nat.mod_lt _ (by omega)
theorem valM_start (l : List UInt8) (c : Nat) (h : c < l.length) : valM l c (c + 1) = 0 := by
  unfold valM
  rw [List.drop_of_length_le (by rw [List.length_take]; omega)]
  rfl
theorem valM_step (l : List UInt8) (c p : Nat) (hp : p ≤ c) (h : c < l.length) : valM l c p = (valM l c (p + 1) * 128 + (l.getD p 0).toNat % 128) % 18446744073709551616 := by
  unfold valM
  have hlen : p < (l.take (c + 1)).length := by rw [List.length_take]; omega
  rw [List.drop_eq_getElem_cons hlen]
  simp only [dec]
  have e : (l.take (c + 1))[p] = l.getD p 0 := by
    simp [List.getD, List.getElem?_eq_getElem (show p < l.length by omega)]
  rw [e]
  omega

theorem high_next {s : ByteArray} {c : Nat} (h : c < s.size) (hb : (127 : Int) < (s[c].toNat : Int)) (hh : ∀ j, j < c → 128 ≤ (s.data.toList.getD j 0).toNat) : ∀ j, j < c + 1 → 128 ≤ (s.data.toList.getD j 0).toNat := fun j hj => by
  have hbs := byte_at s c h
  rcases Nat.lt_or_ge j c with h | h
  · exact hh j h
  · have : j = c := by omega
    subst this
    omega

theorem val_step {s : ByteArray} {c p : Nat} (hc : c < s.size) (hp : p ≤ c) (hps : p < s.size) :
    IntKind.u64.wrap (IntKind.u64.wrap (((valM s.data.toList c (p + 1) : Nat) : Int) * 128) + (IntKind.u64.wrap (s[p].toNat : Int)).tmod 128) = ((valM s.data.toList c p : Nat) : Int) := by
  have hb := byte_at s p hps
  have hb8 := s[p].toNat_lt
  have hs := valM_step s.data.toList c p hp (by rw [size_list]; exact hc)
  rw [← hb] at hs
  have e1 : IntKind.u64.wrap (s[p].toNat : Int) = (s[p].toNat : Int) := by rw [IntKind.wrap_u64]; omega
  have e2 : (s[p].toNat : Int).tmod 128 = ((s[p].toNat % 128 : Nat) : Int) := rfl
  rw [e1, e2, hs, IntKind.wrap_u64, IntKind.wrap_u64]
  omega

theorem taken_yes {s : ByteArray} {c V : Nat} (hc : c < s.size) (hV : V < 18446744073709551616) (h : (!wide V == (s.extract 0 (c + 1)).toList) = false) : Lead s.data.toList V (c + 1) := by
  have e : wide V = s.data.toList.take (c + 1) := by
    simp at h
    rw [h, ByteArray.toList_eq, extract_head]
  refine .inr ⟨hV, ?_, ?_⟩
  · rw [e, List.length_take, size_list]; omega
  · rw [e]; exact List.take_prefix _ _

theorem taken_no {s : ByteArray} {c V : Nat} (hc : c < s.size) (hlow : s[c].toNat < 128) (hh : ∀ j, j < c → 128 ≤ (s.data.toList.getD j 0).toNat) (hV : V = valM s.data.toList c 0)
    (h : (!wide V == (s.extract 0 (c + 1)).toList) = true) : Lead s.data.toList 0 0 := by
  refine .inl ⟨rfl, rfl, fun m hm hp => ?_⟩
  have hbs := byte_at s c hc
  have e := canon_at (canon_wide m) hp (by rw [size_list]; exact hc) (by omega) hh
  have hd := dec_wide m
  have hVm : V = m := by
    rw [hV, valM, List.drop_zero, ← e, hd]
    omega
  rw [hVm, e, ByteArray.toList_eq, extract_head] at h
  simp at h



end Go.Proofs.Ytcofiidibhmhgab.Sty
