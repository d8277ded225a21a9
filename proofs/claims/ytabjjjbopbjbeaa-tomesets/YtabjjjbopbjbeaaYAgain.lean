/-
  A reader that has before it what was written: each call reads just that.
-/
import Derived.Test.YtabjjjbopbjbeaaYReader
namespace Go.Proofs.Ytabjjjbopbjbeaa.Sty
open Go.RowKit

theorem lead_wide {n : Nat} (h : n < 18446744073709551616) (r : List UInt8) : Lead (wide n ++ r) n (wide n).length := .inr ⟨h, rfl, List.prefix_append _ _⟩

set_option maxRecDepth 100000 in
theorem rnat_yes (w : World) (r : Nat) (s : ByteArray) (n most : Int) (rest : List UInt8) (h0 : 0 ≤ n) (h1 : n ≤ most) (hm : most ≤ 9223372036854775807) (h : Rd w r s false) (hs : s.data.toList = wide n.toNat ++ rest) :
    Calls Try.prog 33 #[.pointer (some ⟨r, 0, none⟩), .int .i64 most] w fun e w' => e = .returned (.int .i64 n) ∧ ∃ s', Rd w' r s' false ∧ s'.data.toList = rest ∧ Only r w w' := by
  refine (rnat_any w r s false most hm h).mono ?_
  rintro e w' ⟨n', sz, s', hl, rfl, hr, hs', ho⟩
  rw [hs] at hl
  obtain ⟨rfl, rfl⟩ := hl.unique (lead_wide (by omega) rest)
  have hok : okN false n.toNat (wide n.toNat).length most = true := okN_true rfl (by have := wide_pos n.toNat; omega) (by omega) (by omega)
  rw [hok] at hr hs' ⊢
  refine ⟨?_, s', hr, ?_, ho⟩
  · have e : ((n.toNat : Nat) : Int) = n := by omega
    rw [if_pos rfl, e]
  · rw [hs', hs]
    simp [leftIf]

theorem bytes_same {a b : ByteArray} (h : a.data.toList = b.data.toList) : a = b := by
  apply ByteArray.ext
  exact Array.toList_inj.1 h

set_option maxRecDepth 100000 in
theorem rraw_yes (w : World) (r : Nat) (s t : ByteArray) (rest : List UInt8) (h : Rd w r s false) (hs : s.data.toList = t.data.toList ++ rest) :
    Calls Try.prog 45 #[.pointer (some ⟨r, 0, none⟩), .int .i64 (t.size : Nat)] w fun e w' => e = .returned (.string t) ∧ ∃ s', Rd w' r s' false ∧ s'.data.toList = rest ∧ Only r w w' := by
  refine (rraw_any w r s false (t.size : Nat) h).mono ?_
  rintro e w' ⟨t', s', rfl, ht, hr, hs', ho⟩
  have hl : t.data.toList.length = t.size := size_list t
  have hok : okR false s.data.toList ((t.size : Nat) : Int) = true := by
    unfold okR
    rw [hs]
    simp
    omega
  rw [hok] at ht hr hs'
  have e1 : t'.data.toList = t.data.toList := by
    rw [ht, if_pos rfl, hs, Int.toNat_natCast, ← hl]
    simp
  refine ⟨by rw [bytes_same e1], s', hr, ?_, ho⟩
  rw [hs', hs, Int.toNat_natCast, ← hl]
  simp [leftIf]

set_option maxRecDepth 100000 in
theorem rtext_yes (w : World) (r : Nat) (s t : ByteArray) (most : Int) (rest : List UInt8) (hm : most ≤ 9223372036854775807) (ht : (t.size : Int) ≤ most) (h : Rd w r s false) (hs : s.data.toList = textB t ++ rest) :
    Calls Try.prog 34 #[.pointer (some ⟨r, 0, none⟩), .int .i64 most] w fun e w' => e = .returned (.string t) ∧ ∃ s', Rd w' r s' false ∧ s'.data.toList = rest ∧ Only r w w' := by
  refine (rtext_any w r s false most hm h).mono ?_
  rintro e w' ⟨n, sz, t', s', hl, rfl, ht', hr, hs', ho⟩
  have hl2 : t.data.toList.length = t.size := size_list t
  have hs2 : s.data.toList = wide t.size ++ (t.data.toList ++ rest) := by rw [hs, textB, List.append_assoc]
  rw [hs2] at hl
  obtain ⟨rfl, rfl⟩ := hl.unique (lead_wide (by omega) (t.data.toList ++ rest))
  have hN : okN false t.size (wide t.size).length most = true := okN_true rfl (by have := wide_pos t.size; omega) (by omega) ht
  have hok : okT false s.data.toList t.size (wide t.size).length most = true := by
    unfold okT
    rw [hN, hs2]
    simp
  rw [hok] at ht' hr hs'
  have e1 : t'.data.toList = t.data.toList := by
    rw [ht', if_pos rfl, hs2, List.drop_left, ← hl2]
    simp
  refine ⟨by rw [bytes_same e1], s', hr, ?_, ho⟩
  rw [hs', hs2]
  simp [leftIf]

theorem Rd.drew {w : World} {r : Nat} {s : ByteArray} {bad : Bool} (h : Rd w r s bad) : Rd w.drew r s bad := ⟨h.at_, h.none_⟩
theorem Rd.alloc {w : World} {r : Nat} {s : ByteArray} {bad : Bool} (h : Rd w r s bad) (o : Obj) : Rd (w.alloc o) r s bad := h.carry (Below.heap_alloc _ _ _ h.lt)

end Go.Proofs.Ytabjjjbopbjbeaa.Sty
