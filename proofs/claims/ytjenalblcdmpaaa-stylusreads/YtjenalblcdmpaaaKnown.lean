/-
  A reader of bytes of which it is known with which number they begin: what each call reads, with the bytes written out.
-/
import Derived.Test.YtjenalblcdmpaaaAgain
namespace Go.Proofs.Ytjenalblcdmpaaa
open Go.RowKit

theorem rnat_ok (w : World) (r : Nat) (s : ByteArray) (bad : Bool) (most : Int) (n sz : Nat) (hm : most ≤ 9223372036854775807) (h : Rd w r s bad) (hl : Lead s.data.toList n sz) (hok : okN bad n sz most = true) :
    Calls Try.prog 13 #[.pointer (some ⟨r, 0, none⟩), .int .i64 most] w fun e w' => e = .returned (.int .i64 (n : Int)) ∧ Rd w' r (s.extract sz s.size) false ∧ Only r w w' := by
  refine (rnat_any w r s bad most hm h).mono ?_
  rintro e w' ⟨n', sz', s', hl', rfl, hr, hs', ho⟩
  obtain ⟨rfl, rfl⟩ := hl'.unique hl
  rw [hok] at hr hs' ⊢
  have e1 : s' = s.extract sz' s.size := bytes_same (by rw [hs', extract_list]; rfl)
  rw [e1] at hr
  exact ⟨rfl, hr, ho⟩

theorem rnat_no (w : World) (r : Nat) (s : ByteArray) (bad : Bool) (most : Int) (n sz : Nat) (hm : most ≤ 9223372036854775807) (h : Rd w r s bad) (hl : Lead s.data.toList n sz) (hok : okN bad n sz most = false) :
    Calls Try.prog 13 #[.pointer (some ⟨r, 0, none⟩), .int .i64 most] w fun e w' => e = .returned (.int .i64 0) ∧ Rd w' r ⟨#[]⟩ true ∧ Only r w w' := by
  refine (rnat_any w r s bad most hm h).mono ?_
  rintro e w' ⟨n', sz', s', hl', rfl, hr, hs', ho⟩
  obtain ⟨rfl, rfl⟩ := hl'.unique hl
  rw [hok] at hr hs' ⊢
  have e1 : s' = ⟨#[]⟩ := bytes_same (by rw [hs']; rfl)
  rw [e1] at hr
  exact ⟨rfl, hr, ho⟩

theorem rint_ok (w : World) (r : Nat) (s : ByteArray) (bad : Bool) (n sz : Nat) (h : Rd w r s bad) (hl : Lead s.data.toList n sz) (hok : okI bad sz = true) :
    Calls Try.prog 14 #[.pointer (some ⟨r, 0, none⟩)] w fun e w' => e = .returned (.int .i64 (unfI n)) ∧ Rd w' r (s.extract sz s.size) false ∧ Only r w w' := by
  refine (rint_any w r s bad h).mono ?_
  rintro e w' ⟨n', sz', s', hl', rfl, hr, hs', ho⟩
  obtain ⟨rfl, rfl⟩ := hl'.unique hl
  rw [hok] at hr hs'
  have e1 : s' = s.extract sz' s.size := bytes_same (by rw [hs', extract_list]; rfl)
  rw [e1] at hr
  exact ⟨rfl, hr, ho⟩

theorem rint_no (w : World) (r : Nat) (s : ByteArray) (bad : Bool) (n sz : Nat) (h : Rd w r s bad) (hl : Lead s.data.toList n sz) (hok : okI bad sz = false) :
    Calls Try.prog 14 #[.pointer (some ⟨r, 0, none⟩)] w fun e w' => e = .returned (.int .i64 0) ∧ Rd w' r ⟨#[]⟩ true ∧ Only r w w' := by
  refine (rint_any w r s bad h).mono ?_
  rintro e w' ⟨n', sz', s', hl', rfl, hr, hs', ho⟩
  obtain ⟨rfl, rfl⟩ := hl'.unique hl
  have hz : sz' = 0 := by
    by_cases hz : sz' = 0
    · exact hz
    · have hb := h.bad_none hl hz
      rw [hb] at hok
      simp [okI, hz] at hok
  have hn : n' = 0 := hl.none hz
  rw [hok] at hr hs'
  have e1 : s' = ⟨#[]⟩ := bytes_same (by rw [hs']; rfl)
  rw [e1] at hr
  rw [hn]
  exact ⟨rfl, hr, ho⟩

theorem rraw_ok (w : World) (r : Nat) (s : ByteArray) (k : Nat) (h : Rd w r s false) (hk : k ≤ s.size) :
    Calls Try.prog 15 #[.pointer (some ⟨r, 0, none⟩), .int .i64 (k : Int)] w fun e w' => e = .returned (.string (s.extract 0 k)) ∧ Rd w' r (s.extract k s.size) false ∧ Only r w w' := by
  refine (rraw_any w r s false (k : Int) h).mono ?_
  rintro e w' ⟨t, s', rfl, ht, hr, hs', ho⟩
  have hok : okR false s.data.toList (k : Int) = true := by
    unfold okR
    rw [size_list]
    simp
    omega
  rw [hok] at ht hr hs'
  have e1 : s' = s.extract k s.size := bytes_same (by rw [hs', extract_list]; rfl)
  have e2 : t = s.extract 0 k := bytes_same (by rw [ht, if_pos rfl, extract_head]; rfl)
  rw [e1] at hr
  rw [e2]
  exact ⟨rfl, hr, ho⟩

theorem rraw_no (w : World) (r : Nat) (s : ByteArray) (bad : Bool) (n : Int) (h : Rd w r s bad) (hno : bad = true ∨ n < 0 ∨ (s.size : Int) < n) :
    Calls Try.prog 15 #[.pointer (some ⟨r, 0, none⟩), .int .i64 n] w fun e w' => e = .returned (.string ⟨#[]⟩) ∧ Rd w' r ⟨#[]⟩ true ∧ Only r w w' := by
  refine (rraw_any w r s bad n h).mono ?_
  rintro e w' ⟨t, s', rfl, ht, hr, hs', ho⟩
  have hok : okR bad s.data.toList n = false := by
    unfold okR
    rw [size_list]
    rcases hno with h | h | h
    · rw [h]; rfl
    · rw [decide_eq_false (by omega : ¬ 0 ≤ n)]; simp
    · rw [decide_eq_false (by omega : ¬ n ≤ (s.size : Int))]; simp
  rw [hok] at ht hr hs'
  have e1 : s' = ⟨#[]⟩ := bytes_same (by rw [hs']; rfl)
  have e2 : t = ⟨#[]⟩ := bytes_same (by rw [ht]; rfl)
  rw [e1] at hr
  rw [e2]
  exact ⟨rfl, hr, ho⟩

theorem rtext_ok (w : World) (r : Nat) (s : ByteArray) (bad : Bool) (most : Int) (n sz : Nat) (hm : most ≤ 9223372036854775807) (h : Rd w r s bad) (hl : Lead s.data.toList n sz) (hok : okN bad n sz most = true) (hn : n + sz ≤ s.size) :
    Calls Try.prog 16 #[.pointer (some ⟨r, 0, none⟩), .int .i64 most] w fun e w' => e = .returned (.string ((s.extract sz s.size).extract 0 n)) ∧ Rd w' r ((s.extract sz s.size).extract n (s.size - sz)) false ∧ Only r w w' := by
  refine (rtext_any w r s bad most hm h).mono ?_
  rintro e w' ⟨n', sz', t, s', hl', rfl, ht, hr, hs', ho⟩
  obtain ⟨rfl, rfl⟩ := hl'.unique hl
  have hT : okT bad s.data.toList n' sz' most = true := by
    unfold okT
    rw [hok, List.length_drop, size_list]
    simp
    omega
  rw [hT] at ht hr hs'
  have hsz : (s.extract sz' s.size).size = s.size - sz' := by simp
  have e1 : s' = (s.extract sz' s.size).extract n' (s.size - sz') := bytes_same (by
    have h1 := extract_list (s.extract sz' s.size) n'
    rw [hsz] at h1
    rw [hs', h1, extract_list, List.drop_drop]
    rfl)
  have e2 : t = (s.extract sz' s.size).extract 0 n' := bytes_same (by rw [ht, if_pos rfl, extract_head, extract_list])
  rw [e1] at hr
  rw [e2]
  exact ⟨rfl, hr, ho⟩

theorem rtext_no (w : World) (r : Nat) (s : ByteArray) (bad : Bool) (most : Int) (n sz : Nat) (hm : most ≤ 9223372036854775807) (h : Rd w r s bad) (hl : Lead s.data.toList n sz) (hok : okN bad n sz most = false ∨ s.size < n + sz) :
    Calls Try.prog 16 #[.pointer (some ⟨r, 0, none⟩), .int .i64 most] w fun e w' => e = .returned (.string ⟨#[]⟩) ∧ Rd w' r ⟨#[]⟩ true ∧ Only r w w' := by
  refine (rtext_any w r s bad most hm h).mono ?_
  rintro e w' ⟨n', sz', t, s', hl', rfl, ht, hr, hs', ho⟩
  obtain ⟨rfl, rfl⟩ := hl'.unique hl
  have hsz := hl.size_le
  rw [size_list] at hsz
  have hT : okT bad s.data.toList n' sz' most = false := by
    unfold okT
    rcases hok with h | h
    · rw [h]; rfl
    · rw [List.length_drop, size_list, decide_eq_false (by omega : ¬ n' ≤ s.size - sz')]; simp
  rw [hT] at ht hr hs'
  have e1 : s' = ⟨#[]⟩ := bytes_same (by rw [hs']; rfl)
  have e2 : t = ⟨#[]⟩ := bytes_same (by rw [ht]; rfl)
  rw [e1] at hr
  rw [e2]
  exact ⟨rfl, hr, ho⟩

end Go.Proofs.Ytjenalblcdmpaaa
