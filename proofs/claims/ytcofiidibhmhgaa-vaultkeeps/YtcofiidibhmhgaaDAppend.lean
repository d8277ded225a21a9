/-
  The walks of Append and Reset.
-/
import Derived.Test.YtcofiidibhmhgaaDChange
namespace Go.Proofs.Ytcofiidibhmhgaa
open Go.RowKit

section
variable {w : World} {b : Nat} {v : Value} {dn ws : List Ch}

set_option maxHeartbeats 400000 in
set_option maxRecDepth 100000 in
theorem append_no (a : Int) (s : ByteArray) (h0 : a ≠ 0) (h1 : a ≠ 1) (p : Addr) :
    Calls Try.prog 12 #[.pointer (some p), .int .i64 a, .string s] w fun e w' => e = .returned (.int .i64 1) ∧ w' = w := by
  go_enter Try.func12, Try.ntmps12
  go_wp2_with fail
  refine (has_no _ a _ h0 h1).mono ?_
  rintro e w1 ⟨rfl, rfl⟩
  go_wp2
  go_ret
  exact ⟨rfl, rfl⟩

set_option maxHeartbeats 400000 in
set_option maxRecDepth 100000 in
theorem append_full (o : Bool) (s : ByteArray) (h : Has w b v dn ws) (hs : s.size ≤ 1099511627776) (hf : 16384 < (txt o (dn ++ ws)).size + s.size) :
    Calls Try.prog 12 #[.pointer (some ⟨b, 0, none⟩), .int .i64 (ar o), .string s] w fun e w' => e = .returned (.int .i64 6) ∧ w' = w := by
  have c0 := h.dsk.c0
  have c1 := h.dsk.c1
  have k0 := h.fits.all o
  go_enter Try.func12, Try.ntmps12
  go_wp2_with fail
  refine (has_yes _ o _).mono ?_
  rintro e w1 ⟨rfl, rfl⟩
  cases o <;>
  · unfold ar
    go_wp2
    go_ret
    exact ⟨rfl, rfl⟩

theorem on_le (o : Bool) (s : ByteArray) (l : List Ch) (h : Fits l) (hf : (txt o l).size + s.size ≤ 16384) : ∀ a, ((⟨o, false, s⟩ : Ch).on a (txt a l)).size ≤ 16384 := fun a => by
  by_cases e : o = a
  · subst e
    simpa [Ch.on] using hf
  · have h1 := h.all a
    simpa [Ch.on, e] using h1

theorem on_reset_le (o : Bool) (l : List Ch) (h : Fits l) : ∀ a, ((⟨o, true, ⟨#[]⟩⟩ : Ch).on a (txt a l)).size ≤ 16384 := fun a => by
  by_cases e : o = a
  · subst e
    simp only [Ch.on, ↓reduceIte]
    exact Nat.zero_le _
  · have h1 := h.all a
    simpa [Ch.on, e] using h1

set_option maxHeartbeats 400000 in
set_option maxRecDepth 100000 in
theorem append_yes (o : Bool) (s : ByteArray) (h : Has w b v dn ws) (hf : (txt o (dn ++ ws)).size + s.size ≤ 16384) (hl : ws.length ≤ 1000000) :
    Calls Try.prog 12 #[.pointer (some ⟨b, 0, none⟩), .int .i64 (ar o), .string s] w fun e w' => e = .returned (.int .i64 0) ∧
      ∃ v', Has w' b v' dn (ws ++ [⟨o, false, s⟩]) ∧ Wrote b v w v' w' := by
  have c0 := h.dsk.c0
  have c1 := h.dsk.c1
  have k0 := h.fits.all o
  have hc := change_any ⟨o, false, s⟩ h (on_le o s _ h.fits hf) (by show s.size ≤ _; omega) hl
  have HC := Hid.mk hc
  clear hc
  go_enter Try.func12, Try.ntmps12
  go_wp2_with fail
  refine (has_yes _ o _).mono ?_
  rintro e w1 ⟨rfl, rfl⟩
  cases o <;>
  · unfold ar
    go_wp2_with fail
    refine HC.out.mono ?_
    rintro e w2 ⟨rfl, R⟩
    have HR := Hid.mk R
    clear R
    go_wp2
    go_ret
    exact ⟨rfl, HR.out⟩

set_option maxHeartbeats 400000 in
set_option maxRecDepth 100000 in
theorem reset_no (a : Int) (h0 : a ≠ 0) (h1 : a ≠ 1) (p : Addr) :
    Calls Try.prog 24 #[.pointer (some p), .int .i64 a] w fun e w' => e = .returned (.int .i64 1) ∧ w' = w := by
  go_enter Try.func24, Try.ntmps24
  go_wp2_with fail
  refine (has_no _ a _ h0 h1).mono ?_
  rintro e w1 ⟨rfl, rfl⟩
  go_wp2
  go_ret
  exact ⟨rfl, rfl⟩

set_option maxHeartbeats 400000 in
set_option maxRecDepth 100000 in
theorem reset_yes (o : Bool) (h : Has w b v dn ws) (hl : ws.length ≤ 1000000) :
    Calls Try.prog 24 #[.pointer (some ⟨b, 0, none⟩), .int .i64 (ar o)] w fun e w' => e = .returned (.int .i64 0) ∧
      ∃ v', Has w' b v' dn (ws ++ [⟨o, true, ⟨#[]⟩⟩]) ∧ Wrote b v w v' w' := by
  have hc := change_any ⟨o, true, ⟨#[]⟩⟩ h (on_reset_le o _ h.fits) (Nat.zero_le _) hl
  have HC := Hid.mk hc
  clear hc
  go_enter Try.func24, Try.ntmps24
  go_wp2_with fail
  refine (has_yes _ o _).mono ?_
  rintro e w1 ⟨rfl, rfl⟩
  cases o <;>
  · unfold ar
    go_wp2_with fail
    refine HC.out.mono ?_
    rintro e w2 ⟨rfl, R⟩
    have HR := Hid.mk R
    clear R
    go_wp2
    go_ret
    exact ⟨rfl, HR.out⟩

end

end Go.Proofs.Ytcofiidibhmhgaa
